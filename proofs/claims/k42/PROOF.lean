import PyProof.Rows.All
import Wide.All
import OpenK.AllK
import Wide.FinOn
import Lean
import PyProof.EqAt
import PyProof.EqKinds
import PyProof.TupleCall
import PySem.Challenge.RW_spanrow_k42_rows_refused
set_option Elab.async false
set_option linter.all false
set_option bootstrap.genMatcherCode false
set_option genSizeOf false
set_option compiler.extract_closed false
set_option compiler.reuse false
set_option maxRecDepth 100000
section
def zN(t:Bool)(k:Lean.Name)(a:Array Lean.Syntax):(Lean.Syntax):=.node .none ((if t then `Lean.Parser.Tactic else `Lean.Parser.Term)++k) a
def zU(a:Array Lean.Syntax):(Lean.Syntax):=.node .none `null a
def zC:(Nat→Lean.Syntax→Lean.Syntax)
|0,s=>s
|n+1,s=>zN true `rcasesPatMed #[zU #[if s.isIdent then zN true `rcasesPat.one #[s] else if s[1].isMissing then zN true `rcasesPat.ignore #[s[0]] else zN true `rcasesPat.tuple #[s[0],zU ((if s.isOfKind `Lean.Parser.Term.tuple then #[s[1][0],s[1][1]]++s[1][2].getArgs else s[1].getArgs).map λx=>if x.isAtom then x else zN true `rcasesPatLo #[zC n x,zU #[]]),s[2]]]]
def zL(s:Lean.Syntax):(Lean.MacroM Lean.Syntax):=
 let d:=s[2][0]
 let p:=if d[0].isOfKind `Lean.Parser.Term.letId then d[0][0] else d[0]
 if d[1].getNumArgs != 0 then Lean.Macro.throwUnsupported else if p.isIdent&&p.getId != `rfl then pure (zN true `tacticHave__ #[s[0],s[1],s[2]]) else pure (zN true `obtain #[s[0],zU #[zC 9 p],zU d[2][0].getArgs,zU #[d[3],zU #[d[4]]]])
local macro_rules(kind:=Lean.Parser.Tactic.tacticLet__)|s=>zL s
local macro_rules(kind:=Lean.Parser.Tactic.show)|s=>pure (zN true `refine #[s[0],s[1]])
local macro_rules(kind:=Lean.Parser.Tactic.«tacticExists_,,»)|s=>pure (zN true `refine #[s[0],zN false `anonymousCtor #[s[0],s[1],s[0]]])
local macro_rules(kind:=Lean.Parser.Tactic.cases)|s=>if s[3].getNumArgs==0&&s[1][0][0].getNumArgs==2 then pure (.node .none `«tacticBy_cases_:_» #[s[0],zU #[s[1][0][0][0][0],s[1][0][0][1]],s[1][0][1]]) else Lean.Macro.throwUnsupported
local macro_rules(kind:=«term~~~_»)|s=>pure (zN false `proj #[s[1],s[0],Lean.mkIdent `heap.objs.size])
local macro_rules(kind:=coeNotation)|s=>pure (zN false `app #[zN false `dotIdent #[s[0],Lean.mkIdent `ref],zU #[s[1]]])
local macro_rules
|`($x⁻¹)=>`((($x).length:Int))
def zG:List (String×String):=[("f","length"),("j","toNat"),("l","toList"),("m","trans"),("t","size"),("C","toArray"),("D","heap"),("E","Pairwise"),("G","get?"),("H","mp"),("L","env"),("M","take"),("Q","extract"),("R","map"),("S","getD"),("U","lookup"),("X","mpr"),("Y","same")]
def zF(s:String):(Option String):=zG.lookup s
def zJ:Lean.Name→Lean.Name
|.str p s=>.str (zJ p) ((zF s).getD s)
|n=>n
def zI:Lean.Name→Lean.Name
|.str p s=>if p.isAnonymous then .str p s else .str (zI p) ((zF s).getD s)
|n=>n
def zR:Nat→Lean.Syntax→Option Lean.Syntax
|_,.ident i r n p=>if n.hasMacroScopes then none else let m:=zI n;if m==n then none else some (.ident i r m p)
|e+1,.node i k a=>if k== `Lean.Parser.Term.app then (zR e a[0]!).map λx=>.node i k (a.set! 0 x) else if k== `Lean.Parser.Term.proj then let f:Option Lean.Syntax:=if a[2]!.isIdent then let n:=a[2]!.getId;let m:=zJ n;if m==n then none else some (Lean.mkIdent m) else none
 match zR e a[0]!,f with
 |none,none=>none
 |x,f=>some (.node i k #[x.getD a[0]!,a[1]!,f.getD a[2]!])
 else none
|_,_=>none
def zS(s:Lean.Syntax):Lean.MacroM Lean.Syntax:=(zR 20 s).elim Lean.Macro.throwUnsupported pure
local macro_rules(kind:=ident)|s=>zS s
local macro_rules(kind:=Lean.Parser.Term.proj)|s=>zS s
local macro_rules(kind:=Lean.Parser.Term.app)|s=>zS s
local macro_rules(kind:=«term{_}»)|s=>pure (zN false `anonymousCtor #[s[0],s[1],s[2]])
def zE(s:Lean.Syntax)(x:List Char):Lean.Syntax:=s.setArg 1 (s[1].setArg 1 (s[1][1].setArg 0 (Lean.mkIdent (.mkSimple ("tw"++(x.foldl (λn c=>n*57+c.toNat-if c<'a' then 48 else 54) 0).repr)))))
def zK(s:Lean.Syntax):Nat→List Char→Array Lean.Syntax→Array Lean.Syntax
|0,_,a=>a
|n+1,l,a=>zK s n (l.drop 11) (if l.isEmpty then a else a.push (zE s (l.take 11)))
def zH(s:Lean.Syntax)(k:Lean.Name):Bool:=s.isOfKind (`Lean.Parser.Command++k)
def zB(s:Lean.Syntax):Option Lean.Syntax:=
 let d:=s[1]
 if s.getPos?.isNone||zH d `theorem then none else
 let t:=d[2][1][0][1]
 let q:=zH d `definition
 let s:=if q&&!(t.isMissing||t.isOfKind `Lean.Parser.Term.paren) then s.setArg 1 (.node .none `Lean.Parser.Command.theorem #[d[0],d[1],.node .none `Lean.Parser.Command.declSig #[d[2][0],d[2][1][0]],d[3]]) else if q||zH d `abbrev||zH d `instance then s.setArg 0 (s[0].setArg 4 (zU #[.node .none `Lean.Parser.Command.noncomputable #[s[0]]])) else s
 let s:=s.rewriteBottomUp (·.setInfo .none)
 some (if d[1][0].getId==`twz then zU (zK s 999 (d[3][1].isStrLit?.getD "").toList #[]) else s)
def zD(s:Lean.Syntax):Lean.MacroM Lean.Syntax:=(zB s).elim Lean.Macro.throwUnsupported pure
local macro_rules(kind:=Lean.Parser.Command.declaration)|s=>zD s
namespace PySem.W.Fast
def twz:="BZMnUHF3d?KRLUJhEMSXPY<:C;>PkXLJiS69Y>K;mbbcGBi;kFUN>i:>kQ2=b0YVY<H@9:T>Jj19jFN?3WN@cHZLb5XV56W7ISj<mblE53Z7UeHXdlPf82aH@<b@<Q4TTA?R2aKPRj6kQ9:hbmD0eV:1neNX<bZ=jJVXjdE9bmnR@YTh5WW@9LK0ckTeIE5XO@4CL7=ekPeBV483<N>Y;S=jM0RX@lQL@>l61?I=mQ4DmI5:?iRI>HMPh1NhR7GHDj2BMJJk5CEHKn58UUke4RDCeP:ZBl5J<HeYLnNefAl<2k1I>VBUIB9RePfSgh>J4dnPZ?i?<BB:g=eW6XAFPW4UV;BGPVclLk=@D9U9Hj:H7d2UYL?A>YD8;91LELM=?@UMB6;LKZd1;MfPh4nV>Jc@R;EP8;6RcRC81YmhWda85gZi68ca@<Jd:CNZ:Bb2PDJW7:Ck4MOhe<S21K:6nc;fNZ?:KbeXYU>dBkPX>R@@e0NQhKFg1b<@DY68eHLH23hi6:0DL6:UJgJFPO:c<?>bjJO6Y?<19PKX>Y;XilYKlhBEnC5I:YYKd1JDXDGLn5:gAPPWL:VFJRQgckDF>L0>4LI0ETj:TjkaGPa5HGKDn2l2?0U5K4NNQUEADVTG8@;6fNMBE4bfKJEFK@GO8iJOaODn2>?PTa;Nj?O5NH;;iA=n?Tiang;j07SRFdaa<k@DZJBHmG7N?MLkWA2:0E3AFZ1h2C3Y<U4H4LQ@72SieJ?iZ7MgU41D79VD9cN5nfEdKKLT@KU5??Xl634W5VjkB?E@IbHg@M5S?9CJWIIAY8J6c98m=V>d3@E6IAbRKj4IgB3=JVMbZgASH2DGgiDfmMKjBN;6DLj4c5e:jfPhfCKDfdmOgmfJjMSLi3c5fJBZ=Q6f0i0iXCZ3f4aSniL:=036P<F57?Q2CEB7KeKOeaU=3QV2;em6m=0C2Q@eFiNei<KHYERTC15jbLbbaDc05d8VHO9MkWTROIfMh5<CBdj1diI9cKDgW;dTa?CE;Lb3VjmZal8@j5B:=5DW6TlckJd?j2l90<THj084WmD7FNNmgi4Wh5SkM679@VkQ@M=1k;i>WBUKAaa78R<l>LQ7i1L;PcaCM>ak8Q8ZGmC6j6VU@ZYCHbYjHTKIMLNmT0SV7:6Th29@KndM>2<?iNC:kP9KB7CmhdE:JU9L1>Eh57ATIUFcWcGX80W:g@?an64j9b;J8c;@OlGL1Mb8PDOmcNXI@jP0RP7eN3dCj65R6>YNU0iWXJOLF;PfHXCWCGIf2f>Ke3<YPlBNiXV8J8H77@Jciabn4UEZ>gFe4:aUcFnISn0cPnAYDDJ;VkVeGA5SYmaAah=KQRI162P?b>JECnj<:>f@f5<VfP3nR5JYWePDenGLYcC85aFjJ0N<SfJ62>8M35?IGbk2bAIllGZ?aOV9=Oc204nS3j5WY:hO3=6J@Em3M89Xg34XlMF<EBf7Ch<WgP1KLU7XnTcR:FOd?P4j>9YBl7:MM5jT5c@8MWI@Rl?2k;e;5VPH7g>Tie2JhAV22miZa5XRIQe8>bkDMl;@:cDQ<YA7id:PXg0UZjK3Nc;O0<IOZQjZlGi06OThjNEFRTNIP9dUVTL<h@JY9=hEX<>9en?OUmZZDnk7d<U2MDIEefnXEJlbmba>HemIKXh:dKG0lSX5F7VW>UKSLbf>aaSDA8Og6g3?d5=3dKYH8=bYZNE13@QJ@WAg2IcFf;9>0Ga4HFJ@jMKLg@YYnkSDVYjf7l4DCIMhieP>LDfalEOBW1b2FDnGRfOa6:P<5miEMBV4LAfLmbUZdSGZecW@CNdj>OC:TX3b4?B0>FXWmH8P211hFUa2kaO;GmN2;;;T9W1mIQEQCV;9i2kfA05=bmDB3bhSa8PBKeHFlgcUdenKXFe80C0cEekM<E7?>6:UOcFhgnXHA8TQ;5iGDb8;>1F>RUHc=4T0PA@QASn=;e0Ojh17fg0I=BZZlX:0<2Zfj6d=@FNG9e;g9LLjQSP1d9PS;@iP@f0RfRlV>FnEJT?SSLVXN68DFRPm8FnY=c5Um3;=KdPDgKPTOK3QEcRe4h>CIV5cGJ6:U6<fmP45ES32G7k1<YSjBFFmIEN6=jcOF03R62dNYXGH1E@4:mA5EGi;h?GcXe356QOTBk>YE:KigDGZCk@YY6SC3SBnmhRkadXf4dKP<1i4>W:ZcBcg1KdKZBIF61WmXc62OCKEWJ8h6dRj6Z7N0@8:Ke8jaD<X19gGG>8<APGbkb7hF7E4P8W>N;;3>M>iMLXkGg@MTXcX?QVXV<LUlYHR8CIYD@0>TKaNI2iEW;cf=@RB7mg@e9iIQX3alM7QkZ:Ig:W92deO;fZ9BPEi@QANT@AZe5RYIXKm18Bl:V2:QQ1>7iJ@kESmn2U4H7adMSWjWYXMW6Y0D=VEjXfWjc08WCm7P5Gh49AfcWhQC@4A:6fXU>MDf>P:eGaGg>jFEH6;P5>0i?NZd26QSjgj3PTFXS87176aWSZ3gWn56UC=j3iQ2C4nkRUObcYPK@d6CUg2J0AIhM?=M4NJ3JHU4edCi<>fd4O;RAR==IS9R:cNF8;E:ZH>Zh4SVEQ>AfkSe5Vb1bGcEk4LFjFUgQRL4IU7MmCUkGVBakefXgaW<cCE5IPFQFWR?MD7TDFf0O23eg7V6a>AgFYLUm0nHB1m5h16Nf0Y7nm2Y==Q>V3FL8=bVbIAm29la>Hb2lmEKY>PeRg<0Z1Q:5CMPQShKLMCJHRZQnPEVXflBB;?7ghU8iWk<giJjIEQK2bP7WN?S3XZ1>28M=Ln<bFO;GY88:04INI<2hmhImXn?>OA8;Um==mdJ1Ee?LYaL?SCGYTi44:kIYHI7CJmdSkX0ROdZIHfBZa7LVcg09KSdC=0:bK@9hV=1IM<:hP9l1a9iZ02272djI=hk4dYO<ONmR4Z>1BTdZDW5K@TM;FcDag7bHnW7;VF=iJASTB:YKPPacAfBUO7a6GU4H6O1DWiUU8B7PZH6kJdS;R79eGK8H<jfBDAhZ0h0b;82fFDORanL>?g5GiMa1OI3mW8VTYFnhENOiXCcRJk<dZnA9dA;gN1g>MBWU?bH>:1>6LOQ0SlP4cZ==07i5hia:8>hTVlK?XQbe?mCTI5X?RBYSaig5=hXMM<Sm<8e1bIaEj:kVAl@lKah>3n0eX:nOaMADQ?dJEFnhh=:P0WU3SCJLMgJ2NSAdbK3ifmG?<@gbdaQOB85H7G8M1l2;0dBFT?Ybg=YPg=1BH9:85?ClE7FL5MUQPIb<6fcGX53Fg<J4V<04PLn<DOXHB4RhI><ICT8HgjDBn=4@S;c:LB<aKD2NeUD13ZZGgnZG0<?CM8B53<1A<JSE0<XZIhngNndBdPO=X63?AjmPW0XJC5fJiLJQS2nYGC9MGbh2Cl;PFOV?FBhd6aZjFRB;BgZXj5BHkOed?:hlkiMEODdZOR;:886ANem:9@eiLIHJ4QZn=kdZH2>9NS=7bCAJcMXbFVj;hT6jM0e6IYXY2L;T845lF6CGeP;ZYVRNDXfELD6MOOLe500R1lBFPJ;mnhlBPDCZan<LS1CXM7OQ7<06gcdmhkKD<IWODhTf;e79N2nE87cPM<XD46AXTX?5eA@k9OPlVbA:WQT8n6i3OKjdP;<O1=NF4dB>5Tiaj"
end PySem.W.Fast
def Z{α:Sort _}{a:α}:a=a:=rfl
abbrev Aa:=List (Int×Int)
abbrev Ab:=List (List Int)
abbrev Ac:=List Int
abbrev Ad:=PySem.W.Frag
abbrev Ae:=PySem.Value->PySem.Shared->Prop
abbrev Af:=PySem.Str->Option PySem.Value
abbrev Ag:=List PySem.Value
def J{p:Prop}(h:p:=by lia):p:=h
def sC{p:Prop}(h:p:=by decide +kernel):p:=h
def su{p:Prop}(h:p:=by decide):p:=h
def B{p:Prop}(h:p:=by simp):p:=h
def sr{p:Prop}(h:p:=by omega):p:=h
def sD{p:Prop}(h:p:=by grind):p:=h
def sE{p:Prop}(h:p:=by rfl):p:=h
def sF{p:Prop}(h:p:=by kernel_rfl):p:=h
def XA:=@List.getElem?_eq_some_iff
def Xp:=@List.getElem?_eq_getElem
def XD:=@List.mem_singleton
def XU:=@PySem.wpAny_bind
def Xy:=@List.length_append
def Xf:=@PySem.Heap.get?_push_of_some
def XB:=@List.mem_append
def XI:=@Nat.le_refl
def Xk:=@List.size_toArray
def WT:=@List.mem_of_getElem?
def Ya:=@List.getD_eq_getElem?_getD
def Yb:=@List.length_map
def Yc:=@List.mem_append_left
def Yd:=@List.mem_append_right
def Ye:=@List.mem_cons_self
def Yf:=@List.mem_cons
def Yg:=@List.mem_cons_of_mem
def Yh:=@PySem.wpAny_pure
def Yi:=@Nat.zero_le
def Yj:=@Nat.le_trans
def Yk:=@Option.some.inj
def Yl:=@List.length_take
def Ym:=@PySem.Heap.lt_size
def Yn:=@List.mem_filter
def Yo:=@List.getElem?_append_right
def Yp:=@PySem.Heap.get?_push_size
def Yq:=@Nat.lt_of_lt_of_le
def Yr:=@List.getElem?_append_left
def Ys:=@Array.length_toList
def Yt:=@List.length_singleton
def Yu:=@List.append_assoc
def Yv:=@List.getElem?_of_mem
def Yw:=@List.getElem?_map
def Yx:=@decide_eq_true
def Yy:=@Array.getD_eq_getD_getElem?
def Yz:=@PyProof.Rows.wpS_bind
def YA:=@Nat.ne_of_lt
def YB:=@List.append_nil
def YC:=@Bool.false_ne_true
def YD:=@Classical.byContradiction
def YE:=@List.length_filter_le
def YF:=@List.length_cons
def YG:=@of_decide_eq_true
def YH:=@Array.getElem?_toList
def YI:=@List.pairwise_append
def YJ:=@List.take_of_length_le
def YK:=@List.drop_eq_nil_of_le
def YL:=@Int.toNat_natCast
def YM:=@PyProof.Rows.wpS_pure
def YN:=@List.mem_map
def YO:=@Array.getElem?_eq_getElem
def QP:=@congrArg
def YQ:=@List.map_append
def YR:=@List.take_length
def YS:=@List.length_drop
def YT:=@List.length_replicate
def YU:=@PySem.Heap.get?_update_other
def YV:=@List.mem_range
def YW:=@List.length_eq_zero_iff
def YX:=@decide_eq_true_iff
def YY:=@PySem.F.plainAttrs_list
def YZ:=@List.filter_cons
def Wb:=@List.pairwise_cons
def VD:=@List.getElem?_eq_none
def WD:=@List.take_succ
def Uv:=@Array.perm_iff_toList_perm
def VS:=@List.nodup_append
def VC:=@List.map_congr_left
def VB:=@List.length_reverse
def Wa:=@List.mem_reverse
def Vq:=@List.mem_of_mem_take
def Wi:=@PyProof.Rows.KeyOrd.kle_trans
def RQ:=@Array.toList_push
def Xb:=@Ne.symm
def SW:=@Nat.not_lt_zero
def SV:=@PySem.PassesOwn.never
def QM:=@List.filter_append
def Se:=@decide_eq_false
def PD:=@Array.toList_append
def OZ:=@PySem.Heap.get?_update_self
def TM:=@List.map_cons
def Pz:=@Bool.false_eq_true
def MZ:=@List.Perm.append_left
def RP:=@PySem.codeAny_builtin
def Kj:=@List.pairwise_iff_getElem
def Ki:=@List.drop_eq_getElem_cons
def OY:=@List.getElem?_take
def IP:=@PyProof.Rows.callWith_type1
def To:=@getElem?_pos
def Tn:=@Nat.zero_add
def Mo:=@List.take_append_drop
def OX:=@PySem.wpAny_Call_Name_kw
def Uu:=@PySem.sizeLine_eq
def Ue:=@Nat.le_succ
def Py:=@PyProof.Rows.KeyOrd.kle_of_klt
def Sd:=@PySem.wpAny_holding
def Mn:=@List.mem_of_mem_drop
def MY:=@Int.emod_lt_of_pos
def Fz:=@List.take_append_of_le_length
def MX:=@PySem.Obj.data_mapFields
def OW:=@List.all_eq_true
def MW:=@List.length_range
def MV:=@List.ext_getElem?
def Ro:=@Int.mul_assoc
def SU:=@PyProof.Rows.wpS_forRange
def IM:=@List.pairwise_singleton
def OV:=@List.nodup_cons
def OU:=@List.nil_append
def OT:=@Int.emod_nonneg
def OS:=@Bool.eq_iff_iff
def Ud:=@PySem.wpAny_mono
def MU:=@Nat.lt_succ_self
def QL:=@Nat.lt_irrefl
def Px:=@PyProof.Rows.KeyOrd.kle_refl
def Fy:=@List.extract_eq_take_drop
def Mm:=@List.take_sublist
def Ml:=@List.getElem?_set
def Mj:=@List.flatten_cons
def Rn:=@Int.mul_zero
def El:=@List.drop_append_of_le_length
def MT:=@List.length_set
def Kh:=@PySem.Heap.SameBut.update
def Mi:=@PySem.wpAny_truthy_bool
def Mh:=@PySem.wpAny_newObj_type
def SS:=@List.getElem?_drop
def VL:=@Int.one_mul
def Vp:=@Nat.ne_of_gt
def Vo:=@Int.add_zero
def SR:=@List.pairwise_map
def TK:=@PySem.wpAny_call_entry
def RO:=@PySem.mem_of_lookup
def RN:=@List.replicate_succ
def TJ:=@PySem.F.plain_min_loop
def RM:=@PySem.Around.under_plainId
def Ek:=@List.perm_ext_iff_of_nodup
def Fx:=@List.getElem?_zipWith
def RL:=@beq_iff_eq
def Kg:=@List.lookup_cons
def Kf:=@Bool.and_eq_true
def MS:=@PySem.W.mg_of
def Ej:=@PySem.F.type_list_append
def Ei:=@PySem.F.slot_list_append
def OR:=@Int.mul_comm
def Fw:=@Array.toList_extract
def Fv:=@PySem.builtinLookup_eq_fast
def IK:=@decide_eq_true_eq
def IJ:=@Nat.lt_succ_of_lt
def Mg:=@PySem.Heap.size_push
def MR:=@Nat.sub_self
def MQ:=@Nat.le_of_lt
def Eh:=@List.pairwise_lt_range
def II:=@List.getElem_mem
def Eg:=@List.Perm.append_right
def MP:=@PyProof.Rows.listUpdate_at
def Ef:=@List.perm_append_comm
def Mf:=@PySem.wpAny_newList
def Me:=@PySem.plainId_quiet
def IG:=@Nat.min_eq_left
def Fu:=@List.reverse_perm
def Md:=@Nat.succ.inj
def Ee:=@Nat.pow_le_pow_right
def Mc:=@List.map_map
def xT:=@List.getElem?_eq_none_iff
def Pw:=@PySem.wpAny_rule
def IF:=@PySem.wpAny_passesOwn
def Ec:=@beq_eq_false_iff_ne
def IE:=@Nat.mul_le_mul
def Eb:=@List.map_eq_nil_iff
def Ea:=@List.length_zipWith
def DZ:=@List.filterMap_cons
def xS:=@List.eq_of_mem_replicate
def ID:=@List.drop_zero
def Ft:=@PySem.wpAny_setState_of
def Mb:=@PySem.codeAny_mono
def xR:=@List.getElem?_replicate
def Ma:=@Int.mul_one
def Fs:=@List.length_nil
def DY:=@PySem.wpAny_setEntries_of
def IC:=@PySem.wpAny_seqItems
def Fq:=@PySem.wpAny_askSetting
def IB:=@List.any_cons
def xQ:=@Array.getElem?_eq_none
def Rm:=@if_false
def DX:=@List.reverse_cons
def DW:=@List.filter_congr
def DV:=@List.drop_sublist
def OQ:=@Bool.not_eq_true'
def LZ:=@PySem.wpAny_callSpecial?_slot
def LY:=@List.pairwise_reverse
def LX:=@List.getElem?_reverse
def LW:=@List.Pairwise.sublist
def TH:=@PySem.wpAny_of_eq
def SQ:=@PySem.F.called_set
def OP:=@PySem.Code.quiet_builtin
def QK:=@PySem.typeLookup_type
def SO:=@Int.le_refl
def DU:=@List.cons_append
def IA:=@Int.pow_zero
def Iz:=@Int.le_of_lt
def OO:=@PyProof.Rows.wpS_modify
def xP:=@PySem.Obj.isFreed_of_fields
def xO:=@List.flatten_append
def Fp:=@PySem.wpAny_setField
def DT:=@Option.map_some
def DS:=@List.range_succ
def t8:=@List.length_eraseIdx_of_lt
def DR:=@List.foldl_cons
def DQ:=@Array.Perm.refl
def RJ:=@PyProof.Rows.wpS_mono
def xN:=@PySem.codeAny_call_builtin
def LV:=@PySem.call_meets
def xM:=@Nat.lt_of_le_of_lt
def xK:=@List.mem_filterMap
def Iy:=@Int.mul_add
def t7:=@PySem.F.args_tuple_add_2
def t6:=@Option.isSome_iff_exists
def t5:=@List.length_erase_of_mem
def DP:=@List.drop_drop
def tZ:=@List.Pairwise.imp_of_mem
def Fo:=@Int.zero_add
def Fn:=@Int.le_trans
def Fm:=@PySem.wpAny_attempt
def xJ:=@List.foldl_append
def xH:=@Int.mul_left_comm
def DO:=@PySem.wpAny_execs_nil
def tY:=@PySem.F.entry_tuple_add
def tX:=@Nat.add_sub_cancel_left
def tW:=@PySem.Calls.Name_function_global
def xG:=@decide_eq_decide
def xF:=@beq_self_eq_true
def tV:=@PySem.F.slot_tuple_add
def xE:=@Nat.le_of_not_lt
def DN:=@List.take_nil
def DM:=@List.sum_cons
def tU:=@List.length_pos_of_mem
def tT:=@List.getElem?_set_self
def tS:=@List.getElem?_eraseIdx
def xD:=@List.flatten_nil
def tR:=@List.drop_of_length_le
def xC:=@List.drop_append
def xB:=@List.any_eq_true
def tQ:=@PySem.Calls.call_function_entry
def DL:=@PySem.wpAny_tryCatch
def xA:=@List.find?_cons
def tP:=@PySem.W.hideAll_none
def tO:=@List.mem_of_getLast?
def tN:=@List.mem_erase_of_ne
def tL:=@List.length_eraseIdx
def Iw:=@List.getElem?_set_ne
def ON:=@Int.zero_mul
def OM:=@Int.pow_succ
def Iv:=@Array.toList_reverse
def OL:=@PyProof.Rows.get?_update_seq
def LU:=@PySem.wpAny_isInstance
def Iu:=@Nat.mul_le_mul_left
def Ir:=@List.getElem?_range
def Iq:=@List.filter_sublist
def Ip:=@List.filter_eq_self
def xw:=@PySem.F.entry_min_loop
def Fl:=@PySem.wpAny_letGo
def tK:=@PySem.W.callWith_K
def tJ:=@Nat.add_sub_cancel
def tI:=@Bool.not_eq_false'
def xu:=@PySem.wpAny_updateSeq
def DK:=@PySem.wpAny_typeOf
def tH:=@bne_self_eq_false
def eZ:=@PyProof.Rows.callWith_builtin1
def tG:=@List.getElem?_inj
def eW:=@List.eq_nil_iff_forall_not_mem
def tE:=@PyProof.Rows.F.plain_set_update_loop
def xt:=@PySem.wpAny_runValue
def xr:=@PySem.wpAny_fieldsOf
def Fj:=@PySem.wpAny_call
def xq:=@PySem.isSubtype_type
def LS:=@if_true
def eV:=@PySem.F.slot_dict_setdefault
def xp:=@Nat.sub_zero
def xo:=@Nat.mul_comm
def tD:=@Nat.min_eq_right
def xn:=@Nat.lt_trans
def xm:=@Nat.le_of_eq
def tw:=@List.not_mem_nil
def eT:=@List.dropLast_concat_getLast
def xk:=@Int.sub_zero
def DJ:=@Int.not_lt
def tu:=@Int.min_eq_right
def tq:=@Int.max_eq_right
def QJ:=@PyProof.Rows.wpS_get
def tm:=@beq_false_of_ne
def tj:=@PySem.SeqAt.EqAt.of_refs
def eS:=@PySem.F.excBase_ValueError
def tf:=@Nat.le_antisymm
def sZ:=@List.of_mem_zip
def sW:=@List.filter_nil
def sV:=@Int.min_eq_left
def sU:=@Int.max_eq_left
def sT:=@PySem.Calls.spliced_cons
def sS:=@Bool.or_eq_true
def eR:=@Array.toList_setIfInBounds
def eQ:=@Array.getElem?_eq_some_iff
def eO:=@PySem.F.plain_extend_loop
def eN:=@List.mem_or_eq_of_mem_set
def eM:=@List.getElem?_zip_eq_some
def xj:=@Int.neg_mul
def eK:=@Int.eq_of_mul_eq_mul_left
def xi:=@Int.add_mul
def sR:=@PySem.wpAny_pyIter_list
def xh:=@PyProof.Rows.entry_list_sort
def eJ:=@PySem.F.type_list_extend
def eE:=@PySem.F.slot_list_insert
def DI:=@PySem.F.slot_list_extend
def DH:=@PySem.F.slot_dict_values
def Io:=@PySem.Obj.cls_mapFields
def Im:=@List.take_zero
def Il:=@List.take_take
def DG:=@List.mem_of_mem_eraseIdx
def Ik:=@List.drop_take
def DF:=@List.append_cancel_right
def Ij:=@List.Perm.refl
def Ii:=@Int.natAbs_mul
def sQ:=@PySem.Calls.spliced_nil
def DE:=@PyProof.Rows.listItems_at
def sP:=@PyProof.Rows.entry_proto_collect'
def eD:=@PySem.F.type_list_index
def eA:=@PySem.F.slot_list_index
def eh:=@PySem.F.plainAttrs_dict
def d9:=@PySem.F.attr_ValueError
def d8:=@List.pairwise_mergeSort
def d7:=@Int.eq_ofNat_of_zero_le
def DD:=@PySem.wpAny_load
def sO:=@PySem.noFill_tuple_add
def xg:=@PySem.concat_meets
def dZ:=@PySem.W.funFrames_hide
def dY:=@PySem.W.cellsFrom_some
def dX:=@Option.map_eq_some_iff
def sN:=@PySem.Heap.size_update
def xf:=@PyProof.Rows.slot_list_sort
def sM:=@PyProof.Rows.getElem?_mirror_all
def dW:=@PySem.F.type_list_pop
def dU:=@PySem.F.slot_list_pop
def dS:=@List.set_append_right
def dR:=@List.getElem?_toArray
def dQ:=@Classical.choose_spec
def dP:=@Bool.beq_eq_decide_eq
/-! THE HAND dO,for ints,bools,texts,own classes,dN and tuples (index,sL,in,append,pop ..),calls,loops. dM it whole ahead of sJ own text;what sJ proof does not reach may be deleted. -/
namespace L2
open PySem PySem.Spec PyProof.Rows
abbrev Key:=Sum Int Str
def QI:(Key->Value->Bool)
 | .inl k,v=>Value.isInt k v
 | .inr x,v=>Value.isStrOf x v
def Zaa(w:World):(Key->Int)
 | .inl k=>hashInt k
 | .inr x=>hashStr w x
def ZF:∀{k:Key}{v:Value},QI k v=true->(∃i t,k=Sum.inl i/\v=Value.int i t)\/(∃x t,k=Sum.inr x/\v=Value.str x t)
 | .inl i,v,h=>by let(t,e):=Value.isInt_shape (k:=i) (v:=v) h;show .inl ⟨i,t,Z,e⟩
 | .inr x,v,h=>by let(t,e):=Value.isStrOf_shape (x:=x) (v:=v) h;show .inr ⟨x,t,Z,e⟩
def ZK8(i:Int)(t:Tok):QI (.inl i) (.int i t)=true:=by simp[QI,Value.isInt]
def ZJ8(x:Str)(t:Tok):QI (.inr x) (.str x t)=true:=by simp[QI,Value.isStrOf]
def Zab(a b:Int):decide ((Sum.inl a:Key)=Sum.inl b)=(a == b):=by
 cases e:a=b
 .subst e;simp
 .let h:¬(Sum.inl a:Key)=Sum.inl b:=λq=>e (Sum.inl.inj q);rw[Se h];show(Ec.X e).symm
def Zac(a b:Str):decide ((Sum.inr a:Key)=Sum.inr b)=decide (a=b):=by
 cases e:a=b
 .subst e;simp
 .let h:¬(Sum.inr a:Key)=Sum.inr b:=λq=>e (Sum.inr.inj q);rw[Se h,Se e]
def Zad(a:Int)(b:Str):decide ((Sum.inl a:Key)=Sum.inr b)=false:=Se (λq=>nomatch q)
def Zae(a:Str)(b:Int):decide ((Sum.inr a:Key)=Sum.inl b)=false:=Se (λq=>nomatch q)
def QH(prog:Program)(w:World):(PySem.KeyKind prog w Key) where
 is:=QI
 hash:=Zaa w
 inj:=λv a b ha hb=>by
  rcases ZF ha with ⟨i,t,rfl,rfl⟩|⟨x,t,rfl,rfl⟩
  .rcases ZF hb with ⟨j,u,rfl,e⟩|⟨y,u,rfl,e⟩
   .injection e with e1 _;rw[e1]
   .show nomatch e
  .rcases ZF hb with ⟨j,u,rfl,e⟩|⟨y,u,rfl,e⟩
   .show nomatch e
   .injection e with e1 _;rw[e1]
 byValue:=λk v h=>by rcases ZF h with ⟨i,t,rfl,rfl⟩|⟨x,t,rfl,rfl⟩<;>rfl
 pyHash:=λhv h=>by
  rcases ZF hv with ⟨i,t,rfl,rfl⟩|⟨x,t,rfl,rfl⟩
  .show wpAny_pyHash_int h
  .show wpAny_pyHash_str h
 eqBool:=λhu hv h=>by
  rcases ZF hu with ⟨i,t,rfl,rfl⟩|⟨x,t,rfl,rfl⟩
  .rcases ZF hv with ⟨j,u,rfl,rfl⟩|⟨y,u,rfl,rfl⟩
   .rw[Zab]at h;show wpAny_eqBool_int h
   .rw[Zad]at h;show SeqAt.EqAt.int_str i t y u _ _ _ _ h
  .rcases ZF hv with ⟨j,u,rfl,rfl⟩|⟨y,u,rfl,rfl⟩
   .rw[Zae]at h;show SeqAt.EqAt.str_int x t j u _ _ _ _ h
   .rw[Zac]at h;show wpAny_eqBool_str h
 «strs»:=λk x t v h=>by
  rcases ZF h with ⟨i,u,rfl,e⟩|⟨y,u,rfl,e⟩
  .show nomatch e
  .injection e with e1 _;subst e1;cases v<;>rfl
def Zaf(prog:Program)(w:World)(i:Int)(t:Tok):(QH prog w).is (.inl i) (.int i t)=true:=ZK8 i t
def Zag(prog:Program)(w:World)(x:Str)(t:Tok):(QH prog w).is (.inr x) (.str x t)=true:=ZJ8 x t
inductive V where
 |non|bl (b:Bool)|int (i:Int)|str (x:Str)|byt (b:Array UInt8)|flt (b:UInt64)|ref (a:Addr)|ty (n:String)
 deriving DecidableEq
def RelV:(V->Value->Prop)
 | .non,u=>u=Value.none
 | .bl b,u=>u=Value.bool b
 | .int i,u=>∃t,u=Value.int i t
 | .str x,u=>∃t,u=Value.str x t
 | .byt b,u=>∃t,u=Value.bytes b t
 | .flt b,u=>∃t,u=Value.float b t
 | .ref a,u=>u=Value.ref a
 | .ty n,u=>u=Value.type n
abbrev Vals:List V->List Value->Prop:=Paired RelV
def Vals.length{xs:List V}{us:Ag}(r:Vals xs us):xs.f=us.f:=Paired.f r
def Vals.get{xs:List V}{us:Ag}{i:Nat}{x:V}(h:Vals xs us)(e:xs[i]?=some x):∃u,us[i]?=some u/\RelV x u:=by
 induction h generalizing i with
 |nil=>simp at e
 |cons r t ih=>
  cases i with
  |zero=>simp at e;subst e;exists _,Z,r
  |succ i=>
   let(u,h1,h2):=ih (i:=i) (by simpa using e);exists u,by simpa using h1,h2
def Vals.set(r:RelV x u){xs:List V}{us:Ag}(i:Nat)(h:Vals xs us):Vals (xs.set i x) (us.set i u):=by
 induction h generalizing i with
 |nil=>show .nil
 |cons q t ih=>
  cases i with
  |zero=>show .cons r t
  |succ i=>show .cons q (ih i)
def Vals.append{xs ys:List V}{us ws:Ag}(h:Vals xs us)(s:Vals ys ws):Vals (xs++ys) (us++ws):=by
 induction h with
 |nil=>show s
 |cons r t ih=>show .cons r ih
def Vals.take{xs:List V}{us:Ag}(n:Nat)(h:Vals xs us):Vals (xs.M n) (us.M n):=by
 induction h generalizing n with
 |nil=>cases n<;>show .nil
 |cons r t ih=>
  cases n with
  |zero=>show .nil
  |succ n=>show .cons r (ih n)
def Vals.drop{xs:List V}{us:Ag}(n:Nat)(h:Vals xs us):Vals (xs.drop n) (us.drop n):=by
 induction h generalizing n with
 |nil=>cases n<;>show .nil
 |cons r t ih=>
  cases n with
  |zero=>show .cons r t
  |succ n=>show ih n
def RelO:(Option V->Option Value->Prop)
 |some v,some u=>RelV v u
 |none,none=>True
 |_,_=>False
def KV{κ:Type}:(List (κ×V)->List (κ×Value)->Prop):=Paired λ(p:κ×V) (q:κ×Value)=>p.1=q.1/\RelV p.2 q.2
def kV:(Key->V)
 | .inl i=>.int i
 | .inr x=>.str x
inductive HO where
 |lst (xs:List V)
 |tup (xs:List V)
 |dK (kvs:List (Key×V))|dT (kvs:List (List Key×V))
 |set (S:Int->Bool) (n:Nat)
 |ins (C dx:Addr) (fs:List (Str×V))
 |own (x:Addr)
 |xd (fs:List (Str×V))
 |met (f x:Addr)
 |rng (lo hi:Int)
 |frz (o:Obj) (u:HO)
 |tbl (ps:Array Value)
 |ext (φ:Heap->Prop)
abbrev Hp:=Addr->Option HO
def upd(H:Hp)(a:Addr)(o:HO):(Hp):=λb=>if b=a then some o else H b
def XS:upd H a o a=some o:=by unfold upd;rw[if_pos Z]
def Za(h:b≠a):upd H a o b=H b:=by unfold upd;rw[if_neg h]
def OK{H:Hp}{a b:Addr}{o u:HO}(h:H a=some o)(h':H b=some u)(d:o≠u):a≠b:=by intro e;subst e;rw[h]at h';show d (Yk h')
def Wz{H:Hp}{a b:Addr}{o:HO}(h:H a=some o)(h':H b=none):a≠b:=by intro e;subst e;rw[h]at h';cases h'
section
variable(P:Program)(w:World)
def ObjOk(H:Hp)(h:Heap)(a:Addr):(HO->Prop)
 | .lst xs=>xs.f<=sizeLine/\∃(XW:Ag)(n:Nat),Vals xs XW/\h.G a=some {cls:=.type "list",data:=.seq XW.C n}
 | .tup xs=>xs.f<=sizeLine/\∃XW:Ag,Vals xs XW/\IsTup h a XW.C
 | .dK kvs=>kvs.f<=sizeLine/\(a == sysModules)=false/\∃vs,KV kvs vs/\h.DictOf (QH P w) a vs
 | .dT kvs=>kvs.f<=sizeLine/\(a == sysModules)=false/\∃xs:List (List Key×Addr×Value),
   Paired (λ(p:List Key×V) (q:List Key×Addr×Value)=>p.1=q.1/\H q.2.1=some (.tup<|p.1.R kV)/\RelV p.2 q.2.2) kvs xs/\
   ∃o es ep,h.G a=some o/\o.ExactDict/\o.data=.dict es ep/\es.l=xs.R (entryOfKey<|tupleKind<|QH P w)/\(xs.R (·.1)).Nodup
 | .set S n=>h.SetOf (intKind P w) a S n
 | .ins C dx fs=>H dx=some (.own a)/\fs.f<=1000/\dx≠a/\h.G a=some (PySem.W.instObj C dx)/\
   ∃mA,h.Ns1 dx mA/\(∀f,RelO (fs.U f)<|mA f)/\PySem.Within mA (fs.R (·.1))
 | .own _=>∃o,h.G a=some o
 | .xd fs=>∃mA,h.Ns1 a mA/\∀f,RelO (fs.U f) (mA f)
 | .rng lo hi=>∃t u v,h.G a=some {cls:=.type "range",data:=.fields #[.int lo t,.int hi u,.int 1 v]}
 | .frz o u=>h.G a=some o/\ObjOk H h a u
 | .tbl ps=>h.G a=some {cls:=.none,data:=.fields ps}
 | .met f x=>h.G a=some (PySem.W.methodObj ↑f<|.ref x)
 | .ext φ=>φ h/\(∃o,h.G a=some o)/\∀h1 h2:Heap,φ h1->(∀o,h1.G a=some o->h2.G a=some o)->φ h2
def HOk(H:Hp)(h:Heap):(Prop):=∀a o,H a=some o->ObjOk P w H h a o
end
section
variable{P:Program}{w:World}{H H':Hp}{h h':Heap}{a:Addr}{o:HO}
def ObjOk.lt(x:ObjOk P w H h a o):a<h.objs.t:=by
 cases o with
 |lst xs=>let(_,_,_,_,e):=x;show Ym e
 |tup xs=>let(_,_,_,p):=x;show p.lt
 |dK kvs=>let(_,_,_,_,o,_,_,e,_):=x;show Ym e
 |dT kvs=>let(_,_,_,_,o,_,_,e,_):=x;show Ym e
 |set S n=>let(o,_,_,_,e,_):=x;show Ym e
 |ins C dx fs=>let(_,_,_,e,_):=x;show Ym e
 |own y=>let(_,e):=x;show Ym e
 |xd fs=>let(_,(_,_,_,e,_),_):=x;show Ym e
 |rng lo hi=>let(_,_,_,e):=x;show Ym e
 |frz ob u=>let(e,_):=x;show Ym e
 |tbl ps=>show Ym (show h.G a=some _ from x)
 |met f y=>show Ym (show h.G a=some _ from x)
 |ext φ=>let(_,(_,e),_):=x;show Ym e
def Paired.mapP{α β:Type}{F G:α->β->Prop}{l₁:List α}{l₂:List β}(h:Paired F l₁ l₂)(f:∀a b,F a b->G a b):Paired G l₁ l₂:=by
 induction h with
 |nil=>show .nil
 |cons r t ih=>show .cons (f _ _ r) ih
def ObjOk.stay(x:ObjOk P w H h a o)(k:∀b u,(b=a\/H b=some (.own a))->h.G b=some u->h'.G b=some u)
  (ho:∀b,H b=some (.own a)->H' b=some (.own a))(ht:∀b xs,H b=some (.tup xs)->H' b=some (.tup xs)):ObjOk P w H' h' a o:=by
 induction o with
 |lst xs=>let(z,XW,n,r,e):=x;exists z,XW,n,r,k _ _ (.inl Z) e
 |tup xs=>let(z,XW,r,ob,e,c):=x;exists z,XW,r,ob,k _ _ (.inl Z) e,c
 |dK kvs=>let(z,y,vs,r,ob,es,ep,e,c):=x;exists z,y,vs,r,ob,es,ep,k _ _ (.inl Z) e,c
 |dT kvs=>
  let(z,y,xs,r,ob,es,ep,e,c):=x;exists z,y,xs,Paired.mapP r λp q z=>{z.1,ht _ _ z.2.1,z.2.2},ob,es,ep,k _ _ (.inl Z) e,c
 |set S n=>let(ob,es,ep,t,e,c):=x;exists ob,es,ep,t,k _ _ (.inl Z) e,c
 |ins C dx fs=>
  let(d,z,ne,e,mA,(od,es,ep,e2,c),r):=x;exists ho _ d,z,ne,k _ _ (.inl Z) e,mA,{od,es,ep,k _ _ (.inr d) e2,c},r
 |own y=>let(ob,e):=x;exists ob,k _ _ (.inl Z) e
 |xd fs=>let(mA,(od,es,ep,e,c),r):=x;exists mA,{od,es,ep,k _ _ (.inl Z) e,c},r
 |rng lo hi=>let(t,u,v,e):=x;exists t,u,v,k _ _ (.inl Z) e
 |frz ob u ih=>let(e,q):=x;exists k _ _ (.inl Z) e,ih q
 |tbl ps=>
  let e:h.G a=some {cls:=.none,data:=.fields ps}:=x;change h'.G a=some {cls:=.none,data:=.fields ps}
  show k a _ (.inl Z) e
 |met f y=>
  let e:h.G a=some (PySem.W.methodObj ↑f<|.ref y):=x;change h'.G a=some (PySem.W.methodObj ↑f<|.ref y)
  show k a _ (.inl Z) e
 |ext φ=>let(p,(o,e),st):=x;exists st _ _ p λo q=>k _ _ (.inl Z) q,{o,k _ _ (.inl Z) e},st
def HOk.lt(x:HOk P w H h)(e:H a=some o):a<h.objs.t:=(x a o e).lt
def HOk.fresh(x:HOk P w H h)(e:h.objs.t<=a):H a=none:=by
 cases q:H a with
 |none=>rfl
 |some u=>show absurd (Yq (x.lt q) e) (QL _)
def HOk.kept(x:HOk P w H h)(k:∀b u,h.G b=some u->h'.G b=some u):HOk P w H h':=λa o e=>
 (x a o e).stay (λb u _ q=>k b u q) (λ_ q=>q) λ_ _ q=>q
def HOk.laid(x:HOk P w H h)(k:∀b u,h.G b=some u->h'.G b=some u)(hp:h.objs.t<=a)(new:ObjOk P w (upd H a o) h' a o):HOk P w (upd H a o) h':=λb u e=>by
 let hn:=x.fresh hp;cases hb:b=a
 .subst hb;rw[XS]at e;cases e;show new
 .rw[Za hb]at e;show(x b u e).stay (λc v _ q=>k c v q) (λc q=>by rwa[Za (Wz q hn)]) λc xs q=>by rwa[Za (Wz q hn)]
end
def Rd(H:Hp)(a:Addr)(u:HO):(Prop):=H a=some u\/∃o,H a=some (.frz o u)
def Rd.ok(r:Rd H a u)(x:HOk P w H h):ObjOk P w H h a u:=by
 rcases r with r|⟨o,r⟩
 .show x a u r
 .let⟨_,q⟩:=x a _ r;show q
def DC:(Option HO->Prop)
 |some (.lst _)=>True
 |some (.dK _)=>True
 |some (.dT _)=>True
 |some (.set _ _)=>True
 |some (.ins _ _ _)=>True
 |some (.ext _)=>True
 |_=>False
section
variable{P:Program}{w:World}{H:Hp}{h h':Heap}{x e:Addr}{o':HO}
def HOk.write(ok:HOk P w H h)(mu:DC (H x))(he:e=x\/H e=some (.own x))(k:∀b u,b≠e->h.G b=some u->h'.G b=some u)(Fi:∃u,h'.G e=some u)
  (new:ObjOk P w (upd H x o') h' x o'):HOk P w (upd H x o') h':=λb u q=>by
 let DB:∀c y,H c=some (.own y)->c≠x:=λc y r z=>by subst z;rwa[r]at mu
 let sv:∀c xs,H c=some (.tup xs)->c≠x:=λc xs r z=>by subst z;rwa[r]at mu
 cases hb:b=x
 .subst hb;rw[XS]at q;cases q;show new
 .rw[Za hb]at q;cases Ih:b=e
  .let q':H b=some (.own x):=by
    rcases he with z|z
    .show absurd (Ih.m z) hb
    .rw[Ih];show z
   rw[q]at q';cases q';let(v,hv):=Fi;exists v,by rwa[Ih]
  .show(ok b u q).stay (λc v hc r=>k c v ?_ r) (λc r=>by rwa[Za (DB c b r)]) λc xs r=>by rwa[Za (sv c xs r)]
   rcases hc with rfl|hc
   .show Ih
   .rintro rfl;rcases he with z|z
    .show DB c b hc z
    .rw[hc]at z;cases z;show hb rfl
end
structure Un(fs ex:List Addr)(H H':Hp)(h h':Heap):Prop where
 keep:∀b o,h.G b=some o->H b=none->b∉fs->b∉ex->h'.G b=some o
 slot:∀b o,h.G b=some o->H b=none->b∈fs->b∉ex->∃sl,h'.G b=some {o with slots:=sl}
 free:∀b o,h.G b=some o->H b=none->b∉ex->H' b=none
 there:∀b o,h.G b=some o->b∉ex->∃o',h'.G b=some o'
 tups:∀b xs,H b=some (.tup xs)->H' b=some (.tup xs)
 frzs:∀b o u,H b=some (.frz o u)->H' b=some (.frz o u)
 tbls:∀b ps,H b=some (.tbl ps)->∃more,H' b=some (.tbl<|ps++more)
section
variable{fs ex:List Addr}{H H1:Hp}{h h1 h':Heap}{a x e:Addr}{o:HO}
def Un.any(u:Un fs ex H H1 h h1){ob:Obj}(q:h.G b=some ob)(n:H b=none)(hx:b∉ex):∃sl,h1.G b=some {ob with slots:=sl}:=by
 cases hb:b∈fs
 .show u.slot b ob q n hb hx
 .exists ob.slots,u.keep b ob q n hb hx
def Un.kept(k:∀b u,h.G b=some u->h'.G b=some u):Un fs ex H H h h':=
 {λb ob q _ _ _=>k b ob q,λb ob q _ _ _=>{ob.slots,k b ob q},λ_ _ _ n _=>n,λb ob q _=>{ob,k b ob q},λ_ _ q=>q,λ_ _ _ q=>q,λ_ ps q=>{#[],by rw[q];simp}}
def Un.refl:Un fs ex H H h h:=Un.kept λ_ _ q=>q
def Un.laid(k:∀b u,h.G b=some u->h'.G b=some u)(hp:h.objs.t<=a)(hn:H a=none):Un fs ex H (upd H a o) h h' where
 keep:=λb u q _ _ _=>k b u q
 slot:=λb u q _ _ _=>{u.slots,k b u q}
 free:=λb u q n _=>by rwa[Za (YA<|Yq (Ym q) hp)]
 there:=λb u q _=>{u,k b u q}
 tups:=λb xs q=>by rwa[Za (Wz q hn)]
 frzs:=λb u xs q=>by rwa[Za (Wz q hn)]
 tbls:=λb ps q=>{#[],by rw[Za (Wz q hn),q];simp}
def Un.write(mu:DC (H x))(he:e=x\/H e=some (.own x))(k:∀b u,b≠e->h.G b=some u->h'.G b=some u)(Fi:∃u,h'.G e=some u):Un fs ex H (upd H x o) h h':=by
 let hx:∀b,H b=none->b≠x:=λb n z=>by subst z;rwa[n]at mu
 let hb:∀b,H b=none->b≠e:=λb n z=>by
  subst z;rcases he with r|r
  .show hx b n r
  .rw[n]at r;cases r
 let hm:∀b u,H b=some u->¬DC (some u)->b≠x:=λb u q nm z=>by subst z;rw[q]at mu;show nm mu
 show⟨λb u q n _ _=>k b u (hb b n) q,λb u q n _ _=>{u.slots,k b u (hb b n) q},λb u q n _=>by rw[Za (hx b n)];show n,λb u q _=>?_,
  λb xs q=>by rw[Za (hm b _ q λz=>z)];show q,λb u xs q=>by rw[Za (hm b _ q λz=>z)];show q,λb ps q=>{#[],by rw[Za (hm b _ q λz=>z),q];simp}⟩
 cases Ih:b=e
 .subst Ih;show Fi
 .exists u,k b u Ih q
end
def xc(h:Heap)(H:Hp):(List Addr):=(List.range h.objs.t).filter λa=>(H a).isSome
def Ut(h:Heap)(H:Hp):(Heap):=PySem.W.hideAll h (xc h H)
def ZP8(h:Heap)(H:Hp):(Ut h H).objs.t=h.objs.t:=PySem.W.hideAll_size _ _
def Zah{b:Addr}{o:Obj}(e:h.G b=some o)(n:H b=none):(Ut h H).G b=some o:=
 PySem.W.hideAll_get _ e λhm=>by let q:(H b).isSome=true:=(Yn.H hm).2;rw[n]at q;simp at q
def Zai{b:Addr}{o:Obj}(e:(Ut h H).G b=some o):h.G b=some o/\H b=none:=by
 let e':h.G b=some o:=PySem.W.of_hideAll (xc h H) e;exists e',?_;cases q:H b with
 |none=>rfl
 |some x=>
  let hm:b∈xc h H:=Yn.X {YV.X<|Ym e',by simp[q]};let z:(Ut h H).G b=none:=tP (xc h H) hm
  rw[z]at e;cases e
def Zaj(g h:Heap)(L:Addr):(List (Addr×Obj)):=(List.range h.objs.t).filterMap λa=>if a=L\/(g.G a).isSome=true then none else (h.G a).R λo=>(a,o)
def rest(g h:Heap)(L d:Addr):(List (Addr×Obj)):=(Zaj g h L).filter λp=>decide (p.1≠d)
structure Mod(K:Ad)(mg:Af)(base:Heap):Prop where
 kin:K.In base
 glob:base.Ns mainGlobals mg
 blt:∃mb,base.Ns builtinsNs mb/\∀x:Str,x≠"__name__"->mb x=bootBuiltins x
 nolimit:base.NoLimit
structure Cx where
 prog:Program
 w:World
 K:Ad
 mg:Af
 base:Heap
 A:Around
 N:List Str
 s₀:Shared
 H₀:Hp
 env:Env
 outer:List Env
 stack:List Env
 ex:List Addr
 fn:Str->Bool
 calm:Bool
 pn:List (Addr×Obj)
 xe:Ae
def VR(l:List Env):(List Addr):=l.filterMap (·.frame)
abbrev Cx.fs(X:Cx):List Addr:=VR X.outer
def si(sc:Scope)(x:Str):(Prop):=sc.names.U x=some .local\/sc.names.U x=some .cell\/sc.names.U x=some .free
def Loc(sc:Scope)(x:Str):(Prop):=sc.names.U x=some .local\/sc.names.U x=some .cell
def Look(env:Env)(h:Heap)(m:Af)(x:Str)(u:Value):(Prop):=
 (env.kindOf x=some .local/\m x=some u)\/((env.kindOf x=some .cell\/env.kindOf x=some .free)/\∃c,env.cells.U x=some c/\h.IsCell c (some u))
structure Cx.Ok(X:Cx):Prop where
 mod:Mod X.K X.mg X.base
 kind:X.L.scope.kind=.function
 glob:X.L.globals=mainGlobals
 blt:X.L.builtins=builtinsNs
 above:(~~~X.s₀)<=X.L.locals
 inj:∀x y c,X.L.cells.U x=some c->X.L.cells.U y=some c->x=y
 has:∀x,(X.L.kindOf x=some .cell\/X.L.kindOf x=some .free)->∃c,X.L.cells.U x=some c
 cab:∀x c,X.fn x=true->X.L.cells.U x=some c->(~~~X.s₀)<=c
 hd:X.calm=true->X.A.handled=none
 frames:X.A.frames=some X.stack
 stk:X.stack=X.outer\/(X.stack=X.L::X.outer/\X.L.frame=some X.L.locals)
 exf:∀b∈X.ex,b≠X.L.locals/\∀x c,X.L.cells.U x=some c->c≠b
 bs:∀b o,X.base.G b=some o->X.s₀.D.G b=some o/\X.H₀ b=none
 bsz:X.base.objs.t<=(~~~X.s₀)
 noex:∀b o,X.base.G b=some o->b∉X.ex
 exfs:∀b∈X.ex,b∉X.fs
 funs:X.s₀.D.FunFrames X.base X.outer
 frf:∀b∈X.fs,X.H₀ b=none
structure Inv(X:Cx)(pins:List (Addr×Obj))(σ:List (Option V))(H:Hp)(s:Shared):Prop where
 ok:X.Ok
 os:s.os=X.s₀.os
 bare:AllBare s.gens
 base:Un X.fs X.ex X.H₀ H X.s₀.D s.D
 loc:∃m,s.D.Ns X.L.locals m/\∀(i:Nat)(x:Str)(v:V),X.N[i]?=some x->σ[i]?=some (some v)->si X.L.scope x->∃u,RelV v u/\Look X.L s.D m x u
 cell:∀x c,X.L.cells.U x=some c->∃v,s.D.IsCell c v
 free:H X.L.locals=none
 freeC:∀x c,X.L.cells.U x=some c->H c=none
 pin:∀p∈X.pn++pins,s.D.G p.1=some p.2/\H p.1=none/\p.1≠X.L.locals/\p.1∉X.fs/\∀v,p.2.data≠.cell v
 hok:HOk X.prog X.w H s.D
 len:σ.f=X.N.f
section
variable{X:Cx}{pins:List (Addr×Obj)}{σ:List (Option V)}{H H':Hp}{s:Shared}{h':Heap}
def Cx.Ok.nofr(ok:X.Ok){b:Addr}{o:Obj}(e:X.base.G b=some o):b∉X.fs:=λhb=>by
 have:=(ok.funs.mem hb).1
 rw[e]at this;cases this
def Inv.bs(I:Inv X pins σ H s):∀b o,X.base.G b=some o->s.D.G b=some o/\H b=none:=λb o e=>
 {I.base.keep b o (I.ok.bs b o e).1 (I.ok.bs b o e).2 (I.ok.nofr e) (I.ok.noex b o e),I.base.free b o (I.ok.bs b o e).1 (I.ok.bs b o e).2 (I.ok.noex b o e)}
def Inv.bk(I:Inv X pins σ H s):∀b o,X.base.G b=some o->s.D.G b=some o:=λb o e=>(I.bs b o e).1
def Inv.mod(I:Inv X pins σ H s):Mod X.K X.mg X.base:=I.ok.mod
def Inv.kIn(I:Inv X pins σ H s):X.K.In s.D:=I.ok.mod.kin.keeps I.bk
def Inv.lt(I:Inv X pins σ H s):X.L.locals<(~~~s):=by let(_,hn,_):=I.loc;show hn.lt
def Inv.sz(I:Inv X pins σ H s):(~~~X.s₀)<=(~~~s):=Yj I.ok.above (MQ I.lt)
def Inv.nofs(I:Inv X pins σ H s){a:Addr}(h:(~~~s)<=a):a∉X.fs:=λhb=>by let(_,o,ho,_):=I.ok.funs.mem hb;show absurd (Yq (Ym ho)<|Yj I.sz h) (QL _)
def Inv.cne(I:Inv X pins σ H s):∀x c,X.L.cells.U x=some c->c≠X.L.locals:=λx c e z=>by let(v,o,ho,hd):=I.cell x c e;let(m,(o',es,ep,Wh,SN,_),_):=I.loc;rw[z,Wh]at ho;cases ho;rw[SN]at hd;cases hd
def Inv.funs(I:Inv X pins σ H s):s.D.FunFrames X.base X.outer:=by
 let all:∀(l:List Env),(∀b∈VR l,b∈X.fs)->X.s₀.D.FunFrames X.base l->s.D.FunFrames X.base l:=by
  intro l
  induction l with
  |nil=>intro _ _;trivial
  |cons env r ih=>
   intro hs hl;let(hk,(L,o,hf,hn,ho,hd),hr):=hl;let hL:L∈X.fs:=hs L (by unfold VR;rw[DZ,hf];show Ye)
   let(sl,e):=I.base.slot L o ho (I.ok.frf L hL) hL λz=>I.ok.exfs L z hL;exists hk,{L,_,hf,hn,e,hd},ih (λb hb=>hs b<|by unfold VR;rw[DZ,hf];show Yg _ hb) hr
 show all X.outer (λ_ hb=>hb) I.ok.funs
def Inv.stack(I:Inv X pins σ H s):s.D.FunFrames X.base X.stack:=by
 rcases I.ok.stk with e|⟨e,hf⟩
 .rw[e];show I.funs
 .rw[e];let(m,hn,_):=I.loc;show .cons (by rw[I.ok.kind];decide) hf hn ?_ I.funs;show Heap.get?_none_of_le (Yj I.ok.bsz I.ok.above)
def Inv.stkSub(I:Inv X pins σ H s):∀b∈VR X.stack,b∈X.L.locals::X.fs:=λb hb=>by
 rcases I.ok.stk with e|⟨e,hf⟩
 .rw[e]at hb;show Yg _ hb
 .rw[e]at hb;unfold VR at hb;rwa[DZ,hf]at hb
def Inv.stkFree(I:Inv X pins σ H s):∀b∈VR X.stack,H b=none:=λb hb=>by
 rcases Yf.H (I.stkSub b hb) with e|hb
 .rw[e];show I.free
 .let⟨_,o,ho,_⟩:=I.ok.funs.mem hb;show I.base.free b o ho (I.ok.frf b hb) λz=>I.ok.exfs b z hb
def Inv.step{g':Array GenState}{t':Nat}{d':Drawn}{ch:List Addr}(I:Inv X pins σ H s)
  (MO:∀b∈ch,(b∈X.ex\/(~~~X.s₀)<=b)/\b≠X.L.locals/\(∀x c,X.L.cells.U x=some c->c≠b)/\∀p∈X.pn++pins,p.1≠b)
  (keep:∀b o,b≠X.L.locals->b∉X.fs->b∉ch->s.D.G b=some o->H b=none->h'.G b=some o)
  (slot:∀b o,b≠X.L.locals->b∈X.fs->b∉ch->s.D.G b=some o->H b=none->∃sl,h'.G b=some {o with slots:=sl})(free:∀b o,b∉ch->s.D.G b=some o->H b=none->H' b=none)
  (there:∀b o,b∉ch->s.D.G b=some o->∃o',h'.G b=some o')
  (tups:∀b xs,H b=some (.tup xs)->H' b=some (.tup xs))(frzs:∀b o u,H b=some (.frz o u)->H' b=some (.frz o u))(tbls:∀b ps,H b=some (.tbl ps)->∃more,H' b=some (.tbl<|ps++more))
  (ns:∀m,s.D.Ns X.L.locals m->h'.Ns X.L.locals m)(hok:HOk X.prog X.w H' h')(hg:AllBare g'):
  Inv X pins σ H' {s with heap:=h',gens:=g',drawn:=d',toks:=t'}:=by
 let DA:∀b o,X.s₀.D.G b=some o->b≠X.L.locals:=λb o e=>YA (Yq (Ym e) I.ok.above);let xb:∀b o,X.s₀.D.G b=some o->b∉X.ex->b∉ch:=λb o e hx hb=>by
  rcases(MO b hb).1 with z|z
  .show hx z
  .show absurd (Yq (Ym e) z) (QL _)
 let cellK:∀x c,X.L.cells.U x=some c->∀v,s.D.IsCell c v->h'.IsCell c v:=λx c e v ⟨o,ho,hd⟩=>by
  let Dz:c∉ch:=λz=>(MO c z).2.2.1 x c e rfl;cases hc:c∈X.fs
  .let⟨sl,q⟩:=slot c o (I.cne x c e) hc Dz ho (I.freeC x c e);exists _,q,hd
  .exists o,keep c o (I.cne x c e) hc Dz ho<|I.freeC x c e,hd
 exists I.ok,I.os,hg,{λb o e n hb hx=>?_,λb o e n hb hx=>?_,λb o e n hx=>?_,λb o e hx=>?_,λb xs e=>tups b xs<|I.base.tups b xs e,λb o xs e=>frzs b o xs<|I.base.frzs b o xs e,λb ps e=>?_},?_,λx c e=>?_,?_,λx c e=>?_,λp hp=>?_,hok,I.len
 .show keep b o (DA b o e) hb (xb b o e hx) (I.base.keep b o e n hb hx) (I.base.free b o e n hx)
 .let⟨sl,e1⟩:=I.base.slot b o e n hb hx;let(Ig,e2):=slot b _ (DA b o e) hb (xb b o e hx) e1 (I.base.free b o e n hx);exists Ig,e2
 .let⟨o',e1⟩:=I.base.there b o e hx;show free b o' (xb b o e hx) e1 (I.base.free b o e n hx)
 .let⟨o',e1⟩:=I.base.there b o e hx;show there b o' (xb b o e hx) e1
 .let⟨m1,e1⟩:=I.base.tbls b ps e;let(m2,e2):=tbls b _ e1;exists m1++m2,by rw[e2,Array.append_assoc]
 .let⟨m,hn,hl⟩:=I.loc;exists m,ns m hn,λi x v e1 e2 e3=>?_;let(u,r,l):=hl i x v e1 e2 e3;exists u,r,?_;rcases l with l|⟨k,c,e,z⟩
  .show .inl l
  .show .inr {k,c,e,cellK x c e _ z}
 .let⟨v,z⟩:=I.cell x c e;exists v,cellK x c e v z
 .let⟨m,⟨o,_,_,ho,_⟩,_⟩:=I.loc;show free _ o (λz=>(MO _ z).2.1 Z) ho I.free
 .let⟨v,o,ho,hd⟩:=I.cell x c e;show free c o (λz=>(MO c z).2.2.1 x c e Z) ho (I.freeC x c e)
 .let⟨e,n,ne,nf,d⟩:=I.pin p hp;let Dz:p.1∉ch:=λz=>(MO p.1 z).2.2.2 p hp rfl
  exists keep p.1 p.2 ne nf Dz e n,free p.1 p.2 Dz e n,ne,nf,d
def Inv.un{t':Nat}(I:Inv X pins σ H s)(u:Un X.fs [] H H' s.D h')(hok:HOk X.prog X.w H' h'):Inv X pins σ H' {s with heap:=h',toks:=t'}:=by
 let(m,(o,es,ep,ho,r),_):=id I.loc;let(sl,hL):=u.any ho I.free B;show I.step (g':=s.gens) (d':=s.drawn) (ch:=[]) (λ_ z=>nomatch z) (λb o _ hb _ e n=>u.keep b o e n hb B) (λb o _ hb _ e n=>u.slot b o e n hb B) (λb o _ e n=>u.free b o e n B) (λb o _ e=>u.there b o e B) u.tups u.frzs u.tbls (λm' hm=>by let(o',xa,w9,Wh,r'):=hm;rw[ho]at Wh;cases Wh;exists _,xa,w9,hL,r') hok I.bare
def Inv.call{t':Nat}{d':Drawn}(I:Inv X pins σ H s)(u:Un (VR X.stack) ch H H' s.D h')(hok:HOk X.prog X.w H' h')(hg:AllBare g')
  (MO:∀b∈ch,(b∈X.ex\/(~~~X.s₀)<=b)/\b≠X.L.locals/\(∀x c,X.L.cells.U x=some c->c≠b)/\∀p∈X.pn++pins,p.1≠b):
  Inv X pins σ H' {s with heap:=h',gens:=g',drawn:=d',toks:=t'}:=by
 let(m,(o,es,ep,ho,r),_):=id I.loc;let(sl,hL):=u.any ho I.free λz=>(MO _ z).2.1 rfl;show I.step (ch:=ch) MO (λb o hL hb hc e n=>u.keep b o e n (λz=>(Yf.H<|I.stkSub b z).elim hL hb) hc) (λb o _ _ hc e n=>u.any e n hc) (λb o hc e n=>u.free b o e n hc) (λb o hc e=>u.there b o e hc) u.tups u.frzs u.tbls (λm' hm=>by let(o',xa,w9,Wh,r'):=hm;rw[ho]at Wh;cases Wh;exists _,xa,w9,hL,r') hok hg
def Inv.turned{t':Nat}(I:Inv X pins σ H s)(k:∀b o,b≠it->s.D.G b=some o->h'.G b=some o)(hn:H it=none)(hL:it≠X.L.locals)
  (h1:it∈X.ex\/(~~~X.s₀)<=it)(h2:∀x c,X.L.cells.U x=some c->c≠it)(h3:∀p∈X.pn++pins,p.1≠it):Inv X pins σ H {s with heap:=h',toks:=t'}:=by
 let dJ:∀b u,H b=some u->b≠it:=λb u e z=>by rw[z,hn]at e;cases e
 show I.step (g':=s.gens) (d':=s.drawn) (ch:=[it]) (λb hb=>?_) (λb o _ _ hc e _=>k b o (λz=>hc<|by simp[z]) e) (λb o _ _ hc e _=>{o.slots,k b o (λz=>hc<|by simp[z]) e}) (λ_ _ _ _ n=>n)
  (λb o hc e=>{o,k b o (λz=>hc<|by simp[z]) e}) (λ_ _ e=>e) (λ_ _ _ e=>e) (λb ps e=>{#[],by rw[e];simp}) (λm hm=>?_) (λb u e=>?_) I.bare
 .let e:b=it:=by simpa using hb
  subst e;exists h1,hL,h2,h3
 .let⟨o,es,ep,ho,r⟩:=hm;exists o,es,ep,k _ o (Xb hL) ho,r
 .show(I.hok b u e).stay (λc v hc q=>k c v ?_ q) (λ_ q=>q) λ_ _ q=>q;rcases hc with z|z
  .rw[z];show dJ b u e
  .show dJ c _ z
def Inv.tok(I:Inv X pins σ H s)(t:Nat):Inv X pins σ H {s with toks:=t}:=I.un (h':=s.D) (t':=t) Un.refl I.hok
def Inv.kept{t':Nat}(I:Inv X pins σ H s)(k:∀b u,s.D.G b=some u->h'.G b=some u):Inv X pins σ H {s with heap:=h',toks:=t'}:=I.un (Un.kept k) (I.hok.kept k)
def Inv.laid{t':Nat}(I:Inv X pins σ H s)(k:∀b u,s.D.G b=some u->h'.G b=some u)(hp:(~~~s)<=a)(new:ObjOk X.prog X.w (upd H a o) h' a o):
  Inv X pins σ (upd H a o) {s with heap:=h',toks:=t'}:=I.un (Un.laid k hp<|I.hok.fresh hp) (I.hok.laid k hp new)
def Inv.write{t':Nat}(I:Inv X pins σ H s)(mu:DC (H x))(he:e=x\/H e=some (.own x))(k:∀b u,b≠e->s.D.G b=some u->h'.G b=some u)(Fi:∃u,h'.G e=some u)
  (new:ObjOk X.prog X.w (upd H x o) h' x o):Inv X pins σ (upd H x o) {s with heap:=h',toks:=t'}:=I.un (Un.write mu he k Fi) (I.hok.write mu he k Fi new)
def Inv.weak(I:Inv X pins σ H s)(hl:σ'.f=σ.f)(w:∀(i:Nat) v,σ'[i]?=some (some v)->σ[i]?=some (some v)):Inv X pins σ' H s:=
 {I.ok,I.os,I.bare,I.base,by let(m,hn,OJ):=I.loc;show{m,hn,λi x v e1 e2 e3=>OJ i x v e1 (w i v e2) e3},I.cell,I.free,I.freeC,I.pin,I.hok,hl.m I.len}
def Inv.pins_of(I:Inv X pins σ H s)(h:∀p∈pins',s.D.G p.1=some p.2/\H p.1=none/\p.1≠X.L.locals/\p.1∉X.fs/\∀v,p.2.data≠.cell v):Inv X pins' σ H s:=
 {I.ok,I.os,I.bare,I.base,I.loc,I.cell,I.free,I.freeC,λp hp=>(XB.H hp).elim (λz=>I.pin p<|Yc _ z) (h p),I.hok,I.len}
def sf{N:List Str}(hN:N.Nodup){i j:Nat}{x:Str}(a:N[i]?=some x)(b:N[j]?=some x):i=j:=by let(h1,e1):=XA.H a;let(h2,e2):=XA.H b;show(List.getElem_inj hN).H (e1.m e2.symm)
def dI{E:Ae}{i:Nat}{x:Str}{Q:Unit->Shared->Prop}(I:Inv X pins σ H s)(hN:X.N.Nodup)(hi:X.N[i]?=some x)(hx:Loc X.L.scope x)(r:RelV v u)
  (h:∀s',Inv X pins (σ.set i<|some v) H s'->(∃a,Heap.SameBut a s.D s'.D/\(a=X.L.locals\/X.L.cells.U x=some a))->Q () s')(hf:X.fn x=true\/X.L.scope.names.U x=some .local:=by first|show .inl rfl|show .inr rfl|assumption):wpAny M A (storeName X.L x u) Q E s:=by
 let(m,hn,hl):=id I.loc;let se:(X.L.scope.kind == .class||(X.L.scope.kind == .module&&X.L.locals != X.L.globals))=false:=by rw[I.ok.kind];rfl
 let LR:i<σ.f:=by rw[I.len];show(XA.H hi).1
 let cne:=I.cne;let tracked:∀{a:Addr}{h':Heap},(∃o,s.D.G a=some o/\H a=none)->Heap.SameBut a s.D h'->HOk X.prog X.w H h':=λ{a h'} ha hs b ob e=>by
  let(_,_,Ke):=ha;show(I.hok b ob e).stay (λc w' hc q=>(hs.2 c ?_).m q) (λ_ q=>q) λ_ _ q=>q;rintro rfl;rcases hc with rfl|hc
  .rw[Ke]at e;cases e
  .rw[Ke]at hc;cases hc
 rcases hx with hk|hk
 .show wpAny_storeName_local hk hn (λh' SM hs=>?_) se;let(oL,_,_,OI,_):=id hn;show h _ {I.ok,I.os,I.bare,{λb o e n hb hx=>?_,λb o e n hb hx=>?_,I.base.free,λb o e hx=>?_,I.base.tups,I.base.frzs,I.base.tbls},{_,SM,λj y v' e1 e2 e3=>?_},λy c e=>?_,I.free,I.freeC,λp hp=>?_,tracked ⟨oL,OI,I.free⟩ hs,by simpa using I.len} {_,hs,.inl Z}
  .show(hs.2 b<|YA<|Yq (Ym e) I.ok.above).m (I.base.keep b o e n hb hx)
  .let⟨sl,e1⟩:=I.base.slot b o e n hb hx;exists sl,(hs.2 b<|YA<|Yq (Ym e) I.ok.above).m e1
  .let⟨o',e1⟩:=I.base.there b o e hx;exists o',(hs.2 b<|YA<|Yq (Ym e) I.ok.above).m e1
  .cases hj:j=i
   .subst hj;rw[hi]at e1;cases e1;rw[tT LR]at e2;cases e2;exists u,r,.inl ⟨hk,B⟩
   .rw[Iw (Xb hj)]at e2;let(u',r',q):=hl j y v' e1 e2 e3;exists u',r',?_;rcases q with ⟨k,e⟩|⟨k,c,e,z⟩
    .show .inl {k,?_}
     have:y≠x:=λe=>hj (sf hN e1<|e▸hi)
     simp[this,e]
    .show .inr {k,c,e,z.sameBut hs<|cne y c e}
  .let⟨w',z⟩:=I.cell y c e;exists w',z.sameBut hs<|cne y c e
  .let⟨e,n,ne,nf,d⟩:=I.pin p hp;exists (hs.2 p.1 ne).m e,n,ne,nf,d
 .let Fh:X.fn x=true:=by
   rcases hf with z|z
   .show z
   .rw[z]at hk;cases hk
  let(c,hc):=I.ok.has x (.inl hk);let(w',z):=I.cell x c hc;show wpAny_storeName_cell I.ok.kind hk hc z λh' Wk hs=>?_;let(oc,w6,sd):=id z;show h {s with heap:=h'} {I.ok,I.os,I.bare,{λb o e n hb hx=>?_,λb o e n hb hx=>?_,I.base.free,λb o e hx=>?_,I.base.tups,I.base.frzs,I.base.tbls},{m,hn.sameBut hs<|Xb<|cne x c hc,λj y v' e1 e2 e3=>?_},λy c' e=>?_,I.free,I.freeC,λp hp=>?_,tracked {oc,w6,I.freeC x c hc} hs,by simpa using I.len} {c,hs,.inr hc}
  .show(hs.2 b<|YA<|Yq (Ym e)<|I.ok.cab x c Fh hc).m (I.base.keep b o e n hb hx)
  .let⟨sl,e1⟩:=I.base.slot b o e n hb hx;exists sl,(hs.2 b<|YA<|Yq (Ym e)<|I.ok.cab x c Fh hc).m e1
  .let⟨o',e1⟩:=I.base.there b o e hx;exists o',(hs.2 b<|YA<|Yq (Ym e)<|I.ok.cab x c Fh hc).m e1
  .cases hj:j=i
   .subst hj;rw[hi]at e1;cases e1;rw[tT LR]at e2;cases e2;exists u,r,.inr {.inl hk,c,hc,Wk}
   .rw[Iw (Xb hj)]at e2;let(u',r',q):=hl j y v' e1 e2 e3;exists u',r',?_;rcases q with q|⟨k,c',e,z'⟩
    .show .inl q
    .show .inr {k,c',e,z'.sameBut hs ?_};rintro rfl;show hj (sf hN e1<|I.ok.inj _ _ _ e hc▸hi)
  .cases dH:c'=c
   .subst dH;exists _,Wk
   .let⟨w2,z2⟩:=I.cell y c' e;exists w2,z2.sameBut hs dH
  .let⟨e,n,ne,nf,d⟩:=I.pin p hp;exists (hs.2 p.1 ?_).m e,n,ne,nf,d;intro q;rw[q,w6]at e;let q':oc=p.2:=Yk e
   show d w' (by rwa[<-q'])
def r9{E:Ae}{i:Nat}{x:Str}{Q:Unit->Shared->Prop}(I:Inv X pins σ H s)(hN:X.N.Nodup)(hi:X.N[i]?=some x)(hx:Loc X.L.scope x)(r:RelV v u)
  (h:∀s',Inv X pins (σ.set i<|some v) H s'->Q () s')(hf:X.fn x=true\/X.L.scope.names.U x=some .local:=by first|show .inl rfl|show .inr rfl|assumption):wpAny M A (storeName X.L x u) Q E s:=
 dI I hN hi hx r (λs' I' _=>h s' I') hf
def Inv.call'(I:Inv X pins σ H s)(ho:s'.os=s.os)(u:Un (VR X.stack) ch H H' s.D s'.D)(hok:HOk X.prog X.w H' s'.D)(hg:AllBare s'.gens)
  (MO:∀b∈ch,(b∈X.ex\/(~~~X.s₀)<=b)/\b≠X.L.locals/\(∀x c,X.L.cells.U x=some c->c≠b)/\∀p∈X.pn++pins,p.1≠b):Inv X pins σ H' s':=by
 let(h',g',d',t',o'):=s';let e:o'=s.os:=ho
 subst e;show I.call (g':=g') (t':=t') (d':=d') u hok hg MO
end
abbrev XK:=Value->Option Addr->Hp->Prop
abbrev St:=List (Option V)
abbrev VK:=V->Hp->Prop
abbrev TE:=St->Hp->VK->Prop
abbrev TT:=St->Hp->(Bool->Hp->Prop)->Prop
abbrev TA:=St->Hp->(List V->Hp->Prop)->Prop
structure Ends where
 nx:St->Hp->Prop
 rt:VK
 bk:St->Hp->Prop:=λ_ _=>False
 ct:St->Hp->Prop:=λ_ _=>False
abbrev TS:=Ends->St->Hp->Prop
def EP(X:Cx)(pins:List (Addr×Obj))(σ:St)(Q:VK)(u:Value)(s':Shared):(Prop):=∃v H',Inv X pins σ H' s'/\RelV v u/\Q v H'
def TP(X:Cx)(pins:List (Addr×Obj))(σ:St)(Q:Bool->Hp->Prop)(b:Bool)(s':Shared):(Prop):=∃H',Inv X pins σ H' s'/\Q b H'
def Zak(X:Cx)(pins:List (Addr×Obj))(σ:St)(Q:List V->Hp->Prop)(us:Ag)(s':Shared):(Prop):=∃vs H',Inv X pins σ H' s'/\Vals vs us/\Q vs H'
def SP(X:Cx)(pins:List (Addr×Obj))(D:Ends)(f:Flow)(s':Shared):(Prop):=
 match f with
 | .next=>∃σ' H',Inv X pins σ' H' s'/\D.nx σ' H'
 | .brk=>∃σ' H',Inv X pins σ' H' s'/\D.bk σ' H'
 | .cont=>∃σ' H',Inv X pins σ' H' s'/\D.ct σ' H'
 | .ret u=>∃v σ' H',Inv X pins σ' H' s'/\RelV v u/\D.rt v H'
def PE(X:Cx)(e:Expr)(t:TE):(Prop):=
 ∀(pins:List (Addr×Obj))(s:Shared)(σ:St)(H:Hp)(Q:VK),Inv X pins σ H s->t σ H Q->wpAny (model X.prog X.w) X.A (eval e X.L) (EP X pins σ Q) X.xe s
def PT(X:Cx)(e:Expr)(t:TT):(Prop):=
 ∀(pins:List (Addr×Obj))(s:Shared)(σ:St)(H:Hp)(Q:Bool->Hp->Prop),Inv X pins σ H s->t σ H Q->wpAny (model X.prog X.w) X.A (isTrue e X.L<|eval e X.L) (TP X pins σ Q) X.xe s
def PW(X:Cx)(e:Expr)(t:TT):(Prop):=
 ∀(whole:Sem Value)(pins:List (Addr×Obj))(s:Shared)(σ:St)(H:Hp)(Q:Bool->Hp->Prop),Inv X pins σ H s->t σ H Q->wpAny (model X.prog X.w) X.A (isTrue e X.L whole) (TP X pins σ Q) X.xe s
def PW.pt(h:PW X e t):PT X e t:=h _
def PA(X:Cx)(es:List Expr)(t:TA):(Prop):=
 ∀(pos:Pos)(pins:List (Addr×Obj))(s:Shared)(σ:St)(H:Hp)(Q:List V->Hp->Prop),Inv X pins σ H s->t σ H Q->wpAny (model X.prog X.w) X.A (spliced<|backTo pos<|starEach es X.L) (Zak X pins σ Q) X.xe s
def PS(X:Cx)(st:Stmt)(t:TS):(Prop):=
 ∀(pins:List (Addr×Obj))(s:Shared)(σ:St)(H:Hp)(D:Ends),Inv X pins σ H s->t D σ H->wpAny (model X.prog X.w) X.A (exec st X.L) (SP X pins D) X.xe s
def PSs(X:Cx)(st:List Stmt)(t:TS):(Prop):=
 ∀(pins:List (Addr×Obj))(s:Shared)(σ:St)(H:Hp)(D:Ends),Inv X pins σ H s->t D σ H->wpAny (model X.prog X.w) X.A (execs st X.L) (SP X pins D) X.xe s
def thn{α:Type}{t:Sem α}{Q Q':α->Shared->Prop}{M:Model}{A:Around}{E:Ae}{s:Shared}(h:wpAny M A t Q E s)(hQ:∀a s,Q a s->Q' a s):wpAny M A t Q' E s:=Ud h hQ λ_ _ x=>x
section
variable{X:Cx}
inductive isB(x:V)(H:Hp)(Q:Bool->Hp->Prop):Prop
 |mk (k:Bool) (_:x=.bl k) (_:Q k H)
inductive tVar(i:Nat)(σ:St)(H:Hp)(Q:VK):Prop
 |mk (v:_) (_:σ[i]?=some (some v)) (_:Q v H)
def tC(v:V):(TE):=λ_ H Q=>Q v H
def Zal{x:Str}{pos:Pos}(hN:X.N[i]?=some x)(hv:si X.L.scope x)(hd:(x == ("__debug__":Str))=false:=by decide)(Tj:(x == ("__classdict__":Str))=false:=by decide):PE X (.Name x pos) (tVar i):=by
 intro pins s σ H Q I h;let(v,e,h):=h;let(m,hn,hl):=I.loc;let(u,r,l):=hl i x v hN e hv;let fin:EP X pins σ Q u s:=⟨v,H,I,r,h⟩
 rcases l with ⟨hk,hm⟩|⟨hk,c,hc,Rl⟩
 .show wpAny_Name (wpAny_loadName_local I.ok.kind hk hn hm fin) hd
 .rcases hk with hk|hk
  .show wpAny_Name (wpAny_loadName_cell I.ok.kind hk hc Rl fin) hd
  .show wpAny_Name (wpAny_loadName_free I.ok.kind hk hc Rl fin Tj) hd
def XO{i j pos}:PE X (.Constant (.int i) j pos) (tC (.int i)):=λ_ _ _ H _ I h=>wpAny_Constant_int {.int i,H,I.tok _,{_,Z},h}
def Kd{b j pos}:PE X (.Constant (.bool b) j pos) (tC (.bl b)):=λ_ _ _ H _ I h=>Constant_bool {.bl b,H,I,Z,h}
def MN{j pos}:PE X (.Constant .none j pos) (tC .non):=λ_ _ _ H _ I h=>Constant_none ⟨.non,H,I,Z,h⟩
def OH{x j pos}:PE X (.Constant (.str x) j pos) (tC (.str x)):=λ_ _ _ H _ I h=>Calls.Constant_str {.str x,H,I.tok _,{_,Z},h}
def Gl(X:Cx)(x:Str):(Prop):=X.L.kindOf x=some .globalImplicit
def Dy{E:Ae}{u:Value}{pos:Pos}{Q:Ae}(I:Inv X pins σ H s)(hg:Gl X x)(hm:X.mg x=some u)(h:Q u s)
  (hd:(x == ("__debug__":Str))=false:=by decide):wpAny (model X.prog X.w) X.A (eval (.Name x pos) X.L) Q E s:=
 tW I.ok.kind hg (Calls.loadGlobal_global (by rw[I.ok.glob];show I.mod.glob.keeps I.bk) hm h) hd
def Pu{E:Ae}{u:Value}{pos:Pos}{Q:Ae}(I:Inv X pins σ H s)(hg:Gl X x)(hm:X.mg x=none)(hv:bootBuiltins x=some u)(h:Q u s)
  (hn:x≠"__name__":=by decide)(hd:(x == ("__debug__":Str))=false:=by decide):wpAny (model X.prog X.w) X.A (eval (.Name x pos) X.L) Q E s:=by let(mb,h1,h2):=I.mod.blt;show tW I.ok.kind hg (Calls.loadGlobal_builtin (by rw[I.ok.glob];show I.mod.glob.keeps I.bk) hm (by rw[I.ok.blt];show h1.keeps I.bk) ((h2 x hn).m hv) h) hd
def Ie{u:Value}{pos:Pos}(hg:Gl X x)(hm:X.mg x=some u)(r:RelV v u)(hd:(x == ("__debug__":Str))=false:=by decide):PE X (.Name x pos) (tC v):=
 λ_ _ _ H _ I h=>Dy I hg hm ⟨v,H,I,r,h⟩ hd
def rZ{u:Value}{pos:Pos}(hg:Gl X x)(hm:X.mg x=none)(hv:bootBuiltins x=some u)(r:RelV v u)(hn:x≠"__name__":=by decide)(hd:(x == ("__debug__":Str))=false:=by decide):PE X (.Name x pos) (tC v):=
 λ_ _ _ H _ I h=>Pu I hg hm hv ⟨v,H,I,r,h⟩ hn hd
variable{a b:Expr}{ta tb:TE}{pos:Pos}
def PC(X:Cx)(op:CmpOp)(a b:Expr)(t:TE):(Prop):=
 ∀(pins:List (Addr×Obj))(s:Shared)(σ:St)(H:Hp)(Q:VK),Inv X pins σ H s->t σ H Q->
  wpAny (model X.prog X.w) X.A (eval a X.L) (λv s₁=>wpAny (model X.prog X.w) X.A (eval b X.L) (λu s₂=>wpAny (model X.prog X.w) X.A (compareOp op v u) (EP X pins σ Q) X.xe s₂) X.xe s₁) X.xe s
def tB(t:TE):(TT):=λσ H Q=>t σ H λx H1=>isB x H1 Q
def QG{e:Expr}{t:TE}(h:PE X e t)(he:∀whole,isTrue e X.L whole=(do let v <-whole;standAt e.pos;holding [v] (truthy v)):=by intro _;rfl):PT X e (tB t):=by intro pins s σ H Q I hw;show isTrue_plain (thn (h pins s σ H _ I hw) λv s1 zz=>?_) (he _);let(x,H1,I1,r1,q1):=zz;let(d,rfl,q):=q1;cases r1;show Mi ⟨H1,I1,q⟩
variable{tA w5:TT}{rest:List Expr}
def rY(t u:TT):(TT):=λσ H Q=>t σ H λc H1=>if c=true then u σ H1 Q else Q false H1
def tOr(t u:TT):(TT):=λσ H Q=>t σ H λc H1=>if c=true then Q true H1 else u σ H1 Q
def rX(t:TT):(TT):=λσ H Q=>t σ H λc H1=>Q (!c) H1
def dG(ha:PT X a tA):PW X (.BoolOp .And [a] pos) tA:=by
 intro wh pins s σ H Q I h;show isTrue_and (thn (ha pins s σ H Q I h) λc s1 e=>?_);cases c with
 |true=>show isTrue_and_nil e
 |false=>show e
def Dx(ha:PT X a tA):PW X (.BoolOp .Or [a] pos) tA:=by
 intro wh pins s σ H Q I h;show isTrue_or (thn (ha pins s σ H Q I h) λc s1 e=>?_);cases c with
 |false=>show isTrue_or_nil e
 |true=>show e
def Dw(ha:PT X a tA)(hb:PW X (.BoolOp .And (b::rest) pos) w5):PW X (.BoolOp .And (a::b::rest) pos) (rY tA w5):=by
 intro wh pins s σ H Q I h;show isTrue_and (thn (ha pins s σ H _ I h) λc s1 Xw=>?_);let(H1,I1,q1):=Xw;cases c with
 |true=>show hb wh pins s1 σ H1 Q I1 q1
 |false=>exists H1,I1,q1
def OG(ha:PT X a tA)(hb:PW X (.BoolOp .Or (b::rest) pos) w5):PW X (.BoolOp .Or (a::b::rest) pos) (tOr tA w5):=by
 intro wh pins s σ H Q I h;show isTrue_or (thn (ha pins s σ H _ I h) λc s1 Xw=>?_);let(H1,I1,q1):=Xw;cases c with
 |true=>exists H1,I1,q1
 |false=>show hb wh pins s1 σ H1 Q I1 q1
def Ic(ha:PT X a tA):PT X (.UnaryOp .Not a pos) (rX tA):=by intro pins s σ H Q I h;show isTrue_not (ha pins s σ H (λc H1=>Q (!c) H1) I h)
def rW(ta tb:TE):(TE):=λσ H Q=>ta σ H λx H1=>∃c,x=.bl c/\if c=true then tb σ H1 Q else Q (.bl false) H1
def rV(ta:TE):(TE):=λσ H Q=>ta σ H λx H1=>∃c,x=.bl c/\Q (.bl<|!c) H1
def Dv{op}(h:PE X a t):PE X (.BoolOp op [a] pos) t:=λpins s σ H Q I hw=>BoolOp_one (h pins s σ H Q I hw)
def Ib(ha:PE X a ta)(hb:PE X (.BoolOp .And (b::rest) pos) tb):PE X (.BoolOp .And (a::b::rest) pos) (rW ta tb):=by
 intro pins s σ H Q I h;show BoolOp_and (thn (ha pins s σ H _ I h) λv s1 Xw=>?_);let(x,H1,I1,r1,q1):=Xw;let(c,rfl,q1):=q1;cases r1;show Mi ?_;cases c with
 |true=>show hb pins s1 σ H1 Q I1 q1
 |false=>exists .bl false,H1,I1,Z,q1
def rT(ha:PE X a ta):PE X (.UnaryOp .Not a pos) (rV ta):=by intro pins s σ H Q I h;show UnaryOp_ (thn (ha pins s σ H _ I h) λv s1 Xw=>?_);let(x,H1,I1,r1,q1):=Xw;let(c,rfl,q1):=q1;cases r1;show not_of (Mi {.bl<|!c,H1,I1,Z,q1})
def tIf(t:TT)(ta tb:TE):(TE):=λσ H Q=>t σ H λc H1=>if c=true then ta σ H1 Q else tb σ H1 Q
def w4{c:Expr}(hc:PT X c tA)(ha:PE X a ta)(hb:PE X b tb):PE X (.IfExp c a b pos) (tIf tA ta tb):=by
 intro pins s σ H Q I h;show wpAny_IfExp (thn (hc pins s σ H _ I h) λd s1 Xw=>?_);let(H1,I1,q1):=Xw;cases d with
 |true=>show ha pins s1 σ H1 Q I1 q1
 |false=>show hb pins s1 σ H1 Q I1 q1
end
def SqL(K:Ad)(H:Hp)(a:Addr)(xs:List V):(Prop):=
 Rd H a (.lst xs)\/
  ∃(o:Obj)(XW:Array Value)(n:Nat),K.U a=some o/\o.cls=.type "list"/\o.dict=none/\o.data=.seq XW n/\XW.t<=sizeLine/\Vals xs XW.l
def SqT(K:Ad)(H:Hp)(a:Addr)(xs:List V):(Prop):=
 Rd H a (.tup xs)\/
  ∃(o:Obj)(XW:Array Value)(n:Nat),K.U a=some o/\o.cls=.type "tuple"/\o.data=.seq XW n/\XW.t<=sizeLine/\Vals xs XW.l
def rS:(Value->Option V)
 | .none=>some .non
 | .bool b=>some (.bl b)
 | .int i _=>some (.int i)
 | .str x _=>some (.str x)
 | .bytes b _=>some (.byt b)
 | .float b _=>some (.flt b)
 | .ref a=>some ↑a
 | .type n=>some (.ty n)
 |_=>none
def RelV.abs(r:RelV x u):rS u=some x:=by
 cases x with
 |non=>cases r;rfl
 |bl _=>cases r;rfl
 |int _=>let(t,rfl):=r;rfl
 |str _=>let(t,rfl):=r;rfl
 |byt _=>let(t,rfl):=r;rfl
 |flt _=>let(t,rfl):=r;rfl
 |ref _=>cases r;rfl
 |ty _=>cases r;rfl
def RelV.inj(r:RelV x u)(q:RelV y u):x=y:=Yk (r.abs.symm.m q.abs)
def Vals.inj{xs ys:List V}{us:Ag}(h:Vals xs us)(h':Vals ys us):xs=ys:=by
 induction h generalizing ys with
 |nil=>cases h';rfl
 |cons r t ih=>cases h' with
  |cons r' t'=>rw[r.inj r',ih t']
section
variable{X:Cx}{pins:List (Addr×Obj)}{σ:St}{H:Hp}{s:Shared}{a:Addr}{xs ys:List V}
def SqL.of{K:Ad}(h:H a=some (.lst xs)):SqL K H a xs:=.inl (.inl h)
def SqT.of{K:Ad}(h:H a=some (.tup xs)):SqT K H a xs:=.inl (.inl h)
def Inv.list(I:Inv X pins σ H s)(h:SqL X.K H a xs):∃XW:Ag,Vals xs XW/\PlainL s.D a XW.C/\xs.f<=sizeLine:=by
 rcases h with h|⟨o,XW,n,hk,hc,hd,hs,hz,r⟩
 .let⟨z,XW,n,r,e⟩:=h.ok I.hok;exists XW,r,{_,n,e,Z,Z,Z},z
 .exists XW.l,r,{o,n,I.kIn a o hk,hc,hd,by simpa using hs},?_;let e:=r.f
  simp only[Ys]at e;lia
def Inv.tuple(I:Inv X pins σ H s)(h:SqT X.K H a xs):∃XW:Ag,Vals xs XW/\IsTup s.D a XW.C/\xs.f<=sizeLine:=by
 rcases h with h|⟨o,XW,n,hk,hc,hs,hz,r⟩
 .let⟨z,XW,r,p⟩:=h.ok I.hok;exists XW,r,p,z
 .exists XW.l,r,{o,I.kIn a o hk,hc,n,by simpa using hs},?_;let e:=r.f
  simp only[Ys]at e;omega
def Inv.list_inj(I:Inv X pins σ H s)(h:SqL X.K H a xs)(h':SqL X.K H a ys):xs=ys:=by
 let(XW,r,(o,n,e,_,_,d),_):=I.list h;let(its',r',(o',n',e',_,_,d'),_):=I.list h';rw[e]at e';cases e';rw[d]at d';injection d' with d1 _
 have:XW=its':=by simpa using QP Array.toList d1
 subst this;show r.inj r'
def Inv.tuple_inj(I:Inv X pins σ H s)(h:SqT X.K H a xs)(h':SqT X.K H a ys):xs=ys:=by
 let(XW,r,(o,e,_,n,d),_):=I.tuple h;let(its',r',(o',e',_,n',d'),_):=I.tuple h';rw[e]at e';cases e';rw[d]at d';injection d' with d1 _
 have:XW=its':=by simpa using QP Array.toList d1
 subst this;show r.inj r'
end
abbrev Cx.wish(X:Cx)(E:Ae):Cx:={X with xe:=E}
abbrev Cx.nox(X:Cx):Cx:=X.wish λ_ _=>False
def Cx.Ok.wish{X:Cx}(ok:X.Ok)(E:Ae):(X.wish E).Ok:=
 ⟨ok.mod,ok.kind,ok.glob,ok.blt,ok.above,ok.inj,ok.has,ok.cab,ok.hd,ok.frames,ok.stk,ok.exf,ok.bs,ok.bsz,ok.noex,ok.exfs,ok.funs,ok.frf⟩
def Cx.Ok.unwish{X:Cx}{E:Ae}(ok:(X.wish E).Ok):X.Ok:=
 ⟨ok.mod,ok.kind,ok.glob,ok.blt,ok.above,ok.inj,ok.has,ok.cab,ok.hd,ok.frames,ok.stk,ok.exf,ok.bs,ok.bsz,ok.noex,ok.exfs,ok.funs,ok.frf⟩
section
variable{X:Cx}{pins:List (Addr×Obj)}{σ:St}{H:Hp}{s:Shared}{E:Ae}
def Inv.wish(I:Inv X pins σ H s)(E:Ae):Inv (X.wish E) pins σ H s:={I.ok.wish E,I.os,I.bare,I.base,I.loc,I.cell,I.free,I.freeC,I.pin,I.hok,I.len}
def Inv.unwish(I:Inv (X.wish E) pins σ H s):Inv X pins σ H s:=⟨I.ok.unwish,I.os,I.bare,I.base,I.loc,I.cell,I.free,I.freeC,I.pin,I.hok,I.len⟩
def SP.unwish(h:SP (X.wish E) pins D f s'):SP X pins D f s':=by
 cases f with
 |next=>let(σ',H',I,q):=h;exists σ',H',I.unwish,q
 |brk=>let(σ',H',I,q):=h;exists σ',H',I.unwish,q
 |cont=>let(σ',H',I,q):=h;exists σ',H',I.unwish,q
 |ret u=>let(v,σ',H',I,r,q):=h;exists v,σ',H',I.unwish,r,q
def PSs.nox{st:List Stmt}{t:TS}(h:PSs X.nox st t):PSs X st t:=λpins s σ H D I hw=>
 Ud (h pins s σ H D (I.wish _) hw) (λ_ _ q=>q.unwish) λ_ _ z=>False.elim z
end
section
variable{X:Cx}{st:Stmt}{rest:List Stmt}{t u:TS}{e:Expr}{te:TE}{pos:Pos}
def rR:(TS):=λD σ H=>D.nx σ H
def TF(t u:TS):(TS):=λD σ H=>t {D with nx:=u D} σ H
def Zp:PSs X [] rR:=λ_ _ σ H _ I h=>DO ⟨σ,H,I,h⟩
def XM(h1:PS X st t)(h2:PSs X rest u):PSs X (st::rest) (TF t u):=by
 intro pins s σ H D I h;show wpAny_execs_cons (thn (h1 pins s σ H {D with nx:=u D} I h) λf s1 q=>?_);cases f with
 |next=>
  let(σ',H',I',q):=q;show h2 pins s1 σ' H' D I' q
 |ret v=>show q
 |brk=>show q
 |cont=>show q
def XH(h1:PS X st t):PSs X [st] t:=by
 intro pins s σ H D I h;show wpAny_execs_cons (thn (h1 pins s σ H D I h) λf s1 q=>?_);cases f with
 |next=>show DO q
 |ret v=>show q
 |brk=>show q
 |cont=>show q
def Inv.quiet(I:Inv X pins σ H s):interactive X.L=false:=by simp[interactive,I.ok.kind]
def rQ(te:TE):(TS):=λD σ H=>te σ H λ_ H1=>D.nx σ H1
def ZU(he:PE X e te)(hs:swapsWith e none pos.line X.L=pure false:=by rfl):PS X (.Expr e pos) (rQ te):=by intro pins s σ H D I h;show wpAny_Expr_any (thn (he pins s σ H _ I h) λv s1 zz=>by let(x,H1,I1,r1,q1):=zz;exists σ,H1,I1,q1) I.quiet hs
def Du(te:TE):(TS):=λD σ H=>te σ H D.rt
def Zj(he:PE X e te):PS X (.Return (some e) pos) (Du te):=by intro pins s σ H D I h;show wpAny_Return_some (thn (he pins s σ H _ I h) λv s1 zz=>by let(x,H1,I1,r1,q1):=zz;exists x,σ,H1,I1,r1,q1)
def Dt(c:TT)(t u:TS):(TS):=λD σ H=>c σ H λb H1=>if b=true then t D σ H1 else u D σ H1
def Xz{c:Expr}{a b:List Stmt}{tc:TT}(hc:PT X c tc)(ha:PSs X a t)(hb:PSs X b u):PS X (.If c a b pos) (Dt tc t u):=by
 intro pins s σ H D I h;show wpAny_If (thn (hc pins s σ H _ I h) λd s1 Xw=>?_);let(H1,I1,q1):=Xw;cases d with
 |true=>show ha pins s1 σ H1 D I1 q1
 |false=>show hb pins s1 σ H1 D I1 q1
def rP:(TS):=λ_ _ _=>False
def QF:PS X st rP:=λ_ _ _ _ _ _ h=>h.elim
end
abbrev TG:=V->St->Hp->(St->Hp->Prop)->Prop
abbrev Ia:=List V->St->Hp->(St->Hp->Prop)->Prop
def PG(X:Cx)(target:Expr)(t:TG):(Prop):=
 ∀(pins:List (Addr×Obj))(s:Shared)(σ:St)(H:Hp)(v:V)(u:Value)(Q:St->Hp->Prop),Inv X pins σ H s->RelV v u->t v σ H Q->
  wpAny (model X.prog X.w) X.A (assign target X.L u) (λ_ s'=>∃σ' H',Inv X pins σ' H' s'/\Q σ' H') X.xe s
def Ds(X:Cx)(ts:List Expr)(t:Ia):(Prop):=
 ∀(pins:List (Addr×Obj))(s:Shared)(σ:St)(H:Hp)(vs:List V)(us:Ag)(Q:St->Hp->Prop),Inv X pins σ H s->Vals vs us->t vs σ H Q->
  wpAny (model X.prog X.w) X.A (assignInOrder ((assignEach ts X.L).R (·.2)) us) (λ_ s'=>∃σ' H',Inv X pins σ' H' s'/\Q σ' H') X.xe s
abbrev OF:=V->V->V->Hp->(Hp->Prop)->Prop
def HZ(X:Cx)(t:OF):(Prop):=
 ∀(pins:List (Addr×Obj))(s:Shared)(σ:St)(H:Hp)(o i v:V)(ov iv u:Value)(Q:Hp->Prop),Inv X pins σ H s->RelV o ov->RelV i iv->RelV v u->t o i v H Q->
  wpAny (model X.prog X.w) X.A (setItem ov iv u) (λ_ s'=>∃H',Inv X pins σ H' s'/\Q H') X.xe s
abbrev wZ:=V->V->Hp->VK->Prop
def rO(X:Cx)(op:Operator)(t:wZ):(Prop):=
 ∀(pins:List (Addr×Obj))(s:Shared)(σ:St)(H:Hp)(x y:V)(v u:Value)(Q:VK),Inv X pins σ H s->RelV x v->RelV y u->t x y H Q->
  wpAny (model X.prog X.w) X.A (inplaceOp op v u) (EP X pins σ Q) X.xe s
section
variable{X:Cx}{pos:Pos}
def LQ(i:Nat):(TG):=λv σ H Q=>Q (σ.set i<|some v) H
def rN{x:Str}(hN:X.N.Nodup)(hi:X.N[i]?=some x)(hx:Loc X.L.scope x)(hf:X.fn x=true\/X.L.scope.names.U x=some .local:=by first|show .inl rfl|show .inr rfl|assumption):PG X (.Name x pos) (LQ i):=by intro pins s σ H v u Q I r h;show wpAny_assign_Name (r9 I hN hi hx r (λs' I'=>{_,H,I',h}) hf)
def Zc(i:Nat){x:Str}(hN:decide X.N.Nodup=true:=by kernel_rfl)(hi:X.N[i]?=some x:=by rfl)(hx:Loc X.L.scope x:=by show .inl rfl)(hf:X.fn x=true\/X.L.scope.names.U x=some .local:=by first|show .inl rfl|show .inr rfl|assumption):PG X (.Name x pos) (LQ i):=rN (YG hN) hi hx hf
inductive gNil(vs:List V)(σ:St)(H:Hp)(Q:St->Hp->Prop):Prop
 |mk  (_:vs=[]) (_:Q σ H)
inductive gCons(t:TG)(u:Ia)(vs:List V)(σ:St)(H:Hp)(Q:St->Hp->Prop):Prop
 |mk (v r:_) (_:vs=v::r) (_:t v σ H λσ' H'=>u r σ' H' Q)
def QE:Ds X [] gNil:=by intro pins s σ H vs us Q I r h;let(e,h):=h;subst e;cases r;show assignInOrder_nil ⟨σ,H,I,h⟩
def Zr{e:Expr}{es:List Expr}{t:TG}{u:Ia}(h1:PG X e t)(h2:Ds X es u)
  (hs:(assignEach (e::es) X.L).R (·.2)=assign e X.L::(assignEach es X.L).R (·.2):=by rfl):Ds X (e::es) (gCons t u):=by
 intro pins s σ H vs us Q I r h;let(v,vr,e1,h):=h;subst e1;cases r with
 |cons r rr=>
  rw[hs];show assignInOrder_cons (thn (h1 pins s σ H _ _ _ I r h) λ_ s1 Xw=>?_);let(σ1,H1,I1,q1):=Xw;show h2 pins s1 σ1 H1 _ _ Q I1 rr q1
inductive gTup(K:Ad)(n:Nat)(t:Ia)(v:V)(σ:St)(H:Hp)(Q:St->Hp->Prop):Prop
 |mk (a xs:_) (_:v=.ref a) (_:SqT K H a xs) (_:xs.f=n) (_:t xs σ H Q)
def rM{k:Nat}(hc:X.calm=true)(h:Ds X es t)
  (hn:(assignEach es X.L).f=n:=by rfl)(WV:(assignEach es X.L).findIdx? (·.1)=none:=by rfl):PG X (.Tuple es k pos) (gTup X.K n t):=by
 intro pins s σ H v u Q I r hw;let(a,xs,e1,hq,hl,hw):=hw;subst e1;cases r;let(XW,rv,ht,hz):=I.tuple hq;show assign_Tuple_tuple (I.ok.hd hc) ht (by simp[hn,<-hl,rv.length]) WV λh' hx=>?_;let I1:Inv X pins σ H {s with heap:=h'}:=I.kept (t':=s.toks) λb o e=>hx b o (YA<|Ym e) e
 show h pins _ σ H xs _ Q I1 (by simpa using rv) hw
def rL(to ti:TE)(t:OF):(TG):=λv σ H Q=>to σ H λo H1=>ti σ H1 λi H2=>t o i v H2 λH3=>Q σ H3
def Dr{o i:Expr}{to ti:TE}{t:OF}(ho:PE X o to)(hi:PE X i ti)(hs:HZ X t)
  (ha:∀v,assign (.Subscript o i pos) X.L v=(do
   let ov <-holding [v] (eval o X.L)
   let iv <-holding [v,ov] (eval i X.L)
   standAt pos
   holding [v,ov,iv] (setItem ov iv v)
   release [v,ov,iv] []):=by intro _;rfl):PG X (.Subscript o i pos) (rL to ti t):=by intro pins s σ H v u Q I r h;rw[ha];show XU (Sd<|thn (ho pins s σ H _ I h) λov s1 Xw=>?_);let(x,H1,I1,r1,q1):=Xw;show XU (Sd<|thn (hi pins s1 σ H1 _ I1 q1) λiv s2 Xw=>?_);let(y,H2,I2,r2,q2):=Xw;show XU (wpAny_standAt<|XU<|Sd<|thn (hs pins s2 σ H2 x y v ov iv u _ I2 r1 r2 r q2) λ_ s3 Xw=>?_);let(H3,I3,q3):=Xw;show wpAny_release ⟨σ,H3,I3,q3⟩
def LP(te:TE)(g:TG):(TS):=λD σ H=>te σ H λx H1=>g x σ H1 D.nx
def Dq{tg e:Expr}{te:TE}{g:TG}(he:PE X e te)(hg:PG X tg g)(hs:swapsWithSole [tg] e pos.line X.L=pure false:=by rfl)(hw:swappedStores [tg] e X.L=pure none:=by rfl)
  (h1:(assignEach [tg] X.L).R (·.2)=[assign tg X.L]:=by rfl):PS X (.Assign [tg] e pos) (LP te g):=by intro pins s σ H D I h;show wpAny_Assign_stores (thn (he pins s σ H _ I h) λv s1 Xw=>?_) hs hw;let(x,H1,I1,r1,q1):=Xw;rw[h1];show thn (hg pins s1 σ H1 x v _ I1 r1 q1) λ_ s2 q=>q
def Ti{i:Nat}{x:Str}{e:Expr}{te:TE}{pos':Pos}(hN:X.N.Nodup)(hi:X.N[i]?=some x)(hx:Loc X.L.scope x)(he:PE X e te)(hs:swapsWith e (some (.Name x pos')) pos.line X.L=pure false:=by rfl)(hf:X.fn x=true\/X.L.scope.names.U x=some .local:=by first|show .inl rfl|show .inr rfl|assumption):
  PS X (.Assign [.Name x pos'] e pos) (LP te<|LQ i):=by intro pins s σ H D I h;show wpAny_Assign_Name (thn (he pins s σ H _ I h) λv s1 Xw=>?_) hs;let(y,H1,I1,r1,q1):=Xw;show r9 I1 hN hi hx r1 (λs2 I2=>{_,H1,I2,q1}) hf
def Zg(i:Nat){x:Str}{e:Expr}{te:TE}{pos':Pos}(he:PE X e te)(hN:decide X.N.Nodup=true:=by kernel_rfl)(hi:X.N[i]?=some x:=by rfl)(hx:Loc X.L.scope x:=by show .inl rfl)(hs:swapsWith e (some<|.Name x pos') pos.line X.L=pure false:=by rfl)(hf:X.fn x=true\/X.L.scope.names.U x=some .local:=by first|show .inl rfl|show .inr rfl|assumption):PS X (.Assign [.Name x pos'] e pos) (LP te<|LQ i):=Ti (YG hN) hi hx he hs hf
def rK(to ti te:TE)(tget:V->V->Hp->VK->Prop)(wY:wZ)(tset:OF):(TS):=λD σ H=>to σ H λo H1=>ti σ H1 λi H2=>tget o i H2 λx H3=>te σ H3 λy H4=>wY x y H4 λz H5=>tset o i z H5 λH6=>D.nx σ H6
def Dp(X:Cx)(t:V->V->Hp->VK->Prop):(Prop):=
 ∀(pins:List (Addr×Obj))(s:Shared)(σ:St)(H:Hp)(o i:V)(ov iv:Value)(Q:VK),Inv X pins σ H s->RelV o ov->RelV i iv->t o i H Q->
  wpAny (model X.prog X.w) X.A (getItem ov iv) (EP X pins σ Q) X.xe s
def wX{o i e:Expr}{to ti te:TE}{tget:V->V->Hp->VK->Prop}{wY:wZ}{tset:OF}{op:Operator}{RI:Pos}(ho:PE X o to)(hi:PE X i ti)(hg:Dp X tget)(he:PE X e te)(hp:rO X op wY)(hs:HZ X tset)
  (ha:∀ov iv new,augStore i ov iv new=(do holding [new,ov,iv] (setItem ov iv new);release [new,ov,iv] [];pure .next):=by intros;rfl):PS X (.AugAssign (.Subscript o i RI) op e pos) (rK to ti te tget wY tset):=by intro pins s σ H D I h;show wpAny_AugAssign_SubscriptAny (thn (ho pins s σ H _ I h) λov s1 Xw=>?_) ha;let(x1,H1,I1,r1,q1):=Xw;show thn (hi pins s1 σ H1 _ I1 q1) λiv s2 Xw=>?_;let(x2,H2,I2,r2,q2):=Xw;show thn (hg pins s2 σ H2 x1 x2 ov iv _ I2 r1 r2 q2) λold s3 Xw=>?_;let(x3,H3,I3,r3,q3):=Xw;show thn (he pins s3 σ H3 _ I3 q3) λv s4 Xw=>?_;let(x4,H4,I4,r4,q4):=Xw;show thn (hp pins s4 σ H4 x3 x4 old v _ I4 r3 r4 q4) λnew s5 Xw=>?_;let(x5,H5,I5,r5,q5):=Xw;show thn (hs pins s5 σ H5 x1 x2 x5 ov iv new _ I5 r1 r2 r5 q5) λ_ s6 zz=>by let(H6,I6,q6):=zz;exists σ,H6,I6,q6
def dF(f:Int->Int->Int):(wZ):=λx y H Q=>∃i j,x=.int i/\y=.int j/\Q (.int<|f i j) H
def Dn:rO X .Add (dF λi j=>i+j):=by intro pins s σ H x y v u Q I r1 r2 h;let(i,j,e1,e2,q):=h;subst e1;subst e2;let(t,rfl):=r1;let(t',rfl):=r2;show iadd_int {.int _,H,I.tok _,{_,Z},q}
def Dm:rO X .Sub (dF λi j=>i-j):=by intro pins s σ H x y v u Q I r1 r2 h;let(i,j,e1,e2,q):=h;subst e1;subst e2;let(t,rfl):=r1;let(t',rfl):=r2;show isub_int {.int _,H,I.tok _,{_,Z},q}
def rJ(c:TT)(tb:TS):(TS):=λD σ H=>∃W:Nat->St->Hp->Prop,(∃m,W m σ H)/\∀m σ H,W m σ H->
 c σ H λb H1=>if b=true then ∃N:St->Hp->Prop,(∀σ' H',N σ' H'->∃m',m'<m/\W m' σ' H')/\tb {D with nx:=N,ct:=N,bk:=D.nx} σ H1 else D.nx σ H1
def rH{c:Expr}{body:List Stmt}{tc:TT}{tb:TS}(hp:PassesOwn (model X.prog X.w) X.A X.L X.xe)(hc:PT X c tc)(hb:PSs X body tb):PS X (.While c body [] pos) (rJ tc tb):=by
 intro pins s σ H D I h;let(W,(m0,w0),turn):=h;show wpAny_While (codeAny_whileLoop (λn s'=>∃σ' H',Inv X pins σ' H' s'/\W n σ' H') ?_ m0 ⟨σ,H,I,w0⟩);rintro n s1 ⟨σ1,H1,I1,w1⟩;show IF hp (thn (hc pins s1 σ1 H1 _ I1<|turn n σ1 H1 w1) λb s2 Xw=>?_);let(H2,I2,q2):=Xw;cases b with
 |true=>
  let(N,hN,q2):=q2;rw[if_pos Z];show IF hp (thn (hb pins s2 σ1 H2 _ I2 q2) λf s3 q3=>?_);cases f with
  |next=>
   let(σ3,H3,I3,n3):=q3;let(m',hm,w3):=hN σ3 H3 n3;exists m',hm,σ3,H3,I3,w3
  |cont=>
   let(σ3,H3,I3,n3):=q3;let(m',hm,w3):=hN σ3 H3 n3;exists m',hm,σ3,H3,I3,w3
  |brk=>show q3
  |ret v=>show q3
 |false=>
  rw[if_neg YC];show DO ⟨σ1,H2,I2,q2⟩
end
structure It where
 go:Nat->Hp->Prop
 yld:Nat->Hp->V->Hp->Prop
 stop:Nat->Hp->Prop
def FpOk(X:Cx)(pins:List (Addr×Obj))(H:Hp)(b:Addr):(Prop):=
 H b=none/\b≠X.L.locals/\b∉X.fs/\(b∈X.ex\/(~~~X.s₀)<=b)/\(∀x c,X.L.cells.U x=some c->c≠b)/\∀p∈X.pn++pins,p.1≠b
def Inv.fpOk{b:Addr}(I:Inv X pins σ H s)(hb:(~~~s)<=b)(hn:H' b=none):FpOk X pins H' b:=by
 exists hn,Vp<|Yq I.lt hb,I.nofs hb,.inr<|Yj I.sz hb,λx c e z=>?_,λp hp z=>?_
 .let⟨v,q⟩:=I.cell x c e;show absurd (Yq q.lt<|by rwa[z]) (QL _)
 .show absurd (Yq (Ym (I.pin p hp).1)<|by rwa[z]) (QL _)
structure Turn(P:Program)(w:World)(K:Ad)(tg:Expr)(AP:It)(fp:List Addr)(it:Addr)(tn:Nat->Heap->Prop):Prop where
 mem:it∈fp
 obj:∀i h,tn i h->∀b∈fp,∃o,h.G b=some o/\∀v,o.data≠.cell v
 keep:∀i h h',tn i h->(∀b∈fp,∀o,h.G b=some o->h'.G b=some o)->tn i h'
 item:∀(X:Cx),X.prog=P->X.w=w->X.K=K->X.calm=true->∀(i:Nat)(pins:List (Addr×Obj))(s:Shared)(σ:St)(H:Hp)(E:Ae),Inv X pins σ H s->(∀b∈fp,FpOk X pins H b)->tn i s.D->AP.go i H->
  wpAny (model P w) X.A (pyNext<|.ref it) (λr s1=>∃u,r=some u/\
   wpAny (model P w) X.A (letOwnedTupleGo tg ↑it u) (λ_ s2=>∃x H',Inv X pins σ H' s2/\RelV x u/\AP.yld i H x H'/\tn (i+1) s2.D/\∀b∈fp,H' b=none) E s1) E s
 done:∀(X:Cx),X.prog=P->X.w=w->X.K=K->X.calm=true->∀(i:Nat)(pins:List (Addr×Obj))(s:Shared)(σ:St)(H:Hp)(E:Ae),Inv X pins σ H s->(∀b∈fp,FpOk X pins H b)->tn i s.D->AP.stop i H->
  wpAny (model P w) X.A (pyNext<|.ref it) (λr s1=>r=none/\Inv X pins σ H s1) E s
 self:∀(A:Around)(i:Nat)(s:Shared)(Q:Ae)(E:Ae),tn i s.D->Q ↑it s->wpAny (model P w) A (pyIter<|.ref it) Q E s
abbrev TI:=St->Hp->(It->Hp->Prop)->Prop
def dE(X:Cx)(pins:List (Addr×Obj))(σ:St)(tg:Expr)(R:It->Hp->Prop)(rG:Value)(s2:Shared):(Prop):=
 ∃(it:Addr)(fp:List Addr)(tn:Nat->Heap->Prop)(AP:It)(H':Hp),rG=.ref it/\Inv X pins σ H' s2/\Turn X.prog X.w X.K tg AP fp it tn/\tn 0 s2.D/\(∀b∈fp,FpOk X pins H' b)/\R AP H'
def PI(X:Cx)(tg iter:Expr)(wi:TI):(Prop):=
 ∀(pins:List (Addr×Obj))(s:Shared)(σ:St)(H:Hp)(R:It->Hp->Prop),Inv X pins σ H s->wi σ H R->
  wpAny (model X.prog X.w) X.A (eval iter X.L) (λv s1=>wpAny (model X.prog X.w) X.A (pyIter v) (dE X pins σ tg R) X.xe s1) X.xe s
def HY{E:Ae}{s:Shared}{it:Addr}{o:Obj}{n:String}{vs:Array Value}{Q:Unit->Shared->Prop}(ho:s.D.G it=some o)(hc:o.cls=.type n)(hd:o.data=.fields vs)
  (hn:["enumerate","zip","dict_itemiterator","dict_reverseitemiterator","odict_iterator","itertools.zip_longest","itertools.pairwise"].contains n=false)(hQ:Q () s):wpAny M A (letOwnedTupleGo tg ↑it u) Q E s:=by
 unfold letOwnedTupleGo;cases tg<;>first
  |show Yh hQ
  | (cases u<;>first
    |show Yh hQ
    | (show XU (DD ho ?_)
       rw[hc,hd];change wpAny M A (if (["enumerate","zip","dict_itemiterator","dict_reverseitemiterator","odict_iterator","itertools.zip_longest","itertools.pairwise"].contains n&&vs[0]? == some (rawInt _))=true then _ else _) Q E s
       rw[if_neg (by intro h;rw[hn,Bool.false_and]at h;cases h)];show Yh hQ))
def OE(K:Ad)(a:Addr):(It):=
 {λi H=>∃xs x,SqL K H a xs/\xs[i]?=some x,λi H x H'=>H'=H/\∀xs,SqL K H a xs->xs[i]?=some x,λi H=>∃xs,SqL K H a xs/\xs.f<=i}
def OD(K:Ad)(a:Addr):(It):=
 {λi H=>∃xs x,SqT K H a xs/\xs[i]?=some x,λi H x H'=>H'=H/\∀xs,SqT K H a xs->xs[i]?=some x,λi H=>∃xs,SqT K H a xs/\xs.f<=i}
def HX(lo:Int)(n:Nat):(It):={λi _=>i<n,λi H x H'=>H'=H/\x=.int (lo+i),λi _=>n<=i}
def dD{P:Program}{w:World}{K:Ad}{tg:Expr}(a it:Addr):Turn P w K tg (OE K a) [it] it (λi h=>h.IsListIter it a i) where
 mem:=B
 obj:=λi h st b hb=>by
  let e:b=it:=by simpa using hb
  subst e;let(o,e,c,d):=st;exists o,e,λv z=>by rw[d]at z;cases z
 keep:=λi h h' st k=>st.at λo e=>k it B o e
 item:=by
  intro X hP hw hK hc i pins s σ H E I hf st hg;subst hP hw hK;let(xs,x,hq,hx):=hg;let(XW,rv,p,hz):=I.list hq;let(u,hu,ru):=rv.get hx;let(f0,f1,f2,f3,f4,f5):=hf it B;show wpAny_pyNext_list_item st p.isList (x:=u) (by simpa using hu) λh' XQ sb=>?_;let I1:Inv X pins σ H {s with heap:=h'}:=I.turned (t':=s.toks) (λb o hb e=>(sb.2 b hb).m e) f0 f1 f3 f4 f5
  let(o,e,c,d):=id XQ;exists u,Z,HY (s:={s with heap:=h'}) e c d su {x,H,I1,ru,{Z,λys hy=>by rwa[I.list_inj hy hq]},XQ,λb hb=>(hf b hb).1}
 done:=by
  intro X hP hw hK hc i pins s σ H E I hf st hg;subst hP hw hK;let(xs,hq,hx):=hg;let(XW,rv,p,hz):=I.list hq;let(f0,f1,f2,f3,f4,f5):=hf it B;let hl:=rv.f
  show wpAny_pyNext_list_end (I.ok.hd hc) st p.isList (by simp;lia) λh' eb=>{Z,I.turned (t':=s.toks) (λb o hb e=>eb b o hb e) f0 f1 f3 f4 f5}
 self:=λ_ _ _ _ _ st h=>wpAny_pyIter_listiter st h
def dC{P:Program}{w:World}{K:Ad}{tg:Expr}(a it:Addr):Turn P w K tg (OD K a) [it] it (λi h=>h.IsTupleIter it a i) where
 mem:=B
 obj:=λi h st b hb=>by
  let e:b=it:=by simpa using hb
  subst e;let(o,e,c,d):=st;exists o,e,λv z=>by rw[d]at z;cases z
 keep:=λi h h' st k=>st.at λo e=>k it B o e
 item:=by
  intro X hP hw hK hc i pins s σ H E I hf st hg;subst hP hw hK;let(xs,x,hq,hx):=hg;let(XW,rv,p,hz):=I.tuple hq;let(u,hu,ru):=rv.get hx;let(f0,f1,f2,f3,f4,f5):=hf it B;show wpAny_pyNext_tuple_item st (show s.D.IsTuple a XW.C from p) (x:=u) (by simpa using hu) λh' XQ sb=>?_;let I1:Inv X pins σ H {s with heap:=h'}:=I.turned (t':=s.toks) (λb o hb e=>(sb.2 b hb).m e) f0 f1 f3 f4 f5
  let(o,e,c,d):=id XQ;exists u,Z,HY (s:={s with heap:=h'}) e c d su {x,H,I1,ru,{Z,λys hy=>by rwa[I.tuple_inj hy hq]},XQ,λb hb=>(hf b hb).1}
 done:=by
  intro X hP hw hK hc i pins s σ H E I hf st hg;subst hP hw hK;let(xs,hq,hx):=hg;let(XW,rv,p,hz):=I.tuple hq;let(f0,f1,f2,f3,f4,f5):=hf it B;let hl:=rv.f
  show wpAny_pyNext_tuple_end (I.ok.hd hc) st (show s.D.IsTuple a XW.C from p) (by simp;omega) λh' eb=>{Z,I.turned (t':=s.toks) (λb o hb e=>eb b o hb e) f0 f1 f3 f4 f5}
 self:=λ_ _ _ _ _ st h=>wpAny_pyIter_tupleiter st h
def Zs6{P:Program}{w:World}{K:Ad}{tg:Expr}(it:Addr)(lo:Int)(n:Nat):Turn P w K tg (HX lo n) [it] it (λi h=>IsRangeIter h it (lo+(i:Nat)*1) ((n:Int)-(i:Nat)) 1) where
 mem:=B
 obj:=λi h st b hb=>by
  let e:b=it:=by simpa using hb
  subst e;exists _,st,λv z=>by let z':Data.fields _=Data.cell v:=z;cases z'
 keep:=λi h h' st k=>k it B _ st
 item:=by
  intro X hP hw hK hc i pins s σ H E I hf st hg;subst hP hw hK;let(f0,f1,f2,f3,f4,f5):=hf it B;let W:=Walks.range (prog:=X.prog) (w:=X.w) (I.ok.hd hc) it lo 1 n
  show W.item i s _ _ hg st λv h' tk hv XQ kk=>?_;let(t,rfl):=hv;let I1:Inv X pins σ H {s with heap:=h',toks:=tk}:=I.turned (λb o hb e=>kk b o (by simpa using hb) e) f0 f1 f3 f4 f5
  exists _,Z,HY (s:={s with heap:=h',toks:=tk}) (n:="range_iterator") XQ Z Z su {.int<|lo+i,H,I1,{t,?_},⟨Z,Z⟩,XQ,λb hb=>(hf b hb).1};rw[Ma]
 done:=by intro X hP hw hK hc i pins s σ H E I hf st hg;subst hP hw hK;let(f0,f1,f2,f3,f4,f5):=hf it B;show wpAny_pyNext_range_end (I.ok.hd hc) st (by have:n<=i:=hg;lia) λh' eb=>{Z,I.turned (t':=s.toks) (λb o hb e=>eb b o hb e) f0 f1 f3 f4 f5}
 self:=λ_ _ _ _ _ st h=>wpAny_pyIter_rangeiter st h
section
variable{X:Cx}{tg:Expr}
inductive xList(K:Ad)(x:V)(H1:Hp)(R:It->Hp->Prop):Prop
 |mk (a:_) (_:x=.ref a) (_:∃xs,SqL K H1 a xs) (_:R (OE K a) H1)
def Dl(K:Ad)(tl:TE):(TI):=λσ H R=>tl σ H λx H1=>xList K x H1 R
inductive xTpl(K:Ad)(x:V)(H1:Hp)(R:It->Hp->Prop):Prop
 |mk (a:_) (_:x=.ref a) (_:∃xs,SqT K H1 a xs) (_:R (OD K a) H1)
def Dk(K:Ad)(tl:TE):(TI):=λσ H R=>tl σ H λx H1=>xTpl K x H1 R
def rF{l:Expr}{tl:TE}(hl:PE X l tl):PI X tg l (Dl X.K tl):=by
 intro pins s σ H R I h;show thn (hl pins s σ H _ I h) λv s1 Xw=>?_;let(x,H1,I1,r1,q1):=Xw;let(a,e,(xs,hq),q):=q1;subst e;cases r1;let(XW,rv,p,hz):=I1.list hq;show sR p.isList ?_;exists (~~~s1),[(~~~s1)],_,_,H1,Z,I1.kept (t':=s1.toks) λb o e=>Xf _ e,dD a _,{_,Yp _ Z,Z,Z},λb hb=>?_,q;let e:b=(~~~s1):=by simpa using hb
 subst e;show I1.fpOk (XI _) (I1.hok.fresh<|XI _)
def rE{l:Expr}{tl:TE}(hl:PE X l tl):PI X tg l (Dk X.K tl):=by
 intro pins s σ H R I h;show thn (hl pins s σ H _ I h) λv s1 Xw=>?_;let(x,H1,I1,r1,q1):=Xw;let(a,e,(xs,hq),q):=q1;subst e;cases r1;let(XW,rv,p,hz):=I1.tuple hq;show wpAny_pyIter_tuple (show s1.D.IsTuple a XW.C from p) ?_;exists (~~~s1),[(~~~s1)],_,_,H1,Z,I1.kept (t':=s1.toks) λb o e=>Xf _ e,dC a _,{_,Yp _ Z,Z,Z},λb hb=>?_,q;let e:b=(~~~s1):=by simpa using hb
 subst e;show I1.fpOk (XI _) (I1.hok.fresh<|XI _)
def rD{R:It->Hp->Prop}{E:Ae}{lo hi:Int}{t u v:Tok}{tk:Nat}(I:Inv X pins σ H s)(h1:-(2^62)<=lo)(h2:lo<2^62)(h3:-(2^62)<=hi)(h4:hi<2^62)
  (q:R (HX lo (hi-lo).j) H):wpAny (model X.prog X.w) X.A (pyIter<|.ref (~~~s)) (dE X pins σ tg R) E {s with heap:=s.D.push {cls:=.type "range",data:=.fields #[.int lo t,.int hi u,.int 1 v]},toks:=tk}:=by
 show wpAny_pyIter_range (IsRange.new ..) (small_one h1 h2 h3 h4) ?_;let I1:Inv X pins σ H {s with heap:=s.D.push {cls:=.type "range",data:=.fields #[.int lo t,.int hi u,.int 1 v]},toks:=tk}:=I.kept λb o e=>Xf _ e
 show⟨(s.D.push {cls:=.type "range",data:=.fields #[.int lo t,.int hi u,.int 1 v]}).objs.t,[(s.D.push {cls:=.type "range",data:=.fields #[.int lo t,.int hi u,.int 1 v]}).objs.t],_,_,H,Z,
  I1.kept (t':=tk) λb o e=>Xf _ e,Zs6 _ lo (hi-lo).j,?_,λb hb=>?_,q⟩
 .let e1:lo+((0:Nat):Int)*1=lo:=B;let e2:(((hi-lo).j:Nat):Int)-((0:Nat):Int)=Builtin.Range.rangeSize lo hi 1:=by rw[rangeSize_one];split<;>grind
  change IsRangeIter _ _ (lo+((0:Nat):Int)*1) ((((hi-lo).j:Nat):Int)-((0:Nat):Int)) 1;rw[e1,e2];show Yp _ rfl
 .let e:b=(s.D.push {cls:=.type "range",data:=.fields #[.int lo t,.int hi u,.int 1 v]}).objs.t:=by simpa using hb
  subst e;show I1.fpOk (XI _) (I1.hok.fresh<|XI _)
inductive xRng(vs:List V)(H1:Hp)(R:It->Hp->Prop):Prop
 |mk (j:Int) (_:vs=[.int j]) (_:-(2^62)<=j) (_:j<2^62) (_:R (HX 0 j.j) H1)
def rC(ta:TA):(TI):=λσ H R=>ta σ H λvs H1=>xRng vs H1 R
def wW{a:Expr}{ta:TA}{p pos:Pos}(hg:Gl X "range")(hm:X.mg "range"=none)(ha:PA X [a] ta)(hs:starEach [a] X.L=[(false,eval a X.L)]:=by rfl):PI X tg (.Call (.Name "range" p) [a] [] pos) (rC ta):=by
 intro pins s σ H R I h;show Call_ (Pu I hg hm boot_range<|IP (thn (ha pos pins s σ H _ I h) λus s1 Xw=>?_) hs Z);let(vs,H1,I1,r1,q1):=Xw;let(j,e,q1,q2,q):=q1;subst e;cases r1 with
 |cons r rr=>
  cases rr;let(t,rfl):=r;show call_range_1 (rD I1 J sr q1 q2<|by simpa using q)
def rB(wi:TI)(g:TG)(tb:TS):(TS):=λD σ H=>wi σ H λAP H1=>∃W:Nat->Nat->St->Hp->Prop,(∃m,W 0 m σ H1)/\∀i m σ H,W i m σ H->
 (AP.stop i H/\D.nx σ H)\/(AP.go i H/\∃N:St->Hp->Prop,(∀σ' H',N σ' H'->∃m',m'<m/\W (i+1) m' σ' H')/\∀x H',AP.yld i H x H'->g x σ H' λσ2 H2=>tb {D with nx:=N,ct:=N,bk:=D.nx} σ2 H2)
def LO(fp:List Addr)(h:Heap):(List (Addr×Obj)):=fp.filterMap λb=>(h.G b).R λo=>(b,o)
def wV{b:Addr}{o:Obj}(hb:b∈fp)(e:h.G b=some o):(b,o)∈LO fp h:=xK.X {b,hb,by rw[e];rfl}
def Dj{p:Addr×Obj}(hp:p∈LO fp h):p.1∈fp/\h.G p.1=some p.2:=by
 let(b,hb,e):=xK.H hp;cases q:h.G b with
 |none=>rw[q]at e;cases e
 |some o=>
  rw[q]at e;let e':(b,o)=p:=Yk e
  subst e';exists hb,q
def Inv.pinned(I:Inv X pins σ H s)(hf:∀b∈fp,FpOk X pins H b)(ho:∀b∈fp,∃o,s.D.G b=some o/\∀v,o.data≠.cell v):Inv X (pins++LO fp s.D) σ H s:=
 I.pins_of λp hp=>(XB.H hp).elim (λz=>I.pin p<|Yd _ z) λz=>by let(hb,e):=Dj z;let(f0,f1,f2,_):=hf p.1 hb;let(o,e',d):=ho p.1 hb;rw[e]at e';cases e';exists e,f0,f1,f2,d
def Inv.unpinned{pins pl:List (Addr×Obj)}(I:Inv X (pins++pl) σ H s):Inv X pins σ H s:=I.pins_of λp hp=>I.pin p (Yd _<|Yc _ hp)
def Sb{iter:Expr}{body:List Stmt}{wi:TI}{g:TG}{tb:TS}{pos:Pos}(hp:PassesOwn (model X.prog X.w) X.A X.L X.xe)(hc:X.calm=true)(hi:PI X tg iter wi)(hg:PG X tg g)(hb:PSs X body tb)
  (hs:∀x,foldedSetIterable iter X.L x=pure x:=by intro _;rfl):PS X (.For tg iter body [] pos) (rB wi g tb):=by
 intro pins s σ H D I h;show wpAny_For (thn (hi pins s σ H _ I h) λv s1 h1=>thn h1 λrG s2 h2=>?_) hs;let(it,fp,tn,AP,H2,e,I2,T,Xg,f2,W,(m0,w0),turn):=h2;subst e;let HW:∀{H':Hp},(∀b∈fp,H' b=none)->∀b∈fp,FpOk X pins H' b:=λhn b hb=>{hn b hb,(f2 b hb).2}
 show codeAny_forLoop_any (λn s'=>∃i σ' H',Inv X pins σ' H' s'/\tn i s'.D/\(∀b∈fp,H' b=none)/\W i n σ' H') ?_ m0 {0,σ,H2,I2,Xg,λb hb=>(f2 b hb).1,w0};rintro n s3 ⟨i,σ3,H3,I3,WK,dB,w3⟩;rcases turn i n σ3 H3 w3 with ⟨stop,qn⟩|⟨go,N,hN,step⟩
 .show IF hp (thn (T.done X Z Z Z hc i pins s3 σ3 H3 X.xe I3 (HW dB) WK stop) λr s4 zz=>?_);let(hr,I4):=zz;subst hr;show DO ⟨σ3,H3,I4,qn⟩
 .show IF hp (thn (T.item X Z Z Z hc i pins s3 σ3 H3 X.xe I3 (HW dB) WK go) λr s4 Xw=>?_);let(u,hr,h4):=Xw;subst hr;show IF hp (thn h4 λ_ s5 Xw=>?_);let(x,H5,I5,r5,y5,WU,rq):=Xw;let rp:=I5.pinned (HW rq) (T.obj _ _ WU)
  show IF hp (thn (hg _ s5 σ3 H5 x u _ rp r5<|step x H5 y5) λ_ s6 Xw=>?_);let(σ6,H6,I6,q6):=Xw;show IF hp (thn (hb _ s6 σ6 H6 _ I6 q6) λf s7 q7=>?_);let again:∀{σ7:St}{H7:Hp},Inv X (pins++LO fp s5.D) σ7 H7 s7->N σ7 H7->∃m,m<n/\∃i σ' H',Inv X pins σ' H' s7/\tn i s7.D/\(∀b∈fp,H' b=none)/\W i m σ' H':=λ{σ7 H7} I7 n7=>by let(m',hm,w7):=hN σ7 H7 n7;exists m',hm,i+1,σ7,H7,I7.unpinned,T.keep _ _ _ WU λb hb o e=>(I7.pin (b,o)<|Yd _<|Yd _<|wV hb e).1,λb hb=>?_,w7;let(o,e,d):=T.obj _ _ WU b hb;show(I7.pin (b,o)<|Yd _<|Yd _<|wV hb e).2.1
  cases f with
  |next=>let(σ7,H7,I7,n7):=q7;show again I7 n7
  |cont=>let(σ7,H7,I7,n7):=q7;show again I7 n7
  |brk=>let(σ7,H7,I7,q7):=q7;exists σ7,H7,I7.unpinned,q7
  |ret v=>let(x7,σ7,H7,I7,r7,q7):=q7;exists x7,σ7,H7,I7.unpinned,r7,q7
end
def wU{K:Ad}{a:Addr}{xs:List V}{g:TG}{tb:TS}{D:Ends}{σ:St}{H:Hp}(Pv:Nat->St->Hp->Prop)(h0:Pv 0 σ H)(hl:∀i σ H,i<=xs.f->Pv i σ H->SqL K H a xs)
  (hs:∀i x σ H,xs[i]?=some x->Pv i σ H->g x σ H λσ2 H2=>tb {D with nx:=Pv<|i+1,ct:=Pv<|i+1,bk:=D.nx} σ2 H2)(hd:∀σ H,Pv xs.f σ H->D.nx σ H):
  ∃W:Nat->Nat->St->Hp->Prop,(∃m,W 0 m σ H)/\∀i m σ H,W i m σ H->
   ((OE K a).stop i H/\D.nx σ H)\/((OE K a).go i H/\∃N:St->Hp->Prop,(∀σ' H',N σ' H'->∃m',m'<m/\W (i+1) m' σ' H')/\∀x H',(OE K a).yld i H x H'->g x σ H' λσ2 H2=>tb {D with nx:=N,ct:=N,bk:=D.nx} σ2 H2):=by
 exists λi m σ H=>m=xs.f-i/\i<=xs.f/\Pv i σ H,{xs.f,B,Yi _,h0},?_;rintro i m σ H ⟨rfl,hi,p⟩;let q:=hl i σ H hi p
 cases Xm:i<xs.f
 .show .inr {{xs,xs[i],q,by simp[Xm]},Pv<|i+1,λσ' H' p'=>{xs.f-(i+1),sr,Z,Xm,p'},λx H' y=>?_};let(e,y):=y;subst e;show hs i x σ _ (y xs q) p
 .let e:i=xs.f:=J;subst e;show .inl {{xs,q,XI _},hd σ H p}
def dz{K:Ad}{a:Addr}{xs:List V}{g:TG}{tb:TS}{D:Ends}{σ:St}{H:Hp}(Pv:Nat->St->Hp->Prop)(h0:Pv 0 σ H)(hl:∀i σ H,i<=xs.f->Pv i σ H->SqT K H a xs)
  (hs:∀i x σ H,xs[i]?=some x->Pv i σ H->g x σ H λσ2 H2=>tb {D with nx:=Pv<|i+1,ct:=Pv<|i+1,bk:=D.nx} σ2 H2)(hd:∀σ H,Pv xs.f σ H->D.nx σ H):
  ∃W:Nat->Nat->St->Hp->Prop,(∃m,W 0 m σ H)/\∀i m σ H,W i m σ H->
   ((OD K a).stop i H/\D.nx σ H)\/((OD K a).go i H/\∃N:St->Hp->Prop,(∀σ' H',N σ' H'->∃m',m'<m/\W (i+1) m' σ' H')/\∀x H',(OD K a).yld i H x H'->g x σ H' λσ2 H2=>tb {D with nx:=N,ct:=N,bk:=D.nx} σ2 H2):=by
 exists λi m σ H=>m=xs.f-i/\i<=xs.f/\Pv i σ H,{xs.f,B,Yi _,h0},?_;rintro i m σ H ⟨rfl,hi,p⟩;let q:=hl i σ H hi p
 cases Xm:i<xs.f
 .show .inr {{xs,xs[i],q,by simp[Xm]},Pv<|i+1,λσ' H' p'=>{xs.f-(i+1),sr,Z,Xm,p'},λx H' y=>?_};let(e,y):=y;subst e;show hs i x σ _ (y xs q) p
 .let e:i=xs.f:=sr;subst e;show .inl {{xs,q,XI _},hd σ H p}
def dy{lo:Int}{n:Nat}{g:TG}{tb:TS}{D:Ends}{σ:St}{H:Hp}(Pv:Nat->St->Hp->Prop)(h0:Pv 0 σ H)
  (hs:∀i σ H,i<n->Pv i σ H->g (.int<|lo+i) σ H λσ2 H2=>tb {D with nx:=Pv<|i+1,ct:=Pv<|i+1,bk:=D.nx} σ2 H2)(hd:∀σ H,Pv n σ H->D.nx σ H):
  ∃W:Nat->Nat->St->Hp->Prop,(∃m,W 0 m σ H)/\∀i m σ H,W i m σ H->
   ((HX lo n).stop i H/\D.nx σ H)\/((HX lo n).go i H/\∃N:St->Hp->Prop,(∀σ' H',N σ' H'->∃m',m'<m/\W (i+1) m' σ' H')/\∀x H',(HX lo n).yld i H x H'->g x σ H' λσ2 H2=>tb {D with nx:=N,ct:=N,bk:=D.nx} σ2 H2):=by
 exists λi m σ H=>m=n-i/\i<=n/\Pv i σ H,{n,B,Yi _,h0},?_;rintro i m σ H ⟨rfl,hi,p⟩;cases Xm:i<n
 .show .inr {Xm,Pv<|i+1,λσ' H' p'=>{n-(i+1),sr,Z,Xm,p'},λx H' y=>?_};let(e,y):=y;subst e y;show hs i σ _ Xm p
 .let e:i=n:=J;subst e;show .inl {XI _,hd σ H p}
abbrev R2:=V->V->Hp->VK->Prop
def Wy(X:Cx)(f:Value->Value->Sem Value)(r:R2):(Prop):=
 ∀(pins:List (Addr×Obj))(s:Shared)(σ:St)(H:Hp)(x y:V)(v u:Value)(Q:VK),Inv X pins σ H s->RelV x v->RelV y u->r x y H Q->
  wpAny (model X.prog X.w) X.A (f v u) (EP X pins σ Q) X.xe s
def rn(X:Cx)(f:Value->Sem Value)(r:V->Hp->VK->Prop):(Prop):=
 ∀(pins:List (Addr×Obj))(s:Shared)(σ:St)(H:Hp)(x:V)(v:Value)(Q:VK),Inv X pins σ H s->RelV x v->r x H Q->
  wpAny (model X.prog X.w) X.A (f v) (EP X pins σ Q) X.xe s
def TB(X:Cx)(f:Value)(r:List V->Hp->VK->Prop):(Prop):=
 ∀(pins:List (Addr×Obj))(s:Shared)(σ:St)(H:Hp)(xs:List V)(us:Ag)(Q:VK),Inv X pins σ H s->Vals xs us->r xs H Q->
  wpAny (model X.prog X.w) X.A (call f us) (EP X pins σ Q) X.xe s
def wR(r:R2)(ta tb:TE):(TE):=λσ H Q=>ta σ H λx H1=>tb σ H1 λy H2=>r x y H2 Q
def tUn(r:V->Hp->VK->Prop)(ta:TE):(TE):=λσ H Q=>ta σ H λx H1=>r x H1 Q
inductive rI(C:Int->Int->Prop)(g:Int->Int->V)(x:V)(y:V)(H:Hp)(Q:VK):Prop
 |mk (i j:_) (_:x=.int i) (_:y=.int j) (_:C i j) (_:Q (g i j) H)
inductive rI0(g:Int->Int->V)(x:V)(y:V)(H:Hp)(Q:VK):Prop
 |mk (i j:_) (_:x=.int i) (_:y=.int j) (_:Q (g i j) H)
inductive rU(g:Int->V)(x:V)(H:Hp)(Q:VK):Prop
 |mk (i:_) (_:x=.int i) (_:Q (g i) H)
section
variable{X:Cx}{a b:Expr}{ta tb:TE}{pos:Pos}
def HV(ha:PE X a ta)(hb:PE X b tb){pins:List (Addr×Obj)}{s:Shared}{σ:St}{H:Hp}{R:V->V->Hp->Prop}(I:Inv X pins σ H s)
  (h:ta σ H λx H1=>tb σ H1 λy H2=>R x y H2){Q:Ae}{f:Value->Value->Sem Value}
  (hf:∀v u s2 x y H2,Inv X pins σ H2 s2->RelV x v->RelV y u->R x y H2->wpAny (model X.prog X.w) X.A (f v u) Q X.xe s2):
  wpAny (model X.prog X.w) X.A (eval a X.L) (λv s₁=>wpAny (model X.prog X.w) X.A (eval b X.L) (λu s₂=>wpAny (model X.prog X.w) X.A (f v u) Q X.xe s₂) X.xe s₁) X.xe s:=by show thn (ha pins s σ H _ I h) λv s1 Xw=>?_;let(x,H1,I1,r1,q1):=Xw;show thn (hb pins s1 σ H1 _ I1 q1) λu s2 Xw=>?_;let(y,H2,I2,r2,q2):=Xw;show hf v u s2 x y H2 I2 r1 r2 q2
def Zq(ho:Wy X (binaryOp op) r)(ha:PE X a ta)(hb:PE X b tb):PE X (.BinOp a op b pos) (wR r ta tb):=by intro pins s σ H Q I h;show wpAny_BinOp (HV ha hb I h λv u s2 x y H2 I2 rx ry q=>ho pins s2 σ H2 x y v u Q I2 rx ry q)
def LN{op:UnaryOp}{r:V->Hp->VK->Prop}(ho:rn X (unaryOp op) r)(ha:PE X a ta):PE X (.UnaryOp op a pos) (tUn r ta):=by intro pins s σ H Q I h;show UnaryOp_ (thn (ha pins s σ H _ I h) λv s1 zz=>by let(x,H1,I1,r1,q1):=zz;show ho pins s1 σ H1 x v Q I1 r1 q1)
def HU{f:Value->Value->Sem Value}{C:Int->Int->Prop}{g:Int->Int->Int}
  (rule:∀(i j:Int)(t u:Tok)(s:Shared)(Q:Ae)(E:Ae),C i j->Q (.int (g i j) s.toks) {s with toks:=s.toks+1}->wpAny (model X.prog X.w) X.A (f (.int i t)<|.int j u) Q E s):
  Wy X f (rI C λi j=>.int<|g i j):=by intro pins s σ H x y v u Q I rx ry h;let(i,j,rfl,rfl,hc,q):=h;let(t,rfl):=rx;let(t',rfl):=ry;show rule i j t t' s _ _ hc {.int<|g i j,H,I.tok _,{_,Z},q}
def Di{f:Value->Value->Sem Value}{g:Int->Int->Int}
  (rule:∀(i j:Int)(t u:Tok)(s:Shared)(Q:Ae)(E:Ae),Q (.int (g i j) s.toks) {s with toks:=s.toks+1}->wpAny (model X.prog X.w) X.A (f (.int i t)<|.int j u) Q E s):
  Wy X f (rI0 λi j=>.int<|g i j):=by intro pins s σ H x y v u Q I rx ry h;let(i,j,rfl,rfl,q):=h;let(t,rfl):=rx;let(t',rfl):=ry;show rule i j t t' s _ _ {.int<|g i j,H,I.tok _,{_,Z},q}
def LM{f:Value->Value->Sem Value}{g:Int->Int->Bool}
  (rule:∀(i j:Int)(t u:Tok)(s:Shared)(Q:Ae)(E:Ae),Q (.bool<|g i j) s->wpAny (model X.prog X.w) X.A (f (.int i t)<|.int j u) Q E s):
  Wy X f (rI0 λi j=>.bl<|g i j):=by intro pins s σ H x y v u Q I rx ry h;let(i,j,rfl,rfl,q):=h;let(t,rfl):=rx;let(t',rfl):=ry;show rule i j t t' s _ _ {.bl<|g i j,H,I,Z,q}
def rm(i j:Int):(Prop):=0<j/\j<1073741824
def Dh(i j:Int):(Prop):=0<=j/\j<=1000000/\i.natAbs<2^64
def CMul(i j:Int):(Prop):=(-(2^64)<i/\i<2^64)\/(-(2^64)<j/\j<2^64)
def CMul.ok(h:CMul i j):IntMulOk i j:=by
 rcases h with ⟨h1,h2⟩|⟨h1,h2⟩
 .show .of_left (intBits_le_64 h1 h2)
 .show .of_right (intBits_le_64 h1 h2)
def Uc:Wy X (binaryOp .Add) (rI0 λi j=>.int (i+j)):=Di λ_ _ _ _ _ _ _ q=>add_int q
def Vn:Wy X (binaryOp .Sub) (rI0 λi j=>.int (i-j)):=Di λ_ _ _ _ _ _ _ q=>sub_int q
def wQ:Wy X (binaryOp .Mult) (rI CMul λi j=>.int (i*j)):=HU λ_ _ _ _ _ _ _ hc q=>mul_int q hc.ok
def Kc:Wy X (binaryOp .FloorDiv) (rI rm λi j=>.int (i/j)):=HU λi j _ _ _ _ _ hc q=>by
 let h1:(0:Int)<j:=hc.1;let h2:j<1073741824:=hc.2
 show floordiv_int J (by rwa[Int.fdiv_eq_ediv_of_nonneg i J]) (.inl<|PyProof.noPylong_small sr)
def ZL:Wy X (binaryOp .Mod) (rI (λ_ j=>0<j) λi j=>.int (i%j)):=HU λi j _ _ _ _ _ hc q=>by let h1:(0:Int)<j:=hc;show mod_int' sr (by rwa[Int.fmod_eq_emod_of_nonneg i J])
def MM:Wy X (binaryOp .Pow) (rI Dh λi j=>.int (i^j.j)):=HU λ_ _ _ _ _ _ _ hc q=>pow_int_small hc.1 hc.2.1 hc.2.2 q
def unI{f:Value->Sem Value}{g:Int->Int}
  (rule:∀(i:Int)(t:Tok)(s:Shared)(Q:Ae)(E:Ae),Q (.int (g i) s.toks) {s with toks:=s.toks+1}->wpAny (model X.prog X.w) X.A (f<|.int i t) Q E s):
  rn X f (rU λi=>.int<|g i):=by intro pins s σ H x v Q I rx h;let(i,rfl,q):=h;let(t,rfl):=rx;show rule i t s _ _ {.int<|g i,H,I.tok _,{_,Z},q}
def wO:rn X (unaryOp .USub) (rU λi=>.int (-i)):=unI λ_ _ _ _ _ q=>neg_int q
end
def Dg:(V->V->Bool)
 | .non,.non=>true | .non,.int _=>true | .int _,.non=>true | .non,.bl _=>true | .bl _,.non=>true | .non,.str _=>true | .str _,.non=>true
 | .int _,.int _=>true | .bl _,.bl _=>true | .str _,.str _=>true | .byt _,.byt _=>true
 | .int _,.str _=>true | .str _,.int _=>true | .bl _,.str _=>true | .str _,.bl _=>true
 |_,_=>false
inductive rEq(x:V)(y:V)(H:Hp)(Q:VK):Prop
 |mk  (_:Dg x y=true) (_:Q (.bl<|decide<|x=y) H)
inductive rNe(x:V)(y:V)(H:Hp)(Q:VK):Prop
 |mk  (_:Dg x y=true) (_:Q (.bl<|!decide (x=y)) H)
def Zs:decide (V.int i=V.int j)=(i == j):=by rw[OS];simp
def Df:decide (V.bl i=V.bl j)=(i == j):=by rw[OS];simp
def dw:decide (V.str i=V.str j)=(i == j):=by rw[OS];simp
def Kb:decide (V.byt i=V.byt j)=(i.l == j.l):=by rw[OS];cases i;cases j;simp
section
variable{X:Cx}{a b c:Expr}{ta tb tc:TE}{pos:Pos}
def ZM{k k':Bool}(I:Inv X pins σ H s)(q:Q (.bl k) H)(e:k=k'):EP X pins σ Q (.bool k') s:=by subst e;exists .bl k,H,I,Z,q
def Vc:Wy X (compareOp .Eq) rEq:=by
 intro pins s σ H x y v u Q I rx ry h;let(hs,q):=h;cases x with
 |non=>
  cases rx;cases y with
  |non=>cases ry;show PySem.EqNone.eq_none_none (ZM I q B)
  |bl j=>cases ry;show PySem.EqNone.eq_none_bool (ZM I q B)
  |int j=>let(t',rfl):=ry;show PySem.EqNone.eq_none_int (ZM I q B)
  |str j=>let(t',rfl):=ry;show PySem.EqNone.eq_none_str (ZM I q B)
  |_=>show absurd (show false=true from hs) YC
 |bl i=>
  cases rx;cases y with
  |non=>cases ry;show PySem.EqNone.eq_bool_none (ZM I q B)
  |bl j=>cases ry;show eq_bool (ZM I q Df)
  |str j=>let(t',rfl):=ry;show PySem.EqMixed.eq_bool_str (ZM I q B)
  |_=>show absurd (show false=true from hs) YC
 |int i=>
  let(t,rfl):=rx;cases y with
  |non=>cases ry;show PySem.EqNone.eq_int_none (ZM I q B)
  |int j=>let(t',rfl):=ry;show eq_int (ZM I q Zs)
  |str j=>let(t',rfl):=ry;show PySem.EqMixed.eq_int_str (ZM I q B)
  |_=>show absurd (show false=true from hs) YC
 |str i=>
  let(t,rfl):=rx;cases y with
  |non=>cases ry;show PySem.EqNone.eq_str_none (ZM I q B)
  |bl j=>cases ry;show PySem.EqMixed.eq_str_bool (ZM I q B)
  |int j=>let(t',rfl):=ry;show PySem.EqMixed.eq_str_int (ZM I q B)
  |str j=>let(t',rfl):=ry;show eq_str (ZM I q dw)
  |_=>show absurd (show false=true from hs) YC
 |byt i=>
  let(t,rfl):=rx;cases y with
  |byt j=>let(t',rfl):=ry;show PySem.W.eq_bytes (ZM I q Kb)
  |_=>show absurd (show false=true from hs) YC
 |_=>cases y<;>show absurd (show false=true from hs) YC
def VA:Wy X (compareOp .NotEq) rNe:=by
 intro pins s σ H x y v u Q I rx ry h;let(hs,q):=h;cases x with
 |non=>
  cases rx;cases y with
  |non=>cases ry;show PySem.EqNone.ne_none_none (ZM I q B)
  |bl j=>cases ry;show PySem.EqNone.ne_none_bool (ZM I q B)
  |int j=>let(t',rfl):=ry;show PySem.EqNone.ne_none_int (ZM I q B)
  |str j=>let(t',rfl):=ry;show PySem.EqNone.ne_none_str (ZM I q B)
  |_=>show absurd (show false=true from hs) YC
 |bl i=>
  cases rx;cases y with
  |non=>cases ry;show PySem.EqNone.ne_bool_none (ZM I q B)
  |bl j=>cases ry;show ne_bool (ZM I q<|QP not Df)
  |str j=>let(t',rfl):=ry;show PySem.EqMixed.ne_bool_str (ZM I q B)
  |_=>show absurd (show false=true from hs) YC
 |int i=>
  let(t,rfl):=rx;cases y with
  |non=>cases ry;show PySem.EqNone.ne_int_none (ZM I q B)
  |int j=>let(t',rfl):=ry;show ne_int (ZM I q<|QP not Zs)
  |str j=>let(t',rfl):=ry;show PySem.EqMixed.ne_int_str (ZM I q B)
  |_=>show absurd (show false=true from hs) YC
 |str i=>
  let(t,rfl):=rx;cases y with
  |non=>cases ry;show PySem.EqNone.ne_str_none (ZM I q B)
  |bl j=>cases ry;show PySem.EqMixed.ne_str_bool (ZM I q B)
  |int j=>let(t',rfl):=ry;show PySem.EqMixed.ne_str_int (ZM I q B)
  |str j=>let(t',rfl):=ry;show ne_str (ZM I q<|QP not dw)
  |_=>show absurd (show false=true from hs) YC
 |byt i=>
  let(t,rfl):=rx;cases y with
  |byt j=>let(t',rfl):=ry;show PySem.W.ne_bytes (ZM I q<|QP not Kb)
  |_=>show absurd (show false=true from hs) YC
 |_=>cases y<;>show absurd (show false=true from hs) YC
def Ka:Wy X (compareOp .Lt) (rI0 λi j=>.bl (decide (i<j))):=LM λ_ _ _ _ _ _ _ q=>lt_int q
def OC:Wy X (compareOp .LtE) (rI0 λi j=>.bl (decide (i<=j))):=LM λ_ _ _ _ _ _ _ q=>le_int q
def QD:Wy X (compareOp .Gt) (rI0 λi j=>.bl (decide (j<i))):=LM λ_ _ _ _ _ _ _ q=>gt_int q
def JZ:Wy X (compareOp .GtE) (rI0 λi j=>.bl (decide (j<=i))):=LM λ_ _ _ _ _ _ _ q=>ge_int q
def wN:Wy X (compareOp .Is) (λx y H Q=>y=.non/\Q (.bl (decide (x=.non))) H):=by
 intro pins s σ H x y v u Q I rx ry h;let(rfl,q):=h;cases ry;show is_none_gen (ZM I q ?_);cases x<;>first
  | (cases rx;rfl)
  | (let(t,rfl):=rx;rfl)
def Zn(b:Expr)(h:op≠.In:=by decide)(h2:op≠.NotIn:=by decide):behindInMarks op b=false:=by
 let e1:(op == CmpOp.In)=false:=by cases op<;>first|rfl|show absurd rfl h
 let e2:(op == CmpOp.NotIn)=false:=by cases op<;>first|rfl|show absurd rfl h2
 cases b<;>simp[behindInMarks,e1,e2]
def Pr(ho:Wy X (compareOp op) r)(ha:PE X a ta)(hb:PE X b tb)(hm:behindInMarks op b=false):PE X (.Compare a [op] [b] pos) (wR r ta tb):=by intro pins s σ H Q I h;show wpAny_Compare1 (HV ha hb I h λv u s2 x y H2 I2 rx ry q=>ho pins s2 σ H2 x y v u Q I2 rx ry q) hm
def JY(t:TE):(TT):=λσ H Q=>t σ H λx H'=>isB x H' Q
def Ze{op:CmpOp}{r:R2}(ho:Wy X (compareOp op) r)(ha:PE X a ta)(hb:PE X b tb)(hm:behindInMarks op b=false):PT X (.Compare a [op] [b] pos) (JY (wR r ta tb)):=by
 intro pins s σ H Q I h;show wpAny_isTrue_Compare1 (thn (ha pins s σ H _ I h) λv s1 ⟨x,H1,I1,r1,q1⟩=>thn (hb pins s1 σ H1 _ I1 q1) λu s2 ⟨y,H2,I2,r2,q2⟩=>
  thn (ho pins s2 σ H2 x y v u _ I2 r1 r2 q2) λc s3 ⟨z,H3,I3,r3,k,e,q3⟩=>?_) hm
 subst e;cases r3;show Mi ⟨H3,I3,q3⟩
def De(r r':R2)(ta tb tc:TE):(TE):=λσ H Q=>ta σ H λx H1=>tb σ H1 λy H2=>r x y H2 λz H3=>∃k,z=.bl k/\
 (if k=true then tc σ H3 λw' H4=>r' y w' H4 Q else Q (.bl false) H3)
def rj{op HS:CmpOp}{r r':R2}(ho:Wy X (compareOp op) r)(Wh:Wy X (compareOp HS) r')(ha:PE X a ta)(hb:PE X b tb)(hc:PE X c tc)
  (hm:lastMarks [op,HS] [b,c]=false:=by with_unfolding_all rfl):PE X (.Compare a [op,HS] [b,c] pos) (De r r' ta tb tc):=by
 intro pins s σ H Q I h;show Compare_chain (thn (ha pins s σ H _ I h) λv s1 ⟨x,H1,I1,r1,q1⟩=>chain_link (thn (hb pins s1 σ H1 _ I1 q1) λu s2 ⟨y,H2,I2,r2,q2⟩=>
  thn (ho pins s2 σ H2 x y v u _ I2 r1 r2 q2) λd s3 ⟨z,H3,I3,r3,k,e,q3⟩=>?_)) hm
 subst e;cases r3;show Mi ?_;cases k with
 |false=>show ite_ff {.bl false,H3,I3,Z,q3}
 |true=>show ite_tt (chain_last<|thn (hc pins s3 σ H3 _ I3 q3) λw' s4 zz=>by let(z',H4,I4,r4,q4):=zz;show Wh pins s4 σ H4 y z' u w' Q I4 r2 r4 q4)
def dv{op HS:CmpOp}{r r':R2}(ho:Wy X (compareOp op) r)(Wh:Wy X (compareOp HS) r')(ha:PE X a ta)(hb:PE X b tb)(hc:PE X c tc)
  (hm:lastMarks [op,HS] [b,c]=false:=by with_unfolding_all rfl):PT X (.Compare a [op,HS] [b,c] pos) (JY<|De r r' ta tb tc):=by
 intro pins s σ H Q I h;show isTrue_chain (thn (ha pins s σ H _ I h) λv s1 ⟨x,H1,I1,r1,q1⟩=>test_link (thn (hb pins s1 σ H1 _ I1 q1) λu s2 ⟨y,H2,I2,r2,q2⟩=>
  thn (ho pins s2 σ H2 x y v u _ I2 r1 r2 q2) λd s3 ⟨z,H3,I3,r3,k,e,q3⟩=>?_)) hm
 subst e;cases r3;show Mi ?_;cases k with
 |false=>
  let(k',e',q'):=q3;cases e';show ite_ff ⟨H3,I3,q'⟩
 |true=>
  show ite_tt (test_last<|thn (hc pins s3 σ H3 _ I3 q3) λw' s4 zz=>?_);let(z',H4,I4,r4,q4):=zz;show thn (Wh pins s4 σ H4 y z' u w' _ I4 r2 r4 q4) λd' s5 Xw=>?_;let(z2,H5,I5,r5,k2,e2,q5):=Xw;subst e2;cases r5;show Mi ⟨H5,I5,q5⟩
def Dc:(sizeLine:Nat)<2^63:=by rw[Uu];decide
def SK{us:Ag}(r:Vals [x] us):∃u,us=[u]/\RelV x u:=by
 cases r with
 |cons r1 r2=>cases r2;exists _,Z,r1
def HR{us:Ag}(r:Vals [x,y] us):∃u w',us=[u,w']/\RelV x u/\RelV y w':=by
 cases r with
 |cons r1 r2=>
  cases r2 with
  |cons r3 r4=>cases r4;exists _,_,Z,r1,r3
def rh(hc:X.calm=true):TB X (.builtin "max") (λxs H Q=>∃i j,xs=[.int i,.int j]/\Q (.int (if j>i then j else i)) H):=by
 intro pins s σ H xs us Q I r h;let(i,j,rfl,q):=h;let(u,w',rfl,(t,rfl),(t',rfl)):=HR r;show max_two_ints (I.ok.hd hc) λh' tk k=>{_,H,I.kept k,?_,q};cases hj:j>i
 .rw[if_pos hj,if_pos hj];exists _,Z
 .rw[if_neg hj,if_neg hj];exists _,Z
def rf(hc:X.calm=true):TB X (.builtin "min") (λxs H Q=>∃i j,xs=[.int i,.int j]/\Q (.int (if j<i then j else i)) H):=by
 intro pins s σ H xs us Q I r h;let(i,j,rfl,q):=h;let(u,w',rfl,(t,rfl),(t',rfl)):=HR r;show min_two_ints (I.ok.hd hc) λh' tk k=>{_,H,I.kept k,?_,q};cases hj:j<i
 .rw[if_pos hj,if_pos hj];exists _,Z
 .rw[if_neg hj,if_neg hj];exists _,Z
def rd:TB X (.type "int") (λxs H Q=>(∃i,xs=[.int i]/\Q (.int i) H)\/∃k,xs=[.bl k]/\Q (.int (if k then 1 else 0)) H):=by
 intro pins s σ H xs us Q I r h;rcases h with ⟨i,rfl,q⟩|⟨k,rfl,q⟩
 .let⟨u,rfl,t,rfl⟩:=SK r;show call_int_int {.int i,H,I,{_,Z},q}
 .let⟨u,rfl,r1⟩:=SK r;cases r1;show call_int_bool {.int<|if k then 1 else 0,H,I.tok _,{_,Z},q}
end
structure ObjM(h:Heap)(x dx C:Addr)(mA:Af):Prop where
 obj:h.G x=some (PySem.W.instObj C dx)
 ns:h.Ns1 dx mA
 ne:dx≠x
def ZA8{h:Heap}{mA:Af}(n:h.Ns1 dx mA):∃od,h.G dx=some od/\∀name,PySem.W.lookIn name od=some (mA name):=by
 let(o,es,ep,ho,hd,hk,_,hm):=n;exists o,ho,λname=>?_;let e:=hm name
 unfold nsFind findBy at e;rw[<-Array.find?_toList]at e;unfold PySem.W.lookIn;rw[hd];dsimp only;split
 .rename_i y q;rw[q]at e;show QP some e
 .rename_i q;rw[q]at e;let a:es.l.any (·.refKey)=false:=by rw[List.any_eq_false];intro y hy;let(z,t,q9):=hk y (Array.mem_toList_iff.H hy);simp[DictEntry.refKey,q9]
  let a':¬es.l.any (·.refKey)=true:=by rw[a];show YC
  rw[if_neg a'];show QP some e
def ObjM.look{mA:Af}(I:ObjM h x dx C mA):∃od,PySem.W.InstAt h x (PySem.W.instObj C dx) C (some od)/\∀name,PySem.W.lookIn name od=some (mA name):=
 let ⟨od,ho,hl⟩:=ZA8 I.ns
 {od,⟨I.obj,Z,Z,ho⟩,hl}
section
variable{prog:Program}{w:World}{A:Around}{E:Ae}{s:Shared}{K:Ad}{x dx C f:Addr}{mA:Af}{name:Str}{v:Value}
def q8{Q:Ae}(X:K.In s.D)(I:ObjM s.D x dx C mA)(hg:PySem.W.plainGet K C name=true)(hh:PySem.W.hasDictIn K C=true)
  (ha:PySem.W.findIn K ↑C name=some none)(hv:mA name=some v)(wM:PySem.W.handedIn v=true)(h:Q v {s with toks:=s.toks+1}):
  wpAny (model prog w) A (getAttr ↑x name expr) Q E s:=by let(od,AP,hl):=I.look;show PySem.W.get_value X AP (PySem.W.plainGet_of hg).1 (PySem.W.findObj_own hh ha Z<|by rw[hl,hv]) wM h
def qZ{Q:Unit->Shared->Prop}(X:K.In s.D)(I:ObjM s.D x dx C mA)
  (hs:PySem.W.findIn K ↑C "__setattr__"=some (some<|.builtin "object.__setattr__"))(hp:PySem.W.plainOver K C=true)(ht:PySem.W.takerIn K C name=some none)(hh:PySem.W.hasDictIn K C=true)
  (hw:PySem.Within mA ns)(hsz:ns.f<=sizeLine)
  (h:∀h',ObjM h' x dx C (λy=>if y=name then some v else mA y)->Heap.SameBut dx s.D h'->Q () {s with heap:=h',toks:=s.toks+2}):
  wpAny (model prog w) A (setAttr ↑x name v) Q E s:=by
 let(od,AP,hl):=I.look;show PySem.W.set_plain X AP hs (PySem.W.osa_open (s:={s with toks:=s.toks+1}) (r:=none) X AP hp ht λb=>?_);let(cd,hc,SN):=PySem.W.any_some hh;let hx:s.D.G x=some ⟨.ref C,some dx,.plain,#[]⟩:=I.obj
 show XU (Yh<|XU<|XU<|wpAny_loadPart hx<|XU<|PySem.W.Looks.here (s:={s with toks:=s.toks+1}) (PySem.W.looks_clsIn X hc) ?_);rw[SN];show Yh (a:=some dx) (XU<|Yh<|XU ?_);show wpAny_nsSet1 (s:={s with toks:=s.toks+1}) I.ns λh' OB SJ=>?_;let(oD,esD,epD,wL,du,hcD):=OB.count (PySem.Within.cons name v hw);show XU (wpAny_lookBehind wL (by rw[du];show pastItsLine_dict<|Yj hcD<|by rw[YF];lia) ?_);show Yh (h _ {(SJ.2 _<|Xb I.ne).m I.obj,OB,I.ne} SJ)
def qY{R:Result->Shared->Prop}{vs:Ag}{kw:List (Str×Value)}(X:K.In s.D)(hm:PySem.W.makesIn K C=true)
  (hi:PySem.W.findIn K ↑C "__init__"=some (some<|.ref f))(hf:PySem.W.typeIn K ↑f=some (.type "function"))
  (h:codeAny (model prog w) (A.under<|.builtin "type.__call__" {.ref C::vs,kw}) (.call ↑f {.ref ((~~~s)+1)::vs,kw}) (PySem.W.InitBack ((~~~s)+1) R)
   {s with heap:=(s.D.push PySem.W.emptyDict).push (PySem.W.instObj C (~~~s))}):
  codeAny (model prog w) A (.call ↑C ⟨vs,kw⟩) R s:=by let(hh,g,d,t,os):=s;show PySem.W.make_core (PySem.W.makes_of X hm) (PySem.W.looks_findIn X hi) (λself=>PySem.W.bind_fn X self hf) (.inl Z) h
end
def XN(f:Str)(v:V):(List (Str×V)->List (Str×V))
 |[]=>[(f,v)]
 | (g,x)::r=>if g=f then (g,v)::r else (g,x)::XN f v r
def CZ(f g:Str)(v:V):∀fs:List (Str×V),(XN f v fs).U g=if g=f then some v else fs.U g
 |[]=>by
  change List.U g [(f,v)]=_;cases h:g=f
  .let hb:(g == f)=true:=RL.X h;simp only[List.lookup,hb,if_pos h]
  .let hb:(g == f)=false:=Ec.X h;simp only[List.lookup,hb,if_neg h]
 | (k,x)::r=>by
  let ih:=CZ f g v r;rw[show XN f v ((k,x)::r)=(if k=f then (k,v)::r else (k,x)::XN f v r) from Z];cases hk:k=f
  .rw[if_pos hk];cases h:g=k
   .let hb:(g == k)=true:=RL.X h;simp only[List.lookup,hb,if_pos (h.trans hk)]
   .let hb:(g == k)=false:=Ec.X h;simp only[List.lookup,hb,if_neg λe:g=f=>h (e.trans hk.symm)]
  .rw[if_neg hk];cases h:g=k
   .let hb:(g == k)=true:=RL.X h;simp only[List.lookup,hb,if_neg λe:g=f=>hk (h.symm.trans e)]
   .let hb:(g == k)=false:=Ec.X h;simp only[List.lookup,hb];show ih
def qX(f:Str)(v:V):∀fs:List (Str×V),f∈(XN f v fs).R (·.1)/\∀g,g∈fs.R (·.1)->g∈(XN f v fs).R (·.1)
 |[]=>{by simp[XN],λg h=>by simp at h}
 | (k,x)::r=>by
  let(i1,i2):=qX f v r;rw[show XN f v ((k,x)::r)=(if k=f then (k,v)::r else (k,x)::XN f v r) from Z];cases hk:k=f
  .rw[if_pos hk];subst hk;exists B,λg h=>by simpa using h
  .rw[if_neg hk];exists ?_,λg h=>?_
   .rw[TM];show Yg _ i1
   .rw[TM]at h ⊢;rcases Yf.H h with e|e
    .show Yf.X (.inl e)
    .show Yg _ (i2 g e)
def CY(f:Str)(v:V):∀fs:List (Str×V),(XN f v fs).f<=fs.f+1
 |[]=>by simp[XN]
 | (k,x)::r=>by
  let ih:=CY f v r;rw[show XN f v ((k,x)::r)=(if k=f then (k,v)::r else (k,x)::XN f v r) from Z];cases hk:k=f
  .rw[if_pos hk,YF,YF];lia
  .rw[if_neg hk,YF,YF];lia
def RelO.some_of{v:V}(r:RelO (some v) o):∃u,o=some u/\RelV v u:=by
 cases o with
 |none=>show(show False from r).elim
 |some u=>exists u,Z,r
def ZS8(r:RelV v u):PySem.W.handedIn u=true:=by
 cases v with
 |non=>cases (show u=Value.none from r);rfl
 |bl b=>cases (show u=Value.bool b from r);rfl
 |int i=>let(t,e):=(show ∃t,u=Value.int i t from r);cases e;rfl
 |str x=>let(t,e):=(show ∃t,u=Value.str x t from r);cases e;rfl
 |byt b=>let(t,e):=(show ∃t,u=Value.bytes b t from r);cases e;rfl
 |flt b=>let(t,e):=(show ∃t,u=Value.float b t from r);cases e;rfl
 |ref a=>cases (show u=Value.ref a from r);rfl
 |ty n=>cases (show u=Value.type n from r);rfl
section
variable{P:Program}{w:World}{H:Hp}{h:Heap}{a C dx:Addr}{fs:List (Str×V)}
def dt(hok:HOk P w H h)(e:H a=some (.ins C dx fs)):∃mA,ObjM h a dx C mA/\(∀f,RelO (fs.U f) (mA f))/\PySem.Within mA (fs.R (·.1))/\fs.f<=1000/\H dx=some (.own a):=by let(d,z,ne,ob,mA,n,r,q):=(show ObjOk P w H h a (.ins C dx fs) from hok a _ e);exists mA,⟨ob,n,ne⟩,r,q,z,d
end
structure Cls(K:Ad)(C:Addr):Prop where
 pg:PySem.W.plainGet K C Str.empty=true
 hd:PySem.W.hasDictIn K C=true
 po:PySem.W.plainOver K C=true
 sa:PySem.W.findIn K ↑C "__setattr__"=some (some<|.builtin "object.__setattr__")
def Cls.get{K:Ad}{C:Addr}(c:Cls K C)(f:Str):PySem.W.plainGet K C f=true:=c.pg
def NoAttr(K:Ad)(C:Addr)(f:Str):(Prop):=PySem.W.findIn K ↑C f=some none
def NoAttr.taker{K:Ad}{C:Addr}{f:Str}(n:NoAttr K C f):PySem.W.takerIn K C f=some none:=by unfold PySem.W.takerIn;rw[show PySem.W.findIn K ↑C f=some none from n];rfl
section
variable{X:Cx}{pins:List (Addr×Obj)}{σ:St}{H:Hp}{s:Shared}{a C dx:Addr}{fs:List (Str×V)}{f:Str}{v:V}{A:Around}{E:Ae}
def Zr7{Q:Ae}(I:Inv X pins σ H s)(e:H a=some (.ins C dx fs))(c:Cls X.K C)(n:NoAttr X.K C f)(l:fs.U f=some v)
  (h:∀u s',Inv X pins σ H s'->RelV v u->Q u s'):wpAny (model X.prog X.w) A (getAttr ↑a f b) Q E s:=by let(mA,O,r,_,_,_):=dt I.hok e;let(u,hu,ru):=RelO.some_of (v:=v) (o:=mA f) (by rw[<-l];show r f);show q8 I.kIn O (c.get f) c.hd n hu (ZS8 ru) (h u _ (I.tok _) ru)
def ZG6{Q:Unit->Shared->Prop}(I:Inv X pins σ H s)(e:H a=some (.ins C dx fs))(c:Cls X.K C)(n:NoAttr X.K C f)(hl:fs.f<1000)(ry:RelV y u)
  (h:∀s',Inv X pins σ (upd H a<|.ins C dx<|XN f y fs) s'->Q () s'):wpAny (model X.prog X.w) A (setAttr ↑a f u) Q E s:=by
 let(mA,O,r,wi,_,ho):=dt I.hok e;let hz:(fs.R (·.1)).f<=sizeLine:=by rw[Yb,Uu];lia
 show qZ I.kIn O c.sa c.po n.taker c.hd wi hz λh' O' sb=>h _ ?_;let hd:∃o,h'.G dx=some o:=by let(o,_,_,e',_):=O'.ns;exists o,e'
 show I.write (x:=a) (e:=dx) (by rw[e];show True.intro) (.inr ho) (λb q hb z=>(sb.2 b hb).m z) hd ?_;exists by rw[Za O.ne];show ho,?_,O.ne,O'.obj,_,O'.ns,λg=>?_,λg hg=>?_
 .have:=CY f y fs;lia
 .change RelO ((XN f y fs).U g) (if g=f then some u else mA g);rw[CZ];cases q:g=f
  .rw[if_pos q,if_pos q];show ry
  .rw[if_neg q,if_neg q];show r g
 .cases q:g=f
  .rw[q];show(qX f y fs).1
  .show(qX f y fs).2 g (wi g λz=>hg ?_);change(if g=f then some u else mA g)=none
   rwa[if_neg q]
def Inv.made(I:Inv X pins σ H s):Inv X pins σ (upd (upd H (~~~s) (.own ((~~~s)+1))) ((~~~s)+1) (.ins C (~~~s) []))
  {s with heap:=(s.D.push PySem.W.emptyDict).push (PySem.W.instObj C (~~~s))}:=by
 let e1:(s.D.push PySem.W.emptyDict).G (~~~s)=some PySem.W.emptyDict:=Yp s.D rfl;let e2:((s.D.push PySem.W.emptyDict).push (PySem.W.instObj C (~~~s))).G ((~~~s)+1)=some (PySem.W.instObj C (~~~s)):=by
  have:=Yp (s.D.push PySem.W.emptyDict) (o:=PySem.W.instObj C (~~~s)) rfl
  rwa[Mg]at this
 let e3:(s.D.push PySem.W.emptyDict).Ns (~~~s) (λ_=>none):={PySem.W.emptyDict,#[],_,e1,Z,λe he=>absurd he B,λ_=>rfl};let I1:=I.laid (a:=(~~~s)) (o:=.own<|(~~~s)+1) (h':=s.D.push PySem.W.emptyDict) (t':=s.toks) (λb u q=>Xf _ q) (XI _) {_,e1}
 show I1.laid (a:=(~~~s)+1) (o:=.ins C (~~~s) []) (t':=s.toks) (λb u q=>Xf _ q) (xm<|Mg _ _) ?_;let ne:(~~~s)≠(~~~s)+1:=YA (MU _)
 exists by rw[Za ne,XS],Yi _,ne,e2,λ_=>none,(Heap.Ns1.of_empty e3).at λo q=>Xf _ q,λ_=>True.intro,λy hy=>absurd Z hy
def qW{pos:Pos}{Q:Ae}(hb:attributeBase e f env (eval e env)=eval e env)
  (h:wpAny (model prog w) A (eval e env) (λo s₁=>wpAny (model prog w) A (getAttr o f true) Q E s₁) E s):wpAny (model prog w) A (eval (.Attribute e f pos) env) Q E s:=
 Attribute_any_ h (by rw[arm_eval_Attribute,hb])
end
inductive xFld(K:Ad)(f:Str)(x:V)(H1:Hp)(Q:VK):Prop
 |mk (a C dx fs v:_) (_:x=.ref a) (_:H1 a=some (.ins C dx fs)) (_:Cls K C) (_:NoAttr K C f) (_:fs.U f=some v) (_:Q v H1)
def CW(K:Ad)(ta:TE)(f:Str):(TE):=λσ H Q=>ta σ H λx H1=>xFld K f x H1 Q
def qV(K:Ad)(ta tv:TE)(f:Str):(TS):=λD σ H=>tv σ H λy H1=>ta σ H1 λx H2=>∃a C dx fs,x=.ref a/\H2 a=some (.ins C dx fs)/\Cls K C/\NoAttr K C f/\fs.f<1000/\
 D.nx σ (upd H2 a<|.ins C dx<|XN f y fs)
section
variable{X:Cx}{o e value:Expr}{f:Str}{pos pos':Pos}{ta tv:TE}
def qU(he:PE X e ta)(hb:attributeBase e f X.L (eval e X.L)=eval e X.L):PE X (.Attribute e f pos) (CW X.K ta f):=by intro pins s σ H Q I h;show qW hb (thn (he pins s σ H _ I h) λu s1 Xw=>?_);let(x,H1,I1,rx,a,C,dx,fs,v,ex,ea,c,n,l,q):=Xw;subst ex;let rfl:u=Value.ref a:=rx;show Zr7 I1 ea c n l λu' s2 I2 ru=>⟨v,H1,I2,ru,q⟩
def LL(ha:PE X o ta)(hv:PE X value tv)(hs:swapsWith value (some (.Attribute o f pos')) pos.line X.L=pure false):PS X (.Assign [.Attribute o f pos'] value pos) (qV X.K ta tv f):=by intro pins s σ H D I h;show plainObj_wpAny_Assign_Attribute (thn (hv pins s σ H _ I h) λu s1 zz=>?_) hs;let(y,H1,I1,ry,q):=zz;show thn (ha pins s1 σ H1 _ I1 q) λov s2 Xw=>?_;let(x,H2,I2,rx,a,C,dx,fs,ex,ea,c,n,l,q2):=Xw;subst ex;let rfl:ov=Value.ref a:=rx;show ZG6 I2 ea c n l ry λs3 I3=>{σ,_,I3,q2}
end
structure Room(k:Nat)(A:Around):Prop where
 hd:A.handled=none
 dp:A.depth+3*k+5<recursionLimit
 un:A.units+16*k+200<cLine
def Room.mono(r:Room k A)(h:j<=k):Room j A:={r.hd,by have:=r.dp;lia,by have:=r.un;lia}
def Room.deeper(r:Room (k+1) A)(env:Env):Room k (A.deeper env):=
 {r.hd,by have:=r.dp;change A.depth+1+3*k+5<_;lia,by have:=r.un;change A.units+3+16*k+200<_;lia}
def Room.in1(r:Room (k+1) A):Room k A.in1:=
 {r.hd,by have:=r.dp;change A.depth+3*k+5<_;lia,by have:=r.un;change A.units+1+16*k+200<_;lia}
def qT{A:Around}{C:Addr}{us:Ag}{kw:List (Str×Value)}:(A.under (.builtin "type.__call__" {.ref C::us,kw})).depth=A.depth+1:=by
 first|rfl|simp[Around.under,Code.weight,Code.isCreation,Code.isGuard,Code.isCaller,Code.frames,Code.isFrame,guardIds]
def qS{A:Around}{C:Addr}{us:Ag}{kw:List (Str×Value)}:(A.under (.builtin "type.__call__" {.ref C::us,kw})).units=A.units+1:=by
 first|rfl|simp[Around.under,Code.cUnits,Code.frames,Code.isFrame]
def Room.make(r:Room (k+1) A)(C:Addr)(us:Ag)(kw:List (Str×Value)):Room k (A.under (.builtin "type.__call__" {.ref C::us,kw})):=
 {r.hd,by have:=r.dp;rw[qT];lia,by have:=r.un;rw[qS];lia}
def Room.depth(r:Room k A):A.depth<recursionLimit:=by have:=r.dp;lia
def Room.units(r:Room k A):A.units+64<cLine:=by have:=r.un;lia
def QC:(TA):=λ_ H Q=>Q [] H
def Us(ta:TE)(tr:TA):(TA):=λσ H Q=>ta σ H λx H1=>tr σ H1 λxs H2=>Q (x::xs) H2
section
variable{X:Cx}{e:Expr}{es:List Expr}{te:TE}{t:TA}{pos:Pos}
def XX:PA X [] QC:=λ_ _ _ _ H Q I h=>sQ {[],H,I,.nil,h}
def XY(ha:PE X e te)(hr:PA X es t)(hs:starEach (e::es) X.L=(false,eval e X.L)::starEach es X.L:=by rfl):PA X (e::es) (Us te t):=by
 intro pos pins s σ H Q I h;rw[hs];change wpAny _ _ (spliced<|(false,eval e X.L)::backTo pos (starEach es X.L)) _ _ s
 show sT (thn (ha pins s σ H _ I h) λu s1 Xw=>?_);let(x,H1,I1,r1,q1):=Xw;show thn (hr pos pins s1 σ H1 _ I1 q1) λus s2 zz=>by let(xs,H2,I2,r2,q2):=zz;exists x::xs,H2,I2,.cons r1 r2,q2
inductive xTup(xs:List V)(H1:Hp)(Q:VK):Prop
 |mk (_:xs.f<=sizeLine) (_:∀p,H1 p=none->Q ↑p (upd H1 p<|.tup xs))
def qR(t:TA):(TE):=λσ H Q=>t σ H λxs H1=>xTup xs H1 Q
inductive xLst(xs:List V)(H1:Hp)(Q:VK):Prop
 |mk (_:xs.f<=sizeLine) (_:∀p,H1 p=none->Q ↑p (upd H1 p<|.lst xs))
def OA(t:TA):(TE):=λσ H Q=>t σ H λxs H1=>xLst xs H1 Q
def WC{x1}(h:PA X es t):PE X (.Tuple es x1 pos) (qR t):=by
 intro pins s σ H Q I hq;show wpAny_Tuple_spliced (thn (h pos pins s σ H _ I hq) λus s1 ⟨xs,H1,I1,r,z,q⟩=>{by rw[<-r.f];show z,?_});let hf:H1 (~~~s1)=none:=I1.hok.fresh (XI _)
 exists .ref (~~~s1),upd H1 (~~~s1)<|.tup xs,I1.laid (t':=s1.toks) (λb u e=>Xf _ e) (XI _) ?_,Z,q _ hf;exists z,us,r,{_,Yp _ Z,Z,_,Z}
def WB(h:PA X es t):PE X (.List es pos) (OA t):=by
 intro pins s σ H Q I hq;show wpAny_List_spliced (thn (h pos pins s σ H _ I hq) λus s1 ⟨xs,H1,I1,r,z,q⟩=>{by rw[<-r.f];show z,?_});let hf:H1 (~~~s1)=none:=I1.hok.fresh (XI _)
 exists .ref (~~~s1),upd H1 (~~~s1)<|.lst xs,I1.laid (t':=s1.toks) (λb u e=>Xf _ e) (XI _) ?_,Z,q _ hf;exists z,us,0,r,Yp _ Z
end
abbrev Sp:=List V->Hp->VK->XK->Prop
abbrev RH:=List Env->Hp->Shared->XK->Ae
structure Env0(P:Program)(w:World)(K:Ad)(mg:Af)(base:Heap)(A:Around)(outer:List Env)(s:Shared)(H:Hp):Prop where
 frames:A.frames=some outer
 mod:Mod K mg base
 bs:∀b o,base.G b=some o->s.D.G b=some o/\H b=none
 bsz:base.objs.t<=(~~~s)
 funs:s.D.FunFrames base outer
 frf:∀b∈VR outer,H b=none
 hok:HOk P w H s.D
 bare:AllBare s.gens
def CE(outer:List Env)(P:Program)(w:World)(H:Hp)(s:Shared)(Q:VK)(u:Value)(s':Shared):(Prop):=
 ∃v H',s'.os=s.os/\AllBare s'.gens/\Un (VR outer) [] H H' s.D s'.D/\HOk P w H' s'.D/\RelV v u/\Q v H'
def CR(CX:RH)(outer:List Env)(P:Program)(w:World)(H:Hp)(s:Shared)(Q:VK)(E:XK)(r:Result)(s':Shared):(Prop):=
 match r with
 | .ok (.ret u)=>CE outer P w H s Q u s'
 | .ok _=>False
 | .error e=>CX outer H s E e s'
structure FnOk(P:Program)(w:World)(K:Ad)(mg:Af)(base:Heap)(CX:RH)(k:Nat)(f:Addr)(fd:FuncData)(ps:List Str)(sp:Sp):Prop where
 len:∀vs H Q E,sp vs H Q E->vs.f=ps.f
 run:∀(A:Around)(outer:List Env)(s:Shared)(H:Hp)(args:Args)(us:Ag)(vs:List V)(Q:VK)(E:XK),Room k A->Env0 P w K mg base A outer s H->BindsTo s fd args (ps.zip us)->Vals vs us->sp vs H Q E->
  codeAny (model P w) A (.call ↑f args) (CR CX outer P w H s Q E) s
def Env0.make{P:Program}{w:World}{K:Ad}{mg:Af}{base:Heap}{A:Around}{outer:List Env}{s:Shared}{H:Hp}(e:Env0 P w K mg base A outer s H)(C:Addr)(us:Ag)(kw:List (Str×Value)):
  Env0 P w K mg base (A.under<|.builtin "type.__call__" {.ref C::us,kw}) outer s H:={by first|show e.frames|(simpa[Around.under,Code.envs,Code.isFrame,pushEnvs] using e.frames),e.mod,e.bs,e.bsz,e.funs,e.frf,e.hok,e.bare}
def Env0.in1{P:Program}{w:World}{K:Ad}{mg:Af}{base:Heap}{A:Around}{outer:List Env}{s:Shared}{H:Hp}(e:Env0 P w K mg base A outer s H):
  Env0 P w K mg base A.in1 outer s H:=⟨e.frames,e.mod,e.bs,e.bsz,e.funs,e.frf,e.hok,e.bare⟩
section
variable{X:Cx}{pins:List (Addr×Obj)}{σ:St}{H:Hp}{s s':Shared}
def Inv.env0(I:Inv X pins σ H s):Env0 X.prog X.w X.K X.mg X.base X.A X.stack s H:=
 {I.ok.frames,I.ok.mod,I.bs,Yj I.ok.bsz I.sz,I.stack,I.stkFree,I.hok,I.bare}
def Inv.after(I:Inv X pins σ H s)(h:CE X.stack X.prog X.w H s Q u s'):EP X pins σ Q u s':=by let(v,H',os,bare,un,hok,r,q):=h;let(hh,g,d,t,qQ):=s';let rfl:qQ=s.os:=os;exists v,H',I.call (h':=hh) (g':=g) (d':=d) (t':=t) (ch:=[]) un hok bare λb z=>absurd z B,r,q
end
def JX(sp:Sp)(US:List V)(E:XK)(t:TA):(TE):=λσ H Q=>t σ H λvs H1=>sp (vs++US) H1 Q E
def qP(C:Addr)(sp:Sp)(US:List V)(E:XK)(t:TA):(TE):=λσ H Q=>t σ H λvs H1=>∀x dx,H1 x=none->H1 dx=none->dx≠x->
 sp (.ref x::(vs++US)) (upd (upd H1 dx<|.own x) x<|.ins C dx []) (λv H2=>v=.non/\Q ↑x H2) E
def Binds(K:Ad)(fd:FuncData)(ps:List Str)(ds:Ag):(Prop):=
 ∀(s:Shared)(us:Ag),K.In s.D->(us++ds).f=ps.f->BindsTo s fd {us,[]} (ps.zip<|us++ds)
def Binds.all{K:Ad}{fd:FuncData}{ps:List Str}(h:∀us:Ag,us.f=ps.f->bindArgs fd {us,[]}=pure (ps.zip us)):Binds K fd ps []:=λs us _ hl=>by rw[YB]at hl ⊢;show .of_eq (h us hl)
def SI(CX:RH)(X:Cx)(E:XK):(Prop):=∀(pins:List (Addr×Obj))(σ:St)(H:Hp)(s:Shared)(e:Value)(s':Shared),Inv X pins σ H s->CX X.stack H s E e s'->X.xe e s'
section
variable{X:Cx}{CX:RH}{k:Nat}{f C:Addr}{fd:FuncData}{ps:List Str}{sp:Sp}{US:List V}{ds:Ag}{E:XK}{x:Str}{p pos:Pos}{e:Expr}{es:List Expr}{t:TA}
def qO(F:FnOk X.prog X.w X.K X.mg X.base CX k f fd ps sp)(hr:Room k X.A)(hb:Binds X.K fd ps ds)(hd:Vals US ds)(hx:SI CX X E)
  (I:Inv X pins σ H s)(r:Vals vs us)(h:sp (vs++US) H Q E):wpAny (model X.prog X.w) X.A (call ↑f us) (EP X pins σ Q) X.xe s:=by
 let r2:Vals (vs++US) (us++ds):=r.append hd;let hl:(us++ds).f=ps.f:=by rw[<-r2.f];show F.len _ _ _ _ h
 show Fj (Mb (F.run X.A X.stack s H {us,[]} (us++ds) (vs++US) Q E hr I.env0 (hb s us I.kIn hl) r2 h) λr s' hq=>?_);cases r with
 |error e=>show hx pins σ H s e s' I hq
 |ok fl=>
  cases fl with
  |ret u=>show I.after hq
  |next=>show False.elim hq
  |brk=>show False.elim hq
  |cont=>show False.elim hq
def QB(F:FnOk X.prog X.w X.K X.mg X.base CX k f fd ps sp)(hr:Room k X.A)(hg:Gl X x)(hm:X.mg x=some ↑f)(hk:PySem.W.keepIn X.K ↑f=true)(hb:Binds X.K fd ps ds)(hd:Vals US ds)(hx:SI CX X E)
  (ha:PA X (e::es) t)(Tz:(x == ("__debug__":Str))=false:=by decide)(he:starEach (e::es) X.L=(false,eval e X.L)::starEach es X.L:=by rfl)(UX:(backTo pos<|starEach es X.L).any (·.1)=false:=by rfl):
  PE X (.Call (.Name x p) (e::es) [] pos) (JX sp US E t):=by intro pins s σ H Q I h;show OX (Dy I hg hm ?_ Tz);show tK (h₀:=X.base) I.ok.mod.kin hk (thn (ha pos pins s σ H _ I h) λus s1 ⟨vs,H1,I1,r,q⟩=>{I1.kIn,?_}) he UX;show qO F hr hb hd hx I1 r q
structure Mk(K:Ad)(C f:Addr):Prop where
 makes:PySem.W.makesIn K C=true
 init:PySem.W.findIn K ↑C "__init__"=some (some<|.ref f)
 fn:PySem.W.isFn K ↑f=true
 kp:PySem.W.keepIn K ↑C=true
def qN(M:Mk X.K C f)(F:FnOk X.prog X.w X.K X.mg X.base CX k f fd ps sp)(hr:Room (k+1) X.A)(hb:Binds X.K fd ps ds)(hd:Vals US ds)
  (hx:SI CX X E)(I:Inv X pins σ H s)(r:Vals vs us)
  (h:∀x dx,H x=none->H dx=none->dx≠x->sp (.ref x::(vs++US)) (upd (upd H dx<|.own x) x<|.ins C dx []) (λv H2=>v=.non/\Q ↑x H2) E):
  wpAny (model X.prog X.w) X.A (call ↑C us) (EP X pins σ Q) X.xe s:=by
 let hq:=h ((~~~s)+1) (~~~s) (I.hok.fresh<|Ue _) (I.hok.fresh<|XI _) (YA<|MU _);let I2:=Inv.made (C:=C) I
 let r2:Vals (V.ref ((~~~s)+1)::(vs++US)) (Value.ref ((~~~s)+1)::(us++ds)):=.cons Z (r.append hd);let hl:(Value.ref ((~~~s)+1)::us++ds).f=ps.f:=by let e:=r2.f;rw[F.len _ _ _ _ hq]at e;show e.symm
 show Fj (qY (f:=f) I.kIn M.makes M.init (RL.H M.fn) (Mb (F.run _ X.stack _ _ {Value.ref ((~~~s)+1)::us,[]} (Value.ref ((~~~s)+1)::(us++ds)) _ _ E (hr.make C us [])
  (I2.env0.make C us []) (hb _ (Value.ref ((~~~s)+1)::us) I2.kIn hl) r2 hq) λr s' CV=>?_))
 cases r with
 |error e=>show hx pins σ _ _ e s' I2 CV
 |ok fl=>
  cases fl with
  |ret u=>
   let(v,H',I3,rv,ev,q3):=I2.after CV;subst ev;exists rv,{V.ref<|(~~~s)+1,H',I3,Z,q3}
  |next=>show False.elim CV
  |brk=>show False.elim CV
  |cont=>show False.elim CV
def QA(M:Mk X.K C f)(F:FnOk X.prog X.w X.K X.mg X.base CX k f fd ps sp)(hr:Room (k+1) X.A)(hg:Gl X x)(hm:X.mg x=some ↑C)(hb:Binds X.K fd ps ds)(hd:Vals US ds)(hx:SI CX X E)
  (ha:PA X (e::es) t)(Tz:(x == ("__debug__":Str))=false:=by decide)(he:starEach (e::es) X.L=(false,eval e X.L)::starEach es X.L:=by rfl)(UX:(backTo pos<|starEach es X.L).any (·.1)=false:=by rfl):
  PE X (.Call (.Name x p) (e::es) [] pos) (qP C sp US E t):=by intro pins s σ H Q I h;show OX (Dy I hg hm ?_ Tz);show tK (h₀:=X.base) I.ok.mod.kin M.kp (thn (ha pos pins s σ H _ I h) λus s1 ⟨vs,H1,I1,r,q⟩=>{I1.kIn,?_}) he UX;show qN M F hr hb hd hx I1 r q
end
structure FnScope(N P:List Str)(sc:Scope):Prop where
 kind:sc.kind=.function
 co:sc.isCoroutine=false
 gen:sc.isGenerator=false
 nd:N.Nodup
 pre:N.M P.f=P
 par:∀x∈P,sc.names.U x=some .local\/sc.names.U x=some .cell
 nofree:∀y∈sc.names,y.2≠.free
def dq{kindOf:Str->Option NameKind}:∀{binds:List (Str×Value)}{m:Af},(∀v,(x,v)∉binds)->bindL kindOf binds m x=m x
 |[],_,_=>rfl
 | (n,v)::r,m,h=>by
  unfold bindL;rw[dq λw hw=>h w (Yg _ hw)];split
  .have:x≠n:=by rintro rfl;show h v Ye
   simp[this]
  .rfl
def dk{kindOf:Str->Option NameKind}:∀{binds:List (Str×Value)}{m:Af},(∀v,(x,v)∉binds)->bindC kindOf binds m x=m x
 |[],_,_=>rfl
 | (n,v)::r,m,h=>by
  unfold bindC;rw[dk λw hw=>h w (Yg _ hw)];split
  .rfl
  .have:x≠n:=by rintro rfl;show h v Ye
   simp[this]
def dj{kindOf:Str->Option NameKind}{x:Str}{v:Value}:∀{P:List Str}{vs:Ag}{i:Nat}{m:Af},P.Nodup->P[i]?=some x->vs[i]?=some v->kindOf x=some .local->
  bindL kindOf (P.zip vs) m x=some v
 |[],_,_,_,_,h,_,_=>by simp at h
 |_::_,[],_,_,_,_,h,_=>by simp at h
 |p::P,w::vs,0,m,nd,h1,h2,hk=>by
  simp at h1 h2;subst h1;subst h2;change bindL kindOf ((p,w)::P.zip vs) m p=_
  unfold bindL;rw[dq λv hv=>(OV.H nd).1 (sZ hv).1,if_pos hk];simp
 |p::P,w::vs,i+1,m,nd,h1,h2,hk=>by change bindL kindOf ((p,w)::P.zip vs) m x=_;unfold bindL;show dj (i:=i) (OV.H nd).2 (by simpa using h1) (by simpa using h2) hk
def di{kindOf:Str->Option NameKind}{x:Str}{v:Value}:∀{P:List Str}{vs:Ag}{i:Nat}{m:Af},P.Nodup->P[i]?=some x->vs[i]?=some v->kindOf x≠some .local->
  bindC kindOf (P.zip vs) m x=some v
 |[],_,_,_,_,h,_,_=>by simp at h
 |_::_,[],_,_,_,_,h,_=>by simp at h
 |p::P,w::vs,0,m,nd,h1,h2,hk=>by
  simp at h1 h2;subst h1;subst h2;change bindC kindOf ((p,w)::P.zip vs) m p=_
  unfold bindC;rw[dk λv hv=>(OV.H nd).1 (sZ hv).1,if_neg hk];simp
 |p::P,w::vs,i+1,m,nd,h1,h2,hk=>by change bindC kindOf ((p,w)::P.zip vs) m x=_;unfold bindC;show di (i:=i) (OV.H nd).2 (by simpa using h1) (by simpa using h2) hk
def start(N:List Str)(vs:List V):(St):=vs.R some++List.replicate (N.f-vs.f) none
def Wx(CX:RH)(P:Program)(w:World)(K:Ad)(mg:Af)(base:Heap)(N:List Str)(qual:Str)(scope:Scope)(f:Addr)(cd:Value)(A:Around)(outer:List Env)(s:Shared)(H:Hp)(E:XK):(Cx) where
 prog:=P
 w:=w
 K:=K
 mg:=mg
 base:=base
 A:=A.deeper (envOfC qual scope (~~~s) f cd)
 N:=N
 s₀:=s
 H₀:=H
 env:=envOfC qual scope (~~~s) f cd
 outer:=outer
 stack:=envOfC qual scope (~~~s) f cd::outer
 ex:=[]
 calm:=true
 fn:=λ_=>true
 pn:=[]
 xe:=λe s'=>wpAny (model P w) (A.deeper<|envOfC qual scope (~~~s) f cd) (leaving (envOfC qual scope (~~~s) f cd) e) (λ_ Ub=>CX outer H s E e Ub) (λe' Ub=>CX outer H s E e' Ub) s'
def dh{sc:Scope}(h:sc.names.U x=some .cell):∃c,(cellsFrom n sc.names []).U x=some c:=by let q:=dY sc.names n [] (.inl h);show t6.H q
def ZN8{CX:RH}{P:Program}{w:World}{K:Ad}{mg:Af}{base:Heap}{N ps:List Str}{qual:Str}{scope:Scope}{f:Addr}{cd:Value}{A:Around}{outer:List Env}{s s1:Shared}{H:Hp}{E:XK}{us:Ag}{vs:List V}
  (S:FnScope N ps scope)(hd:A.handled=none)(e0:Env0 P w K mg base A outer s H)(hl:vs.f=ps.f)(r:Vals vs us)
  (x:InCallC s (~~~s) (bindL (envOfC qual scope (~~~s) f cd).kindOf (ps.zip us) λ_=>none) (cellsFrom ((~~~s)+1) scope.names []) (bindC (envOfC qual scope (~~~s) f cd).kindOf (ps.zip us) λ_=>none) s1):
  Inv (Wx CX P w K mg base N qual scope f cd A outer s H E) [] (start N vs) H s1:=by
 let UX:ps.f<=N.f:=by have:=QP List.f S.pre;rw[Yl]at this;lia
 let(h1,tk,rfl,hk):=x.done;let HQ:∀b:Addr,b∉(Wx CX P w K mg base N qual scope f cd A outer s H E).ex:=λb z=>absurd (show b∈([]:List Addr) from z) B
 show⟨{e0.mod,S.kind,Z,Z,XI _,λy z c h1 h2=>?_,λy hy=>?_,λy c _ h=>?_,λ_=>hd,Around.frames_deeper e0.frames,.inr ⟨Z,Z⟩,λb z=>absurd z<|HQ b,e0.bs,e0.bsz,λb _ _=>HQ b,λb z=>absurd z<|HQ b,e0.funs,e0.frf},
  rfl,e0.bare,Un.kept hk,{_,x.toInCall.ns,λi y v h1 h2 h3=>?_},λy c h=>{_,x.cell y c h},e0.hok.fresh<|XI _,λy c h=>?_,λp hp=>absurd (show p∈([]:List (Addr×Obj)) from hp) B,e0.hok.kept hk,?_⟩
 .show name_of_addr x.apart (RO h1) (RO h2)
 .let hy:scope.names.U y=some .cell\/scope.names.U y=some .free:=hy;rcases hy with hy|hy
  .show dh hy
  .show absurd Z (S.nofree _<|RO hy)
 .show MQ (x.above y c<|RO h)
 .let hi:i<vs.f:=by
   unfold start at h2;cases hi:i<vs.f
   .show hi
   .rw[Yo (by simpa using hi)]at h2;rw[xR]at h2;split at h2<;>cases h2
  let ha:vs[i]?=some v:=by
   unfold start at h2;rw[Yr (by simpa using hi),Yw]at h2;cases e:vs[i]? with
   |none=>rw[e]at h2;cases h2
   |some a=>rw[e]at h2;cases h2;rfl
  let(u,hu,rv):=r.get ha;let hp:ps[i]?=some y:=by rwa[<-S.pre,List.getElem?_take_of_lt J]
  let dg:ps.Nodup:=by rw[<-S.pre];show S.nd.sublist (Mm _ _)
  exists u,rv,?_;rcases S.par y (WT hp) with k|k
  .show .inl {k,dj dg hp hu k}
  .let⟨c,e⟩:=dh (n:=(~~~s)+1) k;show .inr {.inl k,c,e,?_};let q:=x.cell y c e
   rwa[di dg hp hu (by change scope.names.U y≠_;rw[k];decide)]at q
 .show e0.hok.fresh (MQ<|x.above y c<|RO h)
 .unfold start;change _=N.f
  rw[Xy,Yb,YT];grind
def HP{CX:RH}{P:Program}{w:World}{K:Ad}{mg:Af}{base:Heap}{k:Nat}{f:Addr}{name qual:Str}{params:Arguments}{body:List Stmt}{scope:Scope}{dV kV doc pm XG ct oc:Value}{an od:Option Addr}
  {Tx:Array (Option Value)}{N ps:List Str}{sp:Sp}(lk:K.U f=some {oc,od,.func<|PySem.W.fnOf name qual params body scope dV kV doc pm an XG ct,Tx})(Tj:PySem.W.codeIn K XG qual=true)(S:FnScope N ps scope)
  (len:∀vs H Q E,sp vs H Q E->vs.f=ps.f)
  (hbody:∀(A:Around)(outer:List Env)(s:Shared)(H:Hp)(vs:List V)(Q:VK)(E:XK),Room k (A.deeper<|envOfC qual scope (~~~s) f XG)->sp vs H Q E->
   ∃t,PSs (Wx CX P w K mg base N qual scope f XG A outer s H E) body t/\t {nx:=λ_ H'=>Q .non H',rt:=Q} (start N vs) H):
  FnOk P w K mg base CX (k+1) f (PySem.W.fnOf name qual params body scope dV kV doc pm an XG ct) ps sp:=by
 exists len,λA outer s H args us vs Q E hr e0 hb r Sa=>?_;let hl:=len _ _ _ _ Sa
 let KX:K.In s.D:=e0.mod.kin.keeps λb o e=>(e0.bs b o e).1;let lim:s.D.NoLimit:=e0.mod.nolimit.keeps λb o e=>(e0.bs b o e).1
 let CU:∀y∈ps.zip us,scope.names.U y.1=some .local\/(scope.names.U y.1=some .cell/\((cellsFrom ((~~~s)+1) scope.names []).U y.1).isSome=true):=λ⟨n,v⟩ hy=>by
  rcases S.par n (sZ hy).1 with q|q
  .show .inl q
  .show .inr {q,dY _ _ _<|.inl q}
 show codeAny_call_function hr.depth (KX _ _ lk) Z S.co S.gen Z (PySem.W.codeRec_of KX Tj) (hb _ _ _ _ ?_);show wpAny_newFunctionEnv_cells S.kind CU λenv he s1 x=>?_;subst he;exists lim.keeps x.toInCall.keep,codeAny_func ?_;let(t,ht,hq):=hbody A outer s H vs Q E (hr.deeper _) Sa;let I:Inv (Wx CX P w K mg base N qual scope f XG A outer s H E) [] (start N vs) H s1:=ZN8 S hr.hd e0 hl r x
 show Ud (ht [] s1 (start N vs) H _ I hq) (λfl s' hs=>?_) λe s' hs=>hs;let fin:∀{σ':St}{H':Hp}{v:V}{u:Value},Inv (Wx CX P w K mg base N qual scope f XG A outer s H E) [] σ' H' s'->RelV v u->Q v H'->CE outer P w H s Q u s':=
  λ{σ' H' v u} AP rv q=>⟨v,H',AP.os,AP.bare,AP.base,AP.hok,rv,q⟩
 cases fl with
 |ret u=>
  let(v,σ',H',AP,rv,q):=hs;show fin AP rv q
 |next=>
  let(σ',H',AP,q):=hs;show fin (v:=V.non) (u:=Value.none) AP Z q
 |brk=>
  let(_,_,_,q):=hs;show False.elim q
 |cont=>
  let(_,_,_,q):=hs;show False.elim q
section
variable{X:Cx}{x:Str}{p pos:Pos}{e:Expr}{es:List Expr}{t:TA}{id T:String}{r:List V->Hp->VK->Prop}
def df(r:List V->Hp->VK->Prop)(t:TA):(TE):=λσ H Q=>t σ H λvs H1=>r vs H1 Q
def Zd(hc:TB X (.builtin id) r)(hg:Gl X x)(hm:X.mg x=none)(hv:bootBuiltins x=some (.builtin id))(ha:PA X (e::es) t)(hn:x≠"__name__":=by decide)(Tz:(x == ("__debug__":Str))=false:=by decide)
  (he:starEach (e::es) X.L=(false,eval e X.L)::starEach es X.L:=by rfl)(UX:(backTo pos<|starEach es X.L).any (·.1)=false:=by rfl):PE X (.Call (.Name x p) (e::es) [] pos) (df r t):=by intro pins s σ H Q I h;show OX (Pu I hg hm hv ?_ hn Tz);show eZ (thn (ha pos pins s σ H _ I h) λus s1 zz=>by let(vs,H1,I1,r1,q1):=zz;show hc pins s1 σ H1 vs us Q I1 r1 q1) he UX
def Zk(hc:TB X (.type T) r)(hg:Gl X x)(hm:X.mg x=none)(hv:bootBuiltins x=some (.type T))(ha:PA X (e::es) t)(hn:x≠"__name__":=by decide)(Tz:(x == ("__debug__":Str))=false:=by decide)
  (he:starEach (e::es) X.L=(false,eval e X.L)::starEach es X.L:=by rfl)(UX:(backTo pos<|starEach es X.L).any (·.1)=false:=by rfl):PE X (.Call (.Name x p) (e::es) [] pos) (df r t):=by intro pins s σ H Q I h;show OX (Pu I hg hm hv ?_ hn Tz);show IP (thn (ha pos pins s σ H _ I h) λus s1 zz=>by let(vs,H1,I1,r1,q1):=zz;show hc pins s1 σ H1 vs us Q I1 r1 q1) he UX
end
end L2
namespace HT
open PySem PyProof.Rows
def lexLt:(Ac->Ac->Bool)
 |[],[]=>false
 |[],_::_=>true
 |_::_,[]=>false
 |x::xs,y::ys=>if x=y then lexLt xs ys else decide (x<y)
def Xq(x y:Int)(xs ys:Ac):lexLt (x::xs) (y::ys)=if x=y then lexLt xs ys else decide (x<y):=rfl
section
variable{prog:Program}{w:World}{A:Around}{E:Ae}{s:Shared}
def LK{vs ws:Ag}{Q:Ae}(ht:IsTup s.D t vs.C)(hb:IsTup s.D b ws.C)(hv:vs≠[])
  (h1:ws=[]->Q ↑t s)(h2:ws≠[]->Q (.ref (~~~s)) {s with heap:=s.D.push {cls:=.type "tuple",data:=.seq (vs++ws).C} })
  (hsz:vs.f+ws.f<=sizeLine):wpAny (model prog w) A (binaryOp .Add ↑t<|.ref b) Q E s:=by
 let((cls,dd,data,sl),ho,hc,n,hd):=id ht;let((CT,Fg,data2,Ff),Th,UR,n2,hd2):=id hb;simp only at hc hd UR hd2;subst hc hd UR hd2;let e:vs.C++ws.C=(vs++ws).C:=B
 cases hw:ws=[]
 .show xg {_,ho,Z} {_,Th,Z} sO seq_tuple_add tV tY (t7 _ _)
   (tuple_addW1 t b vs.C ws.C n n2 dd Fg sl Ff (by simpa using hv)<|by simp[hw]) {ho,Th,h1 hw}
 .show xg {_,ho,Z} {_,Th,Z} sO seq_tuple_add tV tY (t7 _ _)
   (tuple_addW2 t b vs.C ws.C n n2 dd Fg sl Ff (by simpa using hv) (by simpa using hw)<|by rwa[Xk,Xk]) {ho,Th,?_}
  rw[e];show h2 hw
def UN(n d:Nat):(Option Int->Nat)
 |none=>d
 |some v=>if v<0 then (v+(n:Int)).j else min v.j n
def SH(n d:Nat):UN n d none=d:=rfl
end
end HT
namespace L2
open PySem PySem.Spec PyProof.Rows
abbrev TO:=St->Hp->(Option Int->Hp->Prop)->Prop
def PO(X:Cx)(e:Option Expr)(t:TO):(Prop):=
 ∀(pins:List (Addr×Obj))(s:Shared)(σ:St)(H:Hp)(Q:Option Int->Hp->Prop),Inv X pins σ H s->t σ H Q->
  wpAny (model X.prog X.w) X.A (evalPart e X.L) (λu s'=>∃o H',Inv X pins σ H' s'/\IsPart u o/\Q o H') X.xe s
def qM:(TO):=λ_ H Q=>Q none H
inductive xPart(x:V)(H1:Hp)(Q:Option Int->Hp->Prop):Prop
 |mk (i:Int) (_:x=.int i) (_:Q (some i) H1)
def qL(t:TE):(TO):=λσ H Q=>t σ H λx H1=>xPart x H1 Q
section
variable{X:Cx}{e:Expr}{te:TE}{lo hi:Option Expr}{tl th:TO}{pos p2:Pos}
def Qz:PO X none qM:=by intro pins s σ H Q I h;rw[evalPart_none];show Yh ⟨none,H,I,.none,h⟩
def SG(h:PE X e te):PO X (some e) (qL te):=by intro pins s σ H Q I hw;rw[evalPart_some];show thn (h pins s σ H _ I hw) λu s1 Xw=>?_;let(x,H1,I1,r1,q1):=Xw;let(i,rfl,q):=q1;let(t,rfl):=r1;exists some i,H1,I1,.int i t,q
def qK(X:Cx)(r:V->Option Int->Option Int->Hp->VK->Prop):(Prop):=
 ∀(pins:List (Addr×Obj))(s:Shared)(σ:St)(H:Hp)(x:V)(v vl vu:Value)(lo hi:Option Int)(sl:Addr)(Q:VK),Inv X pins σ H s->RelV x v->s.D.IsSliceOf sl vl vu .none->IsPart vl lo->IsPart vu hi->r x lo hi H Q->
  ∃T id,typeLookup (.type T) "__getitem__"=pure (some<|.builtin id)/\s.TypeIs v T/\wpAny (model X.prog X.w) X.A (getItem v<|.ref sl) (EP X pins σ Q) X.xe s
def tSl(r:V->Option Int->Option Int->Hp->VK->Prop)(te:TE)(tl th:TO):(TE):=λσ H Q=>te σ H λx H1=>tl σ H1 λl H2=>th σ H2 λu H3=>r x l u H3 Q
def HN{r:V->Option Int->Option Int->Hp->VK->Prop}(hr:qK X r)(he:PE X e te)(hl:PO X lo tl)(hu:PO X hi th):PE X (.Subscript e (.Slice lo hi none p2) pos) (tSl r te tl th):=by
 intro pins s σ H Q I h;show Subscript_ (thn (he pins s σ H _ I h) λv s1 Xw=>?_);let(x,H1,I1,r1,q1):=Xw;show wpAny_Slice (thn (hl pins s1 σ H1 _ I1 q1) λvl s2 zz=>?_);let(l,H2,I2,pl,q2):=zz;show thn (hu pins s2 σ H2 _ I2 q2) λvu s3 Xw=>?_;let(u,H3,I3,pu,q3):=Xw;rw[evalPart_none];show Yh ?_;let I4:Inv X pins σ H3 {s3 with heap:=s3.D.push {cls:=.type "slice",data:=.fields #[vl,vu,.none]} }:=I3.kept (t':=s3.toks) λb ob q=>Xf _ q
 let(T,id,hT,ht,hg):=hr pins {s3 with heap:=s3.D.push {cls:=.type "slice",data:=.fields #[vl,vu,.none]} } σ H3 x v vl vu l u (~~~s3) Q I4 r1 (Heap.IsSliceOf.new ..) pl pu q3;change wpAny (model X.prog X.w) X.A (subscriptTail e (.Slice lo hi none p2) v<|.ref (~~~s3)) (EP X pins σ Q) X.xe {s3 with heap:=s3.D.push {cls:=.type "slice",data:=.fields #[vl,vu,.none]} }
 show tail_any (ops:=[.ref (~~~s3),v]) ht hT hg (by with_unfolding_all rfl)
def Ww(xs:List V)(lo hi:Option Int):(List V):=(xs.drop<|HT.UN xs.f 0 lo).M (HT.UN xs.f xs.f hi-HT.UN xs.f 0 lo)
def wK(xs:List V)(lo hi:Option Int):(Ww xs lo hi).f<=xs.f:=by unfold Ww;rw[Yl,YS];lia
def JW(K:Ad):(R2):=λx y H Q=>∃a b xs ys,x=.ref a/\y=.ref b/\SqT K H a xs/\SqT K H b ys/\xs≠[]/\xs.f+ys.f<=sizeLine/\
 (ys=[]->Q ↑a H)/\(ys≠[]->∀p,H p=none->Q ↑p (upd H p<|.tup<|xs++ys))
def Vals.nil_iff(r:Vals xs us):us=[]↔xs=[]:=by
 cases r with
 |nil=>simp
 |cons _ _=>simp
def qJ:Wy X (binaryOp .Add) (JW X.K):=by intro pins s σ H x y v u Q I rx ry h;let(a,b,xs,ys,rfl,rfl,ha,hb,hx,hz,q1,q2):=h;cases rx;cases ry;let(XW,r1,p1,_):=I.tuple ha;let(VZ,r2,p2,_):=I.tuple hb;show HT.LK p1 p2 (λz=>hx<|r1.nil_iff.H z) (λz=>{.ref a,H,I,Z,q1<|r2.nil_iff.H z}) (λz=>?_) (by rwa[<-r1.f,<-r2.f]);exists .ref (~~~s),_,I.laid (t':=s.toks) (o:=.tup<|xs++ys) (λb ob q=>Xf _ q) (XI _) ?_,Z,q2 (λw=>z<|r2.nil_iff.X w) _<|I.hok.fresh<|XI _;exists by rw[Xy];show hz,_,r1.append r2,IsTup.new _ _
end
def Oz(n:Nat)(i:Int):(Option Nat):=if 0<=i then (if i<n then some i.j else none) else if -(n:Int)<=i then some (i+n).j else none
def VQ{α:Type}(xs:List α)(i:Int):(Option α):=(Oz xs.f i).bind λj=>xs[j]?
def de{j:Nat}(h:Oz n i=some j):seqIndex? i n=some j/\j<n/\-(n:Int)<=i/\i<n:=by
 unfold Oz at h;cases h0:0<=i
 .rw[if_pos h0]at h;cases h1:i<n
  .rw[if_pos h1]at h;let e:i.j=j:=Yk h
   exists by rw[seqIndex_of h0 h1,e],J,J,h1
  .rw[if_neg h1]at h;cases h
 .rw[if_neg h0]at h;cases h1:-(n:Int)<=i
  .rw[if_pos h1]at h;let e:(i+n).j=j:=Yk h
   exists by rw[seqIndex_neg J h1,e],J,h1,J
  .rw[if_neg h1]at h;cases h
def JV{α:Type}{xs:List α}{i:Int}{v:α}(h:VQ xs i=some v):∃j,seqIndex? i xs.f=some j/\xs[j]?=some v/\j<xs.f/\-xs⁻¹<=i/\i<xs.f:=by
 unfold VQ at h;cases e:Oz xs.f i with
 |none=>rw[e]at h;cases h
 |some j=>
  rw[e]at h;let(h1,h2,h3,h4):=de e;exists j,h1,h,h2,h3,h4
def qI(b:Expr):(Prop):=∀o i,subscripted b false o i=operate [o,i] (getItem o i)
def CS(X:Cx)(r:R2):(Prop):=
 ∀(value slice:Expr)(pins:List (Addr×Obj))(s:Shared)(σ:St)(H:Hp)(x y:V)(v u:Value)(Q:VK),Inv X pins σ H s->RelV x v->RelV y u->r x y H Q->
  subscripted slice false v u=operate [v,u] (getItem v u)->wpAny (model X.prog X.w) X.A (subscriptTail value slice v u) (EP X pins σ Q) X.xe s
def wJ(X:Cx)(id:String)(r:V->List V->Hp->VK->Prop):(Prop):=
 ∀(pins:List (Addr×Obj))(s:Shared)(σ:St)(H:Hp)(x:V)(xs:List V)(v:Value)(us:Ag)(Q:VK),Inv X pins σ H s->RelV x v->Vals xs us->r x xs H Q->
  wpAny (model X.prog X.w) X.A (call (.builtin id)<|v::us) (EP X pins σ Q) X.xe s
section
variable{X:Cx}{a b:Expr}{ta tb:TE}{pos:Pos}
def ZJ(hr:CS X r)(ha:PE X a ta)(hb:PE X b tb)(hs:qI b):PE X (.Subscript a b pos) (wR r ta tb):=by intro pins s σ H Q I h;show Subscript_ (HV ha hb I h λv u s2 x y H2 I2 rx ry q=>hr a b pins s2 σ H2 x y v u Q I2 rx ry q<|hs _ _)
inductive rIxL(K:Ad)(x:V)(y:V)(H:Hp)(Q:VK):Prop
 |mk (p xs i v:_) (_:x=.ref p) (_:y=.int i) (_:SqL K H p xs) (_:VQ xs i=some v) (_:Q v H)
inductive rIxT(K:Ad)(x:V)(y:V)(H:Hp)(Q:VK):Prop
 |mk (p xs i v:_) (_:x=.ref p) (_:y=.int i) (_:SqT K H p xs) (_:VQ xs i=some v) (_:Q v H)
def qH:CS X (rIxL X.K):=by
 intro value slice pins s σ H x y v u Q I rx ry h hs;let(p,xs,i,z,rfl,rfl,hq,he,q):=h;cases rx;let(t,rfl):=ry;let(XW,r,pl,hz):=I.list hq;let(j,h1,h2,h3,h4,h5):=JV he;let(w,ew,LJ):=r.get h2;let hl:=r.f
 let hn:=Dc;let fin:EP X pins σ Q w s:=⟨z,H,I,LJ,q⟩
 cases h0:0<=i
 .let hj:i.j=j:=by rw[seqIndex_of h0 h5]at h1;show Yk h1
  show item_listR pl.isList h0 J (by rw[hj];simpa using ew) fin hs
 .let hj:(i+(XW.C.t:Int)).j=j:=by rw[seqIndex_neg J h4]at h1;rw[Xk,<-hl];show Yk h1
  show subscriptTail_builtinR (x:=w) pl.isList.typeIs slot_list_getitem.U
   (wpAny_getItem_list_neg (Q:=λr s'=>r=w/\EP X pins σ Q r s') pl.isList sr (by rw[Xk]<;>lia) J (by rw[hj];simpa using ew) ⟨rfl,fin⟩) hs
def qG:CS X (rIxT X.K):=by
 intro value slice pins s σ H x y v u Q I rx ry h hs;let(p,xs,i,z,rfl,rfl,hq,he,q):=h;cases rx;let(t,rfl):=ry;let(XW,r,pl,hz):=I.tuple hq;let(j,h1,h2,h3,h4,h5):=JV he;let(w,ew,LJ):=r.get h2;let hl:=r.f
 let hn:=Dc;let fin:EP X pins σ Q w s:=⟨z,H,I,LJ,q⟩
 show subscriptTail_builtinR (x:=w) pl.typeIs slot_tuple_getitem.U
  (getItem_tuple (j:=j) (Q:=λr s'=>r=w/\EP X pins σ Q r s') pl J J (by rwa[Xk,<-hl]) (by simpa using ew) ⟨Z,fin⟩) hs
def qF(XW:Ag)(n j:Nat)(u:Value):Obj.mapSeq (·.setIfInBounds j u) {cls:=.type "list",data:=.seq XW.C n}={cls:=.type "list",data:=.seq (XW.set j u).C n}:=by simp[Obj.mapSeq]
def Inv.lst{pins:List (Addr×Obj)}{σ:St}{H:Hp}{s:Shared}{p:Addr}{xs:List V}(I:Inv X pins σ H s)(h:H p=some (.lst xs)):
  ∃(XW:Ag)(n:Nat),Vals xs XW/\s.D.G p=some {cls:=.type "list",data:=.seq XW.C n}/\xs.f<=sizeLine:=by let(z,XW,n,r,e):=I.hok p _ h;exists XW,n,r,e,z
def Inv.lstUpd{p:Addr}{xs ys:List V}{XW its':Ag}{f:Obj->Obj}(I:Inv X pins σ H s)(h:H p=some (.lst xs))
  (ho:s.D.G p=some {cls:=.type "list",data:=.seq XW.C n})(hf:f {cls:=.type "list",data:=.seq XW.C n}={cls:=.type "list",data:=.seq its'.C n'})(r:Vals ys its')(hz:ys.f<=sizeLine)(t:Nat):
  Inv X pins σ (upd H p<|.lst ys) {s with heap:=s.D.update p f,toks:=t}:=by
 let e:(s.D.update p f).G p=some {cls:=.type "list",data:=.seq its'.C n'}:=by rw[OZ f ho (by rw[hf]<;>rfl),hf]
 show I.write (x:=p) (e:=p) (by rw[h];trivial) (.inl Z) (λb u hb q=>(YU _ _<|Xb hb).m q) {_,e} ?_;exists hz,its',n',r,e
inductive rSetL(o:V)(i:V)(v:V)(H:Hp)(Q:Hp->Prop):Prop
 |mk (p xs k j:_) (_:o=.ref p) (_:i=.int k) (_:H p=some (.lst xs)) (_:Oz xs.f k=some j) (_:Q (upd H p<|.lst<|xs.set j v))
def Qy:HZ X rSetL:=by
 intro pins s σ H o i v ov iv u Q I ro ri rv h;let(p,xs,k,j,rfl,rfl,hp,hj,q):=h;cases ro;let(t,rfl):=ri;let(XW,n,r,ho,hz):=I.lst hp;let(h1,h2,h3,h4):=de hj;let hl:=r.f
 let hn:=Dc;let I':Inv X pins σ (upd H p<|.lst<|xs.set j v) {s with heap:=s.D.update p (Obj.mapSeq (·.setIfInBounds j u))}:=
  I.lstUpd hp ho (qF XW n j u) (r.set rv j) (by rwa[MT]) s.toks
 cases h0:0<=k
 .let hk:k.j=j:=by rw[seqIndex_of h0 h4]at h1;show Yk h1
  show PySem.W.ki_setAt ho h0 J (by rwa[Xk,<-hl]) (by rw[hk];exists _,I',q)
 .let hk:(k+(XW.C.t:Int)).j=j:=by rw[seqIndex_neg J h3]at h1;rw[Xk,<-hl];show Yk h1
  show PySem.W.ki_setBack ho sr (by rwa[Xk,<-hl]) J (by rw[hk];exists _,I',q)
def Ze4(lo hi:Option Int)(n:Nat):(sliceBounds lo hi none n).1=((HT.UN n 0 lo:Nat):Int)/\(sliceBounds lo hi none n).2.1=((HT.UN n n hi:Nat):Int)/\(sliceBounds lo hi none n).2.2=1:=by
 exists ?_,?_,Z
 .cases lo with
  |none=>simp[sliceBounds,HT.UN]
  |some i=>
   simp only[sliceBounds,HT.UN,Option.getD_none,show(1:Int)>0 by decide,LS];cases h:i<0
   .simp only[h,LS]<;>grind
   .simp only[h,Rm]<;>grind
 .cases hi with
  |none=>simp[sliceBounds,HT.UN]
  |some i=>
   simp only[sliceBounds,HT.UN,Option.getD_none,show(1:Int)>0 by decide,LS];cases h:i<0
   .simp only[h,LS]<;>omega
   .simp only[h,Rm]<;>omega
def ZL3(XW:Ag)(lo hi:Option Int):slicePick XW.C lo hi none=((XW.drop (HT.UN XW.f 0 lo)).M (HT.UN XW.f XW.f hi-HT.UN XW.f 0 lo)).C:=by let(h1,h2,h3):=Ze4 lo hi XW.C.t;unfold slicePick;rw[h1,h2,h3];simp only[sliceRange_one,pick_run,Xk]<;>rfl
inductive rSlL(K:Ad)(x:V)(lo:Option Int)(hi:Option Int)(H:Hp)(Q:VK):Prop
 |mk (a xs:_) (_:x=.ref a) (_:SqL K H a xs) (_:∀p,H p=none->Q ↑p (upd H p<|.lst<|Ww xs lo hi))
def qE:qK X (rSlL X.K):=by
 intro pins s σ H x v vl vu lo hi sl Q I rx hs pl pu h;let(a,xs,rfl,hx,q):=h;cases rx;let(XW,r,ht,hz):=I.list hx;let hlen:=r.f
 exists "list",_,slot_list_getitem.U,ht.isList.typeIs,?_;show wpAny_getItem_list_slice ht.isList hs pl pu .none B ?_ (by rw[Xk]<;>lia)
 rw[ZL3,<-hlen];exists .ref (~~~s),_,I.laid (t':=s.toks) (o:=.lst<|Ww xs lo hi) (λb ob q=>Xf _ q) (XI _) ?_,Z,q _<|I.hok.fresh<|XI _;exists Yj (wK xs lo hi) hz,_,0,(r.drop<|HT.UN xs.f 0 lo).M (HT.UN xs.f xs.f hi-HT.UN xs.f 0 lo),Yp _ Z
def VP:(V->Bool)
 | .non=>true
 | .bl _=>true
 | .int _=>true
 | .str _=>true
 |_=>false
def SF:(V->V->Bool)
 | .non,.non=>true
 | .bl a,.bl b=>a == b
 | .bl a,.int b=>(if a then 1 else 0) == b
 | .int a,.bl b=>a == (if b then 1 else 0)
 | .int a,.int b=>a == b
 | .str a,.str b=>a == b
 |_,_=>false
def CQ(ry:RelV y u)(rx:RelV x v)(fy:VP y=true)(fx:VP x=true):SeqAt.EqAt A s u v (SF y x):=by
 cases y with
 |non=>
  cases ry;cases x with
  |non=>cases rx;show SeqAt.EqAt.Y _
  |bl b=>cases rx;show SeqAt.EqAt.none_bool b
  |int b=>let(t,rfl):=rx;show SeqAt.EqAt.none_int b t
  |str b=>let(t,rfl):=rx;show SeqAt.EqAt.none_str b t
  |_=>show absurd (show false=true from fx) YC
 |bl a=>
  cases ry;cases x with
  |non=>cases rx;show SeqAt.EqAt.bool_none a
  |bl b=>cases rx;show SeqAt.EqAt.bool_bool a b
  |int b=>let(t,rfl):=rx;show SeqAt.EqAt.bool_int a b t
  |str b=>let(t,rfl):=rx;show SeqAt.EqAt.bool_str a b t
  |_=>show absurd (show false=true from fx) YC
 |int a=>
  let(t',rfl):=ry;cases x with
  |non=>cases rx;show SeqAt.EqAt.int_none a t'
  |bl b=>cases rx;show SeqAt.EqAt.int_bool a t' b
  |int b=>let(t,rfl):=rx;show SeqAt.EqAt.int_int a t' b t
  |str b=>let(t,rfl):=rx;show SeqAt.EqAt.int_str a t' b t
  |_=>show absurd (show false=true from fx) YC
 |str a=>
  let(t',rfl):=ry;cases x with
  |non=>cases rx;show SeqAt.EqAt.str_none a t'
  |bl b=>cases rx;show SeqAt.EqAt.str_bool a t' b
  |int b=>let(t,rfl):=rx;show SeqAt.EqAt.str_int a t' b t
  |str b=>let(t,rfl):=rx;show SeqAt.EqAt.str_str a t' b t
  |_=>show absurd (show false=true from fx) YC
 |_=>show absurd (show false=true from fy) YC
def Tg(x:V)(u:Value):(Bool):=match u with
 | .none=>SF .non x
 | .bool b=>SF (.bl b) x
 | .int i _=>SF (.int i) x
 | .str z _=>SF (.str z) x
 |_=>false
def CO(r:RelV y u)(f:VP y=true):Tg x u=SF y x:=by
 cases y with
 |non=>cases r;rfl
 |bl b=>cases r;rfl
 |int i=>let(t,rfl):=r;rfl
 |str z=>let(t,rfl):=r;rfl
 |_=>show absurd (show false=true from f) YC
def wI{xs:List V}{us:Ag}(h:Vals xs us)(f:xs.all VP=true):us.any (Tg x)=xs.any λy=>SF y x:=by
 induction h with
 |nil=>rfl
 |cons r t ih=>
  rw[List.all_cons,Kf]at f;rw[IB,IB,CO r f.1,ih f.2]
def CN(rx:RelV x v)(fx:VP x=true){xs:List V}{us:Ag}(h:Vals xs us)(f:xs.all VP=true):∀u∈us,SeqAt.EqAt A s u v (Tg x u):=by
 induction h with
 |nil=>intro u hu;cases hu
 |cons r t ih=>
  intro u' hu;rw[List.all_cons,Kf]at f;rcases Yf.H hu with rfl|hu
  .rw[CO r f.1];show CQ r rx f.1 fx
  .show ih f.2 u' hu
def Fe(x:V)(xs:List V):(Bool):=xs.any λy=>SF y x
def dc(K:Ad)(neg:Bool):(R2):=λx y H Q=>∃p xs,y=.ref p/\(SqL K H p xs\/SqT K H p xs)/\VP x=true/\xs.all VP=true/\Q (.bl<|if neg then !Fe x xs else Fe x xs) H
def Zp8:Wy X (compareOp .In) (dc X.K false):=by
 intro pins s σ H x y v u Q I rx ry h;let(p,xs,rfl,hq,fx,fs,q):=h;cases ry;rcases hq with hq|hq
 .let⟨XW,r,pl,hz⟩:=I.list hq;show SeqAt.in_listAt (Tg x) pl.isList (λw hw=>CN rx fx r fs w<|by simpa using hw) ⟨.bl _,H,I,Z,?_⟩;rwa[show XW.C.any (Tg x)=XW.any (Tg x) by simp,wI r fs]
 .let⟨XW,r,pl,hz⟩:=I.tuple hq;show SeqAt.in_tupleAt (Tg x) pl (λw hw=>CN rx fx r fs w<|by simpa using hw) ⟨.bl _,H,I,Z,?_⟩;rwa[show XW.C.any (Tg x)=XW.any (Tg x) by simp,wI r fs]
def Zk4:Wy X (compareOp .NotIn) (dc X.K true):=by
 intro pins s σ H x y v u Q I rx ry h;let(p,xs,rfl,hq,fx,fs,q):=h;cases ry;rcases hq with hq|hq
 .let⟨XW,r,pl,hz⟩:=I.list hq;show SeqAt.notIn_listAt (Tg x) pl.isList (λw hw=>CN rx fx r fs w<|by simpa using hw) ⟨.bl _,H,I,Z,?_⟩;rwa[show XW.C.any (Tg x)=XW.any (Tg x) by simp,wI r fs]
 .let⟨XW,r,pl,hz⟩:=I.tuple hq;show SeqAt.notIn_tupleAt (Tg x) pl (λw hw=>CN rx fx r fs w<|by simpa using hw) ⟨.bl _,H,I,Z,?_⟩;rwa[show XW.C.any (Tg x)=XW.any (Tg x) by simp,wI r fs]
inductive yR0(K:Ad)(xs:List V)(H:Hp)(Q:VK):Prop
 |mk (p ys:_) (_:xs=[.ref p]) (_:(SqL K H p ys\/SqT K H p ys)) (_:Q (.int ys.f) H)
def ZD4:TB X (.builtin "len") (yR0 X.K):=by
 intro pins s σ H xs us Q I r h;let(p,ys,rfl,hq,q):=h;let(u,rfl,rx):=SK r;cases rx;let hn:=Dc
 rcases hq with hq|hq
 .let⟨XW,r',pl,hz⟩:=I.list hq;let hlen:=r'.f
  show Calls.call_len_list pl.isList (by simp only[Xk]<;>lia) {.int ys.f,H,I.tok _,{s.toks+1,by rw[Xk,hlen]},q}
 .let⟨XW,r',pl,hz⟩:=I.tuple hq;let hlen:=r'.f
  show len_tuple pl (by simp only[Xk]<;>omega) {.int ys.f,H,I.tok _,{s.toks+1,by rw[Xk,hlen]},q}
def ZC4:TB X (.type "list") (λxs H Q=>∃p ys,xs=[.ref p]/\(SqL X.K H p ys\/SqT X.K H p ys)/\∀l,H l=none->Q ↑l (upd H l (.lst ys))):=by
 intro pins s σ H xs us Q I r h;let(p,ys,rfl,hq,q):=h;let(u,rfl,rx):=SK r;cases rx;let fin:∀(XW:Ag),Vals ys XW->ys.f<=sizeLine->∀(h':Heap)(c':Nat),(∀b o',s.D.G b=some o'->h'.G b=some o')->
   h'.G (~~~s)=some {cls:=.type "list",dict:=none,data:=.seq XW.C c',slots:=#[]}->EP X pins σ Q (.ref (~~~s)) {s with heap:=h'}:=λXW r' hz h' c' kp e=>
  {.ref (~~~s),_,I.laid (t':=s.toks) kp (XI _)<|show ObjOk X.prog X.w _ h' _ (.lst ys) from⟨hz,XW,c',r',e⟩,Z,q _<|I.hok.fresh<|XI _}
 rcases hq with hq|hq
 .let⟨XW,r',pl,hz⟩:=I.list hq;let hlen:=r'.f
  let(o,ho,hc,n,hd):=pl.isList;show call_list_seq p (.inl rfl) ho hc hd (λh' c' kp e=>fin XW r' hz h' c' kp e) (by simp only[Xk]<;>omega)
 .let⟨XW,r',pl,hz⟩:=I.tuple hq;let hlen:=r'.f
  let(o,ho,hc,n,hd):=pl;show call_list_seq p (.inr rfl) ho hc hd (λh' c' kp e=>fin XW r' hz h' c' kp e) (by simp only[Xk]<;>omega)
def qD:TB X (.type "tuple") (λxs H Q=>∃p ys,xs=[.ref p]/\((SqL X.K H p ys/\∀l,H l=none->Q ↑l (upd H l (.tup ys)))\/(SqT X.K H p ys/\Q ↑p H))):=by
 intro pins s σ H xs us Q I r h;let(p,ys,rfl,h):=h;let(u,rfl,rx):=SK r;cases rx;rcases h with ⟨hq,q⟩|⟨hq,q⟩
 .let⟨XW,r',pl,hz⟩:=I.list hq;let hlen:=r'.f
  show call_tuple_list pl.isList (λh' kp=>?_) (by simp only[Xk]<;>omega)
  let I1:Inv X pins σ H {s with heap:=h'}:=I.kept (t':=s.toks) kp;let I2:Inv X pins σ (upd H h'.objs.t<|.tup ys) {s with heap:=h'.push {cls:=.type "tuple",data:=.seq XW.C} }:=
   I1.laid (t':=s.toks) (λb o e=>Xf _ e) (XI _) (show ObjOk X.prog X.w _ _ _ (.tup ys) from{hz,XW,r',IsTup.new _ _})
  exists .ref h'.objs.t,_,I2,Z,q _<|I1.hok.fresh<|XI _
 .let⟨XW,r',pl,hz⟩:=I.tuple hq;show call_tuple_same pl {.ref p,H,I,Z,q}
def wH(K:Ad)(T:String)(x:V)(H:Hp):(Prop):=match x with
 | .str _=>T="str"
 | .int _=>T="int"
 | .ref p=>(T="list"/\∃xs,SqL K H p xs)\/(T="tuple"/\∃o,K.U p=some o/\o.cls=.type "tuple"/\o.dict=none)\/
   (T="dict"/\((∃kvs,H p=some (.dK kvs))\/∃kvs,H p=some (.dT kvs)))\/(T="set"/\∃S n,H p=some (.set S n))
 |_=>False
def JU(I:Inv X pins σ H s)(r:RelV x v)(ty:wH X.K T x H):
  s.TypeIs v T/\∀a,v=.ref a->∃ob,s.D.G a=some ob/\ob.dict=none:=by
 cases x with
 |str z=>
  let(t,rfl):=r;cases (show T="str" from ty);exists typeIs_str s z t,λ_ e=>nomatch e
 |int i=>
  let(t,rfl):=r;cases (show T="int" from ty);exists typeIs_int s i t,λ_ e=>nomatch e
 |ref p=>
  cases r;rcases ty with ⟨rfl,xs,hq⟩|⟨rfl,o,hk,hc,hd⟩|⟨rfl,hk⟩|⟨rfl,S,n,hk⟩
  .let⟨XW,_,pl,_⟩:=I.list hq;exists pl.isList.typeIs,λa e=>?_;cases e;let(o,n,e,c,hd,_):=pl;exists o,e,hd
  .exists {o,I.kIn p o hk,hc},λa e=>?_;cases e;exists o,I.kIn _ o hk,hd
  .let z:∃o,s.D.G p=some o/\o.ExactDict:=by
    rcases hk with ⟨kvs,hk⟩|⟨kvs,hk⟩
    .let⟨_,_,_,_,o,_,_,e,ex,_⟩:=I.hok p _ hk;exists o,e,ex
    .let⟨_,_,_,_,o,_,_,e,ex,_⟩:=I.hok p _ hk;exists o,e,ex
   let(o,e,ex):=z;exists ⟨o,e,ex.1⟩,λa e2=>?_;cases e2;exists o,e,ex.2.1
  .let⟨o,_,_,_,e,ex,_⟩:=I.hok p _ hk;exists ⟨o,e,ex.1⟩,λa e2=>?_;cases e2;exists o,e,ex.2.1
 |_=>show False.elim ty
def CM(K:Ad)(T:String)(r:V->List V->Hp->VK->Prop)(to:TE):(TE):=λσ H Q=>to σ H λx H1=>wH K T x H1/\r x [] H1 Q
def c9(K:Ad)(T:String)(r:V->List V->Hp->VK->Prop)(to:TE)(t:TA):(TE):=λσ H Q=>to σ H λx H1=>wH K T x H1/\t σ H1 λxs H2=>r x xs H2 Q
variable{o e:Expr}{es:List Expr}{to:TE}{t:TA}{name:Str}{apos Xj:Pos}{T id:String}{r:V->List V->Hp->VK->Prop}
def qC(pa:PlainAttrs T)(slot:Slot T name id)(HM:typeOf (.builtin id)=pure (.type "method_descriptor"))(hm:wJ X id r)(ho:PE X o to)
  (UM:attributeBase o name X.L (eval o X.L)=eval o X.L:=by rfl)(UL:(apos.endLine == Xj.line)=true:=by rfl):PE X (.Call (.Attribute o name apos) [] [] Xj) (CM X.K T r to):=by intro pins s σ H Q I h;show wpAny_Call_method0_late UM UL (thn (ho pins s σ H _ I h) λv s1 Xw=>?_);let(x,H1,I1,r1,ty,q1):=Xw;let(h1,h2):=JU I1 r1 ty;exists T,id,pa,slot,HM,h1,h2,Calls.callWith_builtin Z<|PySem.evalArgs_none<|hm pins s1 σ H1 x [] v [] Q I1 r1 .nil q1
def qB(pa:PlainAttrs T)(slot:Slot T name id)(HM:typeOf (.builtin id)=pure (.type "method_descriptor"))(hm:wJ X id r)(ho:PE X o to)(ha:PA X (e::es) t)
  (UM:attributeBase o name X.L (eval o X.L)=eval o X.L:=by rfl)
  (HL:((backTo Xj<|starEach (e::es) X.L).all (λx=>!x.1)&&(backToKw Xj<|keywordEach [] X.L).all (λx=>x.1.isSome)
   && decide ((e::es).f+([]:List Keyword).f+(if ([]:List Keyword).isEmpty then 0 else 1)<30))=true:=by rfl)
  (UL:(apos.endLine == Xj.line)=true:=by rfl)(hs:starEach (e::es) X.L=(false,eval e X.L)::starEach es X.L:=by rfl)(UK:(backTo Xj<|starEach es X.L).any (·.1)=false:=by rfl):
  PE X (.Call (.Attribute o name apos) (e::es) [] Xj) (c9 X.K T r to t):=by
 intro pins s σ H Q I h;show wpAny_Call_method_late UM HL UL Z (thn (ho pins s σ H _ I h) λv s1 Xw=>?_);let(x,H1,I1,r1,ty,q1):=Xw;let(h1,h2):=JU I1 r1 ty;exists T,id,pa,slot,HM,h1,h2,?_;let hA:=ha Xj pins s1 σ H1 _ I1 q1
 rw[hs]at hA ⊢;show Calls.callWith_builtin (by change(false||(backTo Xj<|starEach es X.L).any (·.1))=false;rw[UK]<;>rfl) (Calls.evalArgs_plain ?_)
 show thn hA λus s2 zz=>by let(vs,H2,I2,r2,q2):=zz;show hm pins s2 σ H2 x vs v us Q I2 r1 r2 q2
end
def LI(X:Cx)(id:String)(r:V->List V->Hp->VK->Prop):(Prop):=
 ∀(pins:List (Addr×Obj))(s:Shared)(σ:St)(H:Hp)(x:V)(xs:List V)(v:Value)(us:Ag)(Q:VK),Inv X pins σ H s->RelV x v->Vals xs us->r x xs H Q->
  wpAny (model X.prog X.w) X.A (call (.builtin id)<|v::us) (EP X pins σ Q) X.xe s
def Vals.one{x:V}{us:Ag}(r:Vals [x] us):∃u,us=[u]/\RelV x u:=by
 cases r with
 |cons a r=>cases r;exists _,Z,a
def Vals.two:∀{x y:V}{us:Ag},Vals [x,y] us->∃u v,us=[u,v]/\RelV x u/\RelV y v
 |_,_,_,.cons r (.cons q .nil)=>{_,_,Z,r,q}
def Vals.zero:∀{us:Ag},Vals [] us->us=[]
 |_,.nil=>rfl
def Vals.eraseIdx{xs:List V}{us:Ag}(i:Nat)(h:Vals xs us):Vals (xs.eraseIdx i) (us.eraseIdx i):=by
 induction h generalizing i with
 |nil=>show .nil
 |cons r t ih=>
  cases i with
  |zero=>show t
  |succ i=>show .cons r (ih i)
def Vals.reverse(h:Vals xs us):Vals xs.reverse us.reverse:=by
 induction h with
 |nil=>show .nil
 |cons r t ih=>rw[DX,DX];show Vals.append ih (.cons r .nil)
def Vals.rep(h:Vals xs us):∀k:Nat,Vals (List.replicate k xs).flatten (List.replicate k us).flatten
 |0=>.nil
 |k+1=>by rw[RN,RN,Mj,Mj];show Vals.append h (Vals.rep h k)
def c8{α:Type}:∀(l:List α)(i:Nat),(l.eraseIdx i).f<=l.f
 |[],_=>XI _
 |_::_,0=>Ue _
 |_::r,i+1=>Nat.succ_le_succ (c8 r i)
def c7(XW:Ag):∀(k:Nat)(acc:Ag),
  List.foldl (λx1 x2=>x1++x2) acc.C (List.replicate k XW.C)=(acc++(List.replicate k XW).flatten).C
 |0,acc=>B
 |k+1,acc=>by
  let e:acc.C++XW.C=(acc++XW).C:=B;let e2:(acc++XW)++(List.replicate k XW).flatten=acc++(List.replicate (k+1) XW).flatten:=by rw[RN,Mj,Yu]
  rw[<-e2,<-c7 XW k (acc++XW),<-e,RN,DR]
section
variable{X:Cx}{pins:List (Addr×Obj)}{σ:St}{H:Hp}{s:Shared}{l:Addr}{xs ys:List V}
def Inv.lset{XW its':Ag}{f:Array Value->Array Value}{t':Nat}(I:Inv X pins σ H s)(hH:H l=some (.lst xs))
  (e:s.D.G l=some {cls:=.type "list",data:=.seq XW.C n})(hf:f XW.C=its'.C)(hv:Vals ys its')(hz:ys.f<=sizeLine):
  Inv X pins σ (upd H l<|.lst ys) {s with heap:=s.D.update l<|Obj.mapSeq f,toks:=t'}:=by let q:=PySem.IsL.update e f;rw[hf]at q;show I.write (x:=l) (e:=l) (by rw[hH];show trivial) (.inl Z) (λb' u hb hu=>(YU s.D (Obj.mapSeq f)<|Xb hb).m hu) {_,q} ?_;exists hz,its',_,hv,q
def Inv.lnew{t':Nat}(I:Inv X pins σ H s)(hv:Vals ys XW)(hz:ys.f<=sizeLine):
  Inv X pins σ (upd H (~~~s)<|.lst ys) {s with heap:=s.D.push {cls:=.type "list",data:=.seq XW.C},toks:=t'}:=
 I.laid (λ_ _ q=>Xf _ q) (XI _) {hz,XW,0,hv,Yp _ Z}
def Inv.fresh(I:Inv X pins σ H s):H (~~~s)=none:=I.hok.fresh (XI _)
def Inv.lstM(I:Inv X pins σ H s)(hH:H l=some (.lst xs)):xs.f<=sizeLine/\∃(XW:Ag)(n:Nat),Vals xs XW/\xs.f=XW.f/\s.D.G l=some {cls:=.type "list",data:=.seq XW.C n}:=by let(z,XW,n,r,e):=I.hok l _ hH;exists z,XW,n,r,r.f,e
def c6(h:n<=sizeLine):Builtin.List.listTooLong n=false:=by unfold Builtin.List.listTooLong;show Se J
end
section
variable{X:Cx}
inductive rAppend(x:V)(vs:List V)(H:Hp)(Q:VK):Prop
 |mk (l xs y:_) (_:x=.ref l) (_:vs=[y]) (_:H l=some (.lst xs)) (_:xs.f<sizeLine) (_:Q .non (upd H l<|.lst<|xs++[y]))
def CL:LI X "list.append" rAppend:=by intro pins s σ H x vs v us Q I rx rv h;let(l,xs,y,rfl,rfl,hH,hz,q):=h;cases rx;let(u,rfl,ru):=rv.one;let(z,XW,n,r,hl,e):=I.lstM hH;show LV F.slot_list_append {_,e,Z} F.entry_list_append (F.args_list_append_2 _ _) (PySem.list_append l XW.C n u<|by rw[Xk];lia) {e,?_};exists .non,_,I.lset (its':=XW++[u]) hH e B (r.append<|.cons ru .nil) ?_,Z,q;rw[Xy,Yt];lia
def qA:(V->List V->Hp->VK->Prop):=λx vs H Q=>∃l b xs zs,x=.ref l/\vs=[.ref b]/\H l=some (.lst xs)/\H b=some (.lst zs)/\xs.f+zs.f<=sizeLine/\Q .non (upd H l<|.lst<|xs++zs)
def CK:LI X "list.extend" qA:=by
 intro pins s σ H x vs v us Q I rx rv h;let(l,b,xs,zs,rfl,rfl,hH,hB,hz,q):=h;cases rx;let(u,rfl,ru):=rv.one;cases ru;let(z,XW,n,r,hl,e):=I.lstM hH;let(z2,VZ,n2,r2,Vb,e2):=I.lstM hB;let hsz:XW.C.t+VZ.C.t<=sizeLine:=by rw[Xk,Xk];grind
 let Oy:¬(!XW.C.isEmpty&&Builtin.List.listTooLong (XW.C.t+VZ.C.t))=true:=by rw[c6 hsz,Bool.and_false];show YC
 show LV F.slot_list_extend {_,e,Z} F.entry_list_extend (F.args_list_extend_2 _ _)
  (AutoSeq1.list_extend_list_list_0 l XW.C n b VZ.C n2 Oy (by rw[Xk];grind) J) {e,e2,?_}
 exists .non,_,I.lset (its':=XW++VZ) hH e B (r.append r2) ?_,Z,q;rw[Xy];lia
def qz:(V->List V->Hp->VK->Prop):=λx vs H Q=>∃l xs i k y,x=.ref l/\vs=[.int i]/\H l=some (.lst xs)/\-(2^63)<=i/\i<2^63/\seqIndex? i xs.f=some k/\xs[k]?=some y/\Q y (upd H l<|.lst<|xs.eraseIdx k)
def cZ:LI X "list.pop" qz:=by
 intro pins s σ H x vs v us Q I rx rv h;let(l,xs,i,k,y,rfl,rfl,hH,h1,h2,hk,hy,q):=h;cases rx;let(u,rfl,ru):=rv.one;let(t,rfl):=ru;let(z,XW,n,r,hl,e):=I.lstM hH;let(w,hw,LJ):=r.get hy;show LV F.slot_list_pop {_,e,Z} F.entry_list_pop (F.args_list_pop_2 _ _)
  (MeetsSeq.list_pop_at l XW.C n i t k w (fitsIndex_both h1 h2) (by rwa[Xk,<-hl]) (by rwa[<-YH])<|by rw[Xk];lia) {e,?_}
 exists y,_,I.lset (its':=XW.eraseIdx k) hH e ?_ (r.eraseIdx k) ?_,LJ,q
 .change XW.C.eraseIdxIfInBounds k=(XW.eraseIdx k).C;rw[List.eraseIdxIfInBounds_toArray]
 .have:=c8 xs k
  lia
def qy:(V->List V->Hp->VK->Prop):=λx vs H Q=>∃l xs,x=.ref l/\vs=[]/\H l=some (.lst xs)/\Q .non (upd H l<|.lst xs.reverse)
def ZY6:LI X "list.reverse" qy:=by
 intro pins s σ H x vs v us Q I rx rv h;let(l,xs,rfl,rfl,hH,q):=h;cases rx;let hus:=rv.zero
 subst hus;let(z,XW,n,r,hl,e):=I.lstM hH;show LV F.slot_list_reverse {_,e,Z} F.entry_list_reverse (F.args_list_reverse_1 _) (AutoSeq1.list_reverse_list_0 l XW.C n<|by rw[Xk];omega) {e,?_};exists .non,_,I.lset (its':=XW.reverse) hH e B r.reverse ?_,Z,q;rw[VB];lia
inductive rCat(x:V)(y:V)(H:Hp)(Q:VK):Prop
 |mk (l b xs zs:_) (_:x=.ref l) (_:y=.ref b) (_:H l=some (.lst xs)) (_:H b=some (.lst zs)) (_:xs.f+zs.f<=sizeLine) (_:∀p,H p=none->Q ↑p (upd H p<|.lst<|xs++zs))
def CJ:Wy X (binaryOp .Add) rCat:=by
 intro pins s σ H x y v u Q I rx ry h;let(l,b,xs,zs,rfl,rfl,hH,hB,hz,q):=h;cases rx;cases ry;let(z,XW,n,r,hl,e):=I.lstM hH;let(z2,VZ,n2,r2,Vb,e2):=I.lstM hB;show PySem.P.add_list e e2 ?_ (by rw[Xk,Xk];omega);let ea:XW.C++VZ.C=(XW++VZ).C:=B
 rw[ea];exists .ref _,_,I.lnew (t':=s.toks) (r.append r2) (by rw[Xy];omega),Z,q _ I.fresh
def qx:(R2):=λx y H Q=>∃l k xs,x=.ref l/\y=.int k/\H l=some (.lst xs)/\-(2^63)<=k/\k<2^63/\xs.f*k.j<=sizeLine/\
 ∀p,H p=none->Q ↑p (upd H p<|.lst (List.replicate k.j xs).flatten)
def CI{α:Type}(xs:List α)(k:Nat):(List.replicate k xs).flatten.f=k*xs.f:=by
 induction k with
 |zero=>simp
 |succ k ih=>rw[RN,Mj,Xy,ih,Nat.succ_mul,Nat.add_comm]
def CH:Wy X (binaryOp .Mult) qx:=by
 intro pins s σ H x y v u Q I rx ry h;let(l,k,xs,rfl,rfl,hH,h1,h2,hz,q):=h;cases rx;let(t,rfl):=ry;let(z,XW,n,r,hl,e):=I.lstM hH;let hlen:XW.C.t*k.j<=sizeLine:=by rwa[Xk,<-hl]
 let qw:¬XW.C.t*k.j>(2^63-1)/8:=by
  have:(sizeLine:Nat)<=(2^63-1)/8:=su
  grind
 let HK:¬(!Builtin.List.listFitsIndex k)=true:=by rw[fitsIndex_both h1 h2];show YC
 let Oy:¬Builtin.List.listTooLong (XW.C.t*k.j)=true:=by rw[c6 hlen];show YC
 let Qx:List.foldl (λx1 x2=>x1++x2) #[] (List.replicate (if XW.C.isEmpty=true then 0 else k.j) XW.C)=(List.replicate k.j XW).flatten.C:=by
  let f0:∀m:Nat,List.foldl (λx1 x2=>x1++x2) #[] (List.replicate m XW.C)=(List.replicate m XW).flatten.C:=λm=>by
   have:=c7 XW m []
   rwa[OU]at this
  rw[f0];cases XW with
  |nil=>simp
  |cons a r'=>rw[if_neg B]
 show wpAny_binaryOp_repeat_ref (T:="list") (U:="int") su {_,e,Z} (λs'=>typeIs_int s' k t) noFill_list_mul F.fills_int_mul F.slot_int_rmul repeat_list F.slot_int_index.U
  (LV F.slot_int_rmul (typeIs_int s k t) F.entry_int_rmul (F.args_int_rmul_2 _ _) (int___rmul___int_list k t l XW.C n)
   {e,Z,{_,e,Z},LV F.slot_list_mul {_,e,Z} F.entry_list_mul (F.args_list_mul_2 _ _) (AutoListH.list___mul___list_int_3 l XW.C n k t HK qw Oy) {e,?_}})
 rw[Qx];exists .ref _,_,I.lnew (t':=s.toks) (r.rep k.j) (by rwa[CI,xo]),Z,q _ I.fresh
end
section
variable{κ:Type}[DecidableEq κ]
def Wg(kvs:List (κ×V))(k:κ):(Option V):=(kvs.find? λkv=>decide<|kv.1=k).R (·.2)
def putK(kvs:List (κ×V))(k:κ)(v:V):(List (κ×V)):=
 if (kvs.any λkv=>decide<|kv.1=k)=true then kvs.R (λkv=>if kv.1=k then (kv.1,v) else kv) else kvs++[(k,v)]
def HJ{p:κ×V}{r:List (κ×V)}(e:p.1=k):Wg (p::r) k=some p.2:=by simp[Wg,xA,e]
def qv{p:κ×V}(e:¬p.1=k):Wg (p::r) k=Wg r k:=by simp[Wg,xA,e]
def cW(k:κ):∀kvs:List (κ×V),(kvs.any λkv=>decide (kv.1=k))=(Wg kvs k).isSome
 |[]=>rfl
 |p::r=>by
  rw[IB];cases e:p.1=k
  .simp only[HJ e,Yx e,Bool.true_or,Option.isSome_some]
  .rw[qv e,Se e,Bool.false_or];show cW k r
def qu(kvs:List (κ×V))(k:κ)(v:V):(putK kvs k v).f<=kvs.f+1:=by
 unfold putK;split
 .rw[Yb];lia
 .rw[Xy,YF,Fs];lia
def qt{kvs:List (κ×V)}{k:κ}(v:V)(h:Wg kvs k=none):putK kvs k v=kvs++[(k,v)]:=by unfold putK;rw[cW,h];show if_neg su
def KV.val(r:KV kvs vs)(k:κ):RelO (Wg kvs k) (valueAt vs k):=by
 unfold KV at r
 induction r with
 |nil=>show True.intro
 |@cons p q ps qs h t ih=>
  let(h1,h2):=h;cases e:p.1=k
  .let e':q.1=k:=h1.symm.m e;let b:valueAt (q::qs) k=some q.2:=by simp[valueAt,xA,e']
   rwa[HJ e,b]
  .let e':¬q.1=k:=λz=>e (h1.m z);let b:valueAt (q::qs) k=valueAt qs k:=by simp[valueAt,xA,e']
   rwa[qv e,b]
def KV.any(r:KV kvs vs)(k:κ):(kvs.any λkv=>decide (kv.1=k))=vs.any λkv=>decide (kv.1=k):=by
 unfold KV at r
 induction r with
 |nil=>rfl
 |cons h t ih=>rw[IB,IB,ih,h.1]
def KV.repl(r:KV kvs vs)(k:κ)(ry:RelV y u):
  KV (kvs.R λkv=>if kv.1=k then (kv.1,y) else kv) (vs.R λkv=>if kv.1=k then (kv.1,u) else kv):=by
 unfold KV at r ⊢
 induction r with
 |nil=>show .nil
 |@cons p q ps qs h t ih=>
  rw[TM,TM];show .cons ?_ ih;let(h1,h2):=h;cases e:p.1=k
  .rw[if_pos e,if_pos (h1.symm.m e)];exists h1,ry
  .rw[if_neg e,if_neg λz=>e (h1.m z)];exists h1,h2
def KV.put(r:KV kvs vs)(k:κ)(ry:RelV y u):KV (putK kvs k y) (stored vs k u):=by
 unfold putK stored;rw[r.any k];cases e:(vs.any λkv=>decide<|kv.1=k)=true
 .rw[if_pos e,if_pos e];show r.repl k ry
 .rw[if_neg e,if_neg e];show Paired.snoc r ⟨Z,ry⟩
def KV.length{kvs:List (κ×V)}{vs:List (κ×Value)}(r:KV kvs vs):kvs.f=vs.f:=Paired.f r
end
def qr(r:RelV (kV k) u):(QH P w).is k u=true:=by
 cases k with
 |inl i=>let(t,e):=(show ∃t,u=Value.int i t from r);subst e;show Zaf P w i t
 |inr x=>let(t,e):=(show ∃t,u=Value.str x t from r);subst e;show Zag P w x t
section
variable{P:Program}{w:World}{H:Hp}{h:Heap}{a:Addr}
def qq(ok:HOk P w H h)(e:Rd H a u):ObjOk P w H h a u:=e.ok ok
def qp(ok:HOk P w H h)(e:Rd H a (.dK kvs)):kvs.f<=sizeLine/\(a == sysModules)=false/\∃vs,KV kvs vs/\h.DictOf (QH P w) a vs:=
 show ObjOk P w H h a (.dK kvs) from qq ok e
def HI(ok:HOk P w H h)(e:H a=some (.dK kvs)):kvs.f<=sizeLine/\(a == sysModules)=false/\∃vs,KV kvs vs/\h.DictOf (QH P w) a vs:=qp ok (.inl e)
end
section
variable{X:Cx}{pins:List (Addr×Obj)}{σ:St}{H:Hp}{s:Shared}{a:Addr}
def Inv.big(I:Inv X pins σ H s):sysModules<(~~~s):=by let h:mainGlobals<(~~~s):=(I.mod.glob.keeps I.bk).lt;show xn su h
def qo{t':Nat}(I:Inv X pins σ H s)(mu:DC (H a))(hs:Heap.SameBut a s.D h')(he:∃q,h'.G a=some q)(new:ObjOk X.prog X.w (upd H a ob) h' a ob):
  Inv X pins σ (upd H a ob) {s with heap:=h',toks:=t'}:=
 I.write (x:=a) (e:=a) mu (.inl Z) (λb q hb z=>(hs.2 b hb).m z) he new
def qm(z:kvs.f<=sizeLine)(hd:(a == sysModules)=false)(rel:KV kvs vs)(dd:h'.DictOf (QH P w) a vs):
  ObjOk P w H' h' a (.dK kvs):=⟨z,hd,vs,rel,dd⟩
end
def ql(h:Heap)(hb:sysModules<h.objs.t):ObjOk P w H (h.push {cls:=.type "dict",data:=.dict #[]}) h.objs.t (.dK []):=
 {Yi _,Ec.X<|Xb<|YA hb,[],.nil,Heap.DictOf.new h}
def qk:(TE):=λ_ H Q=>∀p,H p=none->Q ↑p (upd H p<|.dK [])
section
variable{X:Cx}{pos:Pos}
def qj:PE X (.Dict [] [] pos) qk:=λpins s σ H Q I h=>
 wpAny_Dict_empty {.ref (~~~s),_,I.laid (a:=(~~~s)) (o:=.dK []) (t':=s.toks) (λ_ _ q=>Xf _ q) (XI _)<|ql s.D I.big,Z,h _<|I.hok.fresh<|XI _}
end
structure M1(X:Cx)(o:Expr)(m:Str)(apos:Pos)(e:Expr)(Xj:Pos):Prop where
 base:attributeBase o m X.L (eval o X.L)=eval o X.L
 few:((backTo Xj<|starEach [e] X.L).all (λx=>!x.1)&&(backToKw Xj<|keywordEach [] X.L).all (λx=>x.1.isSome)
  && decide (([e]:List Expr).f+([]:List Keyword).f+(if ([]:List Keyword).isEmpty then 0 else 1)<30))=true
 line:(apos.endLine == Xj.line)=true
 trees:backTo Xj (starEach [e] X.L)=[(false,eval e X.L)]
structure M2(X:Cx)(o:Expr)(m:Str)(apos:Pos)(e f:Expr)(Xj:Pos):Prop where
 base:attributeBase o m X.L (eval o X.L)=eval o X.L
 few:((backTo Xj<|starEach [e,f] X.L).all (λx=>!x.1)&&(backToKw Xj<|keywordEach [] X.L).all (λx=>x.1.isSome)
  && decide (([e,f]:List Expr).f+([]:List Keyword).f+(if ([]:List Keyword).isEmpty then 0 else 1)<30))=true
 line:(apos.endLine == Xj.line)=true
 trees:backTo Xj (starEach [e,f] X.L)=[(false,eval e X.L),(false,eval f X.L)]
end L2
namespace Att
open PySem PySem.W PySem.Calls PyProof.Rows
def ZU2:∀(ns:Ac)(vs:Ag),WellAll P h vs (ns.R WData.int)->IntsAre vs ns:=by
 intro ns
 induction ns with
 |nil=>
  intro vs w;rw[List.map_nil]at w;cases w;show .nil
 |cons n ns ih=>
  intro vs w;rw[TM]at w;cases w with
  |cons a b=>
   cases a;show .cons _ _ (ih _ b)
def Zh8{l:OpenLaw}{n:Nat}(hn:l.most=some n) 
  (LH:l.row.toRowW.claim.pre args=true)(JT:WellAll P h vals args):
  ∃a vs ns,vals=[Value.ref a]/\args=[WData.list (ns.R WData.int)]/\h.G a=some {cls:=.type "list",data:=.seq vs.C}/\IntsAre vs ns/\ns.f<=n:=by
 let hsh:WShape.hasAll [] args [.list .int]=true:=(pre_splitW LH).1;let hc:l.pre.holds [] {args:=args}=true:=(pre_splitW LH).2
 let(d,r,rfl,h1,h2):=hasAllW_cons hsh;let rfl:=hasAllW_nil h2;let(xs,rfl,h3):=hasW_list h1;let(ns,rfl):=items_int h3;let hlen:ns.f<=n:=by
  unfold OpenLaw.pre at hc;let h4:(WTm.not<|.lt (.lit<|.int (n:Int))<|.len<|.arg 0).holds [] {args:=[.list (ns.R .int)]}=true:=by let h4:=(holds_andW hc).1;rwa[hn]at h4
  let h5:=condW_of h4 (w_not<|w_lt w_lit<|w_len_list<|w_arg Z);rw[Yb]at h5;show xE λq=>?_;let q':(n:Int)<((ns.f:Nat):Int):=sr
  first
   | (rw[Yx q']at h5;show absurd h5 su)
   | (simp at h5;omega)
 cases JT with
 |cons w1 w2=>
  cases w2;cases w1 with
  |list ho UJ=>exists _,_,ns,Z,Z,ho,ZU2 ns _ UJ,hlen
def Zm8(l:OpenLaw)(args:List WData):l.row.toRowW.claim.post args (.bool true) args=true:=
 postW_of (r:=l.row.toRowW) (X:=(true == true))
  (show WShape.has [] (.bool true) .bool=true by first|rfl|decide|simp[WShape.has,WShape.arms,WShape.armsAll])
  (show(WTm.eq .res<|.lit<|.bool true).value [] {args:=args,res:=some<|.bool true,after:=args}=some (.bool<|true == true) from w_eq_bool (w_res Z) w_lit) rfl
def SE{l:OpenLaw}{n:Nat}{XP:Af->Heap->Prop}{YP:World->Heap->Prop} 
  (hn:l.most=some n)(qi:d.params.defaults=[])
  (call:∀(w:World)(s₀ s₁:Shared)(mg mb:Af)(fa:Addr)(o:Obj)(pm cd doc:Value)(a:Addr)(vs:Ag)(ns:Ac),
   Ground q loose [] XP w s₀ mg mb s₁.D->YP w s₁.D->
   s₁.D.G fa=some o->o.data=.func (docDef d.name d.params d.body d.scope pm cd doc)->s₁.D.CodeRec cd d.name->mg d.name=some ↑fa->
   s₁.D.G a=some {cls:=.type "list",data:=.seq vs.C}->IntsAre vs ns->ns.f<=n->s₁.gens=#[]->
   codeAny (model l.prog w) callerA (.call ↑fa {[.ref a],[]}) (λr s'=>r=.ok (.ret<|.bool true)/\OldK s₁.D s'.D/\s'.os=s₁.os/\AllBare s'.gens) s₁):
  WalkO q loose XP YP l.row.toRowW d [] (λf vs=>PySem.call f vs):=by intro w s₀ s₁ mg mb G Y fa o pm cd doc dV kV ho hd Tj hD CG hg args vals as LH hlay hrd JT JS;let rfl:dV=.none:=Dflts.none hD qi;let rfl:kV=.none:=Dflts.noKw hD;let(a,vs,ns,rfl,rfl,HH,hints,hlen):=Zh8 hn LH JT;show enter_call (Mb (call w s₀ s₁ mg mb fa o pm cd doc a vs ns G Y ho (fd_plain hd) Tj CG HH hints hlen hg) λr s' hq=>?_);let(rfl,h2,h3,h4):=hq;exists .inl {.bool true,.bool true,[],Z,λ_=>rfl,.bool true,Zm8 l _,λ_=>{List.E.nil,λ_ hm=>(nomatch hm)}},h2,h3,h4
section
def ZG15(h:Heap)(L d:Addr):(List (Addr×Obj)):=(List.range h.objs.t).filterMap λa=>if a=L\/a=d then none else (h.G a).R λo=>(a,o)
end
end Att
namespace L2
open PySem PySem.Spec PyProof.Rows
def qh{vs:Ag}{ns:Ac}(h:IntsAre vs ns):Vals (ns.R V.int) vs:=by
 induction h with
 |nil=>show .nil
 |cons n t h ih=>show .cons ⟨t,Z⟩ ih
abbrev VF{K:Ad}{h:Heap}(_:K.In h):Ad:=K
def cV(s:Stmt)(j:Nat):(Stmt):=match s with
 | .ClassDef _ _ _ body _ _ _ _ _ _ _=>body.S j (.Pass ⟨0,0,0,0⟩)
 |_=>.Pass ⟨0,0,0,0⟩
def JR(s:Stmt):(Arguments):=match s with
 | .FunctionDef _ a _ _ _ _ _ _ _ _=>a
 |_=>{posonlyargs:=[],args:=[],vararg:=none,kwonlyargs:=[],kw_defaults:=[],kwarg:=none,defaults:=[]}
def ZY(s:Stmt):(List Stmt):=match s with
 | .FunctionDef _ _ b _ _ _ _ _ _ _=>b
 |_=>[]
def Zb(s:Stmt):(Scope):=match s with
 | .FunctionDef _ _ _ _ _ _ sc _ _ _=>sc
 |_=>{kind:=.function,names:=[],isGenerator:=false,isCoroutine:=false}
abbrev WY:RH:=λ_ _ _ _ _ _=>False
abbrev E0:XK:=λ_ _ _=>False
def Zw:SI WY X E0:=λ_ _ _ _ _ _ _ h=>h.elim
structure Fun(K:Ad)(x qual:Str)(st:Stmt)(f:Addr)(fd:FuncData):Prop where
 ex:∃(oc:Value)(od:Option Addr)(kV doc pm:Value)(an:Option Addr)(XG ct:Value)(Tx:Array (Option Value)),
  fd=PySem.W.fnOf x qual (JR st) (ZY st) (Zb st) .none kV doc pm an XG ct/\K.U f=some {oc,od,.func fd,Tx}/\PySem.W.codeIn K XG qual=true
 kp:PySem.W.keepIn K ↑f=true
section
variable{P:Program}{w:World}{K:Ad}{mg:Af}{base:Heap}
def Fun.ok{x qual:Str}{st:Stmt}{f:Addr}{fd:FuncData}{N ps:List Str}{k:Nat}{sp:Sp}(F:Fun K x qual st f fd)(S:FnScope N ps (Zb st))(len:∀vs H Q E,sp vs H Q E->vs.f=ps.f)
  (hbody:∀(XG:Value)(A:Around)(outer:List Env)(s:Shared)(H:Hp)(vs:List V)(Q:VK)(E:XK),Room k (A.deeper<|envOfC qual (Zb st) (~~~s) f XG)->sp vs H Q E->
   ∃t,PSs (Wx WY P w K mg base N qual (Zb st) f XG A outer s H E).nox (ZY st) t/\t {nx:=λ_ H'=>Q .non H',rt:=Q} (start N vs) H):FnOk P w K mg base WY (k+1) f fd ps sp:=by let(oc,od,kV,doc,pm,an,XG,ct,Tx,rfl,lk,Tj):=F.ex;show HP lk Tj S len λA outer s H vs Q E hr Sa=>?_;let(t,h,q):=hbody XG A outer s H vs Q E hr Sa;exists t,h.nox,q
def Fun.binds{x qual:Str}{st:Stmt}{f:Addr}{fd:FuncData}{ps:List Str}(F:Fun K x qual st f fd)
  (h:∀(kV doc pm:Value)(an:Option Addr)(XG ct:Value)(us:Ag),us.f=ps.f->bindArgs (PySem.W.fnOf x qual (JR st) (ZY st) (Zb st) .none kV doc pm an XG ct) {us,[]}=pure (ps.zip us)):Binds K fd ps []:=by let(oc,od,kV,doc,pm,an,XG,ct,Tx,rfl,lk,Tj):=F.ex;show .all (h kV doc pm an XG ct)
def wG{x qual:Str}{st:Stmt}{f:Addr}{oc:Value}{od an:Option Addr}{Tx:Array (Option Value)}{kV doc pm XG ct:Value}(l:K.U f=some {oc,od,.func (PySem.W.fnOf x qual (JR st) (ZY st) (Zb st) .none kV doc pm an XG ct),Tx})
  (c:PySem.W.codeIn K XG qual=true)(k:PySem.W.keepIn K ↑f=true):Fun K x qual st f (PySem.W.fnOf x qual (JR st) (ZY st) (Zb st) .none kV doc pm an XG ct):={⟨oc,od,kV,doc,pm,an,XG,ct,Tx,Z,l,c⟩,k}
end
section
variable{X:Cx}
def pv(i:Nat){x:Str}{pos:Pos}(hN:X.N[i]?=some x:=by rfl)(hv:si X.L.scope x:=by first|show Or.inl rfl|show Or.inr (Or.inl rfl)|show Or.inr<|Or.inr rfl)(hd:(x == ("__debug__":Str))=false:=by decide)
  (Tj:(x == ("__classdict__":Str))=false:=by decide):PE X (.Name x pos) (tVar i):=Zal hN hv hd Tj
end
def iteF{A sj:Prop}(h:sj):if false=true then A else sj:=by rwa[if_neg YC]
def iteT{A sj:Prop}(h:A):if true=true then A else sj:=by rwa[if_pos Z]
def CF{c A sj:Prop}[Decidable c](h1:c->A)(h2:¬c->sj):if c then A else sj:=by
 cases h:c
 .rw[if_pos h];show h1 h
 .rw[if_neg h];show h2 h
def Same(H H':Hp):(Prop):=∀b o,H b=some o->H' b=some o
def Same.refl(H:Hp):Same H H:=λ_ _ h=>h
def Same.trans{H H1 H2:Hp}(a:Same H H1)(b:Same H1 H2):Same H H2:=λc o h=>b c o (a c o h)
def Same.free(e:Same H H'){l:Addr}(h:H' l=Option.none):H l=Option.none:=by
 cases q:H l with
 |none=>rfl
 |some o=>
  rw[e l o q]at h;cases h
def Same.seq{K:Ad}{H H':Hp}{a:Addr}{xs:List V}(e:Same H H')(h:SqL K H a xs):SqL K H' a xs:=by
 rcases h with (h|⟨o,h⟩)|h
 .show .inl (.inl<|e _ _ h)
 .show .inl (.inr {o,e _ _ h})
 .show .inr h
def CD(X:Cx)(ifs:List Expr)(t:TT):(Prop):=
 ∀pins s σ H Q,Inv X pins σ H s->t σ H Q->
  wpAny (model X.prog X.w) X.A (forIn ifs true λc r=>if r=true then do let ok <-isTrue c X.L (eval c X.L);pure (ForInStep.yield ok) else pure (ForInStep.yield r)) (TP X pins σ Q) X.xe s
def tYes:(TT):=λ_ H Q=>Q true H
def ML:CD X [] tYes:=λ_ _ _ H _ I h=>wpAny_tests_nil ⟨H,I,h⟩
def Qw(hc:PT X c t):CD X [c] t:=λpins s σ H Q I h=>wpAny_tests_one (hc pins s σ H Q I h)
def Zx4{R:Result->Shared->Prop}{elt target iter:Expr}{scope:Scope}{pos:Pos}{it acc:Value}(AP:Nat->Shared->Prop)
  (turn:∀n s,AP n s->wpAny (model prog w) A (pyNext it) (λr s1=>match r with
   |none=>R (.ok .next) s1
   |some v=>wpAny (model prog w) A (letOwnedTupleGo target it v) (λ_ s2=>wpAny (model prog w) A (assign target env v) (λ_ s3=>
     wpAny (model prog w) A (forIn ifs true λc r=>if r=true then do let ok <-isTrue c env (eval c env);pure (ForInStep.yield ok) else pure (ForInStep.yield r)) (λok s4=>
      if ok=true then wpAny (model prog w) A (eval elt env) (λx s5=>
       wpAny (model prog w) A (call (.builtin "list.append") [acc,x]) (λ_ s6=>∃m,m<n/\AP m s6) (λ_ _=>False) s5) (λ_ _=>False) s4
      else ∃m,m<n/\AP m s4) (λ_ _=>False) s3) (λ_ _=>False) s2) (λ_ _=>False) s1) (λ_ _=>False) s)
  (n:Nat)(h:AP n s):codeAny (model prog w) A (.compLoop (.ListComp elt [⟨target,iter,ifs,0⟩] scope pos) 0 it acc env) R s:=by
 show codeAny_loop Z AP (λn s hI=>?_) n h;change wpAny _ A ((compTurn (.ListComp elt [⟨target,iter,ifs,0⟩] scope pos) 0 it acc env).onRaise λx=>do noteFrame x env;theTreesLotGoes x) _ _ s
 show wpAny_noted ?_;rw[compTurn_list];show XU (wpAny_standAt<|XU<|Ud (turn n s hI) (λr s1 h1=>?_) λ_ _ z=>z.elim);cases r with
 |none=>show Yh h1
 |some v=>
  show XU (Ud h1 (λ_ s2 h2=>?_) λ_ _ z=>z.elim);show XU (Ud h2 (λ_ s3 h3=>XU<|Ud h3 (λok s4 h4=>?_) λ_ _ z=>z.elim) λ_ _ z=>z.elim);cases ok with
  |false=>show Yh ⟨Z,h4⟩
  |true=>
   show XU (XU<|Ud h4 (λx s5 h5=>XU<|Ud h5 (λ_ s6 h6=>Yh<|Yh ⟨Z,h6⟩) λ_ _ z=>z.elim) λ_ _ z=>z.elim)
def Rk(cells:List (Str×Addr)):(List (Str×NameKind)->List (Str×Addr)->List (Str×Addr))
 |[],acc=>acc
 | (n,k)::r,acc=>if k == .free then Rk cells r ((n,(cells.U n).S 0)::acc) else Rk cells r acc
def cU:∀names acc,(∀y∈names,y.2=.free->∃c,env.cells.U y.1=some c)->
  (forIn names acc λ(x:Str×NameKind) (cs:List (Str×Addr))=>(if (x.2 == .free)=true then do let a <-cellOf env x.1;pure (ForInStep.yield<|(x.1,a)::cs) else pure (ForInStep.yield cs):Sem (ForInStep<|List<|Str×Addr)))=pure (Rk env.cells names acc)
 |[],acc,_=>rfl
 | (n,k)::r,acc,h=>by
  let ih:=λacc=>cU r acc λy hy=>h y (Yg _ hy);rw[List.forIn_cons];unfold Rk;cases hk:(k == NameKind.free)=true
  .let⟨c,hc⟩:=h (n,k) Ye (by simpa using hk);let e:cellOf env n=pure c:=by unfold cellOf;rw[show env.cells.U n=some c from hc]
   simp only[hk,LS,e,pure_bind];rw[ih,show env.cells.U n=some c from hc];rfl
  .simp only[hk,Pz,Rm,pure_bind];show ih acc
def ZW7(h:∀y∈scope.names,y.2=.free->∃c,env.cells.U y.1=some c):closureFor scope env=pure (Rk env.cells scope.names []):=by let e:=cU scope.names [] h;unfold closureFor;simp only[bind_pure]at e ⊢;show e
def qg{env:Env}:∀names acc,(∀y∈names,y.2=.free->∃c,env.cells.U y.1=some c)->(∀x c,acc.U x=some c->env.cells.U x=some c)->
  ∀x c,(Rk env.cells names acc).U x=some c->env.cells.U x=some c
 |[],acc,_,ha,x,c,e=>ha x c e
 | (n,k)::r,acc,h,ha,x,c,e=>by
  unfold Rk at e;cases hk:(k == NameKind.free)=true
  .rw[if_pos hk]at e;let(d,hd):=h (n,k) Ye (by simpa using hk);show qg r _ (λy hy=>h y<|Yg _ hy) (λy b q=>?_) x c e;rw[Kg]at q;cases hy:(y == n)=true
   .rw[hy]at q;let HG:y=n:=by simpa using hy
    let SN:env.cells.U n=some d:=hd;rw[SN]at q;let q':d=b:=Yk q
    rw[HG,SN,q']
   .let HG:(y == n)=false:=by simpa using hy
    rw[HG]at q;show ha y b q
  .rw[if_neg hk]at e;show qg r acc (λy hy=>h y<|Yg _ hy) ha x c e
def qf:∀names acc x,(acc.U x).isSome=true->((Rk cells names acc).U x).isSome=true
 |[],_,_,h=>h
 | (n,k)::r,acc,x,h=>by
  unfold Rk;cases hk:(k == NameKind.free)=true
  .rw[if_pos hk];show qf r _ x ?_;rw[Kg];cases hx:(x == n)=true
   .rw[hx];rfl
   .let Xo:(x == n)=false:=by simpa using hx
    rwa[Xo]
  .rw[if_neg hk];show qf r acc x h
def wF:∀names acc x,(x,NameKind.free)∈names->((Rk cells names acc).U x).isSome=true
 |[],_,_,h=>nomatch h
 | (n,k)::r,acc,x,h=>by
  unfold Rk;rcases Yf.H h with e|h
  .cases e;rw[if_pos sE];show qf r _ _ ?_;rw[Kg];simp
  .cases hk:(k == NameKind.free)=true
   .rw[if_pos hk];show wF r _ x h
   .rw[if_neg hk];show wF r _ x h
def ZZ{env:Env}:∀{names:List (Str×NameKind)}{x:Str}{k:NameKind},(names.R λ(n,k)=>if (k == NameKind.free&&env.scope.kind == .function&&env.kindOf n == some .cell) then (n,NameKind.cell) else (n,k)).U x=some k->
  (k=.cell\/k=.free)->(x,NameKind.free)∈names\/(x,NameKind.cell)∈names
 |[],_,_,h,_=>by simp at h
 | (n,q)::r,x,k,h,hk=>by
  let h':List.U x ((if (q == NameKind.free&&env.scope.kind == .function&&env.kindOf n == some .cell)=true then (n,NameKind.cell) else (n,q))::r.R λ(n,k)=>if (k == NameKind.free&&env.scope.kind == .function&&env.kindOf n == some .cell) then (n,NameKind.cell) else (n,k))=some k:=h;cases hc:(q == NameKind.free&&env.scope.kind == .function&&env.kindOf n == some .cell)=true
  .rw[if_pos hc,Kg]at h';let hq:q=.free:=by simp only[Kf,RL]at hc;show hc.1.1
   cases hx:(x == n)=true
   .let Xo:x=n:=by simpa using hx
    subst Xo;subst hq;show .inl Ye
   .let Xo:(x == n)=false:=by simpa using hx
    rw[Xo]at h';rcases ZZ (env:=env) h' hk with z|z
    .show .inl (Yg _ z)
    .show .inr (Yg _ z)
  .rw[if_neg hc,Kg]at h';cases hx:(x == n)=true
   .rw[hx]at h';let Xo:x=n:=by simpa using hx
    subst Xo;let e:q=k:=Yk h'
    subst e;rcases hk with rfl|rfl
    .show .inr Ye
    .show .inl Ye
   .let Xo:(x == n)=false:=by simpa using hx
    rw[Xo]at h';rcases ZZ (env:=env) h' hk with z|z
    .show .inl (Yg _ z)
    .show .inr (Yg _ z)
def qd{env:Env}:∀{names:List (Str×NameKind)}{x:Str},names.U x=some .free->
  (names.R λ(n,k)=>if (k == NameKind.free&&env.scope.kind == .function&&env.kindOf n == some .cell) then (n,NameKind.cell) else (n,k)).U x=some .cell\/
  (names.R λ(n,k)=>if (k == NameKind.free&&env.scope.kind == .function&&env.kindOf n == some .cell) then (n,NameKind.cell) else (n,k)).U x=some .free
 |[],_,h=>by simp at h
 | (n,q)::r,x,h=>by
  change List.U x ((if (q == NameKind.free&&env.scope.kind == .function&&env.kindOf n == some .cell)=true then (n,NameKind.cell) else (n,q))::_)=_\/List.U x ((if (q == NameKind.free&&env.scope.kind == .function&&env.kindOf n == some .cell)=true then (n,NameKind.cell) else (n,q))::_)=_;rw[Kg]at h;cases hc:(q == NameKind.free&&env.scope.kind == .function&&env.kindOf n == some .cell)=true
  .rw[if_pos hc,Kg];cases hx:(x == n)=true
   .rw[hx];show .inl rfl
   .let Xo:(x == n)=false:=by simpa using hx
    rw[Xo]at h ⊢;show qd h
  .rw[if_neg hc,Kg];cases hx:(x == n)=true
   .rw[hx]at h ⊢;show .inr h
   .let Xo:(x == n)=false:=by simpa using hx
    rw[Xo]at h ⊢;show qd h
def Ua(X:Cx)(N':List Str)(scope:Scope)(C:Addr)(s:Shared)(H:Hp)(fp:List Addr):(Cx) where
 prog:=X.prog
 w:=X.w
 K:=X.K
 mg:=X.mg
 base:=X.base
 A:=X.A
 N:=N'
 s₀:=s
 H₀:=H
 env:=compEnvC scope (Rk X.L.cells scope.names []) C X.L
 outer:=X.stack
 stack:=X.stack
 ex:=fp
 fn:=λ_=>false
 calm:=X.calm
 pn:=[]
 xe:=λ_ _=>False
def σC(o:Nat)(fr:List Nat)(σ:St):(St):=List.replicate o none++fr.R λj=>(σ[j]?).join
structure CompScope(sc0:Scope)(N N':List Str)(o:Nat)(fr:List Nat)(scope:Scope):Prop where
 kind:scope.kind=.function
 nocell:(scope.names.all λy=>y.2 != .cell)=true
 loc:(scope.names.all λy=>y.2 != .local||scope.names.U y.1 == some .local)=true
 free:(scope.names.all λy=>y.2 != .free||sc0.names.U y.1 == some .cell||sc0.names.U y.1 == some .free)=true
 len:N'.f=o+fr.f
 sees:((List.range fr.f).all λj=>match fr[j]? with
  |none=>false
  |some y=>match N[y]? with
   |none=>false
   |some x=>N'[o+j]? == some x&&scope.names.U x == some .free)=true
def JQ(AP:It)(g:TG)(tt:TT)(te:TE)(o:Nat)(fr:List Nat)(σ:St)(H1:Hp)(Q:VK):(Prop):=∃W:Nat->Nat->List V->Hp->Prop,(∃m,W 0 m [] H1)/\∀i m ys H,W i m ys H->
 (AP.stop i H/\ys.f<=sizeLine/\∀p,H p=none->Q ↑p (upd H p<|.lst ys))\/
 (AP.go i H/\ys.f<sizeLine/\∀x H',AP.yld i H x H'->g x (σC o fr σ) H' λσ2 H2=>tt σ2 H2 λb H3=>if b=true then te σ2 H3 λy H4=>∃m',m'<m/\W (i+1) m' (ys++[y]) H4 else ∃m',m'<m/\W (i+1) m' ys H3)
def qc(wi:TI)(g:TG)(tt:TT)(te:TE)(o:Nat)(fr:List Nat):(TE):=λσ H Q=>wi σ H λAP H1=>JQ AP g tt te o fr σ H1 Q
def Ox(o:Nat)(g:TG):(Prop):=∀x ow fr H Q,ow.f=o->g x (ow++fr) H Q->g x (ow++fr) H λσ2 H2=>(∃CC,CC.f=o/\σ2=CC++fr)/\Q σ2 H2
def ZE(h:i<o):Ox o (LQ i):=λx ow fr H Q hl q=>{{ow.set i<|some x,by rw[MT];show hl,by rw[List.set_append_left _ _ J]},q}
def Rj(o:Nat)(g:Ia):(Prop):=∀xs ow fr H Q,ow.f=o->g xs (ow++fr) H Q->g xs (ow++fr) H λσ2 H2=>(∃CC,CC.f=o/\σ2=CC++fr)/\Q σ2 H2
def Qu:Rj o gNil:=λ_ ow _ _ _ hl zz=>by let(e,q):=zz;exists e,⟨ow,hl,Z⟩,q
def ZW(h:i<o)(h2:Rj o u):Rj o (gCons (LQ i) u):=by
 rintro xs ow fr H Q hl ⟨v,r,rfl,q⟩;exists v,r,Z,?_;let q':u r ((ow++fr).set i (some v)) H Q:=q
 change u r ((ow++fr).set i (some v)) H _;rw[List.set_append_left _ _ sr]at q' ⊢;show h2 r (ow.set i<|some v) fr H Q (by rwa[MT]) q'
def Qt{K:Ad}{o n:Nat}{u:Ia}(h:Rj o u):Ox o (gTup K n u):=by rintro x ow fr H Q hl ⟨a,xs,rfl,hs,hn,q⟩;exists a,xs,Z,hs,hn,h xs ow fr H Q hl q
section
variable{X:Cx}{pins:List (Addr×Obj)}{σ:St}{H:Hp}{s:Shared}{N':List Str}{o:Nat}{fr:List Nat}{scope:Scope}{fp:List Addr}
abbrev TZ(us:Ag):Obj:={cls:=.type "list",data:=.seq us.C us.f}
def CompScope.nocell'(S:CompScope sc0 N N' o fr scope):∀y∈scope.names,y.2≠.cell:=λy hy e=>by let q:=OW.H S.nocell y hy;rw[e]at q;show absurd q su
def CompScope.loc'(S:CompScope sc0 N N' o fr scope):∀y∈scope.names,y.2=.local->scope.names.U y.1=some .local:=λy hy e=>by let q:=OW.H S.loc y hy;rw[e]at q;simpa using q
def CompScope.free'(S:CompScope sc0 N N' o fr scope)(hs:X.L.scope=sc0):∀y∈scope.names,y.2=.free->X.L.kindOf y.1=some .cell\/X.L.kindOf y.1=some .free:=λy hy e=>by
 let q:=OW.H S.free y hy;rw[e]at q;change X.L.scope.names.U y.1=_\/X.L.scope.names.U y.1=_
 rw[hs];simpa using q
def CompScope.sees'(S:CompScope sc0 N N' o fr scope):∀j y,fr[j]?=some y->∃x,N[y]?=some x/\N'[o+j]?=some x/\scope.names.U x=some .free:=λj y e=>by
 let hj:j<fr.f:=(XA.H e).1;let q:=OW.H S.sees j (YV.X hj)
 rw[e]at q;dsimp only at q;cases ex:N[y]? with
 |none=>rw[ex]at q;cases q
 |some x=>
  rw[ex]at q;dsimp only at q;rw[Kf,RL,RL]at q;exists x,Z,q.1,q.2
def CompScope.cells(S:CompScope sc0 N0 N' o fr scope)(hs:X.L.scope=sc0)(I:Inv X pins σ H s):∀y∈scope.names,y.2=.free->∃c,X.L.cells.U y.1=some c:=λy hy e=>I.ok.has y.1 (S.free' hs y hy e)
def CompScope.sub(S:CompScope sc0 N0 N' o fr scope)(hs:X.L.scope=sc0)(I:Inv X pins σ H s):∀x c,(Rk X.L.cells scope.names []).U x=some c->X.L.cells.U x=some c:=
 qg (env:=X.L) scope.names [] (S.cells hs I) (λ_ _ z=>nomatch z)
def Inv.block(S:CompScope sc0 N0 N' o fr scope)(hs:X.L.scope=sc0)(hN:X.N=N0)(I:Inv X pins σ H s)(hf:∀b∈fp,FpOk X pins H b)(Qs:∀b∈fp,b<(~~~s)){h1:Heap}{C D:Addr}{m:Af}{t:Nat}
  (hC:(~~~s)<=C)(hD:(~~~s)<=D)(MK:D≠C)
  (old:∀b ob,s.D.G b=some ob->h1.G b=some ob)(hn:h1.Ns C m)(ha:h1.G D=some (TZ us)):Inv (Ua X N' scope C s H fp) [(D,TZ us)] (σC o fr σ) H {s with heap:=h1,toks:=t}:=by
 let sub:=S.sub hs I;let frC:∀b∈VR X.stack,b<(~~~s):=λb hb=>by let(_,ob,ho,_):=I.stack.mem hb;show Ym ho
 show⟨{I.ok.mod,S.kind,I.ok.glob,I.ok.blt,hC,λx y c h1 h2=>I.ok.inj x y c (sub x c h1)<|sub y c h2,λx hx=>?_,λx c hfx _=>(nomatch hfx),I.ok.hd,I.ok.frames,.inl Z,λb hb=>?_,I.bs,Yj I.ok.bsz I.sz,λb ob e hb=>?_,λb hb Ow=>?_,I.stack,I.stkFree},
  rfl,I.bare,Un.kept old,{m,hn,λi x v e1 e2 e3=>?_},λx c e=>?_,I.hok.fresh hC,λx c e=>I.freeC x c<|sub x c e,λp hp=>?_,I.hok.kept old,?_⟩
 .let Xo:(relabel scope X.L).names.U x=some .cell\/(relabel scope X.L).names.U x=some .free:=hx;let key:(x,NameKind.free)∈scope.names:=by
   rcases Xo with z|z
   .rcases ZZ (env:=X.L) z (.inl rfl) with q|q
    .show q
    .show absurd Z (S.nocell' _ q)
   .rcases ZZ (env:=X.L) z (.inr rfl) with q|q
    .show q
    .show absurd Z (S.nocell' _ q)
  show t6.H (wF (cells:=X.L.cells) scope.names [] x key)
 .let⟨f0,f1,f2,f3,f4,f5⟩:=hf b hb;exists YA<|Yq (Qs b hb) hC,λx c e=>f4 x c<|sub x c e
 .let⟨f0,f1,f2,f3,f4,f5⟩:=hf b hb;rcases f3 with z|z
  .show I.ok.noex b ob e z
  .show absurd (Yq (Ym e)<|Yj I.ok.bsz z) (QL _)
 .let⟨f0,f1,f2,f3,f4,f5⟩:=hf b hb;rcases Yf.H (I.stkSub b Ow) with z|z
  .show f1 z
  .show f2 z
 .unfold σC at e2;cases hi:i<o
  .rw[Yr (by rwa[YT]),xR,if_pos hi]at e2;cases e2
  .rw[Yo (by rw[YT];show Nat.not_lt.H hi),YT,Yw]at e2;cases hy:fr[i-o]? with
   |none=>rw[hy]at e2;cases e2
   |some y=>
    rw[hy]at e2;let wD:(σ[y]?).join=some v:=Yk e2
    let e3':σ[y]?=some (some v):=by
     cases q:σ[y]? with
     |none=>rw[q]at wD;cases wD
     |some z=>rw[q]at wD;show QP some wD
    let(x',s2,s1,s3):=S.sees' (i-o) y hy;rw[<-hN]at s2;rw[show o+(i-o)=i by grind]at s1;let ex:x=x':=by let e1':N'[i]?=some x:=e1;rw[e1']at s1;show Yk s1
    subst ex;let hmem:=RO s3
    let(m0,_,hl):=I.loc;let hk:=S.free' hs (x,.free) hmem rfl
    let(u,ru,lk):=hl y x v s2 e3' (by rcases hk with z|z;show .inr (.inl z);show .inr<|.inr z);exists u,ru,.inr {qd (env:=X.L) s3,?_};let(c',Wk):=t6.H (wF (cells:=X.L.cells) scope.names [] x hmem);exists c',Wk,?_;rcases lk with ⟨z,_⟩|⟨_,c,e,ob,ho,hd⟩
    .rcases hk with z'|z'
     .rw[z]at z';cases z'
     .rw[z]at z';cases z'
    .let ec:c=c':=by
      have:=sub x c' Wk
      rw[e]at this;show Yk this
     subst ec;exists ob,old _ _ ho,hd
 .let⟨v,ob,ho,hd⟩:=I.cell x c (sub x c e);exists v,ob,old _ _ ho,hd
 .let e:p=(D,TZ us):=by simpa using (show p∈([]:List (Addr×Obj))++[(D,TZ us)] from hp)
  subst e;exists ha,I.hok.fresh hD,MK,λz=>absurd (Yq (frC D z) hD)<|QL _,λv z=>nomatch z
 .change(σC o fr σ).f=N'.f;unfold σC;rw[Xy,YT,Yb,S.len]
def Inv.unblock(I:Inv X pins σ H s)(hf:∀b∈fp,FpOk X pins H b){σ':St}{s':Shared}(hC:(~~~s)<=C)(hD:(~~~s)<=D)(MK:D≠C)
  (I':Inv (Ua X N' scope C s H fp) [(D,TZ us)] σ' H' s')(r:Vals ys us)(hz:ys.f<=sizeLine):∃oC m,s'.D.G C=some oC/\s'.D.Ns C m/\Inv X (pins++[(C,oC)]) σ (upd H' D<|.lst ys) s':=by
 let(aD,nD,_,_,_):=I'.pin (D,TZ us) B;let aD:s'.D.G D=some (TZ us):=aD
 let nD:H' D=none:=nD;let un:Un (VR X.stack) fp H H' s.D s'.D:=I'.base
 let lt:∀b u,H b=some u->b≠D:=λb u e=>YA (Yq (I.hok.lt e) hD);let qb:Un (VR X.stack) fp H (upd H' D<|.lst ys) s.D s'.D:=by
  exists un.keep,un.slot,λb ob e n hx=>?_,un.there,λb xs e=>?_,λb ob u e=>?_,λb ps e=>?_
  .rw[Za (YA<|Yq (Ym e) hD)];show un.free b ob e n hx
  .rw[Za (lt b _ e)];show un.tups b xs e
  .rw[Za (lt b _ e)];show un.frzs b ob u e
  .let⟨more,q⟩:=un.tbls b ps e;exists more,by rwa[Za (lt b _ e)]
 let hok:HOk X.prog X.w (upd H' D<|.lst ys) s'.D:=λb u e=>by
  cases hb:b=D
  .subst hb;rw[XS]at e;cases e;exists hz,us,us.f,r,aD
  .rw[Za hb]at e;show(I'.hok b u e).stay (λc v _ q=>q) (λc q=>by rwa[Za (Wz q nD)]) λc xs q=>by rwa[Za (Wz q nD)]
 let os:s'.os=s.os:=I'.os;let AP:Inv X pins σ (upd H' D<|.lst ys) s':=I.call' (ch:=fp) os qb hok I'.bare λb hb=>by let(f0,f1,f2,f3,f4,f5):=hf b hb;exists f3,f1,f4,f5
 let(m,hn,_):=I'.loc;let hn:s'.D.Ns C m:=hn
 let(oC,es,ep,qa,hdC,_):=id hn;exists oC,m,qa,hn,AP.pins_of λp hp=>?_;rcases XB.H hp with z|z
 .show AP.pin p (Yd _ z)
 .let e:p=(C,oC):=by simpa using z
  subst e;let nC:H' C=none:=I'.free
  show{qa,by rw[Za (Xb MK)];show nC,Vp<|Yq I.lt hC,I.nofs hC,λv z=>?_};let z':oC.data=.cell v:=z
  rw[hdC]at z';cases z'
end
section
variable{X:Cx}{N':List Str}{o:Nat}{fr:List Nat}{scope:Scope}{elt tg iter:Expr}{ifs:List Expr}{pos:Pos}{wi:TI}{g:TG}{tt:TT}{te:TE}
def JP(hc:X.calm=true)(S:CompScope sc0 N0 N' o fr scope)(hi:PI X tg iter wi)(ho:Ox o g)
  (hg:∀C s H fp,PG (Ua X N' scope C s H fp) tg g)
  (ht:∀C s H fp,CD (Ua X N' scope C s H fp) ifs tt)
  (he:∀C s H fp,PE (Ua X N' scope C s H fp) elt te)
  (hs:∀x,foldedSetIterable iter X.L x=pure x)(Pq:X.L.scope=sc0)(CB:X.N=N0)(I:Inv X pins σ H s)(h:qc wi g tt te o fr σ H Qv)
  {use:Option (Value->Sem Unit)}{Q:Ae}{E:Ae}
  (hE:∀e s',X.xe e s'->E e s')
  (fin:∀C oC D m H' ys s',Inv X (pins++[(C,oC)]) σ (upd H' D<|.lst ys) s'->Qv ↑D (upd H' D<|.lst ys)->s'.D.Ns C m->H' C=none->C≠D->
   C≠X.L.locals->(~~~X.s₀)<=C->(∀x c,X.L.cells.U x=some c->c≠C)->(∀p∈X.pn++pins,p.1≠C)->compPost (model X.prog X.w) X.A E use Q ↑D C (.ok .next) s'):
  wpAny (model X.prog X.w) X.A (comprehension (.ListComp elt [⟨tg,iter,ifs,0⟩] scope pos) scope X.L (firstIterPos [⟨tg,iter,ifs,0⟩] pos) (newList []) false (eval iter X.L) use) Q E s:=by
 show wpAny_comprehension_free (use:=use) Z hs (ZW7<|S.cells Pq I) S.kind S.loc' (Ud (hi pins s σ H _ I h) (λxv s1 h1=>Ud h1 (λrG s2 h2=>?_) hE) hE);let(it,fp,tn,AP,H2,rfl,I2,T,Xg,f2,W,(m0,w0),turn):=h2;let Qs:∀b∈fp,b<(~~~s2):=λb hb=>by let(ob,e,_):=T.obj 0 _ Xg b hb;show Ym e
 show Mh (wpAny_newFunctionEnv S.nocell' (by intro y hy;simp at hy) (λh1 HF LG=>?_) S.kind);dsimp only at HF LG ⊢;generalize p9:s2.D.push {cls:=.type "list",dict:=none,data:=.seq ([]:Ag).C}=G at HF LG ⊢;let cT:G.objs.t=(~~~s2)+1:=by rw[<-p9,Mg]
 let hC:(~~~s2)<=G.objs.t:=by rw[cT];show Ue _
 let MK:(~~~s2)≠G.objs.t:=by rw[cT];show YA (MU _)
 let old:∀b ob,s2.D.G b=some ob->h1.G b=some ob:=λb ob e=>
  LG.extBut b ob (YA<|Yq (Ym e) hC) (Xf _<|p9▸Xf _ e)
 let Vz:h1.G (~~~s2)=some (TZ []):=LG.extBut _ _ MK (Xf _<|p9▸Yp _ Z);let RZ:tn 0 h1:=T.keep _ _ _ Xg λb _ ob e=>old b ob e
 let p8:∀{us:Ag}{H':Hp},(∀b∈fp,H' b=none)->∀b∈fp,FpOk (Ua X N' scope G.objs.t s2 H2 fp) [((~~~s2),TZ us)] H' b:=λ{us H'} hn b hb=>by
  let(f0,f1,f3,f4,f5,f6):=f2 b hb;exists hn b hb,YA<|Yq (Qs b hb) hC,λz=>?_,.inl hb,λx c e=>f5 x c<|S.sub Pq I2 x c e,λp hp=>?_
  .rcases Yf.H (I2.stkSub b z) with q|q
   .show f1 q
   .show f3 q
  .let e:p=((~~~s2),TZ us):=by simpa using (show p∈([]:List (Addr×Obj))++[((~~~s2),TZ us)] from hp)
   subst e;show Vp (Qs b hb)
 let loop:∀s3:Shared,s3={s2 with heap:=h1,toks:=s2.toks+([]:List (Str×Value)).f}->
   codeAny (model X.prog X.w) X.A (.compLoop (.ListComp elt [⟨tg,iter,ifs,0⟩] scope pos) 0 ↑it (.ref (~~~s2))<|compEnvC scope (Rk X.L.cells scope.names []) G.objs.t X.L)
    (compPost (model X.prog X.w) X.A E use Q (.ref (~~~s2)) G.objs.t) s3:=by
  rintro s3 rfl;show Zx4 (λn s'=>∃i σ' H' ys us,Inv (Ua X N' scope G.objs.t s2 H2 fp) [((~~~s2),TZ us)] σ' H' s'/\σ'=σC o fr σ/\Vals ys us/\tn i s'.D/\(∀b∈fp,H' b=none)/\W i n ys H') ?_ m0
   {0,_,H2,[],[],I2.block S Pq CB f2 Qs hC (XI _) MK old HF Vz,Z,.nil,RZ,λb hb=>(f2 b hb).1,w0}
  rintro n s' ⟨i,σ',H',ys,us,I',rfl,rv,XQ,cS,w'⟩;rcases turn i n ys H' w' with ⟨stop,hz,q⟩|⟨go,hz,step⟩
  .show thn (T.done (Ua X N' scope G.objs.t s2 H2 fp) Z Z Z hc i _ s' _ H' _ I' (p8 cS) XQ stop) λr s4 zz=>?_;let(hr,I4):=zz;subst hr;let(oC,m,qa,hn,J4):=I2.unblock f2 hC (XI _) MK I4 rv hz;show fin _ oC _ m H' ys s4 J4 (q _ (I4.pin ((~~~s2),TZ us) B).2.1) hn I4.free (Xb MK) (Vp<|Yq I2.lt hC) (Yj I2.sz hC)
    (λx c e=>by let(v,z):=I2.cell x c e;show YA<|Yq z.lt hC) λp hp=>YA (Yq (Ym (I2.pin p hp).1) hC)
  .show thn (T.item (Ua X N' scope G.objs.t s2 H2 fp) Z Z Z hc i _ s' _ H' _ I' (p8 cS) XQ go) λr s4 Xw=>?_;let(u,hr,h4):=Xw;subst hr;show thn h4 λ_ s5 Xw=>?_;let(x,H5,I5,r5,y5,WU,rq):=Xw;let WV:=step x H5 y5
   let p7:=ho x (List.replicate o none) (fr.R λj=>(σ[j]?).join) H5 _ (YT ..) WV;let rp:=I5.pinned (p8 (us:=us) rq) (T.obj _ _ WU)
   show thn (hg _ _ _ _ _ s5 _ H5 x u _ rp r5 p7) λ_ s6 Xw=>?_;let(σ6,H6,I6,(ow,Pp,e6),q6):=Xw;subst e6;show thn (ht _ _ _ _ _ s6 _ H6 _ I6 q6) λb s7 Xw=>?_;let(H7,I7,q7):=Xw;let back:∀{us':Ag}{σ8:St}{H8:Hp}{s8:Shared},Inv (Ua X N' scope G.objs.t s2 H2 fp) ([((~~~s2),TZ us')]++LO fp s5.D) (ow++fr.R λj=>(σ[j]?).join) H8 s8->
     Inv (Ua X N' scope G.objs.t s2 H2 fp) [((~~~s2),TZ us')] (σC o fr σ) H8 s8/\tn (i+1) s8.D/\∀b∈fp,H8 b=none:=λ{us' σ8 H8 s8} I8=>by
    exists I8.unpinned.weak ?_ λj v e=>?_,T.keep _ _ _ WU λb hb ob e=>(I8.pin (b,ob)<|Yd _<|Yd _<|wV hb e).1,λb hb=>?_
    .unfold σC;rw[Xy,Xy,YT,Pp]
    .unfold σC at e;cases hj:j<o
     .rw[Yr (by rwa[YT]),xR,if_pos hj]at e;cases e
     .rw[Yo (by rw[YT];show Nat.not_lt.H hj),YT]at e;rwa[Yo (by rw[Pp];show Nat.not_lt.H hj),Pp]
    .let⟨ob,e,_⟩:=T.obj _ _ WU b hb;show(I8.pin (b,ob)<|Yd _<|Yd _<|wV hb e).2.1
   cases b with
   |false=>
    rw[if_neg YC]at q7 ⊢;let(m',hm,w7):=q7;let(I8,st8,fr8):=back (us':=us) (σ8:=[]) I7;exists m',hm,i+1,_,H7,ys,us,I8,Z,rv,st8,fr8,w7
   |true=>
    rw[if_pos Z]at q7 ⊢;show thn (he _ _ _ _ _ s7 _ H7 _ I7 q7) λy s8 Xw=>?_;let(yv,H8,I8,r8,m',hm,w8):=Xw;let(aD,nD,_,_,_):=I8.pin ((~~~s2),TZ us) B;let aD:s8.D.G (~~~s2)=some (TZ us):=aD
    let nD:H8 (~~~s2)=none:=nD;let hul:us.f<=sizeLine:=by rw[<-rv.f];show MQ hz
    show append_at (hsz:=by change us.C.t<=sizeLine;rwa[Xk]) aD λh9 hs9 hD9=>?_;let p6:h9.G (~~~s2)=some (TZ<|us++[y]):=by
     rw[hD9];change some ({cls:=.type "list",data:=.seq (us.C.push y) (us.f+1)}:Obj)=some {cls:=.type "list",data:=.seq (us++[y]).C (us++[y]).f}
     rw[Xy,Yt,List.push_toArray]
    let I9:Inv (Ua X N' scope G.objs.t s2 H2 fp) (LO fp s5.D) (ow++fr.R λj=>(σ[j]?).join) H8 {s8 with heap:=h9}:=
     (I8.pins_of (pins':=LO fp s5.D) λp hp=>I8.pin p<|Yd _<|Yd _ hp).turned (t':=s8.toks) (it:=(~~~s2)) (λb ob hb e=>hs9.extBut b ob hb e) nD MK (.inr<|XI _)
      (λx c e=>by let(v,z):=I2.cell x c (S.sub Pq I2 x c e);show YA z.lt)
      λp hp=>by let(hb,_):=Dj (show p∈LO fp s5.D from by simpa[Ua] using hp);show YA (Qs p.1 hb)
    let I9':Inv (Ua X N' scope G.objs.t s2 H2 fp) ([((~~~s2),TZ<|us++[y])]++LO fp s5.D) (ow++fr.R λj=>(σ[j]?).join) H8 {s8 with heap:=h9}:=
     I9.pins_of λp hp=>by
      rcases XB.H hp with z|z
      .let e:p=((~~~s2),TZ<|us++[y]):=by simpa using z
       subst e;exists p6,nD,MK,λz=>?_,λv z=>nomatch z;let(_,ob,Qr,_):=I2.stack.mem z;show QL _ (Ym Qr)
      .show I9.pin p (Yd _ z)
    let(I10,pZ,pW):=back (us':=us++[y]) (σ8:=[]) I9';exists m',hm,i+1,_,H8,ys++[yv],us++[y],I10,Z,Vals.append rv<|.cons r8 .nil,pZ,pW,w8
 show codeAny_compStart_list (loop _ Z) (T.self _ 0 _ _ _ RZ<|loop _ Z)
def Vy(hc:X.calm=true)(S:CompScope sc0 N0 N' o fr scope)(hi:PI X tg iter wi)(ho:Ox o g)
  (hg:∀C s H fp,PG (Ua X N' scope C s H fp) tg g)
  (ht:∀C s H fp,CD (Ua X N' scope C s H fp) ifs tt)
  (he:∀C s H fp,PE (Ua X N' scope C s H fp) elt te)
  (hs:∀x,foldedSetIterable iter X.L x=pure x:=by intro _;rfl)(Pq:X.L.scope=sc0:=by rfl)(CB:X.N=N0:=by rfl):PE X (.ListComp elt [⟨tg,iter,ifs,0⟩] scope pos) (qc wi g tt te o fr):=by intro pins s σ H Q I h;rw[eval_ListComp];show JP hc S hi ho hg ht he hs Pq CB I h (use:=none) (λ_ _ z=>z) λC oC D m H' ys s' AP q hn nC pV pU pT pS pR=>?_;exists m,hn,λh' Wf=>{.ref D,upd H' D<|.lst ys,?_,Z,q};show AP.unpinned.turned (t':=s'.toks) (it:=C) (λb ob hb e=>Wf.extBut b ob hb e) (by rwa[Za pV]) pU (.inr pT) pS pR
def LF{x:Str}{px:Pos}{CA:Pos}(hc:X.calm=true)(hN:X.N.Nodup)(hx:X.N[i]?=some x)(hl:X.L.kindOf x=some .local)(S:CompScope sc0 N0 N' o fr scope)(hi:PI X tg iter wi)(ho:Ox o g)
  (hg:∀C s H fp,PG (Ua X N' scope C s H fp) tg g)
  (ht:∀C s H fp,CD (Ua X N' scope C s H fp) ifs tt)
  (he:∀C s H fp,PE (Ua X N' scope C s H fp) elt te)
  (hs:∀x,foldedSetIterable iter X.L x=pure x:=by intro _;rfl)(Pq:X.L.scope=sc0:=by rfl)(CB:X.N=N0:=by rfl)
  (hsw:swapsWith (.ListComp elt [⟨tg,iter,ifs,0⟩] scope pos) (some<|.Name x px) CA.line X.L=pure true:=by rfl):
  PS X (.Assign [.Name x px] (.ListComp elt [⟨tg,iter,ifs,0⟩] scope pos) CA) (LP (qc wi g tt te o fr)<|LQ i):=by
 intro pins s σ H D I h;rw[exec_Assign_Name_used _ _ _ _ hsw];show XU (wpAny_standAt<|XU ?_);change wpAny _ X.A (do let _ <-comprehension (.ListComp elt [⟨tg,iter,ifs,0⟩] scope pos) scope X.L (firstIterPos [⟨tg,iter,ifs,0⟩] pos) (newList []) false (eval iter X.L) (some<|assign (.Name x px) X.L)) _ _ s
 show XU (Ud (JP (Q:=λ_ s'=>SP X pins D .next s') hc S hi ho hg ht he hs Pq CB I h (use:=some<|assign (.Name x px) X.L) (λ_ _ z=>z) λC oC Dd m H' ys s' AP q hn nC pV pU pT pS pR=>?_) (λ_ s' hq=>Yh<|Yh hq) λ_ _ e=>e);change wpAny _ X.A (assign (.Name x px) X.L<|.ref Dd) _ _ _
 show wpAny_assign_Name (r9 AP hN hx (.inl hl) (v:=.ref Dd) Z (λs2 I2=>?_)<|.inr hl);let g1:=(I2.pin (C,oC) B).1
 let g1:s2.D.G C=some oC:=g1;let n2:s2.D.Ns C m:=by
  let(oc,es,ep,e,r):=hn;let e0:=(AP.pin (C,oC) B).1
  let e0:s'.D.G C=some oC:=e0;rw[e]at e0;cases e0;exists _,es,ep,g1,r
 exists m,n2,λh' Wf=>{_,upd H' Dd<|.lst ys,?_,q};show I2.unpinned.turned (t':=s2.toks) (it:=C) (λb ob hb e=>Wf.extBut b ob hb e) (by rwa[Za pV]) pU (.inr pT) pS pR
end
section
variable{X:Cx}
def cR{x y:V}{us:Ag}(r:Vals [x,y] us):∃u v,us=[u,v]/\RelV x u/\RelV y v:=by
 cases r with
 |cons a r=>
  cases r with
  |cons b r=>cases r;exists _,_,Z,a,b
def ZA:∀{ns:Ac}{us:Ag},Vals (ns.R V.int) us->IntsAre us ns
 |[],_,.nil=>.nil
 |n::ns,_,.cons r t=>by let(tk,rfl):=r;show .cons n tk (ZA t)
def pQ:TB X (.type "range") (λxs H Q=>∃j:Int,xs=[.int j]/\∀p,H p=none->Q ↑p (upd H p (.rng 0 j))):=by intro pins s σ H xs us Q I r h;let(j,rfl,q):=h;let(u,rfl,t,rfl):=SK r;show call_range_1 ?_;exists .ref (~~~s),_,I.laid (o:=.rng 0 j) (λb u e=>Xf _ e) (XI _) {_,_,_,Yp _ Z},Z,q _<|I.hok.fresh<|XI _
def Wr(lo hi:Int):(Ac):=(List.range (hi-lo).j).R λ(i:Nat)=>lo+(i:Int)
def cQ(lo hi:Int):(Wr lo hi).f=(hi-lo).j:=by unfold Wr;rw[Yb,MW]
def cP{lo:Int}:∀{us:Ag},us.f=n->(∀(j:Nat)(v:Value),us[j]?=some v->∃t,v=Value.int (lo+(j:Int)) t)->Vals (((List.range n).R λ(i:Nat)=>lo+(i:Int)).R V.int) us:=by
 induction n generalizing lo with
 |zero=>
  intro us h _;rw[YW.H h];show .nil
 |succ n ih=>
  intro us h hv;cases us with
  |nil=>cases h
  |cons u us=>
   rw[List.range_succ_eq_map,TM,TM];show .cons ?_ ?_
   .let⟨t,e⟩:=hv 0 u rfl;exists t,e
   .let q:=ih (lo:=lo+1) (us:=us) (Md h) λj v e=>by let(t,e'):=hv (j+1) v (by simpa using e);exists t,?_;rw[e'];congr 1;lia
    let e:(List.range n).R (λ(i:Nat)=>lo+1+(i:Int))=((List.range n).R Nat.succ).R (λ(i:Nat)=>lo+(i:Int)):=by
     rw[Mc];show VC λi _=>?_;change lo+1+(i:Int)=lo+((i+1:Nat):Int)
     lia
    rwa[e]at q
inductive yR1(xs:List V)(H:Hp)(Q:VK):Prop
 |mk (p lo hi:_) (_:xs=[.ref p]) (_:H p=some (.rng lo hi)) (_:(-(2^62)<=lo/\lo<2^62/\-(2^62)<=hi/\hi<2^62)) (_:(hi-lo).j<=16777216) (_:∀l,H l=none->Q ↑l (upd H l<|.lst<|(Wr lo hi).R V.int))
def cO(hc:X.calm=true):TB X (.type "list") (yR1):=by
 intro pins s σ H xs us Q I r h;let(p,lo,hi,rfl,hp,(b1,b2,b3,b4),hz,q):=h;let(u,rfl,ru):=SK r;let rfl:u=Value.ref p:=ru;let(t,u,v,e):=(show ObjOk X.prog X.w H s.D p (.rng lo hi) from I.hok p _ hp);let hn:Builtin.Range.rangeSize lo hi 1=(((hi-lo).j:Nat):Int):=by rw[rangeSize_one];split<;>grind
 show call_list_range (I.ok.hd hc) (t:=t) (u:=u) (v:=v) e (small_one b1 b2 b3 b4) hn hz λh' tk acc c' hk hS ha=>?_;let hl:acc.l.f=(hi-lo).j:=by rw[Ys];show ha.1
 let rv:Vals ((Wr lo hi).R V.int) acc.l:=cP (lo:=lo) hl λj w ew=>by let(t,e):=ha.2 j w (by simpa using ew);exists t,by rw[e,Ma]
 exists .ref (~~~s),_,I.laid (o:=.lst<|(Wr lo hi).R V.int) hk (XI _) {?_,acc.l,c',rv,?_},Z,q _<|I.hok.fresh<|XI _
 .rw[Yb,cQ]
  have:sizeLine=16777216:=Uu
  lia
 .rw[hS]
def seen(ns:Ac):(Ac):=firstMet (λi=>ns.S i 0) ns.f
def Fd(K:Ad)(a:Addr):(It):=
 {λi H=>∃xs x,SqL K H a xs/\xs[i]?=some x,λi H v H'=>∃T x,H T=none/\v=.ref T/\H'=upd H T (.tup [.int i,x])/\∀xs,SqL K H a xs->xs[i]?=some x,λi H=>∃xs,SqL K H a xs/\xs.f<=i}
inductive xEnu(K:Ad)(vs:List V)(H1:Hp)(R:It->Hp->Prop):Prop
 |mk (a:_) (_:vs=[.ref a]) (_:∃xs,SqL K H1 a xs) (_:R (Fd K a) H1)
def Cz(K:Ad)(ta:TA):(TI):=λσ H R=>ta σ H λvs H1=>xEnu K vs H1 R
def Zb8{P:Program}{w:World}{K:Ad}{elts:List Expr}{x1:Nat}{pos:Pos}(a e it:Addr)(XJ:e≠it):Turn P w K (.Tuple elts x1 pos) (Fd K a) [e,it] e (λi h=>(∃old,IsEnum h e it i old)/\h.IsListIter it a i) where
 mem:=B
 obj:=λi h st b hb=>by
  let((old,he),o,eo,c,d):=st;rcases Yf.H hb with z|hb
  .subst z;exists _,he,λv z=>by let z':Data.fields _=Data.cell v:=z;cases z'
  .let z:b=it:=by simpa using hb
   subst z;exists o,eo,λv z=>by rw[d]at z;cases z
 keep:=λi h h' st k=>by let((old,he),hit):=st;exists {old,k e B _ he},hit.at λo x=>k it B o x
 item:=by
  intro X hP hw hK hc i pins s σ H E I hf st hg;subst hP hw hK;let(xs,x,hq,hx):=hg;let((old,he),hit):=st;let(XW,rv,p,hz):=I.list hq;let(u,hu,ru):=rv.get hx;let(f0,f1,f2,f3,f4,f5):=hf e B;let(g0,g1,g2,g3,g4,g5):=hf it B;let JO:H (~~~s)=none:=I.hok.fresh (XI _)
  show wpAny_pyNext_enum_item he hit p.isList (x:=u) (by simpa using hu) XJ λh' ho pP hT hsz hk=>?_;let MJ:∀b ob,s.D.G b=some ob->b≠(~~~s):=λb ob z=>YA (Ym z)
  let Ov:∀b ob,H b=some ob->b≠(~~~s):=λb ob z=>YA (I.hok.lt z);let MG:∀b ob,H b=some ob->b≠e/\b≠it:=λb ob z=>{λq=>(by rw[q,f0]at z;cases z),λq=>(by rw[q,g0]at z;cases z)}
  let I1:Inv X pins σ (upd H (~~~s)<|.tup [.int i,x]) {s with heap:=h',toks:=s.toks+1}:=by
   show I.step (g':=s.gens) (d':=s.drawn) (ch:=[e,it]) (λb hb=>?_) (λb o _ _ VY z _=>hk b o (λq=>VY<|by simp[q]) (λq=>VY<|by simp[q]) z) (λb o _ _ VY z _=>{o.slots,hk b o (λq=>VY<|by simp[q]) (λq=>VY<|by simp[q]) z})
    (λb o _ z n=>by rwa[Za (MJ b o z)]) (λb o VY z=>{o,hk b o (λq=>VY<|by simp[q]) (λq=>VY<|by simp[q]) z}) (λb ys z=>by rwa[Za (Ov b _ z)]) (λb o v z=>by rwa[Za (Ov b _ z)])
    (λb ps z=>{#[],by rw[Za (Ov b _ z),z];simp}) (λm hm=>?_) (λb v z=>?_) I.bare
   .rcases Yf.H hb with q|hb
    .rw[q];exists f3,f1,f4,f5
    .let q:b=it:=by simpa using hb
     rw[q];exists g3,g1,g4,g5
   .let⟨o,es,ep,Wh,r⟩:=hm;exists o,es,ep,hk _ o (Xb f1) (Xb g1) Wh,r
   .cases hb:b=(~~~s)
    .subst hb;rw[XS]at z;cases z;exists by change 2<=sizeLine;decide,[.int i s.toks,u],.cons {_,Z}<|.cons ru .nil,{_,hT,Z,_,Z}
    .rw[Za hb]at z;show(I.hok b v z).stay (λc w' Wk q=>?_) (λc q=>by rwa[Za (Ov c _ q)]) λc ys q=>by rwa[Za (Ov c _ q)]
     rcases Wk with rfl|Wk
     .show hk c w' (MG c _ z).1 (MG c _ z).2 q
     .show hk c w' (MG c _ Wk).1 (MG c _ Wk).2 q
  exists _,Z,wpAny_letOwnedTupleGo_enum ho λh2 Ou SJ=>?_;let fT:e≠(~~~s):=MJ e _ he
  let I2:Inv X pins σ (upd H (~~~s)<|.tup [.int i,x]) {s with heap:=h2,toks:=s.toks+1}:=Inv.turned (s:={s with heap:=h',toks:=s.toks+1}) (h':=h2) (t':=s.toks+1) (it:=e) I1 (λb o hb z=>SJ.extBut b o hb z) (by rwa[Za fT]) f1 f3 f4 f5;exists .ref (~~~s),_,I2,Z,{_,x,JO,Z,Z,λys hy=>by rwa[I.list_inj hy hq]},{{u,by simpa using Ou},pP.at λo z=>SJ.extBut it o (Xb XJ) z},λb hb=>?_;rcases Yf.H hb with q|hb
  .rw[q,Za fT];show f0
  .let q:b=it:=by simpa using hb
   let(o,eo,_):=hit;rwa[q,Za (MJ it o eo)]
 done:=by
  intro X hP hw hK hc i pins s σ H E I hf st hg;subst hP hw hK;let(xs,hq,hx):=hg;let((old,he),hit):=st;let(XW,rv,p,hz):=I.list hq;let(g0,g1,g2,g3,g4,g5):=hf it B;let hl:=rv.f
  show wpAny_pyNext_enum_end (I.ok.hd hc) he hit p.isList (by simp;lia) λh' eb=>{Z,I.turned (t':=s.toks) (it:=it) (λb o hb z=>eb b o hb z) g0 g1 g3 g4 g5}
 self:=λ_ _ _ _ _ st h=>by let((_,he),_):=st;show wpAny_pyIter_enum he h
def pO{elts:List Expr}{x1:Nat}{RI:Pos}{a:Expr}{ta:TA}{p pos:Pos}(hg:Gl X "enumerate")(hm:X.mg "enumerate"=none)(ha:PA X [a] ta)(hs:starEach [a] X.L=[(false,eval a X.L)]:=by rfl):
  PI X (.Tuple elts x1 RI) (.Call (.Name "enumerate" p) [a] [] pos) (Cz X.K ta):=by
 intro pins s σ H R I h;show Call_ (Pu I hg hm Boot.«enumerate»<|IP (thn (ha pos pins s σ H _ I h) λus s1 Xw=>?_) hs Z);let(vs,H1,I1,r1,q1):=Xw;let(b,e,(xs,hq),q):=q1;subst e;let(u,rfl,ru):=SK r1;let rfl:u=Value.ref b:=ru;let(XW,rv,pl,hz):=I1.list hq;show call_enumerate_list pl.isList λh' he hit hsz hk=>?_;let I2:Inv X pins σ H1 {s1 with heap:=h'}:=I1.kept (t':=s1.toks) hk
 show wpAny_pyIter_enum he ?_;let nn:∀k,(~~~s1)<=k->H1 k=none:=λk hk=>I1.hok.fresh hk
 exists (~~~s1)+1,[(~~~s1)+1,(~~~s1)],_,_,H1,Z,I2,Zb8 b _ _<|Nat.succ_ne_self _,{{_,he},hit},λc hc=>?_,q;let hle:(~~~s1)<=c:=by
  rcases Yf.H hc with q|hc
  .rw[q];show Ue _
  .let q:c=(~~~s1):=by simpa using hc
   rw[q];show XI _
 show I1.fpOk hle (nn c hle)
def pN{us:Ag}(r:Vals [kV k,y] us):∃u v,us=[u,v]/\RelV (kV k) u/\RelV y v:=cR r
def pM:(V->List V->Hp->VK->Prop):=λx vs H Q=>∃d kvs k y,x=.ref d/\vs=[kV k,y]/\H d=some (.dK kvs)/\kvs.f<sizeLine/\(∀v,Wg kvs k=some v->Q v H)/\(Wg kvs k=none->Q y (upd H d<|.dK<|kvs++[(k,y)]))
def ZT3:LI X "dict.setdefault" pM:=by
 intro pins s σ H x vs v us Q I rx rv h;let(d,kvs,k,y,rfl,rfl,hH,hz,h1,h2):=h;cases rx;let(uk,uy,rfl,rk,ry):=pN rv;let(z,hd,ws,rel,dd):=HI I.hok hH;show call_meetsIn eV dd.typeIs PySem.F.entry_dict_setdefault (PySem.F.args_dict_setdefault_3 _ _ _) (kt_meets_setdefault (QH X.prog X.w) d (qr rk) hd uy)
  {ws,dd,by rw[<-rel.f];show z,λv' wM=>?_,λhn h' cN hs=>?_}
 .cases e:Wg kvs k with
  |none=>
   let q:=rel.val k;rw[e,wM]at q;show False.elim q
  |some w'=>
   let q:=rel.val k;rw[e,wM]at q;exists w',H,I.tok _,q,h1 w' e
 .let e:Wg kvs k=none:=by
   cases e:Wg kvs k with
   |none=>rfl
   |some w'=>
    let q:=rel.val k;rw[e,hn]at q;show False.elim q
  let he:∃q,h'.G d=some q:=by let(q,_,_,hq,_):=cN;exists q,hq
  exists y,_,qo (ob:=.dK<|putK kvs k y) I (by rw[hH];show True.intro) hs he<|qm ?_ hd (rel.put k ry) cN,ry,?_
  .have:=qu kvs k y;lia
  .rw[qt y e];show h2 e
def Qq(p d:Addr):(HO):=.ext λh=>h.IsValuesView p d
def pL:(V->List V->Hp->VK->Prop):=λx vs H Q=>∃d kvs,x=.ref d/\vs=[]/\H d=some (.dK kvs)/\∀p,H p=none->Q ↑p (upd H p<|Qq p d)
def Zs8:LI X "dict.values" pL:=by
 intro pins s σ H x vs v us Q I rx rv h;let(d,kvs,rfl,rfl,hH,q):=h;cases rx;cases rv;let(z,hd,ws,rel,dd):=HI I.hok hH;show call_meetsIn DH dd.typeIs PySem.F.entry_dict_values (PySem.F.args_dict_values_1 _) (meets_dict_values (QH X.prog X.w) d hd) {⟨ws,dd⟩,?_};exists .ref (~~~s),_,I.laid (o:=Qq (~~~s) d) (λb u e=>Xf _ e) (XI _) ?_,Z,q _<|I.hok.fresh<|XI _;let e:=Yp s.D (o:={cls:=.type "dict_values",data:=.fields #[.ref d]}) rfl
 exists {_,e,Z,Z},{_,e},λh1 h2 zz k=>by let(o,ho,r):=zz;exists o,k o ho,r
def pK{h:Heap}(dd:h.DictOf (QH P w) d ws):∃ep,h.DictAt (QH P w) d ws ep:=by let(o,es,ep,r):=dd;exists ep,o,es,r
def pJ{κ:Type}{kvs:List (κ×V)}{ws:List (κ×Value)}(h:KV kvs ws):Vals (kvs.R (·.2)) (ws.R (·.2)):=by
 induction h with
 |nil=>show .nil
 |cons r t ih=>show .cons r.2 ih
def Zy3(hc:X.calm=true):TB X (.type "list") (λxs H Q=>∃p d kvs,xs=[.ref p]/\H p=some (Qq p d)/\H d=some (.dK kvs)/\∀l,H l=none->Q ↑l (upd H l (.lst (kvs.R (·.2))))):=by
 intro pins s σ H xs us Q I r h;let(p,d,kvs,rfl,hp,hd,q):=h;let(u,rfl,ru):=SK r;let rfl:u=Value.ref p:=ru;let(hv,_,_):=(show ObjOk X.prog X.w H s.D p (Qq p d) from I.hok p _ hp);let(z,hds,ws,rel,dd):=HI I.hok hd;let(ep,da):=pK dd;let hl:ws.f=kvs.f:=rel.f.symm
 show PySem.W.kdl_call (PySem.W.kdl_values (knd:=QH X.prog X.w) (kvs:=ws) (ep:=ep) (r:=p) (d:=d)) (I.ok.hd hc) ⟨hv,da⟩ J λh' tk acc c' hk hS ha=>?_;let ea:acc.l=ws.R (·.2):=by
  show MV λi=>?_;cases e:acc.l[i]? with
  |none=>
   have:ws.f<=i:=by
    have:=xT.H e
    rwa[Ys,ha.1]at this
   rw[xT.X (by rwa[Yb])]
  |some v=>
   let(k,ek):=ha.2 i v (by simpa using e);rw[Yw,ek];rfl
 exists .ref (~~~s),_,I.laid (o:=.lst (kvs.R (·.2))) hk (XI _) {by rw[Yb];show z,acc.l,c',?_,by rw[hS]},Z,q _<|I.hok.fresh<|XI _;rw[ea];show pJ rel
end
inductive EqD(K:Ad)(H:Hp):Nat->V->V->Bool->Prop
 |flat {n:Nat} {x y:V} (fx:VP x=true) (fy:VP y=true):EqD K H n x y (SF x y)
 |lsts {n:Nat} {a b:Addr} {xs ys:List V} {e:Nat->Bool} (ha:SqL K H a xs) (hb:SqL K H b ys) (hl:xs.f=ys.f) (h:∀i x y,xs[i]?=some x->ys[i]?=some y->EqD K H n x y (e i)):EqD K H (n+1) ↑a ↑b ((List.range xs.f).all e)
 |lens {n:Nat} {a b:Addr} {xs ys:List V} (ha:SqL K H a xs) (hb:SqL K H b ys) (hl:xs.f≠ys.f):EqD K H (n+1) ↑a ↑b false
 |tups {n:Nat} {a b:Addr} {xs ys:List V} {e:Nat->Bool} (ha:SqT K H a xs) (hb:SqT K H b ys) (h:∀i x y,xs[i]?=some x->ys[i]?=some y->EqD K H n x y (e i)):
   EqD K H (n+1) ↑a ↑b ((List.range<|min xs.f ys.f).all e&&xs.f == ys.f)
def pI(h:VP x=true):SF x x=true:=by cases x<;>first|rfl|(simp[SF];done)|show absurd (show false=true from h) YC
section
variable{X:Cx}{pins:List (Addr×Obj)}{σ:St}{H:Hp}{s:Shared}
def Vals.at{j:Nat}(r:Vals xs us)(h:j<us.f):∃x,xs[j]?=some x/\RelV x us[j]:=by
 let hl:=r.f;let hx:xs[j]?=some (xs[j]'(by lia)):=Xp sr
 let(u,e,ru):=r.get hx;rw[Xp h]at e;cases e;exists _,hx,ru
def EqD.self(q:EqD X.K H n x y b)(I:Inv X pins σ H s):x=y->b=true:=by
 induction q with
 |flat fx fy=>intro e;subst e;show pI fx
 |@lsts n a b xs ys e ha hb hl h ih=>
  intro z;cases z;let e1:xs=ys:=I.list_inj ha hb
  subst e1;rw[OW];intro i hi;let hx:xs[i]?=some (xs[i]'(YV.H hi)):=Xp _
  show ih i _ _ hx hx rfl
 |@lens n a b xs ys ha hb hl=>
  intro z;cases z;show absurd (QP List.f<|I.list_inj ha hb) hl
 |@tups n a b xs ys e ha hb h ih=>
  intro z;cases z;let e1:xs=ys:=I.tuple_inj ha hb
  subst e1;rw[Nat.min_self,Kf,OW];exists λi hi=>?_,B;let hx:xs[i]?=some (xs[i]'(YV.H hi)):=Xp _
  show ih i _ _ hx hx rfl
def EqD.at(q:EqD X.K H n x y b)(I:Inv X pins σ H s):∀{A:Around}{u v:Value},A.units+n<cLine->RelV x u->RelV y v->SeqAt.EqAt A s u v b:=by
 induction q with
 |flat fx fy=>intro A u v _ ru rv;show CQ ru rv fx fy
 |@lsts n a b xs ys e ha hb hl h ih=>
  intro A u v hu ru rv;let rfl:u=Value.ref a:=ru;let rfl:v=Value.ref b:=rv;cases Va:a=b
  .let z:=EqD.self (EqD.lsts ha hb hl h) I (QP V.ref Va);rw[z,Va];show SeqAt.EqAt.Y _
  let(us,rx,px,_):=I.list ha;let(vs,ry,py,_):=I.list hb;let l1:=rx.f
  let l2:=ry.f;let z:=SeqAt.RcAt.lists (A:=A) (s:=s) (e:=e) px.isList py.isList (by rw[Xk,Xk];lia) J λj h1 h2=>by let(x,ex,Ot):=rx.at (j:=j) (by simpa using h1);let(y,ey,Oq):=ry.at (j:=j) (by simpa using h2);show ih j x y ex ey (A:=A.in1) (by change A.units+1+n<cLine;lia) (by simpa using Ot) (by simpa using Oq)
  rw[Xk,<-l1]at z;show tj Va z
 |@lens n a b xs ys ha hb hl=>
  intro A u v hu ru rv;let rfl:u=Value.ref a:=ru;let rfl:v=Value.ref b:=rv;let(us,rx,px,_):=I.list ha;let(vs,ry,py,_):=I.list hb;let l1:=rx.f
  let l2:=ry.f;let Va:a≠b:=λz=>by subst z;show hl (QP List.f<|I.list_inj ha hb)
  show tj Va (SeqAt.RcAt.lists_lengths px.isList py.isList (by rw[Xk,Xk];simp;lia) sr)
 |@tups n a b xs ys e ha hb h ih=>
  intro A u v hu ru rv;let rfl:u=Value.ref a:=ru;let rfl:v=Value.ref b:=rv;cases Va:a=b
  .let z:=EqD.self (EqD.tups ha hb h) I (QP V.ref Va);rw[z,Va];show SeqAt.EqAt.Y _
  let(us,rx,px,_):=I.tuple ha;let(vs,ry,py,_):=I.tuple hb;let l1:=rx.f
  let l2:=ry.f;let z:=SeqAt.RcAt.tuples (A:=A) (s:=s) (e:=e) (show s.D.IsTuple a us.C from px) (show s.D.IsTuple b vs.C from py) sr λj h1 h2=>by let(x,ex,Ot):=rx.at (j:=j) (by simpa using h1);let(y,ey,Oq):=ry.at (j:=j) (by simpa using h2);show ih j x y ex ey (A:=A.in1) (by change A.units+1+n<cLine;omega) (by simpa using Ot) (by simpa using Oq)
  rw[Xk,Xk,<-l1,<-l2]at z;show tj Va z
end
section
variable{X:Cx}
inductive rEqD(K:Ad)(neg:Bool)(x:V)(y:V)(H:Hp)(Q:VK):Prop
 |mk (n b p q:_) (_:x=.ref p) (_:y=.ref q) (_:n<=6) (_:EqD K H n x y b) (_:Q (.bl<|if neg then !b else b) H)
def pH(hu:X.A.units+8<cLine):Wy X (compareOp .Eq) (rEqD X.K false):=by
 intro pins s σ H x y u v Q I ru rv h;let(n,b,p,q,rfl,rfl,hn,d,hq):=h;let rfl:u=Value.ref p:=ru;let rfl:v=Value.ref q:=rv;let fin:EP X pins σ Q (.bool b) s:={.bl b,H,I,Z,hq}
 cases d with
 |flat fx fy=>show absurd (show false=true from fx) YC
 |@lsts n _ _ xs ys e ha hb hl h=>
  let(us,rx,px,_):=I.list ha;let(vs,ry,py,_):=I.list hb;let l1:=rx.f
  let l2:=ry.f;show SeqAt.eq_listAt (e:=e) px.isList py.isList (by rw[Xk,Xk];lia) J (λj h1 h2=>?_) (by rwa[Xk,<-l1]);let(x,ex,Ot):=rx.at (j:=j) (by simpa using h1);let(y,ey,Oq):=ry.at (j:=j) (by simpa using h2);show(h j x y ex ey).at I (A:=X.A.in1) (by change X.A.units+1+n<cLine;lia) (by simpa using Ot) (by simpa using Oq)
 |@lens n _ _ xs ys ha hb hl=>
  let(us,rx,px,_):=I.list ha;let(vs,ry,py,_):=I.list hb;let l1:=rx.f
  let l2:=ry.f;show SeqAt.eq_list_lengthsAt px.isList py.isList (by rw[Xk,Xk];simp;lia) sr fin
 |@tups n _ _ xs ys e ha hb h=>
  let(us,rx,px,_):=I.tuple ha;let(vs,ry,py,_):=I.tuple hb;let l1:=rx.f
  let l2:=ry.f;show SeqAt.eq_tupleAt (e:=e) (show s.D.IsTuple p us.C from px) (show s.D.IsTuple q vs.C from py) sr (λj h1 h2=>?_) (by rwa[Xk,Xk,<-l1,<-l2]);let(x,ex,Ot):=rx.at (j:=j) (by simpa using h1);let(y,ey,Oq):=ry.at (j:=j) (by simpa using h2);show(h j x y ex ey).at I (A:=X.A.in1) (by change X.A.units+1+n<cLine;omega) (by simpa using Ot) (by simpa using Oq)
def pG(hu:X.A.units+8<cLine):Wy X (compareOp .NotEq) (rEqD X.K true):=by
 intro pins s σ H x y u v Q I ru rv h;let(n,b,p,q,rfl,rfl,hn,d,hq):=h;let rfl:u=Value.ref p:=ru;let rfl:v=Value.ref q:=rv;let fin:EP X pins σ Q (.bool<|!b) s:={.bl<|!b,H,I,Z,hq}
 cases d with
 |flat fx fy=>show absurd (show false=true from fx) YC
 |@lsts n _ _ xs ys e ha hb hl h=>
  let(us,rx,px,_):=I.list ha;let(vs,ry,py,_):=I.list hb;let l1:=rx.f
  let l2:=ry.f;show SeqAt.RcNeAt.lists (e:=e) px.isList py.isList (by rw[Xk,Xk];omega) sr (λj h1 h2=>?_) _ _ _ _ (by rwa[Xk,<-l1]);let(x,ex,Ot):=rx.at (j:=j) (by simpa using h1);let(y,ey,Oq):=ry.at (j:=j) (by simpa using h2);show(h j x y ex ey).at I (A:=X.A.in1) (by change X.A.units+1+n<cLine;omega) (by simpa using Ot) (by simpa using Oq)
 |@lens n _ _ xs ys ha hb hl=>
  let(us,rx,px,_):=I.list ha;let(vs,ry,py,_):=I.list hb;let l1:=rx.f
  let l2:=ry.f;show SeqAt.RcNeAt.lists_lengths px.isList py.isList (by rw[Xk,Xk];simp;omega) sr _ _ _ _ fin
 |@tups n _ _ xs ys e ha hb h=>
  let(us,rx,px,_):=I.tuple ha;let(vs,ry,py,_):=I.tuple hb;let l1:=rx.f
  let l2:=ry.f;show SeqAt.RcNeAt.tuples (e:=e) (show s.D.IsTuple p us.C from px) (show s.D.IsTuple q vs.C from py) sr (λj h1 h2=>?_) _ _ _ _ (by rwa[Xk,Xk,<-l1,<-l2]);let(x,ex,Ot):=rx.at (j:=j) (by simpa using h1);let(y,ey,Oq):=ry.at (j:=j) (by simpa using h2);show(h j x y ex ey).at I (A:=X.A.in1) (by change X.A.units+1+n<cLine;omega) (by simpa using Ot) (by simpa using Oq)
end
end L2
namespace My
open PySem L2
abbrev IL(ns:Ac):List V:=ns.R V.int
def Xr(ns:Ac):(IL ns).f=ns.f:=Yb ..
def wC(a b:Ac):IL (a++b)=IL a++IL b:=YQ ..
def VJ(a:Ac)(r:Int):IL (a++[r])=IL a++[.int r]:=YQ ..
def cM(a:Ac)(n:Nat):IL (a.M n)=(IL a).M n:=List.map_take ..
def pF(a:Ac)(n:Nat):IL (a.drop n)=(IL a).drop n:=List.map_drop ..
def Tw{i:Nat}{z:Int}(h:ns[i]?=some z):(IL ns)[i]?=some (.int z):=by rw[Yw,h];rfl
def TY{i:Nat}{x:V}(h:(IL ns)[i]?=some x):∃z,x=.int z/\ns[i]?=some z:=by
 rw[Yw]at h;cases e:ns[i]? with
 |none=>rw[e]at h;cases h
 |some z=>rw[e]at h;exists z,(Yk h).symm,Z
def ZK{a:Addr}(hn:H a=none)(s:Same H H2):Same H (upd H2 a o):=λb u e=>by rw[Za (Wz e hn)];show s b u e
def Zy{p:Addr}(s:Same H H2)(hp:H2 p=none):Same H (upd H2 p o):=ZK (s.free hp) s
def XZ{p:Addr}(hp:H p=none):Same H (upd H p o):=Zy (Same.refl H) hp
def JN(e:Same H H')(h:SqT K H a xs):SqT K H' a xs:=by
 rcases h with (h|⟨o,h⟩)|h
 .show .inl (.inl<|e _ _ h)
 .show .inl (.inr {o,e _ _ h})
 .show .inr h
def MF{n:Nat}(h:n<=1000000):n<=sizeLine:=Yj h su
def Zo{n:Nat}(h:n<=1000000):n<sizeLine:=xM h su
def Fc(hr:Room k A):A.units+8<cLine:=xM (Nat.add_le_add_left (by decide:8<=64) _) hr.units
def ZG{α:Type}{xs:List α}{i:Int}{n:Nat}{x:α}(hi:i=(n:Int))(h:xs[n]?=some x):VQ xs i=some x:=by
 subst hi;let hn:n<xs.f:=(XA.H h).1
 unfold VQ Oz;rw[if_pos (Int.natCast_nonneg n),if_pos sr];simpa using h
def wB{c A sj:Prop}[Decidable c](hc:c)(h:A):if decide c=true then A else sj:=by rwa[if_pos (Yx hc)]
def HE{c A sj:Prop}[Decidable c](hc:¬c)(h:sj):if decide c=true then A else sj:=by rwa[if_neg (by simp[hc])]
def pE{c A sj:Prop}[Decidable c](hc:c)(h:sj):if (!decide c)=true then A else sj:=by rwa[if_neg (by simp[hc])]
def pD{c A sj:Prop}[Decidable c](hc:¬c)(h:A):if (!decide c)=true then A else sj:=by rwa[if_pos (by simp[hc])]
def Xl{c A sj:Prop}[Decidable c](h1:c->A)(h2:¬c->sj):if decide c=true then A else sj:=by
 cases h:c
 .show wB h (h1 h)
 .show HE h (h2 h)
def Wv{c A sj:Prop}[Decidable c](h1:c->sj)(h2:¬c->A):if (!decide c)=true then A else sj:=by
 cases h:c
 .show pE h (h1 h)
 .show pD h (h2 h)
def itb{b:Bool}{A sj:Prop}(h1:b=true->A)(h2:b=false->sj):if b=true then A else sj:=by
 cases b with
 |true=>show iteT (h1 Z)
 |false=>show iteF (h2 Z)
def HD{b:Bool}{A sj:Prop}(h1:b=true->sj)(h2:b=false->A):if (!b)=true then A else sj:=by
 cases b with
 |true=>show iteF (h1 Z)
 |false=>show iteT (h2 Z)
def SqK(k:Bool)(K:Ad)(H:Hp)(a:Addr)(xs:List V):(Prop):=match k with
 |false=>SqL K H a xs
 |true=>SqT K H a xs
def SqK.same(e:Same H H')(h:SqK k K H a xs):SqK k K H' a xs:=by
 cases k with
 |false=>show e.seq h
 |true=>show JN e h
def SqK.or(h:SqK k K H a xs):SqL K H a xs\/SqT K H a xs:=by
 cases k with
 |false=>show .inl h
 |true=>show .inr h
def Cy(K:Ad)(tl:TE):(TI):=λσ H R=>tl σ H λx H1=>∃a,x=.ref a/\(((∃xs,SqL K H1 a xs)/\R (OE K a) H1)\/((∃xs,SqT K H1 a xs)/\R (OD K a) H1))
def HC(hl:PE X l tl):PI X tg l (Cy X.K tl):=by
 intro pins s σ H R I h;show thn (hl pins s σ H _ I h) λv s1 Xw=>?_;let(x,H1,I1,r1,q1):=Xw;let(a,e,q):=q1;subst e;cases r1;rcases q with ⟨⟨xs,hq⟩,q⟩|⟨⟨xs,hq⟩,q⟩
 .let⟨XW,rv,p,hz⟩:=I1.list hq;show sR p.isList ?_;exists (~~~s1),[(~~~s1)],_,_,H1,Z,I1.kept (t':=s1.toks) λb o e=>Xf _ e,dD a _,{_,Yp _ Z,Z,Z},λb hb=>?_,q;let e:b=(~~~s1):=by simpa using hb
  subst e;show I1.fpOk (XI _) (I1.hok.fresh<|XI _)
 .let⟨XW,rv,p,hz⟩:=I1.tuple hq;show wpAny_pyIter_tuple (show s1.D.IsTuple a XW.C from p) ?_;exists (~~~s1),[(~~~s1)],_,_,H1,Z,I1.kept (t':=s1.toks) λb o e=>Xf _ e,dC a _,{_,Yp _ Z,Z,Z},λb hb=>?_,q;let e:b=(~~~s1):=by simpa using hb
  subst e;show I1.fpOk (XI _) (I1.hok.fresh<|XI _)
def wA{g:TG}{tb:TS}{D:Ends}(Pv:Nat->St->Hp->Prop)(h0:Pv 0 σ H)(hl:∀i σ H,i<=xs.f->Pv i σ H->SqK k K H a xs)
  (hs:∀i x σ H,xs[i]?=some x->Pv i σ H->g x σ H λσ2 H2=>tb {D with nx:=Pv<|i+1,ct:=Pv<|i+1,bk:=D.nx} σ2 H2)(hd:∀σ H,Pv xs.f σ H->D.nx σ H):((∃xs,SqL K H a xs)/\∃W:Nat->Nat->St->Hp->Prop,(∃m,W 0 m σ H)/\∀i m σ H,W i m σ H->
   ((OE K a).stop i H/\D.nx σ H)\/((OE K a).go i H/\∃N:St->Hp->Prop,(∀σ' H',N σ' H'->∃m',m'<m/\W (i+1) m' σ' H')/\∀x H',(OE K a).yld i H x H'->g x σ H' λσ2 H2=>tb {D with nx:=N,ct:=N,bk:=D.nx} σ2 H2))\/
  ((∃xs,SqT K H a xs)/\∃W:Nat->Nat->St->Hp->Prop,(∃m,W 0 m σ H)/\∀i m σ H,W i m σ H->
   ((OD K a).stop i H/\D.nx σ H)\/((OD K a).go i H/\∃N:St->Hp->Prop,(∀σ' H',N σ' H'->∃m',m'<m/\W (i+1) m' σ' H')/\∀x H',(OD K a).yld i H x H'->g x σ H' λσ2 H2=>tb {D with nx:=N,ct:=N,bk:=D.nx} σ2 H2)):=by
 cases k with
 |false=>show .inl {{xs,hl 0 σ H (Yi _) h0},wU (K:=K) (a:=a) (xs:=xs) Pv h0 hl hs hd}
 |true=>show .inr {{xs,hl 0 σ H (Yi _) h0},dz (K:=K) (a:=a) (xs:=xs) Pv h0 hl hs hd}
def PairV(H:Hp)(v:V)(p:Int×Int):(Prop):=∃t,v=.ref t/\H t=some (.tup [.int p.1,.int p.2])
def PairsV(H:Hp)(xs:List V)(ps:Aa):(Prop):=xs.f=ps.f/\∀(i:Nat)(p:Int×Int),ps[i]?=some p->∃v,xs[i]?=some v/\PairV H v p
def PairV.same(s:Same H H')(h:PairV H v p):PairV H' v p:=by let(t,e,q):=h;exists t,e,s _ _ q
def PairsV.same(s:Same H H')(h:PairsV H xs ps):PairsV H' xs ps:={h.1,λi p e=>by let(v,e1,q):=h.2 i p e;exists v,e1,q.Y s}
def PairsV.at(h:PairsV H xs ps){i:Nat}{v:V}(e:xs[i]?=some v):∃p,ps[i]?=some p/\PairV H v p:=by
 let hi:i<xs.f:=(XA.H e).1;let hp:i<ps.f:=by rwa[<-h.1]
 let(v',e1,q):=h.2 i ps[i] (Xp hp);rw[e]at e1;cases e1;exists _,Xp hp,q
def PairsV.nil:PairsV H [] []:={Z,λi p e=>by simp at e}
def PairsV.snoc(h:PairsV H xs ps)(q:PairV H v p):PairsV H (xs++[v]) (ps++[p]):=by
 show{by rw[Xy,Xy,h.1];rfl,λi p' e=>?_};cases hi:i<ps.f
 .rw[Yr hi]at e;rw[Yr (by rwa[h.1])];show h.2 i p' e
 .let hl:i=ps.f:=by
   have:=(XA.H e).1
   rw[Xy,Yt]at this;lia
  subst hl;rw[Yo (XI _),MR]at e;rw[Yo (by rw[h.1];show XI _),h.1,MR];let e':p=p':=Yk e
  subst e';exists v,Z,q
def PairsV.app(h:PairsV H xs ps)(h2:PairsV H ys qs):PairsV H (xs++ys) (ps++qs):=by
 show{by rw[Xy,Xy,h.1,h2.1],λi p e=>?_};cases hi:i<ps.f
 .rw[Yr hi]at e;rw[Yr (by rwa[h.1])];show h.2 i p e
 .rw[Yo J]at e;rw[Yo (by rw[h.1];omega),h.1];show h2.2 _ p e
def pC:¬(("places":Str)="ties"):=by decide +kernel
def wf(n:Int)(tl:Addr):(List (Str×V)):=XN "ties" ↑tl (XN "places" (.int n) [])
def HA(n:Int)(tl:Addr):(wf n tl).U ("places":Str)=some (.int n):=by unfold wf;rw[CZ,if_neg pC,CZ,if_pos Z]
def Oo(n:Int)(tl:Addr):(wf n tl).U ("ties":Str)=some ↑tl:=by unfold wf;rw[CZ,if_pos Z]
def WebAt(C:Addr)(H:Hp)(w:Addr)(n:Int)(ps:Aa):(Prop):=∃dx tl xs,H w=some (.ins C dx<|wf n tl)/\H tl=some (.lst xs)/\PairsV H xs ps
def WebAt.same(s:Same H H')(h:WebAt C H w n ps):WebAt C H' w n ps:=by let(dx,tl,xs,a,b,c):=h;exists dx,tl,xs,s _ _ a,s _ _ b,c.Y s
def Zx(n:Int)(ps:Aa):(Prop):=1<=n/\n<=14/\ps.f<=30/\∀p∈ps,0<=p.1/\p.1<n/\0<=p.2/\p.2<n
def cL(K:Ad)(mg:Af)(x qual:Str)(st:Stmt)(fs:List Str):(Prop):=∃C f fd,mg x=some ↑C/\Fun K "__init__" qual st f fd/\Cls K C/\Mk K C f/\∀a∈fs,NoAttr K C a
def Cw{mg:Af}{oc:Value}{od an:Option Addr}{Tx:Array (Option Value)}{kV doc pm XG ct:Value}(X:K.In h)(G:h.Ns mainGlobals mg)
  (aC:PySem.W.nsIn K mainGlobals x=some (some<|.ref C))(a:PySem.W.findIn K ↑C "__init__"=some (some<|.ref f))(i:PySem.W.isFn K ↑f=true)
  (l:K.U f=some {oc,od,.func<|PySem.W.fnOf "__init__" qual (JR st) (ZY st) (Zb st) .none kV doc pm an XG ct,Tx})(c:PySem.W.codeIn K XG qual=true)(k:PySem.W.keepIn K ↑f=true)
  (pg:PySem.W.plainGet K C Str.empty=true)(hd:PySem.W.hasDictIn K C=true)(po:PySem.W.plainOver K C=true)(sa:PySem.W.findIn K ↑C "__setattr__"=some (some<|.builtin "object.__setattr__"))(mk:PySem.W.makesIn K C=true)(kc:PySem.W.keepIn K ↑C=true)
  (na:∀a∈fs,PySem.W.findIn K ↑C a=some none):cL K mg x qual st fs:=
 {C,f,_,MS X G aC,wG l c k,⟨pg,hd,po,sa⟩,⟨mk,a,i,kc⟩,na}
def SD{mg:Af}{z:Int}{v:Value}(X:K.In h)(G:h.Ns mainGlobals mg)(a:PySem.W.nsIn K mainGlobals x=some (some v))(e:∃tk,v=.int z tk):∃tk,mg x=some (.int z tk):=by let(tk,rfl):=e;exists tk,MS X G a
def cK{x:V}{A sj:St->Hp->Prop}(h:A (σ.set i (some x)) H):LQ i x σ H λσ2 H2=>tYes σ2 H2 λb H3=>if b=true then A σ2 H3 else sj σ2 H3:=
 (show if true=true then A (σ.set i<|some x) H else sj (σ.set i<|some x) H from iteT h)
def nm{x:V}{Q:St->Hp->Prop}(h:Q (σ.set i (some x)) H):LQ i x σ H Q:=h
section
variable{K:Ad}{a:Addr}{xs:List V}{g:TG}{tt:TT}{te:TE}{o:Nat}{fr:List Nat}{σ:St}{H:Hp}{Q:VK}
abbrev Fb(Pv:Nat->List V->Hp->Prop)(g:TG)(tt:TT)(te:TE)(o:Nat)(fr:List Nat)(σ:St)(i:Nat)(x:V)(ys:List V)(H:Hp):Prop:=
 ∀S:Nat->List V->Hp->Prop,(∀ys H,Pv (i+1) ys H->S (i+1) ys H)->g x (σC o fr σ) H λσ2 H2=>tt σ2 H2 λb H3=>if b=true then te σ2 H3 λy H4=>S (i+1) (ys++[y]) H4 else S (i+1) ys H3
def ME(Pv:Nat->List V->Hp->Prop)(h0:Pv 0 [] H)(hz:xs.f<sizeLine)(hl:∀i ys H,i<=xs.f->Pv i ys H->SqL K H a xs/\ys.f<=i)
  (hs:∀i x ys H,xs[i]?=some x->Pv i ys H->Fb Pv g tt te o fr σ i x ys H)(hd:∀ys H,Pv xs.f ys H->∀p,H p=none->Q ↑p (upd H p<|.lst ys)):JQ (OE K a) g tt te o fr σ H Q:=by
 exists λi m ys H=>m=xs.f-i/\i<=xs.f/\Pv i ys H,{xs.f,B,Yi _,h0},?_;rintro i m ys H ⟨rfl,hi,p⟩;let(q,hy):=hl i ys H hi p;cases Xm:i<xs.f
 .show .inr {{xs,xs[i],q,by simp[Xm]},J,λx H' zz=>?_};let(e,y):=zz;subst e;let hx:=y xs q
  show hs i x ys _ hx p (λj ys H=>∃m',m'<xs.f-i/\m'=xs.f-j/\j<=xs.f/\Pv j ys H) λys H p'=>{xs.f-(i+1),sD,Z,Xm,p'}
 .let e:i=xs.f:=J;subst e;show .inl {{xs,q,XI _},J,hd ys H p}
def wz(Pv:Nat->List V->Hp->Prop)(h0:Pv 0 [] H)(hz:xs.f<sizeLine)(hl:∀i ys H,i<=xs.f->Pv i ys H->SqT K H a xs/\ys.f<=i)
  (hs:∀i x ys H,xs[i]?=some x->Pv i ys H->Fb Pv g tt te o fr σ i x ys H)(hd:∀ys H,Pv xs.f ys H->∀p,H p=none->Q ↑p (upd H p<|.lst ys)):JQ (OD K a) g tt te o fr σ H Q:=by
 exists λi m ys H=>m=xs.f-i/\i<=xs.f/\Pv i ys H,{xs.f,B,Yi _,h0},?_;rintro i m ys H ⟨rfl,hi,p⟩;let(q,hy):=hl i ys H hi p;cases Xm:i<xs.f
 .show .inr {{xs,xs[i],q,by simp[Xm]},sr,λx H' zz=>?_};let(e,y):=zz;subst e;let hx:=y xs q
  show hs i x ys _ hx p (λj ys H=>∃m',m'<xs.f-i/\m'=xs.f-j/\j<=xs.f/\Pv j ys H) λys H p'=>{xs.f-(i+1),sr,Z,Xm,p'}
 .let e:i=xs.f:=sr;subst e;show .inl {{xs,q,XI _},sr,hd ys H p}
def wx(Pv:Nat->List V->Hp->Prop)(h0:Pv 0 [] H)(hz:xs.f<sizeLine)(hl:∀i ys H,i<=xs.f->Pv i ys H->SqK k K H a xs/\ys.f<=i)
  (hs:∀i x ys H,xs[i]?=some x->Pv i ys H->Fb Pv g tt te o fr σ i x ys H)(hd:∀ys H,Pv xs.f ys H->∀p,H p=none->Q ↑p (upd H p<|.lst ys)):
  ((∃xs,SqL K H a xs)/\JQ (OE K a) g tt te o fr σ H Q)\/((∃xs,SqT K H a xs)/\JQ (OD K a) g tt te o fr σ H Q):=by
 cases k with
 |false=>show .inl {{xs,(hl 0 [] H (Yi _) h0).1},ME Pv h0 hz hl hs hd}
 |true=>show .inr {{xs,(hl 0 [] H (Yi _) h0).1},wz Pv h0 hz hl hs hd}
def cJ(Pv:Nat->List V->Hp->Prop)(h0:Pv 0 [] H)(hz:n<sizeLine)(hl:∀i ys H,i<=n->Pv i ys H->ys.f<=i)
  (hs:∀i ys H,i<n->Pv i ys H->Fb Pv g tt te o fr σ i (.int<|lo+i) ys H)(hd:∀ys H,Pv n ys H->∀p,H p=none->Q ↑p (upd H p<|.lst ys)):JQ (HX lo n) g tt te o fr σ H Q:=by
 exists λi m ys H=>m=n-i/\i<=n/\Pv i ys H,{n,B,Yi _,h0},?_;rintro i m ys H ⟨rfl,hi,p⟩;let hy:=hl i ys H hi p
 cases Xm:i<n
 .show .inr {Xm,J,λx H' zz=>?_};let(e,y):=zz;subst e;subst y;show hs i ys _ Xm p (λj ys H=>∃m',m'<n-i/\m'=n-j/\j<=n/\Pv j ys H) λys H p'=>{n-(i+1),sD,Z,Xm,p'}
 .let e:i=n:=J;subst e;show .inl {XI _,J,hd ys H p}
end
def EZ{α:Type}{l:List α}(h:l.Nodup){i j:Nat}{x:α}(a:l[i]?=some x)(b:l[j]?=some x):i=j:=by let(h1,e1):=XA.H a;let(h2,e2):=XA.H b;show(List.getElem_inj h).H (e1.m e2.symm)
def ZS{α:Type}{l:List α}{x d:α}(h:l[i]?=some x):l.S i d=x:=by rw[Ya,h];rfl
def cI{α:Type}{l:List α}{x:α}(h:l.Nodup)(hx:x∉l):(l++[x]).Nodup:=by rw[VS];exists h,B,λa ha b hb=>?_;rw[XD]at hb;subst hb;rintro rfl;show hx ha
def Cv{g:TG}{tb:TS}{D:Ends}(Pv:Nat->St->Hp->Prop)(h0:Pv 0 σ H)(hl:∀i σ H,i<=xs.f->Pv i σ H->SqL K H a xs)
  (hs:∀(i:Nat) x σ H (p:Addr),H p=none->xs[i]?=some x->Pv i σ H->g ↑p σ (upd H p<|.tup [.int i,x]) λσ2 H2=>tb {D with nx:=Pv<|i+1,ct:=Pv<|i+1,bk:=D.nx} σ2 H2)(hd:∀σ H,Pv xs.f σ H->D.nx σ H):
  ∃W:Nat->Nat->St->Hp->Prop,(∃m,W 0 m σ H)/\∀i m σ H,W i m σ H->
   ((Fd K a).stop i H/\D.nx σ H)\/((Fd K a).go i H/\∃N:St->Hp->Prop,(∀σ' H',N σ' H'->∃m',m'<m/\W (i+1) m' σ' H')/\∀x H',(Fd K a).yld i H x H'->g x σ H' λσ2 H2=>tb {D with nx:=N,ct:=N,bk:=D.nx} σ2 H2):=by
 exists λi m σ H=>m=xs.f-i/\i<=xs.f/\Pv i σ H,{xs.f,B,Yi _,h0},?_;rintro i m σ H ⟨rfl,hi,p⟩;let q:=hl i σ H hi p
 cases Xm:i<xs.f
 .show .inr {{xs,xs[i],q,by simp[Xm]},Pv<|i+1,λσ' H' p'=>{xs.f-(i+1),sr,Z,Xm,p'},λx H' zz=>?_};let(T,y,hT,ex,eH,hy):=zz;subst ex eH;show hs i y σ H T hT (hy xs q) p
 .let e:i=xs.f:=J;subst e;show .inl {{xs,q,XI _},hd σ H p}
end My
namespace L2
open PySem PySem.Spec PyProof.Rows
section
variable{X:Cx}{a o e:Expr}{es:List Expr}{ta to:TE}{t:TA}{pos:Pos}
def Zh(K:Ad)(h:X.K=K:=by rfl):CS X (rIxL K):=h▸qH
def ZH(K:Ad)(h:X.K=K:=by rfl):CS X (rIxT K):=h▸qG
def Hz(K:Ad)(h:X.K=K:=by rfl):qK X (rSlL K):=h▸qE
def Hy(K:Ad)(h:X.K=K:=by rfl):Wy X (compareOp .In) (λx y H Q=>∃p xs,y=.ref p/\(SqL K H p xs\/SqT K H p xs)/\VP x=true/\xs.all VP=true/\Q (.bl<|Fe x xs) H):=h▸Zp8
def Hx(K:Ad)(h:X.K=K:=by rfl):Wy X (compareOp .NotIn) (λx y H Q=>∃p xs,y=.ref p/\(SqL K H p xs\/SqT K H p xs)/\VP x=true/\xs.all VP=true/\Q (.bl<|!Fe x xs) H):=h▸Zk4
def pB(K:Ad)(hu:X.A.units+8<cLine)(h:X.K=K:=by rfl):Wy X (compareOp .Eq) (rEqD K false):=h▸pH hu
def pq(K:Ad)(hu:X.A.units+8<cLine)(h:X.K=K:=by rfl):Wy X (compareOp .NotEq) (rEqD K true):=h▸pG hu
def pj(K:Ad)(h:X.K=K:=by rfl):Wy X (binaryOp .Add) (JW K):=h▸qJ
def Zm(K:Ad)(he:PE X e ta)(hb:attributeBase e f X.L (eval e X.L)=eval e X.L)(h:X.K=K:=by rfl):PE X (.Attribute e f pos) (CW K ta f):=h▸qU he hb
def Zi(K:Ad)(h:X.K=K:=by rfl):TB X (.builtin "len") (yR0 K):=h▸ZD4
def RG(K:Ad)(h:X.K=K:=by rfl):TB X (.type "list") (λxs H Q=>∃p ys,xs=[.ref p]/\(SqL K H p ys\/SqT K H p ys)/\∀l,H l=none->Q ↑l (upd H l<|.lst ys)):=h▸ZC4
def ZC(K:Ad)(h:X.K=K:=by rfl):TB X (.type "tuple") (λxs H Q=>∃p ys,xs=[.ref p]/\((SqL K H p ys/\∀l,H l=none->Q ↑l (upd H l<|.tup ys))\/(SqT K H p ys/\Q ↑p H))):=h▸qD
def ZV(K:Ad)(hl:PE X l tl)(h:X.K=K:=by rfl):PI X tg l (Dl K tl):=h▸rF hl
def LD(K:Ad)(hl:PE X l tl)(h:X.K=K:=by rfl):PI X tg l (Dk K tl):=h▸rE hl
def SA(K:Ad)(hl:PE X l tl)(h:X.K=K:=by rfl):PI X tg l (My.Cy K tl):=h▸My.HC hl
def LC(K:Ad){elts:List Expr}{x1:Nat}{RI:Pos}{a:Expr}{ta:TA}{p pos:Pos}(hg:Gl X "enumerate")(hm:X.mg "enumerate"=none)(ha:PA X [a] ta)(hs:starEach [a] X.L=[(false,eval a X.L)]:=by rfl)(h:X.K=K:=by rfl):
  PI X (.Tuple elts x1 RI) (.Call (.Name "enumerate" p) [a] [] pos) (Cz K ta):=h▸pO hg hm ha hs
def Qp(K:Ad){es:List Expr}{k:Nat}{t:Ia}{n:Nat}(hc:X.calm=true)(ht:Ds X es t)
  (hn:(assignEach es X.L).f=n:=by rfl)(WV:(assignEach es X.L).findIdx? (·.1)=none:=by rfl)(h:X.K=K:=by rfl):PG X (.Tuple es k pos) (gTup K n t):=h▸rM hc ht hn WV
def Vm(K:Ad){name:Str}{apos Xj:Pos}{T id:String}{r:V->List V->Hp->VK->Prop}(pa:PlainAttrs T)(slot:Slot T name id)(HM:typeOf (.builtin id)=pure (.type "method_descriptor"))(hm:wJ X id r)(ho:PE X o to)(ha:PA X (e::es) t)
  (UM:attributeBase o name X.L (eval o X.L)=eval o X.L:=by rfl)
  (HL:((backTo Xj<|starEach (e::es) X.L).all (λx=>!x.1)&&(backToKw Xj<|keywordEach [] X.L).all (λx=>x.1.isSome)
   && decide ((e::es).f+([]:List Keyword).f+(if ([]:List Keyword).isEmpty then 0 else 1)<30))=true:=by rfl)
  (UL:(apos.endLine == Xj.line)=true:=by rfl)(hs:starEach (e::es) X.L=(false,eval e X.L)::starEach es X.L:=by rfl)(UK:(backTo Xj<|starEach es X.L).any (·.1)=false:=by rfl)(h:X.K=K:=by rfl):
  PE X (.Call (.Attribute o name apos) (e::es) [] Xj) (c9 K T r to t):=h▸qB pa slot HM hm ho ha UM HL UL hs UK
def cH(K:Ad){name:Str}{apos Xj:Pos}{T id:String}{r:V->List V->Hp->VK->Prop}(pa:PlainAttrs T)(slot:Slot T name id)(HM:typeOf (.builtin id)=pure (.type "method_descriptor"))(hm:wJ X id r)(ho:PE X o to)
  (UM:attributeBase o name X.L (eval o X.L)=eval o X.L:=by rfl)(UL:(apos.endLine == Xj.line)=true:=by rfl)(h:X.K=K:=by rfl):PE X (.Call (.Attribute o name apos) [] [] Xj) (CM K T r to):=h▸qC pa slot HM hm ho UM UL
end
end L2
namespace My
abbrev mk(m:Ac)(i:Nat):Int:=m.S i 0
def pm(m:Ac)(a b:Nat):(Ac):=
 if min (mk m a) (mk m b)<max (mk m a) (mk m b) then m.R (λk=>if k=max (mk m a) (mk m b) then min (mk m a) (mk m b) else k) else m
def lm(m:Ac)(a b:Nat):(Ac):=
 if mk m a≠mk m b then m.R (λk=>if k=mk m b then mk m a else k) else m
def SameP(m l:Ac):(Prop):=m.f=l.f/\∀i j,i<m.f->j<m.f->(mk m i=mk m j↔mk l i=mk l j)
def wu(m:Ac)(f:Int->Int)(h:i<m.f):mk (m.R f) i=f (mk m i):=by simp[mk,Ya,Yw,Xp h]
def Cu(m:Ac)(a b:Nat):(pm m a b).f=m.f:=by unfold pm;split<;>simp
def wq(m:Ac)(a b:Nat):(lm m a b).f=m.f:=by unfold lm;split<;>simp
def EY(m:Ac)(a b i j:Nat):(Prop):=mk m i=mk m j\/((mk m i=mk m a\/mk m i=mk m b)/\(mk m j=mk m a\/mk m j=mk m b))
def Hw{x y p q:Int}:((if x=q then p else x)=(if y=q then p else y))↔(x=y\/((x=p\/x=q)/\(y=p\/y=q))):=by grind
def cG{x y p:Int}:x=y↔(x=y\/((x=p\/x=p)/\(y=p\/y=p))):={.inl,λh=>h.elim id λh=>(h.1.elim id id).m (h.2.elim id id).symm}
def ph(hi:i<m.f)(hj:j<m.f):mk (pm m a b) i=mk (pm m a b) j↔EY m a b i j:=by
 unfold pm EY;split
 .rename_i h;rw[wu _ _ hi,wu _ _ hj];cases wm:mk m a<mk m b
  .rw[sV (Iz wm),tq (Iz wm)];show Hw
  .rw[tu (DJ.H wm),sU<|DJ.H wm,Or.comm (a:=mk m i=mk m a),Or.comm (a:=mk m j=mk m a)];show Hw
 .rename_i h;let hh:=DJ.H h
  rw[show mk m a=mk m b from Int.le_antisymm (Fn (Int.le_max_left _ _)<|Fn hh<|Int.min_le_right _ _) (Fn (Int.le_max_right _ _)<|Fn hh<|Int.min_le_left _ _)];show cG
def Ct(hi:i<m.f)(hj:j<m.f):mk (lm m a b) i=mk (lm m a b) j↔EY m a b i j:=by
 unfold lm EY;split
 .rename_i h;rw[wu _ _ hi,wu _ _ hj];show Hw
 .rename_i h;rw[show mk m a=mk m b from Classical.not_not.H h];show cG
def SameP.step{m l:Ac}(s:SameP m l){a b:Nat}(ha:a<m.f)(hb:b<m.f):SameP (pm m a b) (lm l a b):=by let(hl,h):=s;show{by rw[Cu,wq,hl],λi j hi hj=>?_};rw[Cu]at hi hj;rw[ph hi hj,Ct sr sr];unfold EY;rw[h i j hi hj,h i a hi ha,h i b hi hb,h j a hj ha,h j b hj hb]
def Xv(n:Nat)(es:List (Nat×Nat)):(Ac):=es.foldl (λm e=>pm m e.1 e.2) ((List.range n).R λ(i:Nat)=>(i:Int))
def WQ(n:Nat)(es:List (Nat×Nat)):(Ac):=es.foldl (λm e=>lm m e.1 e.2) ((List.range n).R λ(i:Nat)=>(i:Int))
def ZB(n:Nat)(es:List (Nat×Nat)):(Xv n es).f=n:=by
 have:∀(es:List (Nat×Nat))(m:Ac),(es.foldl (λm e=>pm m e.1 e.2) m).f=m.f:=by
  intro es
  induction es with
  |nil=>intro m;rfl
  |cons e es ih=>intro m;rw[DR,ih,Cu]
 unfold Xv;rw[this];simp
def ZI(n:Nat)(es:List (Nat×Nat)):(WQ n es).f=n:=by
 have:∀(es:List (Nat×Nat))(m:Ac),(es.foldl (λm e=>lm m e.1 e.2) m).f=m.f:=by
  intro es
  induction es with
  |nil=>intro m;rfl
  |cons e es ih=>intro m;rw[DR,ih,wq]
 unfold WQ;rw[this];simp
def pf(n:Nat)(es:List (Nat×Nat))(e:Nat×Nat):Xv n (es++[e])=pm (Xv n es) e.1 e.2:=by unfold Xv;rw[xJ];rfl
def LB(n:Nat)(es:List (Nat×Nat))(e:Nat×Nat):WQ n (es++[e])=lm (WQ n es) e.1 e.2:=by unfold WQ;rw[xJ];rfl
def wk:∀{es:List (Nat×Nat)},(∀e∈es,e.1<n/\e.2<n)->SameP (Xv n es) (WQ n es):=by
 intro es;let key:∀(es:List (Nat×Nat))(m l:Ac),SameP m l->m.f=n->(∀e∈es,e.1<n/\e.2<n)->SameP (es.foldl (λm e=>pm m e.1 e.2) m) (es.foldl (λm e=>lm m e.1 e.2) l):=by
  intro es
  induction es with
  |nil=>intro m l s _ _;show s
  |cons e es ih=>
   intro m l s hm he;let h1:=he e Ye
   show ih _ _ (s.step sr sr) (by rwa[Cu]) λx hx=>he x (Yg _ hx)
 show key es _ _ {Z,λi j _ _=>Iff.rfl} B
def RF(g:List (Int×Ac))(place k:Int):(List (Int×Ac)):=
 if k∈g.R (·.1) then g.R (λkv=>if kv.1=k then (kv.1,kv.2++[place]) else kv) else g++[(k,[place])]
def Xs(M:Ac):(Nat->List (Int×Ac))
 |0=>[]
 |i+1=>RF (Xs M i) (i:Int) (mk M i)
def Hv(M:Ac):(List (Int×Ac)):=Xs M M.f
def wj(g:List (Int×Ac))(p k:Int):(RF g p k).R (·.1)=if k∈g.R (·.1) then g.R (·.1) else g.R (·.1)++[k]:=by
 unfold RF;split
 .rw[Mc];show VC λkv _=>?_;change(if kv.1=k then (kv.1,kv.2++[p]) else kv).1=kv.1
  split<;>rfl
 .simp
def pd(h:(g.R (·.1)).Nodup):((RF g p k).R (·.1)).Nodup:=by
 rw[wj];split
 .show h
 .rename_i hk;rw[VS];exists h,B,λa ha b hb=>?_;rw[XD]at hb;subst hb;rintro rfl;show hk ha
def o9(M:Ac):∀i,((Xs M i).R (·.1)).Nodup
 |0=>by simp[Xs]
 |i+1=>pd (o9 M i)
def UI(M:Ac):∀i kv,kv∈Xs M i->∀z:Int,z∈kv.2↔(0<=z/\z<(i:Int)/\mk M z.j=kv.1)
 |0,kv,h,z=>by simp[Xs]at h
 |i+1,kv,h,z=>by
  unfold Xs RF at h;split at h
  .rename_i hk;let(wg,h0,e):=YN.H h;let ih:=UI M i wg h0 z
   cases hc:wg.1=mk M i
   .rw[if_pos hc]at e;subst e;rw[XB,ih,XD];constructor
    .rintro(⟨a,b,c⟩|rfl)
     .exists a,J,c
     .exists J,J,by simpa using hc.symm
    .rintro⟨a,b,c⟩;cases hz:z<(i:Int)
     .show .inl ⟨a,hz,c⟩
     .show .inr J
   .rw[if_neg hc]at e;subst e;rw[ih];constructor
    .rintro⟨a,b,c⟩;exists a,sr,c
    .rintro⟨a,b,c⟩;exists a,?_,c;cases hz:z<(i:Int)
     .show hz
     .let e:z.j=i:=sD;rw[e]at c;show absurd c.symm hc
  .rename_i hk;rcases XB.H h with h0|h0
   .let ih:=UI M i kv h0 z;rw[ih];constructor
    .rintro⟨a,b,c⟩;exists a,J,c
    .rintro⟨a,b,c⟩;exists a,?_,c;cases hz:z<(i:Int)
     .show hz
     .let e:z.j=i:=sD;rw[e]at c;show absurd (YN.X ⟨kv,h0,c.symm⟩) hk
   .rw[XD]at h0;subst h0;simp only[XD];constructor
    .rintro rfl;exists J,J,B
    .rintro⟨a,b,c⟩;cases hz:z<(i:Int)
     .exfalso;let key:=grpA_key M i z.j J
      rw[c]at key;show hk key
     .lia
where
 grpA_key (M:Ac):∀i j,j<i->mk M j∈(Xs M i).R (·.1)
  |0,j,h=>absurd h (SW j)
  |i+1,j,h=>by
   change mk M j∈(RF (Xs M i) (i:Int)<|mk M i).R (·.1);rw[wj];cases hj:j<i
   .have:=grpA_key M i j hj
    split
    .show this
    .show Yc _ this
   .let e:j=i:=J;subst e;split
    .assumption
    .simp
def grpA_key(h:j<i):mk M j∈(Xs M i).R (·.1):=UI.grpA_key M i j h
def we(M:Ac):∀i k,k∈(Xs M i).R (·.1)->∃j,j<i/\mk M j=k
 |0,k,h=>by simp[Xs]at h
 |i+1,k,h=>by
  let h:k∈(RF (Xs M i) (i:Int)<|mk M i).R (·.1):=h;rw[wj]at h;let old:k∈(Xs M i).R (·.1)->∃j,j<i+1/\mk M j=k:=λq=>by let(j,hj,e):=we M i k q;exists j,J,e
  split at h
  .show old h
  .rcases XB.H h with q|q
   .show old q
   .rw[XD]at q;exists i,J,q.symm
def cF(hM:1<=M.f):(Hv M).f=1↔∀i j,i<M.f->j<M.f->mk M i=mk M j:=by
 unfold Hv;constructor
 .intro h i j hi hj;let(kv,e):=List.length_eq_one_iff.H h;let h1:=grpA_key (M:=M) hi
  let h2:=grpA_key (M:=M) hj;rw[e]at h1 h2;rw[List.map_singleton,XD]at h1 h2;rw[h1,h2]
 .intro h;let nd:=o9 M M.f
  let h0:=grpA_key (M:=M) (i:=M.f) (j:=0) J;generalize hg:(Xs M M.f)=g at *
  match g,hg with
  |[],_=>simp at h0
  |[kv],_=>rfl
  |a::b::r,hg=>
   exfalso;let(i,hi,e1):=we M M.f a.1 (by rw[hg];simp)
   let(j,hj,e2):=we M M.f b.1 (by rw[hg];simp);let e3:=h i j hi hj
   have:a.1=b.1:=by rw[<-e1,<-e2,e3]
   simp[this]at nd
def SameP.one(s:SameP m l):(∀i j,i<m.f->j<m.f->mk m i=mk m j)↔(∀i j,i<l.f->j<l.f->mk l i=mk l j):=by
 let(hl,h):=s;rw[<-hl];constructor
 .intro q i j hi hj;show(h i j hi hj).H (q i j hi hj)
 .intro q i j hi hj;show(h i j hi hj).X (q i j hi hj)
def o8:∀{i:Nat}{kv:Int×Ac},kv∈Xs M i->kv.2.f<=i
 |0,kv,h=>by simp[Xs]at h
 |i+1,kv,h=>by
  unfold Xs RF at h;split at h
  .let⟨wg,h0,e⟩:=YN.H h;let ih:=o8 h0
   cases hc:wg.1=mk M i
   .rw[if_pos hc]at e;subst e;rw[Xy,Yt];lia
   .rw[if_neg hc]at e;subst e;lia
  .rcases XB.H h with h0|h0
   .let ih:=o8 h0;omega
   .rw[XD]at h0;subst h0;simp
end My
namespace My
open PySem L2 PyProof.Rows
def Ur(z:Int)(l:Ac):Fe (.int z) (IL l)=decide (z∈l):=by
 unfold Fe;rw[List.any_map];rw[OS,xB,YX];constructor
 .rintro⟨y,hy,e⟩;let e':y=z:=by simpa[SF] using e
  rwa[<-e']
 .intro h;exists z,h,by simp[SF]
def ZT(l:Ac):(IL l).all VP=true:=by rw[List.all_map,OW];intro x _;rfl
def o7{K:Ad}{t:Value}:PySem.W.kitOne K t t=some true:=by unfold PySem.W.kitOne;rw[if_pos (xF t)]
def Zs:decide (V.int a=V.int b)=decide (a=b):=by
 cases h:a=b
 .subst h;simp
 .let h':¬V.int a=V.int b:=λz=>h (V.int.inj z);rw[Se h,Se h']
end My
namespace My
open PySem L2
def IsSet(m:Nat)(ns:Ac):(Prop):=∀i z,ns[i]?=some z->0<=z/\z<(m:Int)/\∀y,i≠0->ns[i-1]?=some y->y<z
def XT(ps:Aa)(ns:Ac):(List (Nat×Nat)):=ns.R λz=>((ps.S z.j (0,0)).1.j,(ps.S z.j (0,0)).2.j)
def o6{ns:Ac}{z:Int}(h:ns[i]?=some z):XT ps (ns.M (i+1))=XT ps (ns.M i)++[((ps.S z.j (0,0)).1.j,(ps.S z.j (0,0)).2.j)]:=by unfold XT;rw[WD,h];simp
def Po(h:i<m.f):m[i]?=some (mk m i):=by rw[Xp h];simp[mk,Ya,Xp h]
def cE(n:Int):Wr 0 n=(List.range n.j).R λ(i:Nat)=>(i:Int):=by unfold Wr;rw[xk];show VC λi _=>?_;lia
def Uq(g:List (Int×Ac))(as:List Addr):(List (Key×V)):=List.zipWith (λkv a=>((Sum.inl kv.1:Key),V.ref a)) g as
def Zp7(h:as.f=g.f):(Uq g as).f=g.f:=by unfold Uq;rw[Ea];grind
def cD:∀{g:List (Int×Ac)}{as:List Addr},as.f=g.f->(Uq g as).R (·.2)=as.R V.ref
 |[],[],_=>rfl
 |[],_::_,h=>by simp at h
 |_::_,[],h=>by simp at h
 |kv::g,a::as,h=>by change V.ref a::(Uq g as).R (·.2)=V.ref a::as.R V.ref;rw[cD (Md h)]
def cC:∀{g g':List (Int×Ac)}{as:List Addr},g.R (·.1)=g'.R (·.1)->Uq g as=Uq g' as
 |[],[],_,_=>rfl
 |[],_::_,_,h=>by simp at h
 |_::_,[],_,h=>by simp at h
 |kv::g,wc::g',[],_=>rfl
 |kv::g,wc::g',a::as,h=>by
  rw[TM,TM,List.cons.injEq]at h;change((Sum.inl kv.1:Key),V.ref a)::Uq g as=((Sum.inl wc.1:Key),V.ref a)::Uq g' as
  rw[h.1,cC h.2]
def cB:∀{g:List (Int×Ac)}{as:List Addr}{kv:Int×Ac}{a:Addr},as.f=g.f->Uq (g++[kv]) (as++[a])=Uq g as++[((Sum.inl kv.1:Key),V.ref a)]
 |[],[],_,_,_=>rfl
 |[],_::_,_,_,h=>by simp at h
 |_::_,[],_,_,h=>by simp at h
 |x::g,y::as,kv,a,h=>by change _::Uq (g++[kv]) (as++[a])=_::(Uq g as++_);rw[cB (Md h)]
def o5:∀{g:List (Int×Ac)}{as:List Addr}{k:Int},as.f=g.f->
  (Wg (Uq g as) (Sum.inl k:Key)=none/\k∉g.R (·.1))\/∃(j:Nat)(kv:Int×Ac)(a:Addr),g[j]?=some kv/\as[j]?=some a/\kv.1=k/\Wg (Uq g as) (Sum.inl k:Key)=some ↑a
 |[],[],k,_=>.inl ⟨Z,B⟩
 |[],_::_,_,h=>by simp at h
 |_::_,[],_,h=>by simp at h
 |kv::g,a::as,k,h=>by
  cases e:kv.1=k
  .show .inr {0,kv,a,Z,Z,e,?_};change Wg (((Sum.inl kv.1:Key),V.ref a)::Uq g as) _=_
   rw[HJ (by rw[e])]
  .let e':¬((Sum.inl kv.1:Key)=Sum.inl k):=λz=>e (Sum.inl.inj z);let ev:Wg (Uq (kv::g)<|a::as) (Sum.inl k:Key)=Wg (Uq g as) (Sum.inl k:Key):=qv (p:=((Sum.inl kv.1:Key),V.ref a)) e'
   rcases o5 (g:=g) (as:=as) (k:=k) (Md h) with ⟨h1,h2⟩|⟨j,wc,a',h1,h2,h3,h4⟩
   .show .inl {by rw[ev];show h1,?_};rw[TM,Yf];rintro(z|z)
    .show e z.symm
    .show h2 z
   .show .inr {j+1,wc,a',by simpa using h1,by simpa using h2,h3,by rwa[ev]}
structure GrpAt(H0 H:Hp)(g:List (Int×Ac))(as:List Addr):Prop where
 len:as.f=g.f
 nd:as.Nodup
 at_:∀(i:Nat)(kv:Int×Ac)(a:Addr),g[i]?=some kv->as[i]?=some a->H a=some (.lst<|IL kv.2)
 new:∀a∈as,H0 a=none
def GrpAt.same(s:Same H H')(h:GrpAt H0 H g as):GrpAt H0 H' g as:={h.len,h.nd,λi kv a e1 e2=>s _ _<|h.at_ i kv a e1 e2,h.new}
def GrpAt.mem(h:GrpAt H0 H g as){a:Addr}(ha:a∈as):∃l,H a=some (.lst l):=by
 let(i,hi,e):=List.getElem_of_mem ha;let hg:i<g.f:=by rwa[<-h.len]
 exists _,h.at_ i g[i] a (Xp hg)<|by rw[Xp hi,e]
def IsSet.all(h:IsSet m ns):∀z∈ns,0<=z/\z<(m:Int):=λz hz=>by let(i,hi,e):=List.getElem_of_mem hz;let(a,b,_):=h i z (by rw[Xp hi,e]);exists a,b
def IsSet.nil(m:Nat):IsSet m []:=λi z e=>by simp at e
def IsSet.up(h:IsSet m ns):IsSet (m+1) ns:=λi z e=>by let(a,b,c):=h i z e;exists a,sr,c
def IsSet.snoc(h:IsSet m ns):IsSet (m+1) (ns++[(m:Int)]):=λi z e=>by
 cases hi:i<ns.f
 .rw[Yr hi]at e;let(a,b,c):=h i z e;exists a,J,λy h0 ey=>?_;rw[Yr sr]at ey;show c y h0 ey
 .let hl:i=ns.f:=by
   have:=(XA.H e).1
   rw[Xy,Yt]at this;lia
  subst hl;rw[Yo (XI _),MR]at e;let e:(m:Int)=z:=Yk e
  subst e;exists J,J,λy h0 ey=>?_;rw[Yr sr]at ey;show(h _ y ey).2.1
def IsSet.len:∀{ns:Ac},IsSet m ns->ns.f<=m:=λ{ns} h=>by
 let key:∀(i:Nat)(z:Int),ns[i]?=some z->(i:Int)<=z:=by
  intro i
  induction i with
  |zero=>intro z e;show(h 0 z e).1
  |succ i ih=>
   intro z e;let hi:i<ns.f:=by have:=(XA.H e).1;lia
   let e2:ns[i]?=some ns[i]:=Xp hi
   have:=ih _ e2
   have:=(h (i+1) z e).2.2 ns[i] J (by rwa[tJ])
   lia
 cases h0:ns.f=0
 .lia
 .let e:ns[ns.f-1]?=some (ns[ns.f-1]'(by lia)):=Xp _;let a:=key _ _ e
  let b:=(h _ _ e).2.1;lia
end My
namespace L2
open PySem PySem.Spec PyProof.Rows
section
variable{X:Cx}
def o4(K:Ad):(V->List V->Hp->VK->Prop):=λx vs H Q=>∃(p:Addr)(ns:Ac)(z:Int)(j:Nat),x=.ref p/\vs=[.int z]/\SqL K H p (ns.R V.int)/\ns[j]?=some z/\(∀i,i<j->ns[i]?≠some z)/\Q (.int j) H
def Zv8(K:Ad)(h:X.K=K:=by rfl):LI X "list.index" (o4 K):=by
 subst h;intro pins s σ H x vs v us Q I rx rv h;let(p,ns,z,j,rfl,rfl,hq,hj,Up,q):=h;cases rx;let(u,rfl,t,rfl):=rv.one;let(XW,r,(o,n,e,hc,hd,Hu),hz):=I.list hq;let hl:XW.f=ns.f:=by rw[<-r.f,Yb]
 let UH:j<ns.f:=(XA.H hj).1;let hsz:sizeLine=16777216:=Uu
 rw[Yb]at hz;let(oc,od,o3,Tx):=o;let hc:oc=.type "list":=hc
 let Hu:o3=.seq XW.C n:=Hu;subst hc Hu;let at_:∀(i:Nat)(hi:i<XW.f),∃tk,XW[i]=.int (ns[i]'(by lia)) tk:=λi hi=>by
  let(x,ex,rx):=r.at hi;rw[Yw,Xp sr]at ex;let ex:V.int (ns[i]'(by omega))=x:=Yk ex
  subst ex;show rx
 show LV F.slot_list_index {_,e,Z} F.entry_list_index (F.args_list_index_2 _ _) (SeqAt.list_indexAt p XW.C n od Tx (.int z t) (λy=>Tg (.int z) y) j (by rw[Xk];lia) J ?_ ?_) {e,λy hy=>?_,?_}
 .let⟨tk,e1⟩:=at_ j sr;let e2:ns[j]'(by lia)=z:=by rw[Xp UH]at hj;show Yk hj
  let e3:XW.C[j]'(by rw[Xk];lia)=.int z tk:=by rw[<-e2];simpa using e1
  rw[e3];simp[Tg,SF]
 .intro m hm hmj;let JM:m<XW.f:=by rwa[Xk]at hm
  let(tk,e1):=at_ m JM;let e3:XW.C[m]'hm=.int (ns[m]'(by omega)) tk:=by simpa using e1
  rw[e3];let XJ:=Up m hmj
  rw[Xp sr]at XJ;let Om:ns[m]'(by omega)≠z:=λw=>XJ (QP some w)
  simp[Tg,SF,Om]
 .show CN (x:=.int z) ⟨t,Z⟩ Z r ?_ y (by simpa using hy);rw[List.all_map,OW];intro _ _;rfl
 .exists .int j,H,I.tok _,{_,Z},q
end
end L2
namespace My
open PySem L2
section
variable{K:Ad}{H:Hp}{α:Type}[DecidableEq α]
def Bears(R:V->α->Prop)(xs:List V)(l:List α):(Prop):=xs.f=l.f/\∀(i:Nat)(a:α),l[i]?=some a->∃x,xs[i]?=some x/\R x a
def Bears.at{R:V->α->Prop}(h:Bears R xs l){i:Nat}{x:V}(e:xs[i]?=some x):∃a,l[i]?=some a/\R x a:=by
 let hi:i<xs.f:=(XA.H e).1;let hl:i<l.f:=by rwa[<-h.1]
 let(x',e1,q):=h.2 i l[i] (Xp hl);rw[e]at e1;cases e1;exists _,Xp hl,q
def JL{l m:List α}(h:l.f=m.f):(List.range l.f).all (λi=>decide (l[i]?=m[i]?))=decide (l=m):=by
 rw[OS,OW,YX];constructor
 .intro q;show MV λi=>?_;cases hi:i<l.f
  .show YG (q i<|YV.X hi)
  .rw[VD J,VD J]
 .rintro rfl i _;simp
def cz{R:V->α->Prop}(hp:SqL K H p xs)(hq:SqL K H q ys)(h1:Bears R xs l)(h2:Bears R ys m)(hR:∀x y a b,R x a->R y b->EqD K H n x y (decide (a=b))):EqD K H (n+1) ↑p ↑q (decide (l=m)):=by
 cases hl:xs.f=ys.f
 .let e:=JL (l:=l) (m:=m) (by rw[<-h1.1,<-h2.1,hl]);rw[<-e,<-h1.1];show EqD.lsts hp hq hl λi x y ex ey=>?_;let(a,ea,ra):=h1.at ex;let(b,eb,rb):=h2.at ey;rw[ea,eb,show decide (some a=some b)=decide (a=b) by simp];show hR x y a b ra rb
 .let e:decide (l=m)=false:=Se λz=>hl (by rw[h1.1,h2.1,z]);rw[e];show EqD.lens hp hq hl
def oZ{R:V->α->Prop}(hp:SqT K H p xs)(hq:SqT K H q ys)(h1:Bears R xs l)(h2:Bears R ys m)(hR:∀x y a b,R x a->R y b->EqD K H n x y (decide (a=b))):EqD K H (n+1) ↑p ↑q (decide (l=m)):=by
 let key:=EqD.tups (e:=λi=>decide<|l[i]?=m[i]?) hp hq λi x y ex ey=>by let(a,ea,ra):=h1.at ex;let(b,eb,rb):=h2.at ey;rw[ea,eb,show decide (some a=some b)=decide (a=b) by simp];show hR x y a b ra rb
 cases hl:xs.f=ys.f
 .let e:=JL (l:=l) (m:=m) (by rw[<-h1.1,<-h2.1,hl]);rwa[<-hl,Nat.min_self,h1.1,e,show(l.f == l.f)=true by simp,Bool.and_true]at key
 .let e:decide (l=m)=false:=Se λz=>hl (by rw[h1.1,h2.1,z]);rw[show(xs.f == ys.f)=false by simpa using hl,Bool.and_false]at key;rwa[e]
def wb(ns:Ac):Bears (λx (z:Int)=>x=.int z) (IL ns) ns:={Xr ns,λi z e=>{_,Tw e,Z}}
def cy{a b:Int}(hx:x=.int a)(hy:y=.int b):EqD K H n x y (decide (a=b)):=by
 subst hx hy;let e:decide (a=b)=SF (.int a) (.int b):=by change decide (a=b)=(a == b);rw[dP]
 rw[e];show EqD.flat Z rfl
def oY(hp:SqL K H p (IL ns))(hq:SqL K H q (IL ms)):EqD K H 1 ↑p ↑q (decide (ns=ms)):=
 cz hp hq (wb ns) (wb ms) λ_ _ _ _=>cy
def cx(hp:SqT K H p (IL ns))(hq:SqT K H q (IL ms)):EqD K H 1 ↑p ↑q (decide (ns=ms)):=
 oZ hp hq (wb ns) (wb ms) λ_ _ _ _=>cy
def oX{bs cs:List Bool}(hp:SqL K H p (bs.R V.bl))(hq:SqL K H q (cs.R V.bl)):EqD K H 1 ↑p ↑q (decide (bs=cs)):=by
 let be:∀bs:List Bool,Bears (λx (b:Bool)=>x=.bl b) (bs.R V.bl) bs:=λbs=>{Yb ..,λi b e=>{_,by rw[Yw,e];rfl,Z}};show cz hp hq (be bs) (be cs) λx y a b hx hy=>?_;subst hx hy;let e:decide (a=b)=SF (.bl a) (.bl b):=by change decide (a=b)=(a == b);rw[dP]
 rw[e];show EqD.flat Z rfl
def Uo(H:Hp)(v:V)(l:Ac):(Prop):=∃a,v=.ref a/\H a=some (.lst<|IL l)
end
end My
namespace My
def VX(M:Ac)(p:Nat):(Bool):=(List.range p).all λi=>decide (mk M i≠mk M p)
def Um(M:Ac)(k:Int)(i:Nat):(Ac):=((List.range i).filter λj=>decide<|mk M j=k).R λ(j:Nat)=>(j:Int)
def UW(M:Ac)(i:Nat):(List Nat):=(List.range i).filter (VX M)
def XC:VX M p=true↔∀i,i<p->mk M i≠mk M p:=by
 unfold VX;rw[OW];constructor
 .intro h i hi;show YG (h i<|YV.X hi)
 .intro h i hi;show Yx (h i<|YV.H hi)
def oW(M:Ac)(k:Int)(i:Nat):Um M k (i+1)=Um M k i++(if mk M i=k then [(i:Int)] else []):=by
 unfold Um;rw[DS,QM,YQ];congr 1;cases h:mk M i=k
 .rw[if_pos h,YZ,if_pos (by simpa using h)];rfl
 .rw[if_neg h,YZ,if_neg (by simpa using h)];rfl
def cu(M:Ac)(i:Nat):UW M (i+1)=UW M i++(if VX M i=true then [i] else []):=by
 unfold UW;rw[DS,QM];congr 1;cases h:VX M i=true
 .rw[if_pos h,YZ,if_pos h];rfl
 .rw[if_neg h,YZ,if_neg h];rfl
def cq(M:Ac):∀i,Xs M i=(UW M i).R λp=>(mk M p,Um M (mk M p) i)
 |0=>rfl
 |i+1=>by
  let ih:=cq M i;change RF (Xs M i) (i:Int) (mk M i)=_
  let hk:(mk M i∈(Xs M i).R (·.1))↔VX M i≠true:=by
   constructor
   .intro h q;let(j,hj,e):=we M i _ h;show XC.H q j hj e
   .intro h;cases q:∃j,j<i/\mk M j=mk M i
    .let⟨j,hj,e⟩:=q;rw[<-e];show grpA_key hj
    .show absurd (XC.X λj hj e=>q ⟨j,hj,e⟩) h
  unfold RF;cases h:mk M i∈(Xs M i).R (·.1)
  .let hf:=hk.H h;rw[if_pos h,cu,if_neg hf,YB,ih,Mc];show VC λp _=>?_;change(if mk M p=mk M i then (mk M p,Um M (mk M p) i++[(i:Int)]) else (mk M p,Um M (mk M p) i))=(mk M p,Um M (mk M p)<|i+1)
   rw[oW];cases e:mk M p=mk M i
   .rw[if_pos e,if_pos e.symm]
   .rw[if_neg e,if_neg λz=>e z.symm,YB]
  .let hf:VX M i=true:=by
    cases q:VX M i with
    |true=>rfl
    |false=>show absurd (hk.X<|by rw[q];show YC) h
   rw[if_neg h,cu,if_pos hf,YQ,ih];congr 1
   .show VC λp hp=>?_;let Ol:p<i:=YV.H (Yn.H hp).1
    rw[oW,if_neg λz=>XC.H hf p Ol z.symm,YB]
   .change [(mk M i,[(i:Int)])]=[(mk M i,Um M (mk M i)<|i+1)];rw[oW,if_pos Z];let e0:Um M (mk M i) i=[]:=by unfold Um;rw[List.filter_eq_nil_iff.X λj hj=>by simpa using XC.mp hf j (YV.mp hj)];rfl
    rw[e0];rfl
end My
namespace My
open PySem L2
def Bears.snoc{α:Type}[DecidableEq α]{R:V->α->Prop}{xs:List V}{l:List α}{x:V}{a:α}(h:Bears R xs l)(hx:R x a):Bears R (xs++[x]) (l++[a]):=by
 show{by rw[Xy,Xy,h.1];rfl,λi b e=>?_};cases hi:i<l.f
 .rw[Yr hi]at e;rw[Yr (by rwa[h.1])];show h.2 i b e
 .let hl:i=l.f:=by
   have:=(XA.H e).1
   rw[Xy,Yt]at this;lia
  subst hl;rw[Yo (XI _),MR]at e;rw[Yo (by rw[h.1];show XI _),h.1,MR];let e':a=b:=Yk e
  subst e';exists x,Z,hx
def Bears.imp{α:Type}[DecidableEq α]{R R':V->α->Prop}{xs:List V}{l:List α}(h:Bears R xs l)(f:∀x a,R x a->R' x a):Bears R' xs l:={h.1,λi a e=>by let(x,e1,r):=h.2 i a e;exists x,e1,f x a r}
end My
namespace L2
open PySem PySem.Spec PyProof.Rows
def ObjOk.there(x:ObjOk P w H h a o):∃u,h.G a=some u:=by
 cases o with
 |lst xs=>let(_,_,_,_,e):=x;exists _,e
 |tup xs=>let(_,_,_,o,e,_):=x;exists _,e
 |dK kvs=>let(_,_,_,_,o,_,_,e,_):=x;exists _,e
 |dT kvs=>let(_,_,_,_,o,_,_,e,_):=x;exists _,e
 |set S n=>let(o,_,_,_,e,_):=x;exists _,e
 |ins C dx fs=>let(_,_,_,e,_):=x;exists _,e
 |own y=>show x
 |xd fs=>let(_,(_,_,_,e,_),_):=x;exists _,e
 |rng lo hi=>let(_,_,_,e):=x;exists _,e
 |frz ob u=>let(e,_):=x;exists _,e
 |tbl ps=>exists _,x
 |met f y=>exists _,x
 |ext φ=>let(_,e,_):=x;show e
structure Fly(h0:Heap)(H:Hp)(e C:Addr)(h:Heap):Prop where
 ex:∃oe vs T oT ts a0,h.G e=some oe/\oe.cls=.ref C/\oe.data=.fields vs/\vs[0]?=some a0/\vs[1]?=some ↑T/\T≠e/\h.G T=some oT/\oT.data=.fields ts/\ts[3]?=some .none/\h0.G T=none/\H T=none
 new:h0.G e=none
 free:H e=none
def VO(P:Program)(w:World):(RH):=λouter H s E ev s'=>∃e C H',ev=Value.ref e/\s'.os=s.os/\AllBare s'.gens/\Un (VR outer) [] H H' s.D s'.D/\HOk P w H' s'.D/\Fly s.D H' e C s'.D/\E ↑C none H'
section
variable{X:Cx}{pins:List (Addr×Obj)}{σ:St}{H:Hp}{s:Shared}{e C:Addr}
abbrev Qo(X:Cx)(h:Heap)(ns:List Addr):Heap:=PySem.W.hideAll h (VR X.stack++ns)
def Ht{b:Addr}{o:Obj}(q:h.G b=some o)(h1:b∉VR X.stack)(h2:b∉ns):(Qo X h ns).G b=some o:=
 PySem.W.hideAll_get _ q λz=>(XB.H z).elim h1 h2
def Cs:(Qo X h ns).StaysIn h:=λ_ _ q=>PySem.W.of_hideAll _ q
def Inv.was(I:Inv X pins σ H s)(hex:X.ex=[]){b:Addr}(h:s.D.G b=none):X.s₀.D.G b=none:=by
 cases q:X.s₀.D.G b with
 |none=>rfl
 |some o=>
  let(o',e):=I.base.there b o q (by rw[hex];simp);rw[h]at e;cases e
def cn(ok:HOk P w H h)(hf:∀b∈VR X.stack,H b=none)(Vl:∀b∈ns,H b=none)(k:(Qo X h ns).StaysIn h'):HOk P w H h':=λa o q=>
 (ok a o q).stay (λb u hb g=>k b u (Ht g (λz=>by
  have:=hf b z
  rcases hb with rfl|hb
  .rw[q]at this;cases this
  .rw[hb]at this;cases this) λz=>by
  have:=Vl b z
  rcases hb with rfl|hb
  .rw[q]at this;cases this
  .rw[hb]at this;cases this)) (λ_ z=>z) λ_ _ z=>z
def ZX8(WV:X.stack=X.L::X.outer)(Qn:X.L.frame=some X.L.locals):VR X.stack=X.L.locals::VR X.outer:=by rw[WV];unfold VR;rw[DZ,Qn]
def JK(WV:X.stack=X.L::X.outer)(Qn:X.L.frame=some X.L.locals)(hex:X.ex=[])(I:Inv X pins σ H s)(Vl:∀b∈ns,X.s₀.D.G b=none/\H b=none) 
  (Qs:Heap.FlyingW (Qo X s.D ns) X.outer e ↑C a0 h')(up:s.D.UpToSlots h')(ne:X.s₀.D.G e=none)(fe:H e=none)(hE:E ↑C none H)(hs:s'.D=h')(ho:s'.os=s.os)(hg:s'.gens=s.gens):
  VO X.prog X.w X.outer X.H₀ X.s₀ E ↑e s':=by
 subst hs;let fst:=ZX8 (X:=X) WV Qn
 let wa:∀b o,X.s₀.D.G b=some o->b≠X.L.locals:=λb o q=>YA (Yq (Ym q) I.ok.above);let Cr:∀b o,X.s₀.D.G b=some o->b∉ns:=λb o q z=>by rw[(Vl b z).1]at q;cases q
 let JJ:∀b o,X.s₀.D.G b=some o->b∉VR X.outer->b∉VR X.stack:=λb o q n z=>by
  rw[fst]at z;rcases Yf.H z with z|z
  .show wa b o q z
  .show n z
 let RE:∀b,b∉X.ex:=λb z=>by rw[hex]at z;cases z
 let keep:∀b o u,X.s₀.D.G b=some o->b∉VR X.outer->s.D.G b=some u->s'.D.G b=some u:=λb o u q n g=>Qs.1 b u (Ht g (JJ b o q n)<|Cr b o q);let slot:∀b u,b∈VR X.outer->s.D.G b=some u->∃sl,s'.D.G b=some {u with slots:=sl}:=λb u hb g=>by let(_,o',Wh,hd):=I.funs.mem hb;rw[g]at Wh;cases Wh;show up b u g hd
 exists e,C,H,Z,ho.m I.os,hg▸I.bare,{λb o q n hb _=>?_,λb o q n hb _=>?_,λb o q n _=>I.base.free b o q n<|RE b,λb o q _=>?_,I.base.tups,I.base.frzs,I.base.tbls},cn I.hok I.stkFree (λb hb=>(Vl b hb).2) Qs.1,{?_,ne,fe},hE
 .show keep b o o q hb (I.base.keep b o q n hb<|RE b)
 .let⟨sl,g⟩:=I.base.slot b o q n hb (RE b);let(Ig,g'):=slot b _ hb g;exists Ig,g'
 .let⟨u,g⟩:=I.base.there b o q (RE b);cases hb:b∈VR X.outer
  .let⟨sl,g'⟩:=slot b u hb g;exists _,g'
  .exists u,keep b o u q hb g
 .let⟨f1,f2,f3,oe,vs,T,oT,ts,he,⟨hc,h0⟩,hd,h1,vZ,Cq,hT,EX,h3⟩:=Qs;exists oe,vs,T,oT,ts,a0,he,hc,hd,h0,h1,Cq,hT,EX,h3,?_,?_
  .cases q:X.s₀.D.G T with
   |none=>rfl
   |some o=>
    let(u,g):=I.base.there T o q (RE T);cases hb:T∈VR X.outer
    .let⟨_,o',Wh,SN⟩:=f3.mem hb;rw[hT]at Wh;cases Wh;show absurd EX (SN ts)
    .rw[Ht g (JJ T o q hb) (Cr T o q)]at vZ;cases vZ
  .cases q:H T with
   |none=>rfl
   |some ho=>
    let(u,g):=(I.hok T ho q).there;rw[Ht g (λz=>by rw[I.stkFree T z]at q;cases q) (λz=>by rw[(Vl T z).2]at q;cases q)]at vZ;cases vZ
def cm(WV:X.stack=X.L::X.outer)(I:Inv X pins σ H s)(F:Fly h0 H e C s.D):∃T a0,Heap.FlyingW (Qo X s.D [e,T]) X.stack e ↑C a0 s.D/\h0.G T=none/\H T=none:=by let(oe,vs,T,oT,ts,a0,he,hc,hd,oV,h1,Cq,hT,EX,h3,nT,fT):=F.ex;exists T,a0,{Cs,tP _ B,?_,oe,vs,T,oT,ts,he,⟨hc,oV⟩,hd,h1,tP _ B,Cq,hT,EX,h3},nT,fT;show dZ I.stack λenv Hs a hf=>Yc _ (xK.X ⟨env,Hs,hf⟩)
def ZD8(WV:X.stack=X.L::X.outer)(Qn:X.L.frame=some X.L.locals)(hex:X.ex=[])(I:Inv X pins σ H s)(F:Fly X.s₀.D H e C s.D)(hE:E ↑C none H){E':Ae}:
  wpAny (model X.prog X.w) X.A (leaving X.L<|.ref e) (λ_ Ub=>VO X.prog X.w X.outer X.H₀ X.s₀ E ↑e Ub) E' s:=by
 let(T,a0,fl,nT,fT):=cm WV I F;rw[WV]at fl;show wpAny_leaves_onW (by rw[I.ok.frames,WV]) Qn fl λh' fl' up=>?_;show JK WV Qn hex I (λb hb=>?_) fl' up F.new F.free hE Z Z rfl;rcases Yf.H hb with rfl|hb
 .exists F.new,F.free
 .rw[XD.H hb];exists nT,fT
def Zc7(WV:X.stack=X.L::X.outer)(Qn:X.L.frame=some X.L.locals)(hex:X.ex=[])(I:Inv X pins σ H s)(hm:Heap.MadeExcOf s.D h' e ↑C vs)(hE:E ↑C none H){E':Ae}:
  wpAny (model X.prog X.w) X.A (leaving X.L<|.ref e) (λ_ Ub=>VO X.prog X.w X.outer X.H₀ X.s₀ E ↑e Ub) E' {s with heap:=h'}:=by
 let ff:s.D.FunFrames (Qo X s.D []) X.stack:=dZ I.stack λenv Hs a hf=>Yc _ (xK.X ⟨env,Hs,hf⟩);rw[WV]at ff;show wpAny_leaves_madeW (base:=Qo X s.D []) (h:=s.D) (by rw[I.ok.frames,WV]) Qn Cs ff hm λHr t fl _ _ up=>?_;let fe:H e=none:=by
  cases q:H e with
  |none=>rfl
  |some ho=>
   let(u,g):=(I.hok e ho q).there;rw[hm.new]at g;cases g
 show JK (s':={s with heap:=Hr}) WV Qn hex I (λb hb=>by cases hb) fl ((Heap.UpToSlots.of_keeps hm.keeps).m up) (I.was hex hm.new) fe hE Z Z rfl
def Inv.flown(I:Inv X pins σ H s)(h:VO X.prog X.w X.stack H s E ev s'):∃e C H',ev=Value.ref e/\Inv X pins σ H' s'/\Fly s.D H' e C s'.D/\E ↑C none H':=by let(e,C,H',rfl,ho,hg,u,ok,F,hE):=h;exists e,C,H',Z,I.call' (ch:=[]) ho u ok hg (λ_ z=>nomatch z),F,hE
def Fly.older(F:Fly h0 H e C h)(k:∀b,h0.G b=none->h1.G b=none):Fly h1 H e C h:=by let(oe,vs,T,oT,ts,a0,he,hc,hd,oV,JI,Cq,hT,EX,h3,nT,fT):=F.ex;exists {oe,vs,T,oT,ts,a0,he,hc,hd,oV,JI,Cq,hT,EX,h3,k _ nT,fT},k _ F.new,F.free
end
section
variable{P:Program}{w:World}{K:Ad}{mg:Af}{base:Heap}
def RY:SI (VO P w) (Wx (VO P w) P w K mg base N qual scope f cd A outer s H E) E:=by intro pins σ H1 s1 ev s' I h;let(e,C,H',rfl,AP,F,hE):=I.flown h;show ZD8 Z Z Z AP (F.older λb hb=>I.was Z hb) hE
def Fun.okX{x qual:Str}{st:Stmt}{f:Addr}{fd:FuncData}{N ps:List Str}{k:Nat}{sp:Sp}(F:Fun K x qual st f fd)(S:FnScope N ps (Zb st))(len:∀vs H Q E,sp vs H Q E->vs.f=ps.f)
  (hbody:∀XG A outer s H vs Q E,Room k (A.deeper<|envOfC qual (Zb st) (~~~s) f XG)->sp vs H Q E->
   ∃t,PSs (Wx (VO P w) P w K mg base N qual (Zb st) f XG A outer s H E) (ZY st) t/\t {nx:=λ_ H'=>Q .non H',rt:=Q} (start N vs) H):FnOk P w K mg base (VO P w) (k+1) f fd ps sp:=by let(oc,od,kV,doc,pm,an,XG,ct,Tx,rfl,lk,Tj):=F.ex;show HP lk Tj S len λA outer s H vs Q E hr Sa=>hbody XG A outer s H vs Q E hr Sa
end
structure XCls(K:Ad)(C:Addr):Prop where
 ex:PySem.W.excIn K C [.type "ValueError",.type "Exception",.type "BaseException",.type "object"] "ValueError.__new__"=true
 ga:PySem.W.findIn K ↑C "__getattribute__"=some (some<|.builtin "BaseException.__getattribute__")
 gh:PySem.W.findIn K ↑C "__getattr__"=some none
 cl:PySem.W.findIn K ↑C "__class__"=some (some<|.builtin "object.__class__")
 ob:PySem.W.mroIn K C (.type "object")=some true
 bx:PySem.W.mroIn K C (.type "BaseException")=some true
def XCls.obj{K:Ad}{C:Addr}{h:Heap}(c:XCls K C)(X:K.In h):∃bm N nm q bs hdct sn sub ab col dd k0 k1 k2 k3 k5 mN,h.G C=some (excClassObj nm q C N bs bm hdct sn sub ab col dd k0 k1 k2 k3 k5 "ValueError.__new__")/\h.Ns N mN/\mN "__init__"=none/\OwnTail h [.type "ValueError",.type "Exception",.type "BaseException",.type "object"] bm:=by
 let q:=c.ex;unfold PySem.W.excIn at q;split at q
 .rename_i dd cd sl ho;split at q
  .rename_i C' bm k0 k1 k2 k3 n k5 hm hs;simp only[Kf,RL,OQ]at q;let(((((rfl,rfl),Cp),ht),hok),vY):=q;let(nm,bs,mro,ns,qn,hd,sn,sub,ab,col,del):=cd;dsimp only at hm Cp hok vY;subst hm Cp;let LA:sl=#[k0,k1,k2,k3,some<|.builtin "ValueError.__new__",k5]:=by let⟨l⟩:=sl;simp only at hs;rw[hs]
   subst LA;exists bm,ns,nm,qn,bs,hd,sn,sub,ab,col,dd,k0,k1,k2,k3,k5,_,X _ _ ho,.of_isNs<|PySem.W.isNs_of_in X hok,PySem.W.nsMap_none_of_in X hok vY,PySem.W.tail_of_in X ht
  .cases q
 .cases q
def oU(C:Addr)(E:XK)(t:TA):(TS):=λ_ σ H=>t σ H λvs H1=>vs.f<=sizeLine/\E ↑C none H1
def vX{P:Program}{w:World}{K:Ad}{mg:Af}{base:Heap}{N:List Str}{qual:Str}{scope:Scope}{f:Addr}{cd:Value}{A:Around}{outer:List Env}{s0:Shared}{H0:Hp}{E:XK}{C:Addr}{x:Str}{np Xj pos:Pos}{e₀:Expr}{rest:List Expr}{t:TA}
  (c:XCls K C)(hm:mg x=some ↑C)(ha:PA (Wx (VO P w) P w K mg base N qual scope f cd A outer s0 H0 E) (e₀::rest) t)
  (hg:Gl (Wx (VO P w) P w K mg base N qual scope f cd A outer s0 H0 E) x:=by rfl)(hd:(x == ("__debug__":Str))=false:=by decide)
  (he:starEach (e₀::rest) (Wx (VO P w) P w K mg base N qual scope f cd A outer s0 H0 E).L=(false,eval e₀ (Wx (VO P w) P w K mg base N qual scope f cd A outer s0 H0 E).L)::starEach rest (Wx (VO P w) P w K mg base N qual scope f cd A outer s0 H0 E).L:=by rfl)
  (UK:(backTo Xj<|starEach rest (Wx (VO P w) P w K mg base N qual scope f cd A outer s0 H0 E).L).any (·.1)=false:=by rfl):
  PS (Wx (VO P w) P w K mg base N qual scope f cd A outer s0 H0 E) (.Raise (some<|.Call (.Name x np) (e₀::rest) [] Xj) none pos) (oU C E t):=by
 intro pins s σ H D I h;let(tl,NN,nm,q,bs,hdct,sn,sub,ab,col,dd,k0,k1,k2,k3,k5,mN,hC,hN,vY,T):=c.obj I.ok.mod.kin;show wpAny_Raise_call_subT (C:=C) (nm:=nm) (q:=q) (N:=NN) (bs:=bs) (bm:=tl) (hdct:=hdct) (sn:=sn) (sub:=sub) (ab:=ab) (col:=col) (dd:=dd) (k0:=k0) (k1:=k1) (k2:=k2) (k3:=k3) (k5:=k5)
  eS (mN:=mN) (T.hasType eS.hasBase) (I.ok.hd Z) (by rw[he];change(false||(backTo Xj<|starEach rest _).any (·.1))=false;rw[UK];rfl) vY (Dy I hg hm {Z,?_} hd)
 let h:=ha Xj pins s σ H _ I h;rw[he]at h ⊢;show Calls.evalArgs_plain (Ud h (λvs s₂ h₂=>?_) λ_ _ y=>y);let(zs,H2,I2,rz,hz,hE):=h₂;show{Z,by rw[<-rz.f];show hz,I2.bk _ _ hC,hN.keeps I2.bk,T.keeps I2.bk,λh' e hme=>?_};show Zc7 Z Z Z I2 hme hE
section
variable{X:Cx}{pins:List (Addr×Obj)}{σ:St}{H:Hp}{s:Shared}{e:Addr}
def Inv.held(I:Inv X pins σ H s){tk:Nat}(Vl:∀b∈ns,X.s₀.D.G b=none/\H b=none/\(∀p∈X.pn++pins,p.1≠b))(k:(Qo X s.D ns).StaysIn h')(up:s.D.UpToSlots h'):Inv X pins σ H {s with heap:=h',toks:=tk}:=by
 let Cr:∀b o,X.s₀.D.G b=some o->b∉ns:=λb o q z=>by rw[(Vl b z).1]at q;cases q
 let wa:∀b o,X.s₀.D.G b=some o->b≠X.L.locals:=λb o q=>YA (Yq (Ym q) I.ok.above);let JJ:∀b,b≠X.L.locals->b∉X.fs->b∉VR X.stack:=λb h1 h2 z=>(Yf.H<|I.stkSub b z).elim h1 h2
 let slot:∀b u,b∈X.fs->s.D.G b=some u->∃sl,h'.G b=some {u with slots:=sl}:=λb u hb g=>by let(_,o',Wh,hd):=I.funs.mem hb;rw[g]at Wh;cases Wh;show up b u g hd
 let cellK:∀c v,s.D.IsCell c v->h'.IsCell c v:=λc v ⟨o,ho,hd⟩=>by
  let(sl,g):=up c o ho λvs q=>by rw[hd]at q;cases q
  exists _,g,hd
 exists I.ok,I.os,I.bare,{λb o q n hb hx=>?_,λb o q n hb hx=>?_,I.base.free,λb o q hx=>?_,I.base.tups,I.base.frzs,I.base.tbls},?_,λx c q=>?_,I.free,I.freeC,λp hp=>?_,cn I.hok I.stkFree (λb hb=>(Vl b hb).2.1) k,I.len
 .show k b o (Ht (I.base.keep b o q n hb hx) (JJ b (wa b o q) hb)<|Cr b o q)
 .let⟨sl,g⟩:=I.base.slot b o q n hb hx;let(Ig,g'):=slot b _ hb g;exists Ig,g'
 .let⟨u,g⟩:=I.base.there b o q hx;cases hb:b∈X.fs
  .let⟨sl,g'⟩:=slot b u hb g;exists _,g'
  .exists u,k b u<|Ht g (JJ b (wa b o q) hb)<|Cr b o q
 .let⟨m,hn,hl⟩:=I.loc;exists m,up.ns hn,λi x v e1 e2 e3=>?_;let(u,r,l):=hl i x v e1 e2 e3;exists u,r,?_;rcases l with l|⟨kk,c,q,z⟩
  .show .inl l
  .show .inr {kk,c,q,cellK c _ z}
 .let⟨v,z⟩:=I.cell x c q;exists v,cellK c v z
 .let⟨q,n,ne,nf,d⟩:=I.pin p hp;exists k p.1 p.2<|Ht q (JJ p.1 ne nf) λz=>(Vl p.1 z).2.2 p hp Z,n,ne,nf,d
def Inv.gone(I:Inv X pins σ H s)(hN:X.N.Nodup){i:Nat}{n:Str}{tk:Nat}{m:Af}{v:Option Value}(hi:X.N[i]?=some n)(hn:s.D.Ns X.L.locals m)
  (SM:h'.Ns X.L.locals λx=>if x=n then v else m x)(hs:Heap.SameBut X.L.locals s.D h'):Inv X pins (σ.set i none) H {s with heap:=h',toks:=tk}:=by
 let(m0,hn0,hl):=id I.loc;let em:m0=m:=by
  funext x
  let(o,es,ep,ho,hd,_,hf):=hn0;let(o',xa,w9,Wh,SN,_,hf'):=hn;rw[ho]at Wh;cases Wh;rw[hd]at SN;cases SN;rw[<-hf,<-hf']
 subst em;let cne:=I.cne
 let LR:i<σ.f:=by rw[I.len];show(XA.H hi).1
 let(oL,_,_,OI,_):=id hn;exists I.ok,I.os,I.bare,{λb o q n hb hx=>?_,λb o q n hb hx=>?_,I.base.free,λb o q hx=>?_,I.base.tups,I.base.frzs,I.base.tbls},{_,SM,λj y v' e1 e2 e3=>?_},λy c q=>?_,I.free,I.freeC,λp hp=>?_,λb ob q=>?_,by simpa using I.len
 .show(hs.2 b<|YA<|Yq (Ym q) I.ok.above).m (I.base.keep b o q n hb hx)
 .let⟨sl,e1⟩:=I.base.slot b o q n hb hx;exists sl,(hs.2 b<|YA<|Yq (Ym q) I.ok.above).m e1
 .let⟨o',e1⟩:=I.base.there b o q hx;exists o',(hs.2 b<|YA<|Yq (Ym q) I.ok.above).m e1
 .cases hj:j=i
  .subst hj;rw[tT LR]at e2;cases e2
  .rw[Iw (Xb hj)]at e2;let(u',r',q):=hl j y v' e1 e2 e3;exists u',r',?_;rcases q with ⟨k,e⟩|⟨k,c,e,z⟩
   .show .inl {k,?_}
    have:y≠n:=λe=>hj (sf hN e1<|e▸hi)
    simp[this,e]
   .show .inr {k,c,e,z.sameBut hs<|cne y c e}
 .let⟨w',z⟩:=I.cell y c q;exists w',z.sameBut hs<|cne y c q
 .let⟨q,n,ne,nf,d⟩:=I.pin p hp;exists (hs.2 p.1 ne).m q,n,ne,nf,d
 .show(I.hok b ob q).stay (λc w' hc q'=>(hs.2 c ?_).m q') (λ_ q=>q) λ_ _ q=>q;rintro rfl;rcases hc with z|hc
  .subst z;rw[I.free]at q;cases q
  .rw[I.free]at hc;cases hc
end
abbrev Sz(X:Cx)(pins:List (Addr×Obj))(R:St->XK):Cx:={X with pn:=X.pn++pins,xe:=λev s'=>∃σ H1 s1,Inv X pins σ H1 s1/\VO X.prog X.w X.stack H1 s1 (R σ) ev s'}
abbrev Ri(X:Cx)(pins:List (Addr×Obj))(e:Addr)(oe:Obj):Cx:={X with A:=X.A.mark<|some<|.ref e,calm:=false,pn:=X.pn++pins++[(e,oe)],xe:=λ_ _=>False}
section
variable{X:Cx}{pins pins':List (Addr×Obj)}{σ:St}{H:Hp}{s:Shared}{R:St->XK}{e:Addr}{oe:Obj}
def Inv.inTry(I:Inv X pins σ H s):Inv (Sz X pins R) [] σ H s:=
 {⟨I.ok.mod,I.ok.kind,I.ok.glob,I.ok.blt,I.ok.above,I.ok.inj,I.ok.has,I.ok.cab,I.ok.hd,I.ok.frames,I.ok.stk,I.ok.exf,I.ok.bs,I.ok.bsz,I.ok.noex,I.ok.exfs,I.ok.funs,I.ok.frf⟩,I.os,I.bare,I.base,I.loc,I.cell,I.free,I.freeC,λp hp=>I.pin p (by simpa using hp),I.hok,I.len}
def Inv.outTry(I:Inv (Sz X pins R) pins' σ H s):Inv X pins σ H s:=
 {⟨I.ok.mod,I.ok.kind,I.ok.glob,I.ok.blt,I.ok.above,I.ok.inj,I.ok.has,I.ok.cab,I.ok.hd,I.ok.frames,I.ok.stk,I.ok.exf,I.ok.bs,I.ok.bsz,I.ok.noex,I.ok.exfs,I.ok.funs,I.ok.frf⟩,I.os,I.bare,I.base,I.loc,I.cell,I.free,I.freeC,λp hp=>I.pin p<|Yc _ hp,I.hok,I.len}
def SP.outTry{f:Flow}(h:SP (Sz X pins R) [] D f s):SP X pins D f s:=by
 cases f with
 |next=>let(σ',H',I,q):=h;exists σ',H',I.outTry,q
 |brk=>let(σ',H',I,q):=h;exists σ',H',I.outTry,q
 |cont=>let(σ',H',I,q):=h;exists σ',H',I.outTry,q
 |ret u=>let(v,σ',H',I,r,q):=h;exists v,σ',H',I.outTry,r,q
def Inv.inHan(I:Inv X pins σ H s)(h1:s.D.G e=some oe)(h2:H e=none)(h3:e≠X.L.locals)(h4:e∉X.fs)(h5:∀v,oe.data≠.cell v):Inv (Ri X pins e oe) [] σ H s:=
 ⟨{I.ok.mod,I.ok.kind,I.ok.glob,I.ok.blt,I.ok.above,I.ok.inj,I.ok.has,I.ok.cab,(λz=>(nomatch z)),I.ok.frames,I.ok.stk,I.ok.exf,I.ok.bs,I.ok.bsz,I.ok.noex,I.ok.exfs,I.ok.funs,I.ok.frf},I.os,I.bare,I.base,I.loc,I.cell,I.free,I.freeC,λp hp=>by
  rw[YB]at hp;rcases XB.H hp with z|z
  .show I.pin p z
  .rw[XD.H z];show⟨h1,h2,h3,h4,h5⟩,I.hok,I.len⟩
def Inv.outHan(hd:X.calm=true->X.A.handled=none)(fr:X.A.frames=some X.stack)(I:Inv (Ri X pins e oe) pins' σ H s):Inv X pins σ H s:=
 {⟨I.ok.mod,I.ok.kind,I.ok.glob,I.ok.blt,I.ok.above,I.ok.inj,I.ok.has,I.ok.cab,hd,fr,I.ok.stk,I.ok.exf,I.ok.bs,I.ok.bsz,I.ok.noex,I.ok.exfs,I.ok.funs,I.ok.frf⟩,I.os,I.bare,I.base,I.loc,I.cell,I.free,I.freeC,λp hp=>I.pin p<|Yc _<|Yc _ hp,I.hok,I.len}
end
def Hq(CX:RH)(X:Cx)(R:St->XK):(Prop):=∀pins σ H s e s',Inv X pins σ H s->CX X.stack H s (R σ) e s'->X.xe e s'
def pxT{R:St->XK}(hP:P=X.prog:=by rfl)(hw:w=X.w:=by rfl):Hq (VO P w) (Sz X pins R) R:=by subst hP hw;show λ_ σ H s _ _ I h=>⟨σ,H,s,I.outTry,h⟩
def oS(sp:Sp)(US:List V)(R:St->XK)(t:TA):(TE):=λσ H Q=>t σ H λvs H1=>sp (vs++US) H1 Q (R σ)
section
variable{X:Cx}{CX:RH}{k:Nat}{f:Addr}{fd:FuncData}{ps:List Str}{sp:Sp}{US:List V}{ds:Ag}{R:St->XK}{x:Str}{p pos:Pos}{e:Expr}{es:List Expr}{t:TA}
def oR(F:FnOk X.prog X.w X.K X.mg X.base CX k f fd ps sp)(hr:Room k X.A)(hb:Binds X.K fd ps ds)(hd:Vals US ds)(hx:Hq CX X R)
  (I:Inv X pins σ H s)(r:Vals vs us)(h:sp (vs++US) H Q (R σ)):wpAny (model X.prog X.w) X.A (call ↑f us) (EP X pins σ Q) X.xe s:=by
 let r2:Vals (vs++US) (us++ds):=r.append hd;let hl:(us++ds).f=ps.f:=by rw[<-r2.f];show F.len _ _ _ _ h
 show Fj (Mb (F.run X.A X.stack s H {us,[]} (us++ds) (vs++US) Q (R σ) hr I.env0 (hb s us I.kIn hl) r2 h) λr s' hq=>?_);cases r with
 |error e=>show hx pins σ H s e s' I hq
 |ok fl=>
  cases fl with
  |ret u=>show I.after hq
  |next=>show False.elim hq
  |brk=>show False.elim hq
  |cont=>show False.elim hq
def oQ(F:FnOk X.prog X.w X.K X.mg X.base CX k f fd ps sp)(hr:Room k X.A)(hg:Gl X x)(hm:X.mg x=some ↑f)(hk:PySem.W.keepIn X.K ↑f=true)(hb:Binds X.K fd ps ds)(hd:Vals US ds)(hx:Hq CX X R)
  (ha:PA X (e::es) t)(Tz:(x == ("__debug__":Str))=false:=by decide)(he:starEach (e::es) X.L=(false,eval e X.L)::starEach es X.L:=by rfl)(UX:(backTo pos<|starEach es X.L).any (·.1)=false:=by rfl):
  PE X (.Call (.Name x p) (e::es) [] pos) (oS sp US R t):=by intro pins s σ H Q I h;show OX (Dy I hg hm ?_ Tz);show tK (h₀:=X.base) I.ok.mod.kin hk (thn (ha pos pins s σ H _ I h) λus s1 ⟨vs,H1,I1,r,q⟩=>{I1.kIn,?_}) he UX;show oR F hr hb hd hx I1 r q
end
def Ends.less(D:Ends)(i:Nat):(Ends):={nx:=λσ H=>D.nx (σ.set i none) H,rt:=D.rt,bk:=λσ H=>D.bk (σ.set i none) H,ct:=λσ H=>D.ct (σ.set i none) H}
def Co(K:Ad)(W:Addr)(i:Nat)(tb:(St->XK)->TS)(th:Addr->Addr->TS):(TS):=λD σ H=>
 tb (λσ' c _ H'=>∃C,c=Value.ref C/\PySem.W.exmOne K ↑C ↑W=some true/\∀e:Addr,H' e=none->th e C (D.less i) (σ'.set i<|some<|.ref e) H') D σ H
def oP{x n:Str}{np Lz pos:Pos}{b₀:Stmt}{JG:List Stmt}{tb:(St->XK)->TS}{th:Addr->Addr->TS}
  (WV:X.stack=X.L::X.outer)(Qn:X.L.frame=some X.L.locals)(hex:X.ex=[])(hN:X.N.Nodup)(hi:X.N[i]?=some n)(hl:X.L.kindOf n=some .local)(hm:X.mg x=some ↑W)(hg:Gl X x)
  (hb:∀R pins,PSs (Sz X pins R) body<|tb R)(hs:∀e C oe pins,oe.cls=.ref C->PSs (Ri X pins e oe) (b₀::JG) (th e C))(Tz:(x == ("__debug__":Str))=false:=by decide):
  PS X (.Try body [.ExceptHandler (some<|.Name x np) (some n) (b₀::JG) Lz] [] [] pos) (Co X.K W i tb th):=by
 intro pins s σ H D I h;show wpAny_Try_except (Ud (hb _ pins [] s σ H D I.inTry h) (λf s1 q=>?_) λev s1 q=>?_)
 .let q:=SP.outTry q;cases f with
  |next=>show DO q
  |brk=>show q
  |cont=>show q
  |ret u=>show q
 .let⟨σ1,H1,s0,I0,VY⟩:=q;let(e,C,H',rfl,AP,F,C',eC,hmt,hR):=I0.flown VY;cases eC;let hR:=hR e F.free
  let(T,a0,fl,nT,fT):=cm WV AP F;let Vl:∀b∈[e,T],X.s₀.D.G b=none/\H' b=none/\(∀p∈X.pn++pins,p.1≠b):=λb hb=>by
   let key:∀b,s0.D.G b=none->H' b=none->X.s₀.D.G b=none/\H' b=none/\(∀p∈X.pn++pins,p.1≠b):=λb n0 f0=>⟨I0.was hex n0,f0,λp hp z=>by
    have:=(I0.pin p hp).1
    rw[z,n0]at this;cases this⟩
   rcases Yf.H hb with rfl|hb
   .show key _ F.new F.free
   .rw[XD.H hb];show key _ nT fT
  rw[WV]at fl;show wpAny_looks_onW (by rw[AP.ok.frames,WV]) Qn fl λh₄ Ly Cn=>?_;show wpAny_landsW Ly λh₅ Oj Ho=>?_;let JF:=Cn.m Ho
  let J₅:Inv X pins σ1 H' {s1 with heap:=h₅}:=AP.held (tk:=s1.toks) Vl Oj.1 JF;let(ob,Qr,oO):=Oj.there;show wpAny_handleBy_cons (codeAny_handlers_test<|tW J₅.ok.kind hg (Calls.loadGlobal_global (by rw[J₅.ok.glob];show J₅.mod.glob.keeps J₅.bk) hm ?_) Tz) (by intro q;cases q);let LT:PySem.W.Looks (model X.prog X.w) h₅ (typeOf<|.ref e) ↑C:=by rw[<-oO];show(PySem.W.Looks.ld Qr).andThen .now
  show(PySem.W.exm_one J₅.kIn LT hmt).here ?_;show codeAny_handlers_suite_as ?_;show lands_againW Oj λh₆ JE Cm=>?_;let J₆:Inv X pins σ1 H' {s1 with heap:=h₆}:=AP.held (tk:=s1.toks) Vl JE.1 (JF.m Cm)
  let(oe,ws,Tf,oN,Lx,hoe0):=JE.first;let DA:e≠X.L.locals:=λz=>by
   let(m,(o',es,ep,Wh,SN,_),_):=J₆.loc;rw[<-z]at Wh;let Oi:h₆.G e=some oe:=Tf
   let Sy:h₆.G e=some o':=Wh;rw[Oi]at Sy;cases Sy;rw[Lx]at SN;cases SN
  let JJ:e∉X.fs:=λz=>by
   let(_,o',Wh,hd):=J₆.funs.mem z;let Oi:h₆.G e=some oe:=Tf
   let Sy:h₆.G e=some o':=Wh;rw[Oi]at Sy;cases Sy;show hd ws Lx
  show dI J₆ hN hi (.inl hl) (v:=.ref e) Z (λs7 J₇ vW=>?_) (.inr hl);let(a,Ck,ha):=vW;let hea:e≠a:=by
   rcases ha with rfl|ha
   .show DA
   .intro z;let(v,o',Wh,SN):=J₆.cell _ _ ha;rw[<-z]at Wh;let Oi:h₆.G e=some oe:=Tf
    let Sy:h₆.G e=some o':=Wh;rw[Oi]at Sy;cases Sy;rw[Lx]at SN;cases SN
  let oM:s7.D.G e=some oe:=(Ck.2 e hea).m Tf;let JH:=J₇.inHan (oe:=oe) oM F.free DA JJ (λv z=>by rw[Lx]at z;cases z)
  show Ud (hs e C oe pins oN [] s7 _ H' (D.less i) JH hR) (λf s8 q=>?_) λ_ _ z=>False.elim z;let hp:(X.L.scope.kind == .class||(X.L.scope.kind == .module&&X.L.locals != X.L.globals))=false:=by rw[AP.ok.kind];rfl
  let fin:∀{σ8:St}{H8:Hp},Inv (Ri X pins e oe) [] σ8 H8 s8->∀{Q:Flow->Shared->Prop},(∀s9,Inv X pins (σ8.set i none) H8 s9->Q f s9)->wpAny (model X.prog X.w) X.A (do bindName X.L n .none;unbindBehindTheSuite X.L n Lz) (λ_ s9=>Q f s9) X.xe s8:=λ{σ8 H8} J8 {Q} k=>by let J9:=J8.outHan I.ok.hd I.ok.frames;let(m,hn,_):=id J9.loc;show wpAny_nameGoes_keeps hl hn hp λh' v SM Cj=>k _ (J9.gone hN hi hn SM Cj)
  cases f with
  |next=>let(σ8,H8,J8,q):=q;show fin J8 λs9 J9=>{_,H8,J9,q}
  |brk=>let(σ8,H8,J8,q):=q;show fin J8 λs9 J9=>{_,H8,J9,q}
  |cont=>let(σ8,H8,J8,q):=q;show fin J8 λs9 J9=>{_,H8,J9,q}
  |ret u=>let(v,σ8,H8,J8,r,q):=q;show fin J8 λs9 J9=>{v,_,H8,J9,r,q}
end L2
namespace L2
open PySem PySem.Spec PyProof.Rows PySem.W PySem.Calls Builtin Builtin.ObjectAttr Builtin.Getset_descriptor
section
variable{prog:Program}{w:World}{A:Around}{E:Ae}{K:Ad}{x C:Addr}{ox:Obj}
def Ci{R:Result->Shared->Prop}{s:Shared}{tp:Value}(X:K.In s.D)(hx:s.D.G x=some ox)(hc:ox.cls=.ref C)(hm:mroIn K C (.type "object")=some true)
  (h:R (.ok<|.ret<|.ref C) s):codeAny (model prog w) A (.call (.builtin "getset_descriptor.__get__") {[.builtin "object.__class__",.ref x,tp],[]}) R s:=by
 let(hh,g,dr,t,os):=s;let L0:Looks (model prog w) hh (typeOf<|.ref x) ↑C:=by rw[<-hc];show(Looks.ld hx).andThen .now
 let L1:=looks_mroIn (M:=model prog w) X hm;show xN KF.slot_gs.plain KF.entry_gs (KF.slot_gs.check _ _ _ _ _ _ _ _ KF.type_class (KF.args_gs _ _ _) ?_);unfold Builtin.«getset_descriptor.__get__» descrGet;rw[dga_obj];show XU (Yh ?_);unfold descrGetter descrCheckInstance descrNameAndClass isInstance;simp only[KF.owner_class]
 repeat lk
 exists OP _ sC,RP KF.entry_class ?_;unfold Builtin.«object.__class__» shownTypeOf
 repeat lk
 show h
def Cg{tk:Tok}{Q:Fin->Shared->Prop}(X:K.In s.D)(hx:s.D.G x=some ox)(hc:ox.cls=.ref C)(c:XCls K C)(hq:Q (.done (.ret ↑C)) s):
  wpAny (model prog w) A (Builtin.«object.__getattribute__» {[.ref x,.str "__class__" tk],[]}) Q E s:=by
 let(hh,g,dr,t,os):=s;let L0:Looks (model prog w) hh (typeOf<|.ref x) ↑C:=by rw[<-hc];show(Looks.ld hx).andThen .now
 let L1:=looks_findIn (M:=model prog w) X c.cl;let JD:(⟨hh,g,dr,t,os⟩:Shared).TypeIs (.builtin "object.__class__") "getset_descriptor":=F.typeOf_object_class
 let f5:=F.typeOf_object_class;let f6:=F.slot_gs_get.U
 let f7:=F.slot_gs_set.U
 repeat (any_goals (first|assumption|(with_reducible show L0.at ?_)|(with_reducible show L1.at ?_)|wp_step))
 show Ci (s:=⟨hh,g,dr,t,os⟩) X hx hc c.ob ?_;show Yh hq
def Cf{JC:Value}{Q:Unit->Shared->Prop}{s:Shared}(X:K.In s.D)(hx:s.D.G x=some ox)(hc:ox.cls=.ref C)(c:XCls K C)(hq:Q () s):
  wpAny M A (checkBuiltinCall "BaseException.__getattribute__" {[.ref x,JC],[]}) Q E s:=by
 let(hh,g,dr,t,os):=s;let hk:builtinKind "BaseException.__getattribute__"=some .slot:=sC
 let Hn:splitId "BaseException.__getattribute__"=some ("BaseException","__getattribute__"):=sC;let ha:=PySem.F.args_bexc_ga ↑x JC
 let L0:Looks M hh (typeOf<|.ref x) ↑C:=by rw[<-hc];show(Looks.ld hx).andThen .now
 let L1:=looks_mroIn (M:=M) X c.bx;simp only[checkBuiltinCall,hk,Hn];show XU ?_;show XU (L0.at<|L1.at ?_)
 repeat (any_goals (first|assumption|wp_step))
def oK{tk:Tok}{R:Result->Shared->Prop}{s:Shared}(X:K.In s.D)(hx:s.D.G x=some ox)(hc:ox.cls=.ref C)(c:XCls K C)(hq:R (.ok (.ret ↑C)) s):
  codeAny (model prog w) A (.call (.builtin "BaseException.__getattribute__") {[.ref x,.str "__class__" tk],[]}) R s:=
 xN d9.ga.plain PySem.F.entry_bexc_ga (Cf X hx hc c<|Cg X hx hc c hq)
def oJ{tk:Tok}{Q:Ae}{s:Shared}(X:K.In s.D)(hx:s.D.G x=some ox)(hc:ox.cls=.ref C)(c:XCls K C)(hq:Q ↑C s):
  wpAny (model prog w) A (getAttrBy ↑x (.str "__class__" tk) false) Q E s:=by
 let(hh,g,dr,t,os):=s;let f3:=d9.ga.bind ↑x
 let Ce:(Value.builtin "BaseException.__getattribute__" == Value.builtin "object.__getattribute__")=false:=sC;let cg:(onTheHeap (Value.ref C)&&Value.builtin "BaseException.__getattribute__" == Value.builtin "object.__getattribute__")=false:=by rw[Ce];rfl
 let L0:Looks (model prog w) hh (typeOf<|.ref x) ↑C:=by rw[<-hc];show(Looks.ld hx).andThen .now
 let L1:=looks_findIn (M:=model prog w) X c.ga;let L2:=looks_findIn (M:=model prog w) X c.gh
 repeat (any_goals (first|assumption|(with_reducible show L0.at ?_)|(with_reducible show L1.at ?_)|(with_reducible show L2.at ?_)|wp_step))
 show oK (s:=⟨hh,g,dr,t,os⟩) X hx hc c ?_
 repeat (any_goals (first|assumption|wp_step))
def oI{Q:Option Value->Shared->Prop}{s:Shared}(X:K.In s.D)(hx:s.D.G x=some ox)(hc:ox.cls=.ref C)(c:XCls K C)(hq:Q (some ↑C) {s with toks:=s.toks+1}):
  wpAny (model prog w) A (getAttr? ↑x "__class__") Q E s:=by
 let(hh,g,dr,t,os):=s;unfold getAttr? getAttrBy?
 repeat (any_goals (first|assumption|with_reducible show oJ (s:={hh,g,dr,_,os}) X hx hc c ?_|wp_step))
def Cd(c:XCls K C)(Te:(clsIn K C).isSome=true)(hc:ox.cls=.ref C):KitX K ↑x ↑C (λh=>h.G x=some ox) where
 ty:=λ_ _ _ hx=>by rw[<-hc];show(Looks.ld hx).andThen .now
 it:=λ_ _ X _=>by
  unfold clsIn at Te;split at Te
  .rename_i c' d' cd' Ig ho;intro A' Q' E' s' k q;unfold isType loadHead;show XU (wpAny_loadPart (k _ _<|X _ _ ho)<|Yh q)
  .cases Te
 ne:=λh tp dd XW n sl X Lw=>by
  show Bool.eq_false_iff.X λq=>?_;let e:C=tp:=Value.ref.inj (RL.H q)
  subst e;unfold clsIn at Te;split at Te
  .rename_i c' d' cd' Ig ho
   have:=X _ _ ho
   rw[Lw]at this;cases this
  .cases Te
 ca:=λ{_ _ _ _ _ s} X hx hq=>oI X hx hc c hq
end
def XCls.isSome{K:Ad}{C:Addr}(c:XCls K C):(clsIn K C).isSome=true:=by
 let q:=c.ex;unfold excIn at q;unfold clsIn;split at q
 .rename_i dd cd sl ho;rw[ho];rfl
 .cases q
section
variable{X:Cx}
def EW(K:Ad){e C:Addr}{oe:Obj}(hp:(e,oe)∈X.pn)(hc:oe.cls=.ref C)(h:X.K=K:=by rfl):TB X (.builtin "isinstance") (λxs H Q=>∃d u b,xs=[.ref e,d]/\(∀z,RelV d z->z=u)/\XCls K C/\kitOne K ↑C u=some b/\Q (.bl b) H):=by
 subst h;intro pins s σ H xs us Q I r h;let(d,u,b,rfl,hd,c,hk,q):=h;let(u1,v,rfl,ru,rv):=cR r;let rfl:u1=Value.ref e:=ru;let rfl:=hd v rv;let hx:=(I.pin (e,oe)<|Yc _ hp).1
 show kia_one (Cd c c.isSome hc) I.kIn hx hk (λz=>nomatch z) λtk=>{.bl b,H,I.tok tk,Z,q}
end
end L2
namespace L2
open PySem PySem.Spec PyProof.Rows
def ZB8{a:Int}(h1:-(10^70)<a)(h2:a<10^70):a.natAbs.log2<1920:=by
 let h:a.natAbs<10^70:=sr;cases h0:a.natAbs=0
 .rw[h0];decide
 .show(Nat.log2_lt h0).X (xn h su)
def PJ(X:Cx)(es:List Expr)(t:St->Hp->(Hp->Prop)->Prop):(Prop):=∀n pins s σ H acc Q,acc.f<=4000*n->n+es.f<=100->Inv X pins σ H s->t σ H Q->
 wpAny (model X.prog X.w) X.A (joinParts acc<|evalEach es X.L) (λv s'=>∃x tk H',v=Value.str x tk/\Inv X pins σ H' s'/\Q H') X.xe s
section
variable{X:Cx}{es:List Expr}{e:Expr}{te:TE}{t:St->Hp->(Hp->Prop)->Prop}{pos:Pos}
def Hm:4000*100<=sizeLine:=by decide
def Cc:PJ X [] (λ_ H Q=>Q H):=λn pins s σ H acc Q ha hn I h=>by show joinParts_nil {acc,_,H,Z,I.tok _,h} (Yj ha<|Yj (Iu _ ?_) Hm);simpa using hn
def Cb{x:Str}{j:Nat}{p:Pos}(hr:PJ X es t)(hz:x.f<=4000:=by decide +kernel):PJ X (.Constant (.str x) j p::es) t:=λn pins s σ H acc Q ha hn I h=>by
 let hl:(acc++x).f=acc.f+x.f:=strLen_append ..;rw[YF]at hn;let hb:(acc++x).f<=4000*(n+1):=by rw[hl];lia
 show joinParts_cons (Calls.Constant_str {Yj hb<|Yj (Iu _ J) Hm,?_});show hr (n+1) pins _ σ H _ Q hb J (I.tok _) h
def oH(te:TE)(t:St->Hp->(Hp->Prop)->Prop):(St->Hp->(Hp->Prop)->Prop):=λσ H Q=>te σ H λv H1=>∃a:Int,v=.int a/\-(10^70)<a/\a<10^70/\t σ H1 Q
def Ca(he:PE X e te)(hr:PJ X es t):PJ X (.FormattedValue e (-1) none p::es) (oH te t):=λn pins s σ H acc Q ha hn I h=>by
 rw[YF]at hn;show joinParts_cons (FormattedValue_plain<|thn (he pins s σ H _ I h) λu s1 Xw=>?_);let(v,H1,I1,r,a,ev,a1,a2,q):=Xw;subst ev;let(tk,rfl):=r;let BZ:=ZB8 a1 a2
 let hlen:(Str.ofString<|toString a).f<=4000:=by let z:=int_text_length_le (k:=1920) su BZ;rw[PySem.ofString_length];lia
 show formatField_int_small BZ ?_;let hl:(acc++Str.ofString (toString a)).f=acc.f+(Str.ofString<|toString a).f:=strLen_append ..
 let hb:(acc++Str.ofString (toString a)).f<=4000*(n+1):=by rw[hl];lia
 exists Yj hb<|Yj (Iu _ J) Hm,?_;show hr (n+1) pins _ σ H1 _ Q hb J (I1.tok _) q
def oG(t:St->Hp->(Hp->Prop)->Prop):(TE):=λσ H Q=>t σ H λH'=>∀x:Str,Q (.str x) H'
def cf{v₁ v₂:Expr}{rest:List Expr}(h:PJ X (v₁::v₂::rest) t)(hn:(v₁::v₂::rest).f<=100:=by decide):PE X (.JoinedStr (v₁::v₂::rest) pos) (oG t):=λpins s σ H Q I hq=>
 JoinedStr_many (thn (h 0 pins s σ H Str.empty _ su (by simpa using hn) I hq) λu s1 ⟨x,tk,H1,eu,I1,q⟩=>by subst eu;exists .str x,H1,I1,⟨tk,Z⟩,q x)
end
def JB:SI (VO P w) X E0:=λ_ _ _ _ _ _ _ h=>by let(_,_,_,_,_,_,_,_,_,z):=h;show z.elim
end L2
namespace My
open PySem L2
def oF{p1 p2:Addr}(h1:H p1=some (.lst (IL l1)))(h2:H p2=some (.lst (IL l2)))(hl:l1.f+l2.f<=1000000)(k:∀r,H r=none->Q ↑r (upd H r (.lst (IL (l1++l2))))):rCat ↑p1 ↑p2 H Q:=by
 exists p1,p2,_,_,Z,Z,h1,h2,?_,λr hr=>?_
 .rw[Xr,Xr];show MF hl
 .have:=k r hr
  rwa[wC]at this
def Lv(ns:Ac)(lo hi:Option Int):(Ac):=(ns.drop<|HT.UN ns.f 0 lo).M (HT.UN ns.f ns.f hi-HT.UN ns.f 0 lo)
def JA(ns:Ac)(lo hi:Option Int):Ww (IL ns) lo hi=IL (Lv ns lo hi):=by unfold Ww Lv;rw[cM,pF,Xr]
def xI{α:Type}{p:α->Prop}{w:α}(h:p w):∃x,p x:=⟨w,h⟩
end My
namespace L2
open PySem PySem.Spec PyProof.Rows
def Oh:∀{us:Ag}{ns:Ac},IntsAre us ns->Vals (ns.R V.int) us
 |[],[],_=>.nil
 |_::_,[],h=>by cases h
 |[],_::_,h=>by cases h
 |u::us,n::ns,h=>by
  cases h with
  |cons _ _ t=>show .cons {_,Z} (Oh t)
def Vals.rev{xs:List V}{us:Ag}(h:Vals xs us):Vals xs.reverse us.reverse:=by
 induction h with
 |nil=>show .nil
 |cons r t ih=>
  rw[DX,DX];show ih.append (.cons r .nil)
section
variable{X:Cx}
inductive yR2(K:Ad)(xs:List V)(H:Hp)(Q:VK):Prop
 |mk (p ns:_) (_:xs=[.ref p]) (_:SqL K H p (ns.R V.int)) (_:ns.f<64) (_:∀ms:Ac,ms.Perm ns->ms.E (·<=·)->∀l,H l=none->Q ↑l (upd H l<|.lst<|ms.R V.int))
def vV(K:Ad)(hk:X.K=K:=by rfl):TB X (.builtin "sorted") (yR2 K):=by
 subst hk;intro pins s σ H xs us Q I r h;let(p,ns,rfl,hq,hn,q):=h;let(u,rfl,ru):=SK r;let rfl:u=Value.ref p:=ru;let(XW,rv,pl,hz):=I.list hq;let hi:=ZA rv
 let hl:XW.f=ns.f:=by rw[<-rv.f,Yb]
 show sorted_ints pl.isList hi J λout ms h1 h2 h3=>?_;let(e,he):=sortedAll_at s.D XW out;let Lu:ms.f=ns.f:=h2.length_eq
 exists .ref<|(~~~s)+1,_,I.laid (t':=s.toks) (o:=.lst<|ms.R V.int) (λb o g=>sortedAll_old g) (Ue _) {?_,out.l,e,Oh h1,?_},Z,q ms h2 h3 _<|I.hok.fresh<|Ue _
 .rw[Yb,Lu]
  have:sizeLine=16777216:=Uu
  lia
 .show he
def BY:typeLookup (.type "list_reverseiterator") "__length_hint__"=pure (some (.builtin "list_reverseiterator.__length_hint__")):=by rw[QK,Fv];kernel_rfl
def Zq8:typeLookup (.type "list_reverseiterator") "__len__"=pure none:=by rw[QK,Fv];kernel_rfl
def oE{E:Ae}{s:Shared}{r:Addr}{Q:Bool->Shared->Prop}(hT:s.TypeIs ↑r "list_reverseiterator")(h:Q false s):wpAny (model prog w) A (Builtin.List.listLengthHint ↑r) Q E s:=by
 unfold Builtin.List.listLengthHint;show XU (wpAny_specialOf hT Zq8 ?_);change wpAny _ A (specialOf (Value.ref r) (Str.ofString "__length_hint__") >>= _) _ _ _
 show XU (wpAny_specialOf hT BY ?_);generalize BX:("list_reverseiterator.__length_hint__":String)=oB
 wp_delta
 rw[show splitId oB=some ("list_reverseiterator","__length_hint__") from by subst BX;decide +kernel];subst BX;show XU (LU (T:="list_reverseiterator") (b:=true) hT (by rw[xq];kernel_rfl) ?_);show Yh h
section
variable{prog:Program}{w:World}{A:Around}{E:Ae}{s:Shared}{it a:Addr}{items:Array Value}
def oz{R:Result->Shared->Prop}(hh:A.handled=none)(hi:s.D.IsRevIter it a ((items.t:Int)-1))(hl:s.D.IsList a items)(XJ:a≠it){S:Addr}(h1:S≠it)(h2:S≠a){c0:Nat}
  (hS:s.D.G S=some {cls:=.type "list",data:=.seq #[] c0})(hz:items.t<=sizeLine)
  (k:∀h' tk acc c,(∀b o,b≠S->b≠it->s.D.G b=some o->h'.G b=some o)->h'.G S=some {cls:=.type "list",dict:=none,data:=.seq acc c,slots:=#[]}->ItemsOf (λi v=>items[items.t-1-i]?=some v) acc items.t->R (.ok<|.ret res) {s with heap:=h',toks:=tk}):
  wpAny (model prog w) A.in1 (Builtin.List.listExtendWith ↑S ↑it res)
   (λfin s'=>match fin with | .done f=>R (.ok f) s' | .again c'=>c'.quiet=true/\codeAny (model prog w) A c' R s') (λe s'=>R (.error e) s') s:=by
 let W:=Walks.listRev (prog:=prog) (w:=w) (A:=A.in1) hh it a XJ items;let RD:S∉[it,a]:=by simp only[Yf,tw,or_false,not_or];exists h1,h2
 let EV:(0<=items.t/\s.D.IsRevIter it a ((items.t:Int)-1-((0:Nat):Int))/\s.D.IsList a items):={Yi _,by rw[show((items.t:Int)-1-((0:Nat):Int))=(items.t:Int)-1 by lia];show hi,hl};let hT:s.TypeIs ↑it "list_reverseiterator":=hi.typeIs
 let key:codeAny (model prog w) A (.builtin "list.extend.loop" ⟨[.ref S,.ref it,res],[]⟩) R s:=by
  show codeAny_extend_loopS W.toS hz S RD res items.t 0 _ #[] c0 Z (Yi _) EV hS (ItemsOf.nil _) λs' acc c hm Ul Vz=>?_;rw[Moved.eq_with hm];show k s'.D s'.toks acc c (λb o hb hbi e=>hm.D b o (λhmem=>?_) e) Ul Vz;rcases Yf.H hmem with e'|hmem
  .show hb e'
  .show hbi (XD.H hmem)
 unfold Builtin.List.listExtendWith;show XU (DK (T:="list_reverseiterator") hT ?_);let e1:Builtin.List.listSameRef ↑S ↑it=false:=by simp[Builtin.List.listSameRef,h1]
 rw[if_neg (by rw[e1];decide)];show XU (wpAny_pyIter_revIter hi ?_);show XU (Sd<|oE hT ?_);rw[if_neg su];show Yh {Me eO _,key}
def ou{Q:Ae}(hh:A.handled=none)(hi:s.D.IsRevIter it a ((items.t:Int)-1))(hl:s.D.IsList a items)(XJ:a≠it)(hz:items.t<=sizeLine)
  (k:∀h' tk acc c,(∀b o,b≠it->s.D.G b=some o->h'.G b=some o)->h'.G (~~~s)=some {cls:=.type "list",dict:=none,data:=.seq acc c,slots:=#[]}->ItemsOf (λi v=>items[items.t-1-i]?=some v) acc items.t->
   Q (.ref (~~~s)) {s with heap:=h',toks:=tk}):wpAny (model prog w) A (call (.type "list") [.ref it]) Q E s:=by
 let(oi,hoi,_):=id hi;let(ol,Pp,_):=id hl;let n1:(~~~s)≠it:=Vp (Ym hoi)
 let n2:(~~~s)≠a:=Vp (Ym Pp);show callType_codes (Q₁:=λob s₁=>ob=.ref (~~~s)/\s₁={s with heap:=s.D.push {cls:=.type "list",data:=.seq #[]} }) PySem.F.called_list (PySem.F.typeCall_list_1 _) PySem.F.entry_list_init (code_list_new _ ⟨Z,Z⟩) λob s₁ z=>?_;let(rfl,rfl):=z;let EU:(s.D.push {cls:=.type "list",data:=.seq #[]}).G (~~~s)=some {cls:=.type "list",data:=.seq #[]}:=Yp _ rfl
 exists {_,EU,Z},PySem.F.args_list_init_2 _ _,?_;change wpAny _ A.in1.in1 (do let old <-Builtin.List.listItems (.ref (~~~s));Builtin.List.listUpdate (.ref (~~~s)) λ_=>#[];letGo old.l.reverse;Builtin.List.listExtendWith (.ref (~~~s)) ↑it .none) _ _ _
 show XU ?_;unfold Builtin.List.listItems;show XU (IC EU Z<|Yh ?_);show XU (xu (a:=(~~~s)) EU Z ?_);let BW:=OZ (Obj.mapSeq λ_=>(#[]:Array Value)) EU rfl
 let Hl:∀b o,b≠(~~~s)->s.D.G b=some o->((s.D.push {cls:=.type "list",data:=.seq #[]}).update (~~~s) (Obj.mapSeq λ_=>(#[]:Array Value))).G b=some o:=
  λb o hb e=>(YU _ _<|Xb hb).m (Xf _ e)
 show XU (Fl ?_);show oz (A:=A.in1) (items:=items) hh (hi.at λo e=>Hl it o (Xb n1) e) (hl.at λo e=>Hl a o (Xb n2) e) XJ n1 n2 BW hz λh' tk acc c hk Ul Vz=>?_;exists Z,k h' tk acc c (λb o hb e=>hk b o (YA<|Ym e) hb<|Hl b o (YA<|Ym e) e) Ul Vz
end
end
section
variable{X:Cx}{p p2 pos UG:Pos}{e:Expr}{t:TA}
def oq(K:Ad)(t:TA):(TE):=λσ H Q=>t σ H λvs H1=>∃a ys,vs=[.ref a]/\SqL K H1 a ys/\∀l,H1 l=none->Q ↑l (upd H1 l<|.lst ys.reverse)
def cb(K:Ad)(hc:X.calm=true)(g1:Gl X "list")(m1:X.mg "list"=none)(g2:Gl X "reversed")(m2:X.mg "reversed"=none)(ha:PA X [e] t)(hk:X.K=K:=by rfl)
  (he:starEach [e] X.L=[(false,eval e X.L)]:=by rfl)
  (Ou:starEach [.Call (.Name "reversed" p2) [e] [] UG] X.L=[(false,eval (.Call (.Name "reversed" p2) [e] [] UG) X.L)]:=by rfl):
  PE X (.Call (.Name "list" p) [.Call (.Name "reversed" p2) [e] [] UG] [] pos) (oq K t):=by
 subst hk;intro pins s σ H Q I h;show OX (Pu I g1 m1 Boot.«list» ?_);show IP ?_ (by rw[Ou];rfl) rfl;rw[Ou];change wpAny _ _ (spliced<|(false,eval (.Call (.Name "reversed" p2) [e] [] UG) X.L)::backTo pos []) _ _ s
 show sT ?_;show OX (Pu I g2 m2 Boot.«reversed» ?_);show IP (thn (ha UG pins s σ H _ I h) λus s1 zz=>?_) (by rw[he];rfl) rfl;let(vs,H1,I1,r1,q1):=zz;let(a,ys,rfl,hq,q):=q1;let(u,rfl,ru):=SK r1;let rfl:u=Value.ref a:=ru;let(XW,rv,pl,hz):=I1.list hq;show call_reversed_list pl.isList ?_;show sQ ?_;let el:XW.C.t=ys.f:=by rw[Xk,<-rv.f]
 let hit:(s1.D.push<|revObj a<|(XW.C.t:Int)-1).IsRevIter (~~~s1) a ((XW.C.t:Int)-1):={_,Yp _ Z,Z,Z};let XJ:a≠(~~~s1):=YA (by let(_,_,e,_):=pl;show Ym e)
 show ou (I.ok.hd hc) hit (pl.isList.push _) XJ (by rwa[el]) λh' tk acc c hk hS ET=>?_;let el2:XW.f=ys.f:=rv.f.symm
 let ea:acc.l=XW.reverse:=by
  show MV λi=>?_;let h1:=ET.1
  cases hi:i<XW.f
  .obtain⟨v,ev⟩:∃v,acc[i]?=some v:={_,YO<|by rwa[h1,Xk]};let h2:=ET.2 i v ev
   rw[LX hi];let e3:acc.l[i]?=some v:=by simpa using ev
   rw[e3];let e4:XW[XW.f-1-i]?=some v:=by simpa using h2
   rw[e4]
  .rw[VD (by rw[Ys,h1,Xk];grind),VD (by rw[VB];omega)]
 rw[size_push']at hS ⊢;exists .ref<|(~~~s1)+1,_,I1.laid (o:=.lst ys.reverse) (h':=h') (t':=tk) (λb o e=>hk b o (YA<|Ym e)<|Xf _ e) (Ue _) ⟨?_,acc.l,c,?_,?_⟩,Z,q _<|I1.hok.fresh<|Ue _
 .rw[VB];show hz
 .rw[ea];show rv.rev
 .rw[hS]
end
end L2
namespace My
open PySem L2
def XR:IsSet m ns↔(∀z∈ns,0<=z/\z<(m:Int))/\ns.E (·<·):=by
 constructor
 .intro h;exists h.all,?_;rw[Kj];intro i j hi hj WL
  induction j with
  |zero=>show absurd WL (SW i)
  |succ j ih=>
   let Og:j<ns.f:=sD;let key:=(h (j+1) ns[j+1]<|Xp hj).2.2 ns[j] J (by rw[tJ];show Xp Og)
   cases e:i=j
   .subst e;show key
   .have:=ih Og J
    lia
 .rintro⟨ha,hp⟩ i z hz;let(hi,ei):=XA.H hz;let hm:=ha z (WT hz)
  exists hm.1,hm.2,λy h0 hy=>?_;let(Tv,ei'):=XA.H hy
  have:=Kj.H hp (i-1) i Tv hi J
  rwa[ei,ei']at this
def Hk{ns:Ac}(h:ns.E (·<·)):ns.Nodup:=h.imp λVa e=>J
def IsSet.nodup(h:IsSet m ns):ns.Nodup:=Hk (XR.H h).2
end My
namespace My
def Ls{α:Type}{P:List α->Prop}(h0:P [])(h1:∀l x,P l->P (l++[x])):∀l,P l:=by
 intro l;rw[<-List.reverse_reverse l]
 induction l.reverse with
 |nil=>show h0
 |cons x r ih=>
  rw[DX];show h1 _ _ ih
inductive Conn(es:List (Nat×Nat)):Nat->Nat->Prop
 |refl (i:Nat):Conn es i i
 |edge {a b:Nat} (h:(a,b)∈es):Conn es a b
 |symm {i j:Nat}:Conn es i j->Conn es j i
 |trans {i j k:Nat}:Conn es i j->Conn es j k->Conn es i k
def Conn.mono(h:∀e∈es,e∈fs)(c:Conn es i j):Conn fs i j:=by
 induction c with
 |refl i=>show .refl i
 |edge q=>show .edge (h _ q)
 |symm _ ih=>show .symm ih
 |trans _ _ i1 i2=>show .trans i1 i2
def vU{n i:Nat}(h:i<n):mk ((List.range n).R λ(i:Nat)=>(i:Int)) i=(i:Int):=by rw[mk_map' h]
where
 mk_map' {n i:Nat} (h:i<n):mk ((List.range n).R λ(i:Nat)=>(i:Int)) i=(i:Int):=by simp[mk,Ya,Yw,Ir h]
def InN(n:Nat)(es:List (Nat×Nat)):(Prop):=∀e∈es,e.1<n/\e.2<n
def InN.snoc{e:Nat×Nat}(h:InN n (es++[e])):InN n es/\e.1<n/\e.2<n:={λx hx=>h x<|Yc _ hx,h e B}
def BV:∀es:List (Nat×Nat),InN n es->∀e∈es,mk (WQ n es) e.1=mk (WQ n es) e.2:=by
 show Ls (λ_ e h=>by cases h) λes x ih hn e he=>?_;let(h1,h2,h3):=hn.snoc;let hl:=ZI n es
 let hx:=hn e he;rw[LB];show(Ct J J).X ?_;rcases XB.H he with q|q
 .show .inl (ih h1 e q)
 .rw[XD.H q];show .inr {.inl Z,.inr Z}
def BU:∀es:List (Nat×Nat),InN n es->∀i j,i<n->j<n->mk (WQ n es) i=mk (WQ n es) j->Conn es i j:=by
 show Ls (λ_ i j hi hj h=>?_) λes x ih hn i j hi hj h=>?_
 .let h:mk ((List.range n).R λ(i:Nat)=>(i:Int)) i=mk ((List.range n).R λ(i:Nat)=>(i:Int)) j:=h;rw[vU hi,vU hj]at h
  have:i=j:=J
  subst this;show .refl i
 .let⟨h1,h2,h3⟩:=hn.snoc;let hl:=ZI n es
  let up:∀{i j:Nat},Conn es i j->Conn (es++[x]) i j:=λc=>c.mono λe he=>Yc _ he;let ex:Conn (es++[x]) x.1 x.2:=.edge B
  rw[LB]at h;rcases(Ct J J).H h with q|⟨q1,q2⟩
  .show up (ih h1 i j hi hj q)
  .let ci:Conn (es++[x]) i x.1:=by
    rcases q1 with q|q
    .show up (ih h1 i _ hi h2 q)
    .show(up<|ih h1 i _ hi h3 q).m ex.symm
   let cj:Conn (es++[x]) j x.1:=by
    rcases q2 with q|q
    .show up (ih h1 j _ hj h2 q)
    .show(up<|ih h1 j _ hj h3 q).m ex.symm
   show ci.m cj.symm
def oo(hn:InN n es)(c:Conn es i j):i=j\/(i<n/\j<n/\mk (WQ n es) i=mk (WQ n es) j):=by
 induction c with
 |refl i=>show .inl rfl
 |edge q=>show .inr {(hn _ q).1,(hn _ q).2,BV es hn _ q}
 |symm _ ih=>
  rcases ih with e|⟨a,b,c⟩
  .show .inl e.symm
  .show .inr ⟨b,a,c.symm⟩
 |trans _ _ i1 i2=>
  rcases i1 with e|⟨a,b,c⟩
  .rw[e];show i2
  .rcases i2 with e|⟨a',b',c'⟩
   .rw[<-e];show .inr ⟨a,b,c⟩
   .show .inr {a,b',c.m c'}
def ZX(hn:InN n es)(hi:i<n)(hj:j<n):mk (WQ n es) i=mk (WQ n es) j↔Conn es i j:=by
 constructor
 .show BU es hn i j hi hj
 .intro c;rcases oo hn c with e|⟨_,_,e⟩
  .rw[e]
  .show e
def Qm(hn:InN n es)(hi:i<n)(hj:j<n):mk (Xv n es) i=mk (Xv n es) j↔Conn es i j:=by
 rw[<-ZX hn hi hj];let s:=wk (n:=n) (es:=es) hn
 show s.2 i j (by rwa[ZB]) (by rwa[ZB])
def cnt(M:Ac):(Nat):=(UW M M.f).f
def vT(M:Ac):∃p,p<=i/\mk M p=mk M i/\VX M p=true:=by
 induction i using Nat.strongRecOn with
 |ind i ih=>
  cases h:VX M i=true
  .exists i,XI _,Z,h
  .have:∃j,j<i/\mk M j=mk M i:=by
    cases q:∃j,j<i/\mk M j=mk M i
    .show q
    .show absurd (XC.X λj hj e=>q ⟨j,hj,e⟩) h
   let(j,hj,e):=this;let(p,h1,h2,h3):=ih j hj;exists p,J,h2.m e,h3
def ZO7{p q:Nat->Bool}{x n:Nat}(hx:x<n)(hpx:p x=true)(h:∀y,y<n->q y=(p y && !decide (y=x))):((List.range n).filter q).f+1=((List.range n).filter p).f:=by
 induction n with
 |zero=>show absurd hx (SW x)
 |succ n ih=>
  rw[DS,QM,QM,Xy,Xy];cases e:x=n
  .subst e;let e1:(List.range x).filter q=(List.range x).filter p:=DW λy hy=>by let hy:=YV.H hy;rw[h y J,show decide (y=x)=false from Se J];simp
   let e2:q x=false:=by rw[h x J];simp
   rw[e1];simp[YZ,e2,hpx]
  .let hq:q n=p n:=by rw[h n J,show decide (n=x)=false from Se λz=>e z.symm];simp
   have:=ih J λy hy=>h y J
   simp only[YZ,sW,hq];lia
def vS(hp:VX M p=true)(hq:VX M q=true)(e:mk M p=mk M q):p=q:=by
 rcases Nat.lt_trichotomy p q with h|h|h
 .show absurd e (XC.H hq p h)
 .show h
 .show absurd e.symm (XC.H hp q h)
def om(ha:a<m.f)(hb:b<m.f)(XJ:mk m a≠mk m b):cnt (lm m a b)+1=cnt m:=by
 let(A,RC,Td,Lr):=vT m (i:=a);let(sj,b9,Lq,Jz):=vT m (i:=b);let hAB:A≠sj:=λe=>XJ (by rw[<-Td,<-Lq,e])
 unfold cnt UW;rw[wq];show ZO7 (x:=max A sj) sD ?_ λy hy=>?_
 .rcases Nat.le_total A sj with h|h
  .rw[Nat.max_eq_right h];show Jz
  .rw[Nat.max_eq_left h];show Lr
 .rw[OS,Kf,XC,XC];let key:∀i,i<y->(mk (lm m a b) i=mk (lm m a b) y↔EY m a b i y):=λi hi=>Ct J hy
  let oj:(!decide (y=max A sj))=true↔y≠max A sj:=B;rw[oj];constructor
  .intro q;exists λi hi e=>q i hi<|(key i hi).X (.inl e),λe=>?_;rcases Nat.lt_or_gt_of_ne hAB with h|h
   .let ey:y=sj:=J;subst ey;show q A h ((key A h).X (.inr {.inl Td,.inr Lq}))
   .let ey:y=A:=sD;subst ey;show q sj h ((key sj h).X (.inr {.inr Lq,.inl Td}))
  .rintro⟨q1,q2⟩ i hi e;rcases(key i hi).H e with e|⟨e1,e2⟩
   .show q1 i hi e
   .let fy:VX m y=true:=XC.X q1;rcases e2 with e2|e2
    .let ey:y=A:=vS fy Lr (e2.m Td.symm);rcases e1 with e1|e1
     .show q1 i hi (e1.m e2.symm)
     .let⟨p,p1,p2,p3⟩:=vT m (i:=i)
      have:p=sj:=vS p3 Jz (by rw[p2,e1,Lq])
      grind
    .let ey:y=sj:=vS fy Jz (e2.m Lq.symm);rcases e1 with e1|e1
     .let⟨p,p1,p2,p3⟩:=vT m (i:=i)
      have:p=A:=vS p3 Lr (by rw[p2,e1,Td])
      grind
     .show q1 i hi (e1.m e2.symm)
def b8(n:Nat):cnt ((List.range n).R λ(i:Nat)=>(i:Int))=n:=by
 unfold cnt UW;rw[Yb,MW];let e:(List.range n).filter (VX<|(List.range n).R λ(i:Nat)=>(i:Int))=List.range n:=by
  show Ip.X λp hp=>XC.X λi hi e=>?_;let hp:=YV.H hp
  rw[vU J,vU hp]at e;lia
 rw[e,MW]
def oh(hM:1<=M.f):cnt M=1↔∀i j,i<M.f->j<M.f->mk M i=mk M j:=by
 let e:cnt M=(Hv M).f:=by unfold cnt Hv;rw[cq,Yb]
 rw[e];show cF hM
end My
namespace My
open PySem L2
def og{i:Int}{n:Nat}(h0:0<=i)(h1:i<(n:Int)):seqIndex? i n=some i.j:=by let e:(if i<0 then i+(n:Int) else i)=i:=if_neg J;unfold seqIndex?;simp only[e];rw[if_pos (by simp;lia)]
def Zf(n:Int)(ps:Aa)(ns:Ac):(Prop):=IsSet ps.f ns/\ns⁻¹=n-1/\∀i j,i<n.j->j<n.j->Conn (XT ps ns) i j
def ZN(g:Zx n ps)(h:∀z∈ns,0<=z/\z<ps⁻¹):InN n.j (XT ps ns):=λe he=>by
 let(z,hz,rfl):=YN.H he;let(z0,z1):=h z hz;let hp:ps[z.j]?=some (ps[z.j]'(by lia)):=Xp _
 rw[ZS hp];let(b1,b2,b3,b4):=g.2.2.2 _ (WT hp);exists J,J
def ZR(h:∀z∈ns,z∈ms):∀e∈XT ps ns,e∈XT ps ms:=λe he=>by let(z,hz,rfl):=YN.H he;show YN.X {z,h z hz,Z}
def b7(h:InN n es):(∀i j,i<(WQ n es).f->j<(WQ n es).f->mk (WQ n es) i=mk (WQ n es) j)↔∀i j,i<n->j<n->Conn es i j:=by
 rw[ZI];constructor
 .intro q i j hi hj;show(ZX h hi hj).H (q i j hi hj)
 .intro q i j hi hj;show(ZX h hi hj).X (q i j hi hj)
def bZ(hn:1<=n)(h:InN n es):(Hv (Xv n es)).f=1↔∀i j,i<n->j<n->Conn es i j:=by rw[cF (by rwa[ZB]),(wk h).one];show b7 h
def Sx(h:∀z,z∈ns↔z∈ms):Conn (XT ps ns) i j↔Conn (XT ps ms) i j:=
 {λc=>c.mono<|ZR λz hz=>(h z).H hz,λc=>c.mono<|ZR λz hz=>(h z).X hz}
section
variable{K:Ad}{a:Addr}{xs:List V}{g:TG}{tt:TT}{te:TE}{o:Nat}{fr:List Nat}{σ:St}{H:Hp}{Q:VK}
def vR(Pv:Nat->List V->Hp->Prop)(h0:Pv 0 [] H)(hz:xs.f<sizeLine)(hl:∀i ys H,i<=xs.f->Pv i ys H->SqL K H a xs/\ys.f<=i)
  (hs:∀(i:Nat) x ys H (p:Addr),H p=none->xs[i]?=some x->Pv i ys H->Fb Pv g tt te o fr σ i ↑p ys (upd H p<|.tup [.int i,x]))(hd:∀ys H,Pv xs.f ys H->∀p,H p=none->Q ↑p (upd H p<|.lst ys)):JQ (Fd K a) g tt te o fr σ H Q:=by
 exists λi m ys H=>m=xs.f-i/\i<=xs.f/\Pv i ys H,{xs.f,B,Yi _,h0},?_;rintro i m ys H ⟨rfl,hi,p⟩;let(q,hy):=hl i ys H hi p;cases Xm:i<xs.f
 .show .inr {{xs,xs[i],q,by simp[Xm]},J,λx H' zz=>?_};let(T,y,hT,ex,eH,hyy):=zz;subst ex eH;show hs i y ys H T hT (hyy xs q) p (λj ys H=>∃m',m'<xs.f-i/\m'=xs.f-j/\j<=xs.f/\Pv j ys H) λys H p'=>{xs.f-(i+1),sD,Z,Xm,p'}
 .let e:i=xs.f:=J;subst e;show .inl {{xs,q,XI _},J,hd ys H p}
end
def unlike(M:Ac)(ps:Aa)(i:Nat):(Ac):=((List.range i).filter λk=>decide<|mk M (ps.S k (0,0)).1.j≠mk M (ps.S k (0,0)).2.j).R λ(k:Nat)=>(k:Int)
def bY(M:Ac)(ps:Aa)(i:Nat):unlike M ps (i+1)=unlike M ps i++(if mk M (ps.S i (0,0)).1.j≠mk M (ps.S i (0,0)).2.j then [(i:Int)] else []):=by
 unfold unlike;rw[DS,QM,YQ];congr 1;cases h:mk M (ps.S i (0,0)).1.j≠mk M (ps.S i (0,0)).2.j
 .rw[if_pos h,YZ,if_pos (Yx h)];rfl
 .rw[if_neg h,YZ,if_neg (by simpa using h)];rfl
def Zo6(M:Ac)(ps:Aa)(i:Nat):(unlike M ps i).f<=i:=by unfold unlike;rw[Yb];show Yj (YE _ _) B
def wo(ns:Ac)(z:Int):(Ac):=ns.filter λy=>decide (y≠z)
def Xi{z y:Int}:y∈wo ns z↔y∈ns/\y≠z:=by unfold wo;rw[Yn];simp
def BS(ns:Ac)(z:Int):(wo ns z).f<=ns.f:=YE _ _
def bX{ns:Ac}{y z:Int}(h:ns[i]?=some y):wo (ns.M (i+1)) z=wo (ns.M i) z++(if y≠z then [y] else []):=by
 unfold wo;rw[WD,h,QM];congr 1;cases e:y≠z
 .rw[if_pos e];change List.filter _ [y]=_;rw[YZ,if_pos (Yx e)];rfl
 .rw[if_neg e];change List.filter _ [y]=_;rw[YZ,if_neg (by simpa using e)];rfl
def ZW5(g:Zx n ps)(hM:M.f=n.j)(s:SameP M L):unlike M ps ps.f=unlike L ps ps.f:=by
 unfold unlike;congr 1;show DW λk hk=>?_;let hk:=YV.H hk
 let hp:ps[k]?=some ps[k]:=Xp hk;rw[ZS hp];let(b1,b2,b3,b4):=g.2.2.2 _ (WT hp)
 have:=s.2 ps[k].1.j ps[k].2.j sD sD
 rw[OS,YX,YX];show not_congr this
def VN(n:Int)(ps:Aa)(ns:Ac)(z:Int)(l:Ac):(Ac):=l.filter λy=>decide (z∈unlike (WQ n.j<|XT ps<|wo ns y) ps ps.f)
def bW{l:Ac}{y:Int}(h:l[i]?=some y):
  VN n ps ns z (l.M<|i+1)=VN n ps ns z (l.M i)++(if z∈unlike (WQ n.j<|XT ps<|wo ns y) ps ps.f then [y] else []):=by
 unfold VN;rw[WD,h,QM];congr 1;cases e:z∈unlike (WQ n.j<|XT ps<|wo ns y) ps ps.f
 .rw[if_pos e];change List.filter _ [y]=_;rw[YZ,if_pos (Yx e)];rfl
 .rw[if_neg e];change List.filter _ [y]=_;rw[YZ,if_neg (by simpa using e)];rfl
def ES(n:Int)(ps:Aa)(ns:Ac)(z:Int)(l:Ac):(VN n ps ns z l).f<=l.f:=YE _ _
def Zn6{z:Int}(h0:0<=z)(h1:z<ps⁻¹):z∈unlike M ps ps.f↔mk M (ps.S z.j (0,0)).1.j≠mk M (ps.S z.j (0,0)).2.j:=by
 unfold unlike;rw[YN];constructor
 .rintro⟨k,hk,rfl⟩
  have:=YG (Yn.H hk).2
  rwa[YL]
 .intro h;exists z.j,Yn.X {YV.X sD,Yx h},J
def vQ{a b:Ac}(h:a.Perm b)(h1:a.E (·<=·))(h2:b.E (·<=·)):a=b:=by
 induction a generalizing b with
 |nil=>show(List.Perm.nil_eq h)
 |cons x a ih=>
  cases b with
  |nil=>show absurd h.length_eq B
  |cons y b=>
   let(hx,ha):=Wb.H h1;let(hy,hb):=Wb.H h2;let e:x=y:=by
    let m1:y∈x::a:=h.mem_iff.X Ye;let m2:x∈y::b:=h.mem_iff.H Ye
    rcases Yf.H m1 with e1|e1
    .show e1.symm
    .rcases Yf.H m2 with e2|e2
     .show e2
     .have:=hx y e1;have:=hy x e2;lia
   subst e;rw[ih (List.Perm.cons_inv h) ha hb]
end My
namespace L2
open PySem PySem.Spec PyProof.Rows
section
variable{prog:Program}{w:World}{A:Around}{E:Ae}{s:Shared}
def n9{tp:Addr}{vs:Ag}{Q:List Value->Shared->Prop}{ot:Obj}(ht:s.D.G tp=some ot)(hc:ot.cls=.type "tuple")(hd:ot.data=.seq vs.C m)(hz:vs.f<=sizeLine)
  (k:Q vs {s with heap:=(s.D.push<|seqObj "list" #[] 0).update (~~~s) (Obj.mapSeq (·++vs.C))}):wpAny (model prog w) A (collect<|.ref tp) Q E s:=by
 let ER:(s.D.push<|seqObj "list" #[] 0).G tp=some ot:=Xf _ ht;let Hj:(s.D.push<|seqObj "list" #[] 0).G (~~~s)=some (seqObj "list" #[] 0):=Yp _ rfl
 unfold collect;show XU (xt<|RP sP ?_);change wpAny _ _ (do again (.builtin "list.__iadd__" {[<-newList [],.ref tp],[]})) _ _ s
 show XU (Mf<|Yh ⟨OP _ sC,RP entry_list_iadd' ?_⟩);change wpAny _ _ (Builtin.List.listExtendWith (.ref (~~~s)) ↑tp<|.ref (~~~s)) _ _ {s with heap:=s.D.push (seqObj "list" #[] 0)}
 unfold Builtin.List.listExtendWith;show XU (DK (T:="tuple") ⟨ot,ER,hc⟩ ?_);rw[if_pos (by rw[show(Value.type "tuple" == Value.type "tuple")=true from Z];simp)];show XU (DE ER hd ?_);show XU (DE (xs:=#[]) (n:=0) Hj Z ?_);rw[if_neg B];show XU (MP (xs:=#[]) (n:=0) Hj Z ?_ (Yi _)<|by change(#[]++vs.C).t<=sizeLine+1;simp only[Array.size_append,Xk,Fs];lia);show Yh ?_;show XU (DD (OL Hj _) ?_);change wpAny _ _ (pure ((#[]:Array Value)++vs.C).l) Q E _
 rw[show((#[]:Array Value)++vs.C).l=vs by simp];show Yh k
def ZX5{tp:Addr}{Q:Ae}{ot:Obj}(ht:s.D.G tp=some ot)(hc:ot.cls=.type "tuple")(hd:ot.data=.seq vs.C m)(hI:IntsAre vs ns)(Pn:vs.f<64)
  (k:∀out ms,IntsAre out.l ms->ms.Perm ns->ms.E (·<=·)->Q (.ref<|(~~~s)+1) {s with heap:=sortedAll s.D vs out}):
  wpAny (model prog w) A (call (.builtin "sorted") [.ref tp]) Q E s:=by
 let LA:sizeLine=16777216:=Uu;let hsz:((s.D.push<|seqObj "list" #[] 0).update (~~~s) (Obj.mapSeq (·++vs.C))).objs.t=(~~~s)+1:=by rw[sN,size_push']
 let OI:(((s.D.push<|seqObj "list" #[] 0).update (~~~s) (Obj.mapSeq (·++vs.C))).push (seqObj "list" vs.C 0)).G ((~~~s)+1)=some (seqObj "list" vs.C 0):=by rw[<-hsz];show Yp _ rfl
 show tQ kind_sorted plain_sorted entry_sorted (args_sorted1 _) ?_;unfold Builtin.«sorted»;show XU (m:=checkCount "sorted" 1 1 _) (Yh ?_);show XU (n9 ht hc hd J ?_);show XU (Mf ?_);change wpAny _ _ _ _ _ {s with heap:=((s.D.push<|seqObj "list" #[] 0).update (~~~s) (Obj.mapSeq (·++vs.C))).push (seqObj "list" vs.C 0)}
 rw[hsz];show XU (Sd<|TK xf ⟨_,OI,Z⟩ xh (list_sort_tree OI hI Pn λout ms b1 b2 b3=>{_,Z,?_})<|args_list_sort _);show Yh {_,Z,k out ms b1 b2 b3}
end
section
variable{X:Cx}
def ZB4(K:Ad)(hk:X.K=K:=by rfl):TB X (.builtin "sorted") (λxs H Q=>∃p ns,xs=[.ref p]/\SqT K H p (ns.R V.int)/\ns.f<64/\
  ∀ms:Ac,ms.Perm ns->ms.E (·<=·)->∀l,H l=none->Q ↑l (upd H l<|.lst<|ms.R V.int)):=by
 subst hk;intro pins s σ H xs us Q I r h;let(p,ns,rfl,hq,hn,q):=h;let(u,rfl,ru):=SK r;let rfl:u=Value.ref p:=ru;let(XW,rv,(ot,h1,h2,m,h3),hz):=I.tuple hq;let hi:=ZA rv
 let hl:XW.f=ns.f:=by rw[<-rv.f,Yb]
 show ZX5 h1 h2 h3 hi J λout ms b1 b2 b3=>?_;let(e,he):=sortedAll_at s.D XW out;let Lu:ms.f=ns.f:=b2.length_eq
 exists .ref<|(~~~s)+1,_,I.laid (t':=s.toks) (o:=.lst<|ms.R V.int) (λb o g=>sortedAll_old g) (Ue _) {?_,out.l,e,Oh b1,he},Z,q ms b2 b3 _<|I.hok.fresh<|Ue _;rw[Yb,Lu]
 have:sizeLine=16777216:=Uu
 lia
def Hi(K:Ad):(R2):=λx y H Q=>∃a b xs ys,x=.ref a/\y=.ref b/\SqT K H a xs/\SqT K H b ys/\xs.f+ys.f<=sizeLine/\
 (xs=[]->Q ↑b H)/\(xs≠[]->ys=[]->Q ↑a H)/\(xs≠[]->ys≠[]->∀p,H p=none->Q ↑p (upd H p<|.tup<|xs++ys))
def Hh(K:Ad)(hk:X.K=K:=by rfl):Wy X (binaryOp .Add) (Hi K):=by
 intro pins s σ H x y v u Q I rx ry h;let(a,b,xs,ys,e1,e2,ha,hb,hz,q0,q1,q2):=id h;cases hx:xs=[]
 .subst hk e1 e2;cases rx;cases ry;let(XW,r1,p1,_):=I.tuple ha;let(VZ,r2,p2,_):=I.tuple hb;let hi:XW=[]:=r1.nil_iff.X hx
  let((cls,dd,data,sl),ho,hc,n,hd):=id p1;let((CT,Fg,data2,Ff),Th,UR,n2,hd2):=id p2;simp only at hc hd UR hd2;subst hc hd UR hd2;show xg {_,ho,Z} {_,Th,Z} sO seq_tuple_add tV tY (t7 _ _)
   (tuple_addW0 a b XW.C VZ.C n n2 dd Fg sl Ff<|by simp[hi]) {ho,Th,{.ref b,H,I,Z,q0 hx}}
 .show pj K hk pins s σ H x y v u Q I rx ry {a,b,xs,ys,e1,e2,ha,hb,hx,hz,q1 hx,q2 hx}
end
end L2
namespace My
open PySem L2
def BR(h:mk m a=mk m b):lm m a b=m:=by unfold lm;rw[if_neg λz=>z h]
def bV(ha:a<m.f)(hb:b<m.f):cnt m<=cnt (lm m a b)+1:=by
 cases e:mk m a=mk m b
 .rw[BR e];lia
 .have:=om ha hb e;lia
def vP:∀es:List (Nat×Nat),InN n es->n<=cnt (WQ n es)+es.f:=by
 show Ls (λ_=>?_) λes x ih hn=>?_
 .have:cnt (WQ n [])=n:=b8 n
  lia
 .let⟨h1,h2,h3⟩:=hn.snoc;let hl:=ZI n es
  have:=bV (m:=WQ n es) (a:=x.1) (b:=x.2) J J
  have:=ih h1
  rw[LB,Xy,YF,Fs];lia
def n8(h:1<=M.f):1<=cnt M:=by unfold cnt UW;show tU (a:=0) (Yn.X {YV.X J,XC.X λi hi=>absurd hi<|SW i})
def Jy(hn:1<=n)(h:InN n es):cnt (WQ n es)=1↔∀i j,i<n->j<n->Conn es i j:=by rw[oh (by rwa[ZI])];show b7 h
def bU(hn:ts.Nodup)(ho:o∈ts):(wo ts o).f+1=ts.f:=by
 induction ts with
 |nil=>cases ho
 |cons x r ih=>
  let(h1,h2):=OV.H hn;unfold wo;rw[YZ];cases e:x=o
  .subst e;rw[if_neg B]
   have:r.filter (λy=>decide<|y≠x)=r:=Ip.X λy hy=>Yx λe=>h1 (e▸hy)
   rw[this];rfl
  .rw[if_pos (Yx e)]
   have:=ih h2 ((Yf.H ho).resolve_left λz=>e z.symm)
   unfold wo at this;rw[YF,YF];lia
def Zt(ps:Aa)(z:Int):(Nat×Nat):=((ps.S z.j (0,0)).1.j,(ps.S z.j (0,0)).2.j)
def Sw(ps:Aa)(ns:Ac)(z:Int):XT ps (ns++[z])=XT ps ns++[Zt ps z]:=by unfold XT Zt;rw[YQ];rfl
def Sv(g:Zx n ps)(z0:0<=z)(z1:z<ps⁻¹):(Zt ps z).1<n.j/\(Zt ps z).2<n.j:=by
 have:=ZN (ns:=[z]) g (λy hy=>by rw[XD.H hy];exists z0,z1)
 show this (Zt ps z) (by unfold XT Zt;simp)
def BQ(hT:Zf n ps ts):∀y∈wo ts o,0<=y/\y<ps⁻¹:=λy hy=>hT.1.all y (Xi.H hy).1
def Hg(g:Zx n ps)(hT:Zf n ps ts)(ho:o∈ts)(z0:0<=z)(z1:z<ps⁻¹):
  (∀i j,i<n.j->j<n.j->Conn (XT ps<|wo ts o++[z]) i j)↔¬Conn (XT ps<|wo ts o) (Zt ps z).1 (Zt ps z).2:=by
 let hn:1<=n.j:=by have:=g.1;lia
 let hw:=bU hT.1.nodup ho;let hl:ts⁻¹=n-1:=hT.2.1
 let i0:InN n.j (XT ps<|wo ts o):=ZN g (BQ hT);let hz:=Sv g z0 z1
 let ob:=hT.1.all o ho;let Tf:=Sv g ob.1 ob.2
 let i1:InN n.j (XT ps (wo ts o)++[Zt ps z]):=λe he=>(XB.H he).elim (i0 e) λq=>by rwa[XD.H q]
 let i2:InN n.j (XT ps (wo ts o)++[Zt ps o]):=λe he=>(XB.H he).elim (i0 e) λq=>by rwa[XD.H q]
 let hL:=ZI n.j (XT ps<|wo ts o);let le:(XT ps<|wo ts o).f=(wo ts o).f:=by unfold XT;rw[Yb]
 rw[Sw];constructor
 .intro hc c;let h1:cnt (WQ n.j<|XT ps (wo ts o)++[Zt ps z])=1:=(Jy hn i1).X hc
  rw[LB,BR ((ZX i0 hz.1 hz.2).X c)]at h1
  have:=vP _ i0
  lia
 .intro hc;let h2:cnt (WQ n.j<|XT ps (wo ts o)++[Zt ps o])=1:=by
   show(Jy hn i2).X λi j hi hj=>?_;rw[<-Sw];show(Sx λy=>?_).H (hT.2.2 i j hi hj);rw[XB,Xi,XD];constructor
   .intro hy;cases e:y=o
    .show .inr e
    .show .inl ⟨hy,e⟩
   .rintro(q|q)
    .show q.1
    .rw[q];show ho
  rw[LB]at h2;let h3:=bV (m:=WQ n.j<|XT ps<|wo ts o) (a:=(Zt ps o).1) (b:=(Zt ps o).2) J J
  let h4:=om (m:=WQ n.j<|XT ps<|wo ts o) (a:=(Zt ps z).1) (b:=(Zt ps z).2) J J λe=>hc ((ZX i0 hz.1 hz.2).H e);let h5:=n8 (M:=lm (WQ n.j<|XT ps<|wo ts o) (Zt ps z).1 (Zt ps z).2) (by rw[wq];lia)
  show(Jy hn i1).H ?_;rw[LB];lia
def Su(n:Int)(ps:Aa)(ts:Ac)(o:Int):(Ac):=unlike (WQ n.j<|XT ps<|wo ts o) ps ps.f
def Zp6{z:Int}(h:z∈unlike M ps i):0<=z/\z<(i:Int):=by
 unfold unlike at h;let(k,hk,rfl):=YN.H h
 have:=YV.H (Yn.H hk).1
 lia
def MD(g:Zx n ps)(hT:Zf n ps ts)(z0:0<=z)(z1:z<ps⁻¹):z∈Su n ps ts o↔¬Conn (XT ps (wo ts o)) (Zt ps z).1 (Zt ps z).2:=by let hz:=Sv g z0 z1;unfold Su;rw[Zn6 z0 z1];show not_congr (ZX (ZN g<|BQ hT) hz.1 hz.2)
def exg(n:Int)(ps:Aa)(ts:Ac)(o z:Int):(Prop):=o∈ts/\z≠o/\z∈Su n ps ts o
instance (n:Int) (ps:Aa) (ts:Ac) (o z:Int):Decidable (exg n ps ts o z):=by unfold exg;infer_instance
def vN(g:Zx n ps)(hT:Zf n ps ts):
  exg n ps ts o z↔o∈ts/\z∉ts/\0<=z/\z<ps⁻¹/\∀i j,i<n.j->j<n.j->Conn (XT ps<|wo ts o++[z]) i j:=by
 constructor
 .rintro⟨h1,h2,h3⟩;let(z0,z1):=Zp6 h3;let hc:=(MD g hT z0 z1).H h3
  exists h1,λhz=>hc ?_,z0,z1,(Hg g hT h1 z0 z1).X hc;show .edge ?_;show YN.X {z,Xi.X ⟨hz,h2⟩,Z}
 .rintro⟨h1,h2,z0,z1,hc⟩;exists h1,λe=>h2<|e▸h1,(MD g hT z0 z1).X ((Hg g hT h1 z0 z1).H hc)
end My
namespace L2
open PySem PySem.Spec PyProof.Rows
section
variable{X:Cx}
def Hf(e:Addr->Bool):(V->Bool)
 | .ref a=>e a
 |_=>false
def BP(K:Ad):(R2):=λx y H Q=>∃n p xs e,y=.ref p/\SqL K H p xs/\n<=6/\(∀v∈xs,∃a,v=.ref a/\EqD K H n v x (e a))/\Q (.bl<|xs.any<|Hf e) H
def BO{e:Addr->Bool}:∀{xs:List V}{us:Ag},Vals xs us->(∀v∈xs,∃a,v=.ref a)->(us.any λu=>match u with | .ref a=>e a|_=>false)=xs.any (Hf e)
 |_,_,.nil,_=>rfl
 |x::xs,u::us,.cons r t,h=>by let(a,rfl):=h x Ye;let rfl:u=Value.ref a:=r;rw[IB,IB,BO t λv hv=>h v (Yg _ hv)];rfl
def BN{e:Addr->Bool}(I:Inv X pins σ H s)(hu:A.units+n<cLine)(rx:RelV x w){xs:List V}{us:Ag}(h0:Vals xs us)(h:∀v∈xs,∃a,v=.ref a/\EqD X.K H n v x (e a)):∀u∈us,SeqAt.EqAt A s u w (match u with | .ref a=>e a|_=>false):=by
 induction h0 with
 |nil=>intro u hu;cases hu
 |@cons y u xs us r t ih=>
  intro u' n6;rcases Yf.H n6 with rfl|n6
  .let⟨a,rfl,q⟩:=h y Ye;let rfl:u'=Value.ref a:=r;show q.at I hu Z rx
  .show ih (λv hv=>h v<|Yg _ hv) u' n6
def n5(K:Ad)(hu:X.A.units+8<cLine)(hk:X.K=K:=by rfl):Wy X (compareOp .In) (BP K):=by
 subst hk;intro pins s σ H x y v u Q I rx ry h;let(n,p,xs,e,rfl,hq,hn,he,q):=h;cases ry;let(XW,r,pl,hz):=I.list hq;show SeqAt.in_listAt (λu=>match u with | .ref a=>e a|_=>false) pl.isList (λw hw=>BN I (by change X.A.units+1+n<cLine;lia) rx r he w<|by simpa using hw) ⟨.bl _,H,I,Z,?_⟩
 rw[show XW.C.any (λu=>match u with | .ref a=>e a|_=>false)=XW.any (λu=>match u with | .ref a=>e a|_=>false) by simp,BO r λv hv=>by let(a,ea,_):=he v hv;exists a,ea]
 show q
end
end L2
namespace My
open PySem L2
def BM{o y:Int}(g:Zx n ps)(hT:Zf n ps ts)(ho:o∈ts)(hy:y∈ts):y∈Su n ps ts o↔y=o:=by
 let yb:=hT.1.all y hy;rw[MD g hT yb.1 yb.2];constructor
 .intro h;cases e:y=o
  .show e
  .show absurd (.edge<|YN.X {y,Xi.X ⟨hy,e⟩,Z}) h
 .rintro rfl;show(Hg g hT hy yb.1 yb.2).H λi j hi hj=>(Sx λz=>?_).H (hT.2.2 i j hi hj);rw[XB,Xi,XD];constructor
  .intro hz;cases e:z=y
   .show .inr e
   .show .inl ⟨hz,e⟩
  .rintro(q|q)
   .show q.1
   .rw[q];show hy
def Vk:y∈VN n ps ts z l↔y∈l/\z∈Su n ps ts y:=by unfold VN;rw[Yn,YX];show Iff.rfl
def nZ(g:Zx n ps)(hT:Zf n ps ts)(hx:exg n ps ts o z)(Tu:ms.Perm (wo ts o++[z]))(Lp:ms.E (·<=·)):Zf n ps ms:=by
 let(ho,hz,z0,z1,hc):=(vN g hT).H hx;let nd:(wo ts o++[z]).Nodup:=cI (hT.1.nodup.sublist Iq) λh=>hz (Xi.H h).1
 let ndm:ms.Nodup:=Tu.nodup_iff.X nd;let hl:=bU hT.1.nodup ho
 let Vb:=Tu.length_eq;rw[Xy,Yt]at Vb;show{XR.X {λy hy=>?_,(List.pairwise_and_iff.X ⟨Lp,ndm⟩).imp λ{x y} h=>by have:=h.1;have:=h.2;lia},by rw[Vb,hl];show hT.2.1,λi j hi hj=>(Sx λy=>Tu.mem_iff).X (hc i j hi hj)};rcases XB.H (Tu.mem_iff.H hy) with h|h
 .show hT.1.all y (Xi.H h).1
 .rw[XD.H h];exists z0,z1
section
variable{n:Int}{ps:Aa}{ts ms:Ac}{o z:Int}(g:Zx n ps)(hT:Zf n ps ts)(hx:exg n ps ts o z)(Tu:ms.Perm (wo ts o++[z]))(Lp:ms.E (·<=·))
include g hT hx Tu Lp
def vM{y:Int}:y∈ms↔(y∈ts/\y≠o)\/y=z:=by rw[Tu.mem_iff,XB,Xi,XD]
end
def Qo(n:Nat)(ps:Aa):(Nat->Ac)
 |0=>[]
 |k+1=>if mk (WQ n<|XT ps<|Qo n ps k) (Zt ps (k:Int)).1=mk (WQ n<|XT ps<|Qo n ps k) (Zt ps (k:Int)).2 then Qo n ps k else Qo n ps k++[(k:Int)]
def BL:∀{a b:Ac},a.f=b.f->HT.lexLt a b=true->∃p x y r s,a=p++x::r/\b=p++y::s/\x<y
 |[],[],_,h=>by cases h
 |[],_::_,e,_=>by simp at e
 |_::_,[],e,_=>by simp at e
 |x::xs,y::ys,e,h=>by
  rw[HT.Xq]at h;cases q:x=y
  .subst q;rw[if_pos Z]at h;let(p,u,v,r,s,e1,e2,e3):=BL (by simpa using e) h;exists x::p,u,v,r,s,by rw[e1];rfl,by rw[e2];rfl,e3
  .rw[if_neg q]at h;exists [],x,y,xs,ys,Z,Z,YG h
def WJ:∀{a b:Ac},HT.lexLt a b=false->HT.lexLt b a=false->a=b
 |[],[],_,_=>rfl
 |[],_::_,h,_=>by cases h
 |_::_,[],_,h=>by cases h
 |x::xs,y::ys,h1,h2=>by
  rw[HT.Xq]at h1 h2;cases q:x=y
  .subst q;rw[if_pos Z]at h1 h2;rw[WJ h1 h2]
  .rw[if_neg q]at h1;rw[if_neg λe=>q e.symm]at h2
   have:=of_decide_eq_false h1
   have:=of_decide_eq_false h2
   lia
def VV:∀{a b c:Ac},HT.lexLt a b=true->HT.lexLt b c=true->HT.lexLt a c=true
 |[],[],_,h,_=>by cases h
 |[],_::_,[],_,h=>by cases h
 |[],_::_,_::_,_,_=>rfl
 |_::_,[],_,h,_=>by cases h
 |_::_,_::_,[],_,h=>by cases h
 |x::xs,y::ys,z::zs,h1,h2=>by
  rw[HT.Xq]at h1 h2 ⊢;cases e1:x=y
  .subst e1;rw[if_pos Z]at h1;cases e2:x=z
   .subst e2;rw[if_pos Z]at h2 ⊢;show VV h1 h2
   .rw[if_neg e2]at h2 ⊢;show h2
  .rw[if_neg e1]at h1;let h1:=YG h1
   cases e2:y=z
   .subst e2;rw[if_neg e1];show Yx h1
   .rw[if_neg e2]at h2;let h2:=YG h2
    rw[if_neg J];show Yx sr
def Wq:∀a:Ac,HT.lexLt a a=false
 |[]=>rfl
 |x::xs=>by rw[HT.Xq,if_pos Z];show Wq xs
def Rh(bt:Nat->Nat->Bool):∀j,argBest bt j<=j
 |0=>XI _
 |j+1=>by
  unfold argBest;split
  .show XI _
  .have:=Rh bt j;lia
def Xh(H:Hp)(v:V)(l:Ac):(Prop):=∃a,v=.ref a/\H a=some (.tup<|IL l)
def TupsV(H:Hp)(xs:List V)(L:Ab):(Prop):=xs.f=L.f/\∀(i:Nat)(l:Ac),L[i]?=some l->∃v,xs[i]?=some v/\Xh H v l
def TupsV.same(s:Same H H')(h:TupsV H xs L):TupsV H' xs L:={h.1,λi l e=>by let(v,e1,a,e2,e3):=h.2 i l e;exists v,e1,a,e2,s _ _ e3}
def TupsV.at(h:TupsV H xs L){i:Nat}{v:V}(e:xs[i]?=some v):∃l,L[i]?=some l/\Xh H v l:=by
 let hi:i<xs.f:=(XA.H e).1;let hp:i<L.f:=by rwa[<-h.1]
 let(v',e1,q):=h.2 i L[i] (Xp hp);rw[e]at e1;cases e1;exists _,Xp hp,q
def TupsV.nil:TupsV H [] []:={Z,λi p e=>by simp at e}
def TupsV.app(h:TupsV H xs L)(h2:TupsV H ys M):TupsV H (xs++ys) (L++M):=by
 show{by rw[Xy,Xy,h.1,h2.1],λi l e=>?_};cases hi:i<L.f
 .rw[Yr hi]at e;let(v,e1,q):=h.2 i l e;exists v,by rw[Yr (by rwa[h.1])];show e1,q
 .rw[Yo J]at e;let(v,e1,q):=h2.2 _ l e;exists v,by rw[Yo (by rw[h.1];omega),h.1];show e1,q
def TupsV.one(q:Xh H v l):TupsV H [v] [l]:=⟨Z,λi m e=>by
 cases i with
 |zero=>have e:l=m:=(by simpa using e);exists v,Z,e▸q
 |succ i=>simp at e⟩
def TupsV.snoc(h:TupsV H xs L)(q:Xh H v l):TupsV H (xs++[v]) (L++[l]):=h.app (.one q)
def nY(hx:Xh H x a)(hy:Xh H y b):EqD K H 1 x y (decide (a=b)):=by let(t,rfl,ht):=hx;let(u,rfl,hu):=hy;show cx (SqT.of ht) (SqT.of hu)
def Ss(s:Ac):(Int):=match s.getLast? with|none=>0|some x=>x+1
def Tt(m:Int)(s:Ac):(Ab):=(List.range (m-Ss s).j).R λ(i:Nat)=>s++[Ss s+(i:Int)]
def Of(m:Int):(Nat->Ab)
 |0=>[[]]
 |k+1=>(Of m k).flatMap (Tt m)
def nX(s:Ac)(x:Int):Ss (s++[x])=x+1:=by unfold Ss;rw[List.getLast?_append];rfl
def VW{s l:Ac}:l∈Tt m s↔∃t,Ss s<=t/\t<m/\l=s++[t]:=by
 unfold Tt;rw[YN];constructor
 .rintro⟨i,hi,rfl⟩
  have:=YV.H hi
  exists _,J,sr,Z
 .rintro⟨t,h1,h2,rfl⟩;exists (t-Ss s).j,YV.X J,by rw[show Ss s+(((t-Ss s).j:Nat):Int)=t by lia]
def Sr{t:Int}:IsSet m (s++[t])↔IsSet m s/\Ss s<=t/\0<=t/\t<(m:Int):=by
 rw[XR,XR,YI];let last:(∀a∈s,∀b∈[t],a<b)/\s.E (·<·)->Ss s<=t\/t<0:=by
  rintro⟨h,_⟩;unfold Ss;cases e:s.getLast? with
  |none=>by_cases h0:0<=t;show .inl h0;show .inr J
  |some x=>have:=h x (tO e) t B;show .inl (by change x+1<=t;lia)
 constructor
 .rintro⟨h1,h2,_,h3⟩;let ht:=h1 t B
  exists {λz hz=>h1 z<|Yc _ hz,h2},?_,ht;rcases last ⟨h3,h2⟩ with h|h
  .show h
  .omega
 .rintro⟨⟨h1,h2⟩,h3,h4,h5⟩;exists λz hz=>?_,h2,IM ..,λa ha b hb=>?_
  .rcases XB.H hz with h|h
   .show h1 z h
   .rw[XD.H h];exists h4,h5
  .rw[XD.H hb];let key:∀{s:Ac}{a:Int},s.E (·<·)->a∈s->a<Ss s:=by
    show λ{s}=>Ls (P:=λs=>∀{a:Int},s.E (·<·)->a∈s->a<Ss s) (λ{a} _ h=>by cases h) (λl x ih {a} hp h=>?_) s;rw[nX];rw[YI]at hp;rcases XB.H h with h|h
    .have:=hp.2.2 a h x B;lia
    .rw[XD.H h];lia
   have:=key h2 ha
   lia
def VU{m:Nat}:∀{k:Nat}{l:Ac},l∈Of (m:Int) k↔l.f=k/\IsSet m l
 |0,l=>by
  change l∈[[]]↔_;rw[XD];constructor
  .rintro rfl;exists Z,λi z e=>by simp at e
  .rintro⟨h,_⟩;show YW.H h
 |k+1,l=>by
  change l∈(Of (m:Int) k).flatMap (Tt m)↔_;rw[List.mem_flatMap];constructor
  .rintro⟨s,hs,hl⟩;let(t,h1,h2,rfl):=VW.H hl;let(e,hI):=VU.H hs;let n0:0<=Ss s:=by
    unfold Ss;cases q:s.getLast? with
    |none=>show SO 0
    |some x=>have:=(hI.all x<|tO q).1;change 0<=x+1;lia
   exists by rw[Xy,e];rfl,Sr.X ⟨hI,h1,J,h2⟩
  .rintro⟨e,hI⟩;let XJ:l≠[]:=λz=>by rw[z]at e;simp at e
   obtain⟨s,t,rfl⟩:∃s t,l=s++[t]:={l.dropLast,l.getLast XJ,(eT XJ).symm};let(h1,h2,h3,h4):=Sr.H hI;exists s,VU.X {by rw[Xy]at e;simpa using e,h1},VW.mpr ⟨t,h2,h4,Z⟩
def nW(h:IsSet m s):(Tt (m:Int) s).f<=m:=by
 unfold Tt;rw[Yb,MW];let n0:0<=Ss s:=by
  unfold Ss;cases q:s.getLast? with
  |none=>show SO 0
  |some x=>have:=(h.all x<|tO q).1;change 0<=x+1;lia
 omega
def bT:∀L:Ab,(∀s∈L,IsSet m s)->(L.flatMap (Tt (m:Int))).f<=m*L.f
 |[],_=>Yi _
 |s::L,h=>by
  have:=bT L λx hx=>h x (Yg _ hx)
  have:=nW (h s Ye)
  rw[List.flatMap_cons,Xy,YF,Nat.mul_succ];lia
def Oe:∀{w t:Ac},t.E (·<·)->w.E (·<·)->(∀z∈t,z∈w)->t.Sublist w
 |[],[],_,_,_=>List.Sublist.slnil
 |[],x::t,_,_,h=>absurd (h x Ye) B
 |y::w,[],_,_,_=>List.nil_sublist _
 |y::w,x::t,ht,hw,h=>by
  let(h1,h2):=Wb.H ht;let(h3,h4):=Wb.H hw;cases e:x=y
  .subst e;show List.Sublist.cons₂ _ (Oe h2 h4 λz hz=>?_);rcases Yf.H (h z<|Yg _ hz) with q|q
   .have:=h1 z hz;lia
   .show q
  .let hx:x∈w:=(Yf.H<|h x Ye).resolve_left e;show List.Sublist.cons _ (Oe ht h4 λz hz=>?_);rcases Yf.H (h z hz) with q|q
   .have:=h3 x hx
    rcases Yf.H hz with q2|q2
    .rw[q2];show hx
    .have:=h1 z q2;lia
   .show q
def MC(M:Ac)(es:List (Nat×Nat)):(Ac):=es.foldl (λm e=>pm m e.1 e.2) M
def nV(M:Ac)(es:List (Nat×Nat))(e:Nat×Nat):MC M (es++[e])=pm (MC M es) e.1 e.2:=by unfold MC;rw[xJ];rfl
def ZP6(M:Ac):∀es:List (Nat×Nat),(MC M es).f=M.f:=by
 intro es;unfold MC
 induction es generalizing M with
 |nil=>rfl
 |cons e l ih=>rw[DR,ih,Cu]
def bS{i:Int}(h0:0<=i):Ww xs none (some i)=xs.M i.j:=by
 let e:HT.UN xs.f xs.f (some i)=min i.j xs.f:=by change(if i<0 then (i+xs⁻¹).j else min i.j xs.f)=_;rw[if_neg J]
 unfold Ww;rw[e,HT.SH,ID,xp];cases h:i.j<=xs.f
 .rw[IG h]
 .rw[tD J,YJ<|XI _,YJ sr]
def VI(m:Nat):(Ac):=(List.range m).R λ(i:Nat)=>(i:Int)
def Xx{z:Int}:z∈VI m↔0<=z/\z<(m:Int):=by
 unfold VI;rw[YN];constructor
 .rintro⟨i,hi,rfl⟩
  have:=YV.H hi
  lia
 .intro h;exists z.j,YV.X J,J
def ZP(m:Nat):(VI m).f=m:=by unfold VI;simp
def vL(m:Nat):(VI m).E (·<·):=by unfold VI;rw[SR];show Eh.imp λh=>sr
def EO(m:Nat):IsSet m (VI m):=XR.X {λz hz=>Xx.H hz,vL m}
def nU(m:Nat):Wr 0 (m:Int)=VI m:=by unfold Wr VI;rw[xk,YL];show VC λi _=>J
def He(n:Int)(ps:Aa):(Prop):=∀i j,i<n.j->j<n.j->Conn (XT ps<|VI ps.f) i j
end My
namespace L2
open PySem PySem.Spec PyProof.Rows
section
variable{prog:Program}{w:World}{A:Around}{E:Ae}{s:Shared}
def Zb6{r:Addr}{a b c:Int}{t u v:Tok}{n:Nat}{Q:List Value->Shared->Prop}(hh:A.handled=none)(hr:IsRange s.D r a b c t u v)(hm:Builtin.Range.small a b c=true)(hn:Builtin.Range.rangeSize a b c=n)(hl:n<=2^24)
  (k:∀h' tk acc,(∀b o,s.D.G b=some o->h'.G b=some o)->ItemsOf (λi v=>∃t,v=.int (a+i*c) t) acc n->Q acc.l {s with heap:=h',toks:=tk}):wpAny (model prog w) A (collect<|.ref r) Q E s:=by
 let Hj:(s.D.push<|seqObj "list" #[] 0).G (~~~s)=some (seqObj "list" #[] 0):=Yp _ rfl;unfold collect;show XU (xt<|RP sP ?_);change wpAny _ A.in1 (do again (.builtin "list.__iadd__" {[<-newList [],.ref r],[]})) _ _ s
 show XU (Mf<|Yh ⟨OP _ sC,RP entry_list_iadd' ?_⟩);change wpAny _ A.in1 (Builtin.List.listExtendWith (.ref (~~~s)) ↑r<|.ref (~~~s)) _ _ {s with heap:=s.D.push (seqObj "list" #[] 0)}
 show Ud (wpAny_extend_range (A:=A) (R:=λx s'=>∃h' tk acc c',x=.ok (.ret<|.ref (~~~s))/\s'={s with heap:=h',toks:=tk}/\(∀b o,s.D.G b=some o->h'.G b=some o)/\
   h'.G (~~~s)=some {cls:=.type "list",dict:=none,data:=.seq acc c',slots:=#[]}/\ItemsOf (λi v=>∃t,v=.int (a+i*c) t) acc n)
  (s:={s with heap:=s.D.push (seqObj "list" #[] 0)}) hh (Xf _ hr) hm hn hl _ _ 0 Hj λh' tk acc c' k1 k2 k3=>{h',tk,acc,c',Z,Z,λb o e=>k1 b o (YA<|Ym e)<|Xf _ e,k2,k3}) (λfin s' z=>?_) (λe s' z=>?_)
 .cases fin with
  |done f=>
   let(h',tk,acc,c',e,rfl,k1,k2,k3):=z;cases e;show XU (DD k2 ?_);show Yh (k h' tk acc k1 k3)
  |again c'=>
   exists z.1,Mb z.2 λx s2 z=>?_;let(h',tk,acc,c',rfl,rfl,k1,k2,k3):=z;show XU (DD k2 ?_);show Yh (k h' tk acc k1 k3)
 .let⟨h',tk,acc,c',e,_⟩:=z;cases e
def ZS3{r:Addr}{a b c:Int}{t u v:Tok}{n:Nat}(hm:Builtin.Range.small a b c=true)(hn:Builtin.Range.rangeSize a b c=n)(hl:n<=2^24):
  Meets (Builtin.«tuple.__new__» {[.type "tuple",.ref r],[]}) (λA R s=>A.handled=none/\IsRange s.D r a b c t u v/\∀(h':Heap)(tk:Nat)(acc:Array Value),(∀b o,s.D.G b=some o->h'.G b=some o)->ItemsOf (λi v=>∃t,v=.int (a+i*c) t) acc n->
   R (.ok<|.ret<|.ref h'.objs.t) {s with heap:=h'.push<|seqObj "tuple" acc 0,toks:=tk}):=
 .of_wp λprog w A R s h=>by
  let(hh,hr,h):=h;let e1:=sub_tuple_self
  let e2:=init_tuple_lookup;let e3:=madeHere_tuple
  let hT:s.TypeIs ↑r "range":={_,hr,Z};let BK:A.in1.handled=none:=hh
  wp_walk using DK hT,Zb6 BK hr hm hn hl
  intro h' tk acc hk Vz;change wpAny _ _ (Builtin.Tuple.tupleExact acc.l.C >>= ret) _ _ _
  unfold Builtin.Tuple.tupleExact;let e:acc.l.C=acc:=B
  rw[e];show XU (Mh ?_<|by change acc.t<=sizeLine;rwa[Vz.1,Uu]);show Yh {_,Z,h h' tk acc hk Vz}
def ZP2{r:Addr}{a b c:Int}{t u v:Tok}{n:Nat}{Q:Ae}(hh:A.handled=none)(hr:IsRange s.D r a b c t u v)(hm:Builtin.Range.small a b c=true)(hn:Builtin.Range.rangeSize a b c=n)(hl:n<=2^24)
  (k:∀(h':Heap)(tk:Nat)(acc:Array Value),(∀b o,s.D.G b=some o->h'.G b=some o)->ItemsOf (λi v=>∃t,v=.int (a+i*c) t) acc n->Q (.ref h'.objs.t) {s with heap:=h'.push<|seqObj "tuple" acc 0,toks:=tk}):wpAny (model prog w) A (call (.type "tuple") [.ref r]) Q E s:=
 callType_new F.called_tuple su (F.typeCall_tuple_1 _) (F.newCall_tuple_1 _) (λo=>F.args_object_init_2 o _) F.entry_tuple_new (ZS3 (t:=t) (u:=u) (v:=v) hm hn hl)
  {hh,hr,λh' tk acc hk Vz=>{{_,Yp _ Z,Z},k h' tk acc hk Vz}}
end
section
variable{X:Cx}
def Zu3(hc:X.calm=true):TB X (.type "tuple") (λxs H Q=>∃p lo hi,xs=[.ref p]/\H p=some (.rng lo hi)/\(-(2^62)<=lo/\lo<2^62/\-(2^62)<=hi/\hi<2^62)/\(hi-lo).j<=16777216/\
  ∀l,H l=none->Q ↑l (upd H l<|.tup<|(Wr lo hi).R V.int)):=by
 intro pins s σ H xs us Q I r h;let(p,lo,hi,rfl,hp,(b1,b2,b3,b4),hz,q):=h;let(u,rfl,ru):=SK r;let rfl:u=Value.ref p:=ru;let(t,u,v,e):=(show ObjOk X.prog X.w H s.D p (.rng lo hi) from I.hok p _ hp);let hn:Builtin.Range.rangeSize lo hi 1=(((hi-lo).j:Nat):Int):=by rw[rangeSize_one];split<;>grind
 show ZP2 (I.ok.hd hc) (t:=t) (u:=u) (v:=v) e (small_one b1 b2 b3 b4) hn hz λh' tk acc hk ha=>?_;let hl:acc.l.f=(hi-lo).j:=by rw[Ys];show ha.1
 let rv:Vals ((Wr lo hi).R V.int) acc.l:=cP (lo:=lo) hl λj w ew=>by let(t,e):=ha.2 j w (by simpa using ew);exists t,by rw[e,Ma]
 let I1:Inv X pins σ H {s with heap:=h',toks:=tk}:=I.kept (t':=tk) hk;let BJ:((Wr lo hi).R V.int).f<=sizeLine:=by
  rw[Yb,cQ]
  have:sizeLine=16777216:=Uu
  lia
 let I2:Inv X pins σ (upd H h'.objs.t<|.tup<|(Wr lo hi).R V.int) {s with heap:=h'.push<|seqObj "tuple" acc.l.C 0,toks:=tk}:=
  I1.laid (t':=tk) (λb o e=>Xf _ e) (XI _) (show ObjOk X.prog X.w _ _ _ (.tup<|(Wr lo hi).R V.int) from{BJ,acc.l,rv,IsTup.new _ _})
 let ea:acc.l.C=acc:=B;rw[ea]at I2;exists .ref h'.objs.t,_,I2,Z,q _<|I1.hok.fresh<|XI _
end
end L2
namespace My
open PySem L2
def RB(n:Nat)(ps:Aa)(G:Ac)(z:Int):(Ac):=if mk (WQ n<|XT ps G) (Zt ps z).1=mk (WQ n<|XT ps G) (Zt ps z).2 then G else G++[z]
def WI(n:Nat)(ps:Aa)(zs:Ac):(Ac):=zs.foldl (RB n ps) []
def Lo(n:Nat)(ps:Aa)(zs:Ac)(z:Int):WI n ps (zs++[z])=RB n ps (WI n ps zs) z:=by unfold WI;rw[xJ];rfl
def vK(n:Nat)(ps:Aa)(zs:Ac):∀ys,∃us,WI n ps (zs++ys)=WI n ps zs++us/\us.Sublist ys:=by
 show Ls {[],B} λys y ih=>?_;let(us,e,s):=ih;rw[<-Yu,Lo,e];unfold RB;split
 .exists us,Z,s.m<|List.sublist_append_left _ _
 .exists us++[y],by rw[Yu],s.append<|List.Sublist.refl _
def BI(n:Nat)(ps:Aa)(zs:Ac):(WI n ps zs).Sublist zs:=by let(us,e,s):=vK n ps [] zs;rw[OU]at e;rwa[e]
def nS(h:∀z∈zs,0<=z/\z<ps⁻¹):∀z∈WI n ps zs,0<=z/\z<ps⁻¹:=λz hz=>h z ((BI n ps zs).subset hz)
def Ql(g:Zx n ps)(h:∀z∈zs,0<=z/\z<ps⁻¹):InN n.j (XT ps (WI n.j ps zs)):=ZN g (nS h)
def vJ(g:Zx n ps):∀zs:Ac,(∀z∈zs,0<=z/\z<ps⁻¹)->cnt (WQ n.j (XT ps (WI n.j ps zs)))+(WI n.j ps zs).f=n.j:=by
 show Ls (λ_=>b8 n.j) λzs z ih h=>?_;let h1:∀z∈zs,0<=z/\z<ps⁻¹:=λy hy=>h y (Yc _ hy)
 let ih:=ih h1;let(z0,z1):=h z (Yd _<|XD.X Z);let he:=Sv (z:=z) g z0 z1
 let hl:=ZI n.j (XT ps<|WI n.j ps zs);rw[Lo];unfold RB;split
 .show ih
 .rename_i h;rw[Sw,LB,Xy,Yt]
  have:=om (m:=WQ n.j<|XT ps<|WI n.j ps zs) J J h
  grind
def bR(g:Zx n ps)(h:∀z∈zs,0<=z/\z<ps⁻¹):(WI n.j ps zs).f<=14:=by
 have:=vJ g zs h
 have:=g.2.1
 lia
def nR(g:Zx n ps):∀zs:Ac,(∀z∈zs,0<=z/\z<ps⁻¹)->∀{i j:Nat},Conn (XT ps zs) i j->Conn (XT ps (WI n.j ps zs)) i j:=by
 show Ls (λ_ _ _ c=>c) λzs z IH h i j c=>?_;let h1:∀z∈zs,0<=z/\z<ps⁻¹:=λy hy=>h y (Yc _ hy)
 let(z0,z1):=h z (Yd _<|XD.X Z);let he:=Sv (z:=z) g z0 z1
 let up:∀{a b:Nat},Conn (XT ps<|WI n.j ps zs) a b->Conn (XT ps<|WI n.j ps<|zs++[z]) a b:=λc=>by
  rw[Lo];unfold RB;split
  .show c
  .show c.mono (ZR λy hy=>Yc _ hy)
 let own:Conn (XT ps<|WI n.j ps<|zs++[z]) (Zt ps z).1 (Zt ps z).2:=by
  rw[Lo];unfold RB;split
  .rename_i e;show(ZX (Ql g h1) he.1 he.2).H e
  .rw[Sw];show .edge (Yd _<|XD.X Z)
 induction c with
 |refl i=>show .refl i
 |symm _ ih=>show .symm ih
 |trans _ _ i1 i2=>show .trans i1 i2
 |@edge a b e=>
  rw[Sw]at e;rcases XB.H e with e|e
  .show up (IH h1<|.edge e)
  .let e:=XD.H e;let ea:a=(Zt ps z).1:=QP Prod.fst e
   let eb:b=(Zt ps z).2:=QP Prod.snd e;rwa[ea,eb]
end My
namespace PyProof.Rows
open PySem
def Qk:(Bool->Keyed->Array Keyed->Nat->Nat->Nat->StateT SortSt Sem (Option Nat)):=sortPriv% PySem.Builtin.gallop
def BH:(Array Keyed->Array Keyed->StateT SortSt Sem (Array Keyed)):=sortPriv% PySem.Builtin.mergeLo
def BG:(Array Keyed->Array Keyed->StateT SortSt Sem (Array Keyed)):=sortPriv% PySem.Builtin.mergeHi
def WA(M:Model)(A:Around)(E:Ae)(s:Shared)(O:KeyOrd)(key:Keyed->O.α)(kd:SortKind)(S:Keyed->Prop):(Prop):=
 ∀x y st Q,S x->S y->kindOf st=kd->Q (some<|O.blt (key x)<|key y) st->wpS M A E s (lt' x y) Q st
abbrev dK:Keyed:=(Value.none,Value.none)
section
variable{M:Model}{A:Around}{E:Ae}{s:Shared}{O:KeyOrd}{key:Keyed->O.α}{kd:SortKind}{S:Keyed->Prop}
def ke(key:Keyed->O.α)(arr:Array Keyed)(i:Nat):(O.α):=key (arr.S i dK)
def UE{p:Keyed}(h:arr[i]?=some p):ke key arr i=key p:=by unfold ke;rw[Yy,h];rfl
def Zu{p:Keyed}{Q:Keyed->SortSt->Prop}{st:SortSt}(h:arr[i]?=some p)(q:Q p st):wpS M A E s (elem' arr i) Q st:=by rw[elem'_eq,h];show YM q
def beyB(O:KeyOrd)(key:Keyed->O.α)(left:Bool)(kx:Keyed)(arr:Array Keyed)(j:Nat):(Bool):=if left then O.blt (ke key arr j) (key kx) else !O.blt (key kx) (ke key arr j)
def nQ(h:O.kle (ke key arr i) (ke key arr j))(hb:beyB O key left kx arr j=true):beyB O key left kx arr i=true:=by
 unfold beyB at *;cases left with
 |true=>
  simp only[LS]at *;show KeyOrd.klt_of_kle_of_klt h hb
 |false=>
  simp only[Pz,Rm,OQ]at *;show Wi h hb
def EN(L:WA M A E s O key kd S){st:SortSt}{Q:Option Nat->SortSt->Prop}(hk:kindOf st=kd)(hS:S kx)(hA:∀i,i<n->∃p,arr[base+i]?=some p/\S p)(hh:hint<n)
  (hm:∀i j,i<=j->j<n->O.kle (ke key arr<|base+i) (ke key arr<|base+j))
  (h:∀k,k<=n->(∀i,i<k->beyB O key left kx arr (base+i)=true)->(∀i,k<=i->i<n->beyB O key left kx arr (base+i)=false)->Q (some k) st):wpS M A E s (Qk left kx arr base n hint) Q st:=by
 let BF:∀i,i<n->∀Q,Q (some<|beyB O key left kx arr<|base+i) st->
   wpS M A E s (do let x <-elem' arr (base+i);if left=true then lt' x kx else do let r <-lt' kx x;pure (Option.R (λx=>!x) r)) Q st:=λi hi Q q=>by
  let(p,e,hp):=hA i hi;show Yz (Zu e ?_);unfold beyB at q;rw[UE e]at q;cases left with
  |true=>
   rw[if_pos Z];show L _ _ _ _ hp hS hk q
  |false=>
   rw[if_neg B];show Yz (L _ _ _ _ hS hp hk<|YM q)
 let dn:∀{i j:Nat},i<=j->j<n->beyB O key left kx arr (base+j)=true->beyB O key left kx arr (base+i)=true:=λWL hj hb=>nQ (hm _ _ WL hj) hb;let up:∀{i j:Nat},i<=j->j<n->beyB O key left kx arr (base+i)=false->beyB O key left kx arr (base+j)=false:=λ{i j} WL hj hb=>by
  cases e:beyB O key left kx arr (base+j) with
  |false=>rfl
  |true=>rw[dn WL hj e]at hb;cases hb
 generalize hB:(λj=>beyB O key left kx arr<|base+j)=sj at *;let eB:∀j,beyB O key left kx arr (base+j)=sj j:=λj=>congrFun hB j
 simp only[eB]at BF dn up h;let last:∀lo hi,lo<=hi->hi<=n->(∀i,i<lo->sj i=true)->(∀i,hi<=i->i<n->sj i=false)->∀f,(∀lo hi,f (none,lo,hi)=pure (some hi))->
   wpS M A E s (forIn [0:n] ((none,lo,hi):Option (Option Nat)×Nat×Nat) (λ_ r=>if r.2.1 >= r.2.2 then pure (ForInStep.done (none,r.2.1,r.2.2)) else do
    let x <-(do let x <-elem' arr (base+(r.2.1+(r.2.2-r.2.1)/2));if left=true then lt' x kx else do let r <-lt' kx x;pure (Option.R (λx=>!x) r))
    match x with
    |some more=>if more=true then pure (ForInStep.yield (none,r.2.1+(r.2.2-r.2.1)/2+1,r.2.2)) else pure (ForInStep.yield (none,r.2.1,r.2.1+(r.2.2-r.2.1)/2))
    |_=>pure<|ForInStep.done (some none,r.2.1,r.2.2)) >>= f) Q st:=by
  intro lo hi h1 h2 h3 h4 f hf;show Yz (RJ (SU (I:=λx c XQ=>XQ=st/\∃l r,c=(none,l,r)/\l<=r/\r<=n/\r-l<=n-x/\(∀i,i<l->sj i=true)/\(∀i,r<=i->i<n->sj i=false))
   (Q:=λc XQ=>XQ=st/\∃r,c=(none,r,r)/\r<=n/\(∀i,i<r->sj i=true)/\(∀i,r<=i->i<n->sj i=false)) ?_ ?_ ⟨Z,lo,hi,Z,h1,h2,sD,h3,h4⟩) ?_)
  .rintro x c XQ _ hx ⟨rfl,l,r,rfl,a1,a2,a3,a4,a5⟩;dsimp only;cases hc:l >= r
   .rw[if_pos hc]
    have:l=r:=J
    subst this;show YM ⟨Z,l,Z,a2,a4,a5⟩
   .rw[if_neg hc];show Yz (BF _ sD _ ?_);dsimp only;cases e:sj (l+(r-l)/2) with
    |true=>
     rw[if_pos Z];show YM {Z,_,_,Z,sD,a2,sD,λi hi=>dn (j:=l+(r-l)/2) J sD e,a5}
    |false=>
     rw[if_neg B];show YM {Z,_,_,Z,J,sD,sD,a4,λi hi Wj=>up (i:=l+(r-l)/2) hi Wj e}
  .rintro c XQ ⟨rfl,l,r,rfl,a1,a2,a3,a4,a5⟩
   have:l=r:=sD
   subst this;exists Z,l,Z,a2,a4,a5
  .rintro c XQ ⟨rfl,r,rfl,a2,a4,a5⟩;rw[hf];show YM (h r a2 a4 a5)
 unfold Qk;show Yz (BF hint hh _ ?_);dsimp only;cases e0:sj hint with
 |true=>
  rw[if_pos Z];show Yz (RJ (SU (I:=λx c XQ=>XQ=st/\∃l o,c=(none,l,o)/\l<o/\hint+l<n/\x+1<=o/\sj (hint+l)=true)
   (Q:=λc XQ=>XQ=st/\∃l o,c=(none,l,o)/\l<o/\hint+l<n/\sj (hint+l)=true/\(n-hint<=o\/sj (hint+o)=false)) ?_ ?_ ⟨Z,0,1,Z,sr,J,J,e0⟩) ?_)
  .rintro x c XQ _ hx ⟨rfl,l,o,rfl,a1,a2,a3,a4⟩;dsimp only;cases hc:o >= n-hint
   .rw[if_pos hc];show YM {Z,l,o,Z,a1,a2,a4,.inl hc}
   .rw[if_neg hc];show Yz (BF _ sD _ ?_);dsimp only;cases e:sj (hint+o) with
    |false=>
     rw[if_pos su];show YM {Z,l,o,Z,a1,a2,a4,.inr e}
    |true=>
     rw[if_neg su];show YM {Z,o,2*o+1,Z,J,sr,J,e}
  .rintro c XQ ⟨rfl,l,o,rfl,a1,a2,a3,a4⟩;exists Z,l,o,Z,a1,a2,a4,.inl sD
  .rintro c XQ ⟨rfl,l,o,rfl,a1,a2,a4,a5⟩;dsimp only;show last _ _ J J (λi hi=>dn (j:=hint+l) J a2 a4) (λi hi Wj=>?_) _ λ_ _=>rfl;rcases a5 with a5|a5
   .lia
   .cases h9:n-hint<=o
    .omega
    .show up (i:=hint+o) sD Wj a5
 |false=>
  rw[if_neg B];show Yz (RJ (SU (I:=λx c XQ=>XQ=st/\∃l o,c=(none,l,o)/\l<o/\l<=hint/\x+1<=o/\sj (hint-l)=false)
   (Q:=λc XQ=>XQ=st/\∃l o,c=(none,l,o)/\l<o/\l<=hint/\sj (hint-l)=false/\(hint+1<=o\/(o<=hint/\sj (hint-o)=true))) ?_ ?_ ⟨Z,0,1,Z,sr,J,sr,e0⟩) ?_)
  .rintro x c XQ _ hx ⟨rfl,l,o,rfl,a1,a2,a3,a4⟩;dsimp only;cases hc:o >= hint+1
   .rw[if_pos hc];show YM {Z,l,o,Z,a1,a2,a4,.inl hc}
   .rw[if_neg hc];show Yz (BF _ sD _ ?_);dsimp only;cases e:sj (hint-o) with
    |true=>
     rw[if_pos Z];show YM {Z,l,o,Z,a1,a2,a4,.inr ⟨J,e⟩}
    |false=>
     rw[if_neg B];show YM {Z,o,2*o+1,Z,sr,sr,sr,e}
  .rintro c XQ ⟨rfl,l,o,rfl,a1,a2,a3,a4⟩;exists Z,l,o,Z,a1,a2,a4,.inl J
  .rintro c XQ ⟨rfl,l,o,rfl,a1,a2,a4,a5⟩;dsimp only;show last _ _ sr sD (λi hi=>?_) (λi hi Wj=>up (i:=hint-l) J Wj a4) _ λ_ _=>rfl;rcases a5 with a5|⟨a5,a6⟩
   .lia
   .show dn (j:=hint-o) sD sD a6
def RK(O:KeyOrd)(key:Keyed->O.α)(x y:Keyed):(Prop):=O.kle (key x) (key y)
structure MI(O:KeyOrd)(key:Keyed->O.α)(la lb:List Keyed)(out:Array Keyed)(ia ib:Nat):Prop where
 so:out.l.E (RK O key)
 oa:∀x∈out.l,∀y∈la.drop ia,RK O key x y
 ob:∀x∈out.l,∀y∈lb.drop ib,RK O key x y
 pm:(out.l++la.drop ia++lb.drop ib).Perm (la++lb)
def WS(O:KeyOrd)(key:Keyed->O.α)(la lb:List Keyed)(r:Array Keyed):(Prop):=r.l.E (RK O key)/\r.l.Perm (la++lb)
def BE{la:List Keyed}(h:la.E (RK O key))(i k:Nat):((la.drop i).M k).E (RK O key)/\∀x∈(la.drop i).M k,∀y∈la.drop (i+k),RK O key x y:=by let h1:(la.drop i).E (RK O key):=h.sublist (DV i la);rw[<-Mo k (la.drop i),YI,DP]at h1;exists h1.1,h1.2.2
def bQ{α:Type}{la:List α}{i k:Nat}{y:α}(h:y∈la.drop (i+k)):y∈la.drop i:=by rw[<-DP]at h;show Mn h
def MI.a(h:MI O key la lb out ia ib)(sa:la.E (RK O key))(k:Nat)(hx:∀x∈(la.drop ia).M k,∀y∈lb.drop ib,RK O key x y)(e:out'.l=out.l++(la.drop ia).M k):MI O key la lb out' (ia+k) ib:=by
 let(p1,p2):=BE sa ia k;exists ?_,?_,?_,?_
 .rw[e,YI];exists h.so,p1,λx hx y hy=>h.oa x hx y<|Vq hy
 .intro x Xo y hy;rw[e,XB]at Xo;rcases Xo with Xo|Xo
  .show h.oa x Xo y (bQ hy)
  .show p2 x Xo y hy
 .intro x Xo y hy;rw[e,XB]at Xo;rcases Xo with Xo|Xo
  .show h.ob x Xo y hy
  .show hx x Xo y hy
 .rw[e,Yu out.l,<-DP,Mo];show h.pm
def MI.b(h:MI O key la lb out ia ib)(sb:lb.E (RK O key))(k:Nat)(hx:∀x∈(lb.drop ib).M k,∀y∈la.drop ia,RK O key x y)(e:out'.l=out.l++(lb.drop ib).M k):MI O key la lb out' ia (ib+k):=by
 let(p1,p2):=BE sb ib k;exists ?_,?_,?_,?_
 .rw[e,YI];exists h.so,p1,λx hx y hy=>h.ob x hx y<|Vq hy
 .intro x Xo y hy;rw[e,XB]at Xo;rcases Xo with Xo|Xo
  .show h.oa x Xo y hy
  .show hx x Xo y hy
 .intro x Xo y hy;rw[e,XB]at Xo;rcases Xo with Xo|Xo
  .show h.ob x Xo y (bQ hy)
  .show p2 x Xo y hy
 .show List.Perm.m ?_ h.pm;rw[e,<-DP];show List.Perm.m (l₂:=out.l++la.drop ia++((lb.drop ib).M k++(lb.drop ib).drop k)) ?_ (by rw[Mo]);rw[Yu,Yu,Yu];show MZ _ ?_;rw[<-Yu,<-Yu];show Eg _ Ef
def Ln(a:Array Keyed)(i:Nat):(a.Q i a.t).l=a.l.drop i:=by rw[Fw,Fy];show YJ B
def bP(a:Array Keyed)(i k:Nat):(a.Q i (i+k)).l=(a.l.drop i).M k:=by rw[Fw,Fy,tX]
def MI.last{a b out:Array Keyed}(h:MI O key a.l b.l out ia ib)(sa:a.l.E (RK O key))(sb:b.l.E (RK O key))(hx:∀x∈b.l.drop ib,∀y∈a.l.drop ia,RK O key x y):WS O key a.l b.l (out++b.Q ib b.t++a.Q ia a.t):=by
 let e1:(b.l.drop ib).M b.t=b.l.drop ib:=YJ B;let e2:(a.l.drop ia).M a.t=a.l.drop ia:=YJ B
 let d1:b.l.drop (ib+b.t)=[]:=YK B;let d2:a.l.drop (ia+a.t)=[]:=YK B
 let h1:=h.b sb b.t (by rwa[e1]) (out':=out++b.Q ib b.t) (by rw[PD,Ln,e1]);let h2:=h1.a sa a.t (by rw[d1];intro _ _ _ hy;cases hy) (out':=out++b.Q ib b.t++a.Q ia a.t) (by rw[PD,Ln,e2])
 let p:=h2.pm;rw[d1,d2,YB,YB]at p;exists h2.so,p
def MI.done{a b out:Array Keyed}(h:MI O key a.l b.l out ia ib)(sa:a.l.E (RK O key))(sb:b.l.E (RK O key))(hx:b.l.drop ib=[]\/a.l.drop ia=[]):WS O key a.l b.l (out++a.Q ia a.t++b.Q ib b.t):=by
 let e1:(b.l.drop ib).M b.t=b.l.drop ib:=YJ B;let e2:(a.l.drop ia).M a.t=a.l.drop ia:=YJ B
 let d1:b.l.drop (ib+b.t)=[]:=YK B;let d2:a.l.drop (ia+a.t)=[]:=YK B
 let h1:=h.a sa a.t (by rw[e2];intro x Xo y hy;rcases hx with hx|hx;(rw[hx]at hy;cases hy);(rw[hx]at Xo;cases Xo)) (out':=out++a.Q ia a.t) (by rw[PD,Ln,e2])
 let h2:=h1.b sb b.t (by rw[d2];intro _ _ _ hy;cases hy) (out':=out++a.Q ia a.t++b.Q ib b.t) (by rw[PD,Ln,e1]);let p:=h2.pm
 rw[d1,d2,YB,YB]at p;exists h2.so,p
def Lm{a:Array Keyed}{p:Keyed}(h:a[i]?=some p):(a.l.drop i).M 1=[p]:=by
 let h':a.l[i]?=some p:=by simpa using h
 let(hi,e):=XA.H h';rw[Ki hi,e];rfl
def Ll{a:Array Keyed}{p:Keyed}(sa:a.l.E (RK O key))(h:a[i]?=some p):∀y∈a.l.drop i,RK O key p y:=by
 let h':a.l[i]?=some p:=by simpa using h
 let(hi,e):=XA.H h';let h1:(a.l.drop i).E (RK O key):=sa.sublist (DV i _)
 rw[Ki hi,e]at h1 ⊢;intro y hy;rcases Yf.H hy with rfl|hy
 .show Px _
 .show(Wb.H h1).1 y hy
def BD{a:Array Keyed}{i k:Nat}{x:Keyed}(h:x∈(a.l.drop i).M k):∃j,j<k/\a[i+j]?=some x:=by
 let(j,hj):=Yv h;let UH:=(XA.H hj).1
 rw[Yl]at UH;rw[OY,if_pos sD,SS]at hj;exists j,sr,by simpa using hj
def bO{a:Array Keyed}{x:Keyed}(h:x∈a.l.drop i):∃j,i<=j/\j<a.t/\a[j]?=some x:=by
 let(j,hj):=Yv h;rw[SS]at hj;let UH:=(XA.H hj).1
 exists i+j,J,by simpa using UH,by simpa using hj
def BC(sa:a.l.E (RK O key))(WL:i<=j)(hj:j<a.t):O.kle (ke key a i) (ke key a j):=by
 let hi:i<a.t:=J;rw[UE (To a i hi),UE (To a j hj)];cases e:i=j
 .subst e;show Px _
 .have:=Kj.H sa i j (by simpa using hi) (by simpa using hj) J
  simpa[RK] using this
def Od:(Nat->StateT SortSt Sem Unit):=sortPriv% PySem.Builtin.setMinGallop
def Lk{E:Ae}{st:SortSt}{Q:Unit->SortSt->Prop}(h:Q () (SortSt.mk' (kindOf st) (arrOf st) (pendingOf st) g (failedOf st))):wpS M A E s (Od g) Q st:=OO h
abbrev Jx:=Option (Array Keyed)×Array Keyed×Nat×Nat×Nat×Nat×Nat
def Lj(a b out:Array Keyed)(ia ib g ac bc:Nat):(StateT SortSt Sem (ForInStep Jx)):=elem' a ia >>= λx=>
 if (ia+1+1 == a.t)=true then pure (.done (some<|out.push x++b.Q ib b.t++a.Q (ia+1) a.t,out.push x,ia+1,ib,g,ac,bc))
 else if (decide (ac<7)&&decide (bc<7))=true then pure (.done (none,out.push x,ia+1,ib,g,ac,bc)) else pure (.yield (none,out.push x,ia+1,ib,g,ac,bc))
def Li(a b out:Array Keyed)(ia ib g ac bc:Nat):(StateT SortSt Sem (ForInStep Jx)):=elem' b ib >>= λx=>
 if (ib+1 == b.t)=true then pure (.done (some<|out.push x++a.Q ia a.t++b.Q (ib+1) b.t,out.push x,ia,ib+1,g,ac,bc))
 else elem' a ia >>= λy=>Qk true y b (ib+1) (b.t-(ib+1)) 0 >>= λr=>match r with
  |some k=>if k>0 then
    if (ib+1+k == b.t)=true then pure (.done (some<|out.push x++b.Q (ib+1) (ib+1+k)++a.Q ia a.t++b.Q (ib+1+k) b.t,out.push x++b.Q (ib+1) (ib+1+k),ia,ib+1+k,g,ac,k))
    else Lj a b (out.push x++b.Q (ib+1) (ib+1+k)) ia (ib+1+k) g ac k
   else Lj a b (out.push x) ia (ib+1) g ac k
  |_=>pure (.done (some<|out.push x++a.Q ia a.t++b.Q (ib+1) b.t,out.push x,ia,ib+1,g,ac,bc))
def Sq(a b out:Array Keyed)(ia ib g ac bc:Nat):(StateT SortSt Sem (ForInStep Jx)):=Od g >>= λ_=>elem' b ib >>= λx=>Qk false x a ia (a.t-ia) 0 >>= λr=>match r with
 |some k=>if k>0 then
   if (ia+k+1 == a.t)=true then pure (.done (some<|out++a.Q ia (ia+k)++b.Q ib b.t++a.Q (ia+k) a.t,out++a.Q ia (ia+k),ia+k,ib,g,k,bc))
   else if (ia+k == a.t)=true then pure (.done (some<|out++a.Q ia (ia+k)++a.Q (ia+k) a.t++b.Q ib b.t,out++a.Q ia (ia+k),ia+k,ib,g,k,bc))
   else Li a b (out++a.Q ia (ia+k)) (ia+k) ib g k bc
  else Li a b out ia ib g k bc
 |_=>pure (.done (some<|out++a.Q ia a.t++b.Q ib b.t,out,ia,ib,g,ac,bc))
def Zv{α σ:Type}{c:Prop}[Decidable c]{x y:StateT σ Sem α}{Q:α->σ->Prop}{st:σ}(hc:c)(h:wpS M A E s x Q st):wpS M A E s (if c then x else y) Q st:=by rwa[if_pos hc]
def ZO{α σ:Type}{c:Prop}[Decidable c]{x y:StateT σ Sem α}{Q:α->σ->Prop}{st:σ}(hc:¬c)(h:wpS M A E s y Q st):wpS M A E s (if c then x else y) Q st:=by rwa[if_neg hc]
section
variable{a b out:Array Keyed}{ia ib:Nat}{st:SortSt}{R:ForInStep Jx->SortSt->Prop}
def bM{pa:Keyed}(sa:a.l.E (RK O key))(sb:b.l.E (RK O key))(h2:∀x∈b.l,∀y∈a.l.drop (a.t-1),RK O key x y)(ea:a[ia]?=some pa)(MB:ia+1<a.t)(Oc:ib<b.t)(m:MI O key a.l b.l out ia ib)(below:∀y∈b.l.drop ib,RK O key pa y)
  (hd:∀r z,WS O key a.l b.l r->R (.done (some r,z)) st)(hn:∀o2 i2 j2 g3 a3 b3,MI O key a.l b.l o2 i2 j2->i2+1<a.t->j2<b.t->a.t-i2+(b.t-j2)<=a.t-ia+(b.t-ib)->R (.done (none,o2,i2,j2,g3,a3,b3)) st/\R (.yield (none,o2,i2,j2,g3,a3,b3)) st):wpS M A E s (Lj a b out ia ib g ac bc) R st:=by
 unfold Lj;show Yz (Zu ea ?_);let m5:MI O key a.l b.l (out.push pa) (ia+1) ib:=m.a sa 1 (by rw[Lm ea];intro x hx y hy;rw[XD.H hx];show below y hy) (by rw[Lm ea,RQ])
 cases d5:ia+1+1=a.t
 .show Zv (by simpa using d5) (YM<|hd _ _<|m5.last sa sb λx hx y hy=>h2 x (Mn hx) y<|by rwa[show a.t-1=ia+1 by lia])
 .show ZO (by simpa using d5) ?_;let z:=λg3 a3 b3=>hn _ _ _ g3 a3 b3 m5 J Oc sD
  split
  .show YM (z _ _ _).1
  .show YM (z _ _ _).2
def bL(L:WA M A E s O key kd S){pb:Keyed}(hk:kindOf st=kd)(Vj:∀x∈a.l,S x)(Vi:∀x∈b.l,S x)(sa:a.l.E (RK O key))(sb:b.l.E (RK O key))(h2:∀x∈b.l,∀y∈a.l.drop (a.t-1),RK O key x y)(eb:b[ib]?=some pb)(MB:ia+1<a.t)(Oc:ib<b.t)(m:MI O key a.l b.l out ia ib)(above:∀y∈a.l.drop ia,RK O key pb y)
  (hd:∀r z,WS O key a.l b.l r->R (.done (some r,z)) st)(hn:∀o2 i2 j2 g3 a3 b3,MI O key a.l b.l o2 i2 j2->i2+1<a.t->j2<b.t->a.t-i2+(b.t-j2)<=a.t-ia+(b.t-ib)->R (.done (none,o2,i2,j2,g3,a3,b3)) st/\R (.yield (none,o2,i2,j2,g3,a3,b3)) st):wpS M A E s (Li a b out ia ib g ac bc) R st:=by
 let BB:∀{i},i=b.t->b.l.drop i=[]:=λe=>YK (by simp[e]);unfold Li;show Yz (Zu eb ?_);let m3:MI O key a.l b.l (out.push pb) ia (ib+1):=m.b sb 1 (by rw[Lm eb];intro x hx y hy;rw[XD.H hx];show above y hy) (by rw[Lm eb,RQ])
 cases d3:ib+1=b.t
 .show Zv (by simpa using d3) (YM<|hd _ _<|m3.done sa sb<|.inl<|BB d3)
 show ZO (by simpa using d3) ?_;let ea:a[ia]?=some a[ia]:=To a ia sr
 let ET:S a[ia]:=Vj _ B;show Yz (Zu ea ?_);show Yz (EN L hk ET (λi hi=>{b[ib+1+i],To b _ sr,Vi _ B}) sD (λi j WL hj=>BC sb J sD) λkk MA Vb Hd=>?_);dsimp only;let below:∀y∈b.l.drop (ib+1+kk),RK O key a[ia] y:=λy hy=>by
  let(j,j1,j2,ey):=bO hy
  have:=Hd (j-(ib+1)) J sr
  unfold beyB at this;rwa[show ib+1+(j-(ib+1))=j by lia,UE ey]at this
 cases Ob:kk>0
 .show Zv Ob ?_;let m4:MI O key a.l b.l (out.push pb++b.Q (ib+1) (ib+1+kk)) ia (ib+1+kk):=m3.b sb kk (λx hx y hy=>by
   let(j,hj,ex):=BD hx
   have:=Vb j hj
   unfold beyB at this;rw[UE ex]at this;show Wi (Py this)<|Ll sa ea y hy) (by rw[PD,bP])
  cases d4:ib+1+kk=b.t
  .show Zv (by simpa using d4) (YM<|hd _ _<|m4.done sa sb<|.inl<|BB d4)
  .show ZO (by simpa using d4) (bM sa sb h2 ea MB sD m4 below hd λo2 i2 j2 g3 a3 b3 m' e1 e2 e3=>hn o2 i2 j2 g3 a3 b3 m' e1 e2 sD)
 .show ZO Ob (bM sa sb h2 ea MB J m3 (λy hy=>below y<|by rwa[show kk=0 by lia]) hd λo2 i2 j2 g3 a3 b3 m' e1 e2 e3=>hn o2 i2 j2 g3 a3 b3 m' e1 e2 sD)
def bK(L:WA M A E s O key kd S)(hk:kindOf st=kd)(Vj:∀x∈a.l,S x)(Vi:∀x∈b.l,S x)(sa:a.l.E (RK O key))(sb:b.l.E (RK O key))(h2:∀x∈b.l,∀y∈a.l.drop (a.t-1),RK O key x y)(MB:ia+1<a.t)(Oc:ib<b.t)(m:MI O key a.l b.l out ia ib)
  (hd:∀r z,WS O key a.l b.l r->R (.done (some r,z)) (SortSt.mk' (kindOf st) (arrOf st) (pendingOf st) g<|failedOf st))(hn:∀o2 i2 j2 g3 a3 b3,MI O key a.l b.l o2 i2 j2->i2+1<a.t->j2<b.t->a.t-i2+(b.t-j2)<=a.t-ia+(b.t-ib)->R (.done (none,o2,i2,j2,g3,a3,b3)) (SortSt.mk' (kindOf st) (arrOf st) (pendingOf st) g<|failedOf st)/\R (.yield (none,o2,i2,j2,g3,a3,b3)) (SortSt.mk' (kindOf st) (arrOf st) (pendingOf st) g<|failedOf st)):wpS M A E s (Sq a b out ia ib g ac bc) R st:=by
 unfold Sq;show Yz (Lk ?_);let eb:b[ib]?=some b[ib]:=To b ib Oc
 show Yz (Zu eb ?_);show Yz (EN L hk (Vi _ B) (λi hi=>{a[ia+i],To a _ sr,Vj _ B}) sD (λi j WL hj=>BC sa J J) λk EM hl Vr=>?_);dsimp only;let above:∀y∈a.l.drop (ia+k),RK O key b[ib] y:=λy hy=>by
  let(j,j1,j2,ey):=bO hy
  have:=Vr (j-ia) J J
  unfold beyB at this;rw[show ia+(j-ia)=j by lia,UE ey]at this;simp only[Pz,Rm,tI]at this;show Py this
 cases BA:k>0
 .show Zv BA ?_;let m2:MI O key a.l b.l (out++a.Q ia (ia+k)) (ia+k) ib:=m.a sa k (λx hx y hy=>by
   let(j,hj,ex):=BD hx
   have:=hl j hj
   unfold beyB at this;rw[UE ex]at this;simp only[Pz,Rm,OQ]at this;show Wi this<|Ll sb eb y hy) (by rw[PD,bP])
  cases d1:ia+k+1=a.t
  .show Zv (by simpa using d1) (YM<|hd _ _<|m2.last sa sb λx hx y hy=>h2 x (Mn hx) y<|by rwa[show a.t-1=ia+k by grind])
  show ZO (by simpa using d1) ?_;cases d2:ia+k=a.t
  .show Zv (by simpa using d2) (YM<|hd _ _<|m2.done sa sb<|.inr<|YK<|by simp[d2])
  .show ZO (by simpa using d2) (bL L hk Vj Vi sa sb h2 eb sD Oc m2 above hd λo2 i2 j2 g3 a3 b3 m' e1 e2 e3=>hn o2 i2 j2 g3 a3 b3 m' e1 e2 sD)
 .show ZO BA (bL L hk Vj Vi sa sb h2 eb MB Oc m (λy hy=>above y<|by rwa[show k=0 by omega]) hd λo2 i2 j2 g3 a3 b3 m' e1 e2 e3=>hn o2 i2 j2 g3 a3 b3 m' e1 e2 J)
end
abbrev Bz:=Option (Array Keyed)×Array Keyed×Nat×Nat×Nat×Nat
def loB1(a b:Array Keyed)(g:Nat)(c:Bz):(StateT SortSt Sem (ForInStep Bz)):=elem' b c.2.2.2.1 >>= λy=>elem' a c.2.2.1 >>= λx=>lt' y x >>= λr=>match r with
 |some t=>if t=true then elem' b c.2.2.2.1 >>= λy=>
    if (c.2.2.2.1+1 == b.t)=true then pure (.done (some<|c.2.1.push y++a.Q c.2.2.1 a.t++b.Q (c.2.2.2.1+1) b.t,c.2.1.push y,c.2.2.1,c.2.2.2.1+1,0,c.2.2.2.2.2+1))
    else if c.2.2.2.2.2+1 >= g then pure (.done (none,c.2.1.push y,c.2.2.1,c.2.2.2.1+1,0,c.2.2.2.2.2+1)) else pure (.yield (none,c.2.1.push y,c.2.2.1,c.2.2.2.1+1,0,c.2.2.2.2.2+1))
   else elem' a c.2.2.1 >>= λx=>
    if (c.2.2.1+1+1 == a.t)=true then pure (.done (some<|c.2.1.push x++b.Q c.2.2.2.1 b.t++a.Q (c.2.2.1+1) a.t,c.2.1.push x,c.2.2.1+1,c.2.2.2.1,c.2.2.2.2.1+1,0))
    else if c.2.2.2.2.1+1 >= g then pure (.done (none,c.2.1.push x,c.2.2.1+1,c.2.2.2.1,c.2.2.2.2.1+1,0)) else pure (.yield (none,c.2.1.push x,c.2.2.1+1,c.2.2.2.1,c.2.2.2.2.1+1,0))
 |_=>pure (.done (some<|c.2.1++a.Q c.2.2.1 a.t++b.Q c.2.2.2.1 b.t,c.2.1,c.2.2.1,c.2.2.2.1,c.2.2.2.2.1,c.2.2.2.2.2))
abbrev Hc:=Option (Array Keyed)×Array Keyed×Nat×Nat×Nat
def Oa(a b:Array Keyed)(c:Jx):(StateT SortSt Sem (ForInStep Jx)):=if c.2.2.2.2.1>1 then Sq a b c.2.1 c.2.2.1 c.2.2.2.1 (c.2.2.2.2.1-1) c.2.2.2.2.2.1 c.2.2.2.2.2.2 else Sq a b c.2.1 c.2.2.1 c.2.2.2.1 c.2.2.2.2.1 c.2.2.2.2.2.1 c.2.2.2.2.2.2
def nP(c:Jx):(StateT SortSt Sem (ForInStep Hc)):=match c.1 with
 |some r=>pure (.done (some r,c.2.1,c.2.2.1,c.2.2.2.1,c.2.2.2.2.1))
 |none=>Od (c.2.2.2.2.1+1) >>= λ_=>pure (.yield (none,c.2.1,c.2.2.1,c.2.2.2.1,c.2.2.2.2.1+1))
def Jw(a b:Array Keyed)(g:Nat)(c:Bz):(StateT SortSt Sem (ForInStep Hc)):=match c.1 with
 |some r=>pure (.done (some r,c.2.1,c.2.2.1,c.2.2.2.1,g))
 |none=>liftM (rule "list.sort.gallop") >>= λ_=>forIn [0:a.t+b.t] ((none,c.2.1,c.2.2.1,c.2.2.2.1,g+1,c.2.2.2.2.1,c.2.2.2.2.2):Jx) (λ_ s=>Oa a b s) >>= nP
def vH(a b:Array Keyed)(c:Hc):(StateT SortSt Sem (ForInStep Hc)):=forIn [0:a.t+b.t] ((none,c.2.1,c.2.2.1,c.2.2.2.1,0,0):Bz) (λ_ s=>loB1 a b c.2.2.2.2 s) >>= Jw a b c.2.2.2.2
def nO(c:Hc):(StateT SortSt Sem (Array Keyed)):=match c.1 with
 |some r=>pure r
 |none=>liftM (unsupported "internal:list.sort.merge-bound":Sem (Array Keyed))
def Hb(a b:Array Keyed):(StateT SortSt Sem (Array Keyed)):=liftM (rule "list.sort.merge-lo") >>= λ_=>elem' b 0 >>= λx=>
 if (1 == b.t)=true then pure (#[x]++a.Q 0 a.t++b.Q 1 b.t) else if (0+1 == a.t)=true then pure (#[x]++b.Q 1 b.t++a.Q 0 a.t)
 else get >>= λst=>forIn [0:a.t+b.t] ((none,#[x],0,1,gallopOf st):Hc) (λ_ c=>vH a b c) >>= nO
def Qj{α β γ:Type _}(f:α->β->γ){a a':α}{b b':β}(h:a=a')(k:b=b'):f a b=f a' b':=by subst h k;rfl
def Qi{α:Type _}{c:Prop}[Decidable c]{a a' b b':α}(h:a=a')(k:b=b'):(if c then a else b)=if c then a' else b':=by subst h k;rfl
def nN(a b:Array Keyed):BH a b=Hb a b:=by
 unfold Hb;show QP (Bind.bind _) (funext λ_=>QP (Bind.bind _)<|funext λx=>?_);show Qi Z (Qi Z<|QP (Bind.bind _)<|funext λst=>?_);show Qj Bind.bind (QP (forIn _ _)<|funext λ_=>funext λc=>?_) ?_
 .unfold vH;show Qj Bind.bind (QP (forIn _ _)<|funext λ_=>funext λc=>?_) ?_
  .unfold loB1;show QP (Bind.bind _) (funext λ_=>QP (Bind.bind _)<|funext λ_=>QP (Bind.bind _)<|funext λr=>?_);cases r with
   |none=>rfl
   |some r=>rfl
  .funext c
   unfold Jw;let(c1,c2):=c;cases c1 with
   |some r=>rfl
   |none=>
    show QP (Bind.bind _) (funext λ_=>Qj Bind.bind (QP (forIn _ _)<|funext λ_=>funext λc=>?_) ?_)
    .unfold Oa;show Qi ?_ ?_
     .unfold Sq;show QP (Bind.bind _) (funext λ_=>QP (Bind.bind _)<|funext λ_=>QP (Bind.bind _)<|funext λr=>?_);cases r with
      |none=>rfl
      |some r=>rfl
     .rfl
    .funext c
     let(c1,c2):=c;cases c1<;>rfl
 .funext c
  let(c1,c2):=c;cases c1<;>rfl
section
variable{a b:Array Keyed}{st:SortSt}
def nM(L:WA M A E s O key kd S){out:Array Keyed}{ja jb ac bc g:Nat}{R:ForInStep Bz->SortSt->Prop}(hk:kindOf st=kd)(Vj:∀x∈a.l,S x)(Vi:∀x∈b.l,S x)(sa:a.l.E (RK O key))(sb:b.l.E (RK O key))(h2:∀x∈b.l,∀y∈a.l.drop (a.t-1),RK O key x y)(RA:ja+1<a.t)(RX:jb<b.t)(m:MI O key a.l b.l out ja jb)
  (hd:∀r z,WS O key a.l b.l r->R (.done (some r,z)) st)(hn:∀o2 i2 j2 a3 b3,MI O key a.l b.l o2 i2 j2->i2+1<a.t->j2<b.t->i2+j2=ja+jb+1->R (.done (none,o2,i2,j2,a3,b3)) st/\R (.yield (none,o2,i2,j2,a3,b3)) st):wpS M A E s (loB1 a b g (none,out,ja,jb,ac,bc)) R st:=by
 let ea:a[ja]?=some a[ja]:=To a ja sr;let eb:b[jb]?=some b[jb]:=To b jb RX
 unfold loB1;show Yz (Zu eb<|Yz<|Zu ea<|Yz<|L _ _ _ _ (Vi _ B) (Vj _ B) hk ?_);dsimp only;cases hc:O.blt (key b[jb]) (key a[ja]) with
 |true=>
  show Zv Z (Yz<|Zu eb ?_);let m':MI O key a.l b.l (out.push b[jb]) ja (jb+1):=m.b sb 1 (by rw[Lm eb];intro x hx y hy;rw[XD.H hx];show Wi (Py hc)<|Ll sa ea y hy) (by rw[Lm eb,RQ])
  cases d1:jb+1=b.t
  .show Zv (by simpa using d1) (YM<|hd _ _<|m'.done sa sb<|.inl<|YK<|by simp[d1])
  .show ZO (by simpa using d1) ?_;let z:=λa3 b3=>hn _ _ _ a3 b3 m' RA J J
   cases d2:bc+1 >= g
   .show Zv d2 (YM (z _ _).1)
   .show ZO d2 (YM (z _ _).2)
 |false=>
  show ZO B (Yz<|Zu ea ?_);let m':MI O key a.l b.l (out.push a[ja]) (ja+1) jb:=m.a sa 1 (by rw[Lm ea];intro x hx y hy;rw[XD.H hx];show Wi hc<|Ll sb eb y hy) (by rw[Lm ea,RQ])
  cases d1:ja+1+1=a.t
  .show Zv (by simpa using d1) (YM<|hd _ _<|m'.last sa sb λx hx y hy=>h2 x (Mn hx) y<|by rwa[show a.t-1=ja+1 by omega])
  .show ZO (by simpa using d1) ?_;let z:=λa3 b3=>hn _ _ _ a3 b3 m' sr RX J
   cases d2:ac+1 >= g
   .show Zv d2 (YM (z _ _).1)
   .show ZO d2 (YM (z _ _).2)
def Tc(st XQ:SortSt):(Prop):=kindOf XQ=kindOf st/\arrOf XQ=arrOf st/\pendingOf XQ=pendingOf st/\failedOf XQ=failedOf st
def Zh6(L:WA M A E s O key kd S){XQ:SortSt}{out:Array Keyed}{ia ib g:Nat}{R:ForInStep Hc->SortSt->Prop}(hk:kindOf st=kd)(Vj:∀x∈a.l,S x)(Vi:∀x∈b.l,S x)(sa:a.l.E (RK O key))(sb:b.l.E (RK O key))(h2:∀x∈b.l,∀y∈a.l.drop (a.t-1),RK O key x y)(MB:ia+1<a.t)(Oc:ib<b.t)(m:MI O key a.l b.l out ia ib)(ks:Tc st XQ)
  (hd:∀r z Xg,WS O key a.l b.l r->Tc st Xg->R (.done (some r,z)) Xg)(hn:∀o2 i2 j2 g3 Xg,MI O key a.l b.l o2 i2 j2->i2+1<a.t->j2<b.t->ia+ib+1<=i2+j2->Tc st Xg->R (.yield (none,o2,i2,j2,g3)) Xg):wpS M A E s (vH a b (none,out,ia,ib,g)) R XQ:=by
 unfold vH;show Yz (RJ (SU
  (I:=λy c Xg=>Xg=XQ/\∃out ja jb ac bc,c=(none,out,ja,jb,ac,bc)/\MI O key a.l b.l out ja jb/\ja+1<a.t/\jb<b.t/\ja+jb=ia+ib+y)
  (Q:=λc Xg=>Xg=XQ/\((∃r z,c=(some r,z)/\WS O key a.l b.l r)\/∃out ja jb ac bc,c=(none,out,ja,jb,ac,bc)/\MI O key a.l b.l out ja jb/\ja+1<a.t/\jb<b.t/\ia+ib+1<=ja+jb)) ?_ ?_ {Z,_,_,_,_,_,Z,m,MB,Oc,Z}) ?_)
 .rintro y c Xg _ hy ⟨rfl,out,ja,jb,ac,bc,rfl,m,RA,RX,hr⟩;show nM L (ks.1.m hk) Vj Vi sa sb h2 RA RX m (λr z hr=>{Z,.inl ⟨r,z,Z,hr⟩}) λo2 i2 j2 a3 b3 m' e1 e2 e3=>{{Z,.inr {_,_,_,_,_,Z,m',e1,e2,J}},{Z,_,_,_,_,_,Z,m',e1,e2,J}}
 .rintro c Xg ⟨rfl,out,ja,jb,ac,bc,rfl,m,RA,RX,hr⟩;exists Z,.inr {_,_,_,_,_,Z,m,RA,RX,J}
 rintro c Xg ⟨rfl,Vx⟩;rcases Vx with ⟨r,z,rfl,hr⟩|⟨out,ja,jb,ac,bc,rfl,m,RA,RX,hr⟩
 .show YM (hd r _ _ hr ks)
 show Yz (wpS_lift<|Pw ⟨Z,?_⟩);show Yz (RJ (SU
  (I:=λy c WK=>Tc st WK/\∃out Mz Mw g ac bc,c=(none,out,Mz,Mw,g,ac,bc)/\MI O key a.l b.l out Mz Mw/\Mz+1<a.t/\Mw<b.t/\a.t-Mz+(b.t-Mw)<=a.t-ja+(b.t-jb))
  (Q:=λc WK=>Tc st WK/\((∃r z,c=(some r,z)/\WS O key a.l b.l r)\/∃out Mz Mw g ac bc,c=(none,out,Mz,Mw,g,ac,bc)/\MI O key a.l b.l out Mz Mw/\Mz+1<a.t/\Mw<b.t/\a.t-Mz+(b.t-Mw)<=a.t-ja+(b.t-jb))) ?_ (λc WK z=>{z.1,.inr z.2}) {ks,_,_,_,_,_,_,Z,m,RA,RX,XI _}) ?_)
 .rintro y c WK _ hy ⟨k1,out,Mz,Mw,g',ac',bc',rfl,m,By,Bx,Lh⟩;unfold Oa;cases hg:g'>1
  .show Zv hg (bK L (k1.1.m hk) Vj Vi sa sb h2 By Bx m (λr z hr=>{k1,.inl ⟨r,z,Z,hr⟩}) λo2 i2 j2 g3 a3 b3 m3 e1 e2 e3=>{{k1,.inr {o2,i2,j2,g3,a3,b3,Z,m3,e1,e2,Yj e3 Lh}},{k1,o2,i2,j2,g3,a3,b3,Z,m3,e1,e2,Yj e3 Lh}})
  .show ZO hg (bK L (k1.1.m hk) Vj Vi sa sb h2 By Bx m (λr z hr=>{k1,.inl ⟨r,z,Z,hr⟩}) λo2 i2 j2 g3 a3 b3 m3 e1 e2 e3=>{{k1,.inr {o2,i2,j2,g3,a3,b3,Z,m3,e1,e2,Yj e3 Lh}},{k1,o2,i2,j2,g3,a3,b3,Z,m3,e1,e2,Yj e3 Lh}})
 .rintro c WK ⟨k1,Vx⟩;rcases Vx with ⟨r,z,rfl,UQ⟩|⟨Ha,ia3,ib3,g3,ac3,bc3,rfl,m3,nL,nK,UQ⟩
  .show YM (hd r _ _ UQ k1)
  .show Yz (Lk<|YM<|hn Ha ia3 ib3 (g3+1) _ m3 nL nK sD k1)
def ZS5(L:WA M A E s O key kd S){Q:Array Keyed->SortSt->Prop}(hk:kindOf st=kd)(Vj:∀x∈a.l,S x)(Vi:∀x∈b.l,S x)(sa:a.l.E (RK O key))(sb:b.l.E (RK O key))(ha:1<=a.t)(hb:1<=b.t)
  (h1:∀x∈b.l.M 1,∀y∈a.l,RK O key x y)(h2:∀x∈b.l,∀y∈a.l.drop (a.t-1),RK O key x y)
  (h:∀r g,WS O key a.l b.l r->Q r (SortSt.mk' (kindOf st) (arrOf st) (pendingOf st) g<|failedOf st)):wpS M A E s (BH a b) Q st:=by
 let bump:∀XQ,Tc st XQ->∀r,WS O key a.l b.l r->Q r XQ:=λXQ ⟨e1,e2,e3,e4⟩ r hr=>by
  have:=h r (gallopOf XQ) hr
  rwa[<-e1,<-e2,<-e3,<-e4]at this
 let k0:Tc st st:=⟨Z,Z,Z,Z⟩;let e0:b[0]?=some b[0]:=To b 0 hb
 let m0:MI O key a.l b.l #[] 0 0:={List.E.nil,λ_ h=>(by cases h),λ_ h=>(by cases h),B};let m1:MI O key a.l b.l #[b[0]] 0 1:=m0.b sb 1 (by rwa[ID,ID]) (by rw[Lm e0];rfl)
 rw[nN];unfold Hb;show Yz (wpS_lift<|Pw ⟨Z,?_⟩);show Yz (Zu e0 ?_);cases c1:1=b.t
 .show Zv (by simpa using c1) (YM<|bump st k0 _<|m1.done sa sb<|.inl<|YK<|by simp[<-c1])
 show ZO (by simpa using c1) ?_;cases c2:0+1=a.t
 .show Zv (by simpa using c2) (YM<|bump st k0 _<|m1.last sa sb λx hx y hy=>h2 x (Mn hx) y<|by rwa[show a.t-1=0 by lia])
 show ZO (by simpa using c2) (Yz<|QJ ?_);show Yz (RJ (SU
  (I:=λx c XQ=>Tc st XQ/\∃out ia ib g,c=(none,out,ia,ib,g)/\MI O key a.l b.l out ia ib/\ia+1<a.t/\ib<b.t/\x<=ia+ib)
  (Q:=λc XQ=>Tc st XQ/\∃r,c.1=some r/\WS O key a.l b.l r) ?_ ?_ {k0,_,_,_,_,Z,m1,J,J,J}) ?_)
 .rintro x c XQ _ hx ⟨k1,out,ia,ib,g,rfl,m,MB,Oc,GZ⟩;show Zh6 L hk Vj Vi sa sb h2 MB Oc m k1 (λr z Xg hr k2=>⟨k2,r,Z,hr⟩) λo2 i2 j2 g3 Xg m' e1 e2 e3 k2=>{k2,_,_,_,_,Z,m',e1,e2,J}
 .rintro c XQ ⟨k1,out,ia,ib,g,rfl,m,MB,Oc,GZ⟩;lia
 .rintro⟨c1,c2⟩ XQ ⟨k1,r,hc,hr⟩;cases hc;show YM (bump XQ k1 r hr)
end
end
section
variable{M:Model}{A:Around}{E:Ae}{s:Shared}{O:KeyOrd}{key:Keyed->O.α}{kd:SortKind}{S:Keyed->Prop}
structure MH(O:KeyOrd)(key:Keyed->O.α)(la lb:List Keyed)(out:Array Keyed)(na nb:Nat):Prop where
 so:out.l.E λx y=>RK O key y x
 oa:∀x∈la.M na,∀y∈out.l,RK O key x y
 ob:∀x∈lb.M nb,∀y∈out.l,RK O key x y
 pm:(la.M na++lb.M nb++out.l).Perm (la++lb)
def bJ{α:Type}{la:List α}(hi:i<=n){y:α}(h:y∈la.M i):y∈la.M n:=by rw[show i=min i n by lia,<-Il]at h;show Vq h
def nJ{la:List Keyed}(hi:i<=n):la.M n=la.M i++(la.M n).drop i:=by let e:=(Mo i<|la.M n).symm;rwa[Il,show min i n=i by lia]at e
def bI{la:List Keyed}(h:la.E (RK O key))(hi:i<=n):((la.M n).drop i).E (RK O key)/\∀x∈la.M i,∀y∈(la.M n).drop i,RK O key x y:=by let h1:(la.M n).E (RK O key):=h.sublist (Mm n la);rw[nJ hi,YI]at h1;exists h1.2.1,h1.2.2
def MH.a(h:MH O key la lb out na nb)(sa:la.E (RK O key))(hi:i<=na)(hx:∀x∈lb.M nb,∀y∈(la.M na).drop i,RK O key x y)(e:out'.l=out.l++((la.M na).drop i).reverse):MH O key la lb out' i nb:=by
 let(p1,p2):=bI sa hi;exists ?_,?_,?_,?_
 .rw[e,YI];exists h.so,LY.X p1,λx hx y hy=>h.oa y (Mn<|Wa.H hy) x hx
 .intro x Xo y hy;rw[e,XB,Wa]at hy;rcases hy with hy|hy
  .show h.oa x (bJ hi Xo) y hy
  .show p2 x Xo y hy
 .intro x Xo y hy;rw[e,XB,Wa]at hy;rcases hy with hy|hy
  .show h.ob x Xo y hy
  .show hx x Xo y hy
 .show List.Perm.m ?_ h.pm;rw[e]
  conv=>rhs;rw[nJ hi]
  rw[Yu,Yu,Yu];show MZ _ ?_;show List.Perm.m (l₂:=lb.M nb++(((la.M na).drop i)++out.l)) ?_ ?_
  .show MZ _ (Ef.m<|(Fu _).append_right _)
  .rw[<-Yu,<-Yu];show Eg _ Ef
def MH.b(h:MH O key la lb out na nb)(sb:lb.E (RK O key))(hi:i<=nb)(hx:∀x∈la.M na,∀y∈(lb.M nb).drop i,RK O key x y)(e:out'.l=out.l++((lb.M nb).drop i).reverse):MH O key la lb out' na i:=by
 let(p1,p2):=bI sb hi;exists ?_,?_,?_,?_
 .rw[e,YI];exists h.so,LY.X p1,λx hx y hy=>h.ob y (Mn<|Wa.H hy) x hx
 .intro x Xo y hy;rw[e,XB,Wa]at hy;rcases hy with hy|hy
  .show h.oa x Xo y hy
  .show hx x Xo y hy
 .intro x Xo y hy;rw[e,XB,Wa]at hy;rcases hy with hy|hy
  .show h.ob x (bJ hi Xo) y hy
  .show p2 x Xo y hy
 .show List.Perm.m ?_ h.pm;rw[e]
  conv=>rhs;rw[nJ hi]
  rw[Yu,Yu,Yu];show MZ _ (MZ _ ?_);show Ef.m ((Fu _).append_right _)
def Rg(a:Array Keyed)(n:Nat):(a.Q 0 n).l=a.l.M n:=by rw[Fw,Fy,ID,xp]
def bH(a:Array Keyed)(i n:Nat):((a.Q i n).reverse).l=((a.l.M n).drop i).reverse:=by rw[Iv,Fw,Fy,Ik]
def MH.ab{a b out:Array Keyed}(h:MH O key a.l b.l out na nb)(sa:a.l.E (RK O key))(sb:b.l.E (RK O key))(hx:∀x∈a.l.M na,∀y∈b.l.M nb,RK O key x y):WS O key a.l b.l (a.Q 0 na++b.Q 0 nb++out.reverse):=by
 unfold WS;rw[PD,PD,Rg,Rg,Iv];exists ?_,(MZ _<|Fu _).m h.pm;rw[YI,YI];exists {sa.sublist<|Mm _ _,sb.sublist<|Mm _ _,hx},LY.X h.so,λx Xo y hy=>?_;rw[XB]at Xo;rcases Xo with Xo|Xo
 .show h.oa x Xo y (Wa.H hy)
 .show h.ob x Xo y (Wa.H hy)
def MH.ba{a b out:Array Keyed}(h:MH O key a.l b.l out na nb)(sa:a.l.E (RK O key))(sb:b.l.E (RK O key))(hx:∀x∈b.l.M nb,∀y∈a.l.M na,RK O key x y):WS O key a.l b.l (b.Q 0 nb++a.Q 0 na++out.reverse):=by
 unfold WS;rw[PD,PD,Rg,Rg,Iv];exists ?_,((MZ _<|Fu _).m (Eg _ Ef)).m h.pm;rw[YI,YI];exists {sb.sublist<|Mm _ _,sa.sublist<|Mm _ _,hx},LY.X h.so,λx Xo y hy=>?_;rw[XB]at Xo;rcases Xo with Xo|Xo
 .show h.ob x Xo y (Wa.H hy)
 .show h.oa x Xo y (Wa.H hy)
def Qh{a:Array Keyed}{i n:Nat}{p:Keyed}(hn:n=i+1)(h:a[i]?=some p):((a.l.M n).drop i).reverse=[p]:=by
 subst hn;let h':a.l[i]?=some p:=by simpa using h
 rw[Ik,tX];let(hi,e):=XA.H h';rw[Ki hi,e];rfl
def vG{a:Array Keyed}{i n:Nat}{p y:Keyed}(hn:n=i+1)(h:a[i]?=some p)(hy:y∈(a.l.M n).drop i):y=p:=by
 have:=Qh hn h
 rw[<-Wa,this]at hy;show XD.H hy
def nI{a:Array Keyed}{x:Keyed}(h:x∈a.l.M n):∃j,j<n/\j<a.t/\a[j]?=some x:=by
 let(j,hj):=Yv h;let UH:=(XA.H hj).1
 rw[Yl]at UH;rw[OY,if_pos sD]at hj;exists j,sr,by simp at UH;grind,by simpa using hj
def Bw{a:Array Keyed}{i n:Nat}{x:Keyed}(h:x∈(a.l.M n).drop i):∃j,i<=j/\j<n/\j<a.t/\a[j]?=some x:=by
 let(j,hj):=Yv h;let UH:=(XA.H hj).1
 rw[YS,Yl]at UH;rw[SS,OY,if_pos sD]at hj;exists i+j,J,sr,by simp at UH;grind,by simpa using hj
def Lg{a:Array Keyed}{i n:Nat}{p:Keyed}(sa:a.l.E (RK O key))(hn:n=i+1)(h:a[i]?=some p):∀x∈a.l.M n,RK O key x p:=λx hx=>by
 let(j,j1,j2,ej):=nI hx;let hi:i<a.t:=(eQ.H h).1
 have:=BC sa (i:=j) (j:=i) J hi
 rwa[UE ej,UE h]at this
abbrev Jv:=Option (Array Keyed)×Nat×Nat×Array Keyed×Nat×Nat×Nat
def Lf(a b out:Array Keyed)(na nb g ac bc:Nat):(StateT SortSt Sem (ForInStep Jv)):=elem' a (na-1) >>= λx=>
 if (na-1 == 0)=true then pure (.done (some<|a.Q 0 (na-1)++b.Q 0 nb++(out.push x).reverse,na-1,nb,out.push x,g,ac,bc))
 else if (decide (ac<7)&&decide (bc<7))=true then pure (.done (none,na-1,nb,out.push x,g,ac,bc)) else pure (.yield (none,na-1,nb,out.push x,g,ac,bc))
def Le(a b out:Array Keyed)(na nb g ac bc:Nat):(StateT SortSt Sem (ForInStep Jv)):=elem' b (nb-1) >>= λx=>
 if (nb-1 == 1)=true then pure (.done (some<|b.Q 0 (nb-1)++a.Q 0 na++(out.push x).reverse,na,nb-1,out.push x,g,ac,bc))
 else elem' a (na-1) >>= λy=>Qk true y b 0 (nb-1) (nb-1-1) >>= λr=>match r with
  |some k=>if nb-1-k>0 then
    if (k == 1)=true then pure (.done (some<|b.Q 0 k++a.Q 0 na++(out.push x++(b.Q k<|nb-1).reverse).reverse,na,k,out.push x++(b.Q k<|nb-1).reverse,g,ac,nb-1-k))
    else if (k == 0)=true then pure (.done (some<|a.Q 0 na++b.Q 0 k++(out.push x++(b.Q k<|nb-1).reverse).reverse,na,k,out.push x++(b.Q k<|nb-1).reverse,g,ac,nb-1-k))
    else Lf a b (out.push x++(b.Q k<|nb-1).reverse) na k g ac (nb-1-k)
   else Lf a b (out.push x) na (nb-1) g ac (nb-1-k)
  |_=>pure (.done (some<|a.Q 0 na++b.Q 0 (nb-1)++(out.push x).reverse,na,nb-1,out.push x,g,ac,bc))
def NZ(a b out:Array Keyed)(na nb g ac bc:Nat):(StateT SortSt Sem (ForInStep Jv)):=Od g >>= λ_=>elem' b (nb-1) >>= λx=>Qk false x a 0 na (na-1) >>= λr=>match r with
 |some k=>if na-k>0 then
   if (k == 0)=true then pure (.done (some<|a.Q 0 k++b.Q 0 nb++(out++(a.Q k na).reverse).reverse,k,nb,out++(a.Q k na).reverse,g,na-k,bc))
   else Le a b (out++(a.Q k na).reverse) k nb g (na-k) bc
  else Le a b out na nb g (na-k) bc
 |_=>pure (.done (some<|a.Q 0 na++b.Q 0 nb++out.reverse,na,nb,out,g,ac,bc))
section
variable{a b out:Array Keyed}{na nb:Nat}{st:SortSt}{R:ForInStep Jv->SortSt->Prop}
def bG{pa:Keyed}(sa:a.l.E (RK O key))(sb:b.l.E (RK O key))(ea:a[na-1]?=some pa)(Ld:1<=na)(Rz:na<=a.t)(Lc:2<=nb)(Ry:nb<=b.t)(m:MH O key a.l b.l out na nb)(below:∀x∈b.l.M nb,RK O key x pa)
  (hd:∀r z,WS O key a.l b.l r->R (.done (some r,z)) st)(hn:∀i2 j2 o2 g3 a3 b3,MH O key a.l b.l o2 i2 j2->1<=i2->i2<=a.t->2<=j2->j2<=b.t->i2+j2<=na+nb->R (.done (none,i2,j2,o2,g3,a3,b3)) st/\R (.yield (none,i2,j2,o2,g3,a3,b3)) st):wpS M A E s (Lf a b out na nb g ac bc) R st:=by
 let en:na=na-1+1:=sD;unfold Lf;show Yz (Zu ea ?_);let m5:MH O key a.l b.l (out.push pa) (na-1) nb:=m.a sa J (λx hx y hy=>by rw[vG en ea hy];show below x hx) (by rw[Qh en ea,RQ])
 cases d5:na-1=0
 .show Zv (by simpa using d5) (YM<|hd _ _<|m5.ab sa sb<|by rw[d5];intro _ h;cases h)
 .show ZO (by simpa using d5) ?_;let z:=λg3 a3 b3=>hn _ _ _ g3 a3 b3 m5 J J Lc Ry J
  split
  .show YM (z _ _ _).1
  .show YM (z _ _ _).2
def bF(L:WA M A E s O key kd S){pb:Keyed}(hk:kindOf st=kd)(Vj:∀x∈a.l,S x)(Vi:∀x∈b.l,S x)(sa:a.l.E (RK O key))(sb:b.l.E (RK O key))(h1:∀x∈b.l.M 1,∀y∈a.l,RK O key x y)(eb:b[nb-1]?=some pb)(Ld:1<=na)(Rz:na<=a.t)(Lc:2<=nb)(Ry:nb<=b.t)(m:MH O key a.l b.l out na nb)(above:∀x∈a.l.M na,RK O key x pb)
  (hd:∀r z,WS O key a.l b.l r->R (.done (some r,z)) st)(hn:∀i2 j2 o2 g3 a3 b3,MH O key a.l b.l o2 i2 j2->1<=i2->i2<=a.t->2<=j2->j2<=b.t->i2+j2<=na+nb->R (.done (none,i2,j2,o2,g3,a3,b3)) st/\R (.yield (none,i2,j2,o2,g3,a3,b3)) st):wpS M A E s (Le a b out na nb g ac bc) R st:=by
 let NY:∀{i j},i=1->∀x∈b.l.M i,∀y∈a.l.M j,RK O key x y:=λ{i j} e x hx y hy=>h1 x (by rwa[e]at hx) y (Vq hy);let en:nb=nb-1+1:=sD
 unfold Le;show Yz (Zu eb ?_);let m3:MH O key a.l b.l (out.push pb) na (nb-1):=m.b sb J (λx hx y hy=>by rw[vG en eb hy];show above x hx) (by rw[Qh en eb,RQ])
 cases d3:nb-1=1
 .show Zv (by simpa using d3) (YM<|hd _ _<|m3.ba sa sb<|NY d3)
 show ZO (by simpa using d3) ?_;let ha:na-1<a.t:=sD
 let ea:a[na-1]?=some a[na-1]:=To a _ ha;let Bv:na=na-1+1:=sr
 show Yz (Zu ea ?_);show Yz (EN L hk (Vj _ B) (λi hi=>{b[0+i],To b _ sr,Vi _ B}) J (λi j WL hj=>BC sb J J) λkk MA Vb Hd=>?_);dsimp only;let below:∀x∈b.l.M kk,RK O key x a[na-1]:=λx hx=>by
  let(j,j1,j2,ex):=nI hx
  have:=Vb j j1
  unfold beyB at this;rw[Tn,UE ex]at this;show Py this
 cases Ob:nb-1-kk>0
 .show Zv Ob ?_;let m4:MH O key a.l b.l (out.push pb++(b.Q kk<|nb-1).reverse) na kk:=m3.b sb MA (λx hx y hy=>by
   let(j,j1,j2,j3,ey):=Bw hy
   have:=Hd j j1 j2
   unfold beyB at this;rw[Tn,UE ey]at this;show Wi (Lg sa Bv ea x hx) this) (by rw[PD,bH])
  cases d4:kk=1
  .show Zv (by simpa using d4) (YM<|hd _ _<|m4.ba sa sb<|NY d4)
  show ZO (by simpa using d4) ?_;cases d6:kk=0
  .show Zv (by simpa using d6) (YM<|hd _ _<|m4.ab sa sb<|by rw[d6];intro _ _ _ h;cases h)
  .show ZO (by simpa using d6) (bG sa sb ea Ld Rz J J m4 below hd λi2 j2 o2 g3 a3 b3 m' e1 e2 e3 e4 e5=>hn i2 j2 o2 g3 a3 b3 m' e1 e2 e3 e4 J)
 .let ekk:kk=nb-1:=J;show ZO Ob (bG sa sb ea Ld Rz J J m3 (λx hx=>below x<|by rwa[ekk]) hd λi2 j2 o2 g3 a3 b3 m' e1 e2 e3 e4 e5=>hn i2 j2 o2 g3 a3 b3 m' e1 e2 e3 e4 J)
def bE(L:WA M A E s O key kd S)(hk:kindOf st=kd)(Vj:∀x∈a.l,S x)(Vi:∀x∈b.l,S x)(sa:a.l.E (RK O key))(sb:b.l.E (RK O key))(h1:∀x∈b.l.M 1,∀y∈a.l,RK O key x y)(Ld:1<=na)(Rz:na<=a.t)(Lc:2<=nb)(Ry:nb<=b.t)(m:MH O key a.l b.l out na nb)
  (hd:∀r z,WS O key a.l b.l r->R (.done (some r,z)) (SortSt.mk' (kindOf st) (arrOf st) (pendingOf st) g<|failedOf st))(hn:∀i2 j2 o2 g3 a3 b3,MH O key a.l b.l o2 i2 j2->1<=i2->i2<=a.t->2<=j2->j2<=b.t->i2+j2<=na+nb->R (.done (none,i2,j2,o2,g3,a3,b3)) (SortSt.mk' (kindOf st) (arrOf st) (pendingOf st) g<|failedOf st)/\R (.yield (none,i2,j2,o2,g3,a3,b3)) (SortSt.mk' (kindOf st) (arrOf st) (pendingOf st) g<|failedOf st)):wpS M A E s (NZ a b out na nb g ac bc) R st:=by
 unfold NZ;show Yz (Lk ?_);let hb:nb-1<b.t:=sD
 let eb:b[nb-1]?=some b[nb-1]:=To b _ hb;let en:nb=nb-1+1:=sr
 show Yz (Zu eb ?_);show Yz (EN L hk (Vi _ B) (λi hi=>{a[0+i],To a _ sr,Vj _ B}) sr (λi j WL hj=>BC sa sr J) λk EM hl Vr=>?_);dsimp only;let above:∀x∈a.l.M k,RK O key x b[nb-1]:=λx hx=>by
  let(j,j1,j2,ex):=nI hx
  have:=hl j j1
  unfold beyB at this;rw[Tn,UE ex]at this;simp only[Pz,Rm,OQ]at this;show this
 cases BA:na-k>0
 .show Zv BA ?_;let m2:MH O key a.l b.l (out++(a.Q k na).reverse) k nb:=m.a sa EM (λx hx y hy=>by
   let(j,j1,j2,j3,ey):=Bw hy
   have:=Vr j j1 j2
   unfold beyB at this;rw[Tn,UE ey]at this;simp only[Pz,Rm,tI]at this;show Wi (Lg sb en eb x hx)<|Py this) (by rw[PD,bH])
  cases d1:k=0
  .show Zv (by simpa using d1) (YM<|hd _ _<|m2.ab sa sb<|by rw[d1];intro _ h;cases h)
  .show ZO (by simpa using d1) (bF L hk Vj Vi sa sb h1 eb J J Lc Ry m2 above hd λi2 j2 o2 g3 a3 b3 m' e1 e2 e3 e4 e5=>hn i2 j2 o2 g3 a3 b3 m' e1 e2 e3 e4 J)
 .let ek:k=na:=sD;show ZO BA (bF L hk Vj Vi sa sb h1 eb Ld Rz Lc Ry m (λx hx=>above x<|by rwa[ek]) hd hn)
end
abbrev Bu:=Option (Array Keyed)×Nat×Nat×Array Keyed×Nat×Nat
def hiB1(a b:Array Keyed)(g:Nat)(c:Bu):(StateT SortSt Sem (ForInStep Bu)):=elem' b (c.2.2.1-1) >>= λy=>elem' a (c.2.1-1) >>= λx=>lt' y x >>= λr=>match r with
 |some t=>if t=true then elem' a (c.2.1-1) >>= λx=>
    if (c.2.1-1 == 0)=true then pure (.done (some<|a.Q 0 (c.2.1-1)++b.Q 0 c.2.2.1++(c.2.2.2.1.push x).reverse,c.2.1-1,c.2.2.1,c.2.2.2.1.push x,c.2.2.2.2.1+1,0))
    else if c.2.2.2.2.1+1 >= g then pure (.done (none,c.2.1-1,c.2.2.1,c.2.2.2.1.push x,c.2.2.2.2.1+1,0)) else pure (.yield (none,c.2.1-1,c.2.2.1,c.2.2.2.1.push x,c.2.2.2.2.1+1,0))
   else elem' b (c.2.2.1-1) >>= λy=>
    if (c.2.2.1-1 == 1)=true then pure (.done (some<|b.Q 0 (c.2.2.1-1)++a.Q 0 c.2.1++(c.2.2.2.1.push y).reverse,c.2.1,c.2.2.1-1,c.2.2.2.1.push y,0,c.2.2.2.2.2+1))
    else if c.2.2.2.2.2+1 >= g then pure (.done (none,c.2.1,c.2.2.1-1,c.2.2.2.1.push y,0,c.2.2.2.2.2+1)) else pure (.yield (none,c.2.1,c.2.2.1-1,c.2.2.2.1.push y,0,c.2.2.2.2.2+1))
 |_=>pure (.done (some<|a.Q 0 c.2.1++b.Q 0 c.2.2.1++c.2.2.2.1.reverse,c.2.1,c.2.2.1,c.2.2.2.1,c.2.2.2.2.1,c.2.2.2.2.2))
abbrev GY:=Option (Array Keyed)×Nat×Nat×Array Keyed×Nat
def GX(a b:Array Keyed)(c:Jv):(StateT SortSt Sem (ForInStep Jv)):=if c.2.2.2.2.1>1 then NZ a b c.2.2.2.1 c.2.1 c.2.2.1 (c.2.2.2.2.1-1) c.2.2.2.2.2.1 c.2.2.2.2.2.2 else NZ a b c.2.2.2.1 c.2.1 c.2.2.1 c.2.2.2.2.1 c.2.2.2.2.2.1 c.2.2.2.2.2.2
def nH(c:Jv):(StateT SortSt Sem (ForInStep GY)):=match c.1 with
 |some r=>pure (.done (some r,c.2.1,c.2.2.1,c.2.2.2.1,c.2.2.2.2.1))
 |none=>Od (c.2.2.2.2.1+1) >>= λ_=>pure (.yield (none,c.2.1,c.2.2.1,c.2.2.2.1,c.2.2.2.2.1+1))
def Bt(a b:Array Keyed)(g:Nat)(c:Bu):(StateT SortSt Sem (ForInStep GY)):=match c.1 with
 |some r=>pure (.done (some r,c.2.1,c.2.2.1,c.2.2.2.1,g))
 |none=>liftM (rule "list.sort.gallop") >>= λ_=>forIn [0:a.t+b.t] ((none,c.2.1,c.2.2.1,c.2.2.2.1,g+1,c.2.2.2.2.1,c.2.2.2.2.2):Jv) (λ_ s=>GX a b s) >>= nH
def vE(a b:Array Keyed)(c:GY):(StateT SortSt Sem (ForInStep GY)):=forIn [0:a.t+b.t] ((none,c.2.1,c.2.2.1,c.2.2.2.1,0,0):Bu) (λ_ s=>hiB1 a b c.2.2.2.2 s) >>= Bt a b c.2.2.2.2
def nG(c:GY):(StateT SortSt Sem (Array Keyed)):=match c.1 with
 |some r=>pure r
 |none=>liftM (unsupported "internal:list.sort.merge-bound":Sem (Array Keyed))
def GW(a b:Array Keyed):(StateT SortSt Sem (Array Keyed)):=liftM (rule "list.sort.merge-hi") >>= λ_=>elem' a (a.t-1) >>= λx=>
 if (a.t-1 == 0)=true then pure (a.Q 0 (a.t-1)++b.Q 0 b.t++(#[x]:Array Keyed).reverse) else if (b.t == 1)=true then pure (b.Q 0 b.t++a.Q 0 (a.t-1)++(#[x]:Array Keyed).reverse)
 else get >>= λst=>forIn [0:a.t+b.t] ((none,a.t-1,b.t,#[x],gallopOf st):GY) (λ_ c=>vE a b c) >>= nG
def nF(a b:Array Keyed):BG a b=GW a b:=by
 unfold GW;show QP (Bind.bind _) (funext λ_=>QP (Bind.bind _)<|funext λx=>?_);show Qi Z (Qi Z<|QP (Bind.bind _)<|funext λst=>?_);show Qj Bind.bind (QP (forIn _ _)<|funext λ_=>funext λc=>?_) ?_
 .unfold vE;show Qj Bind.bind (QP (forIn _ _)<|funext λ_=>funext λc=>?_) ?_
  .unfold hiB1;show QP (Bind.bind _) (funext λ_=>QP (Bind.bind _)<|funext λ_=>QP (Bind.bind _)<|funext λr=>?_);cases r with
   |none=>rfl
   |some r=>rfl
  .funext c
   unfold Bt;let(c1,c2):=c;cases c1 with
   |some r=>rfl
   |none=>
    show QP (Bind.bind _) (funext λ_=>Qj Bind.bind (QP (forIn _ _)<|funext λ_=>funext λc=>?_) ?_)
    .unfold GX;show Qi ?_ ?_
     .unfold NZ;show QP (Bind.bind _) (funext λ_=>QP (Bind.bind _)<|funext λ_=>QP (Bind.bind _)<|funext λr=>?_);cases r with
      |none=>rfl
      |some r=>rfl
     .rfl
    .funext c
     let(c1,c2):=c;cases c1<;>rfl
 .funext c
  let(c1,c2):=c;cases c1<;>rfl
section
variable{a b:Array Keyed}{st:SortSt}
def nE(L:WA M A E s O key kd S){out:Array Keyed}{ja jb ac bc g:Nat}{R:ForInStep Bu->SortSt->Prop}(hk:kindOf st=kd)(Vj:∀x∈a.l,S x)(Vi:∀x∈b.l,S x)(sa:a.l.E (RK O key))(sb:b.l.E (RK O key))(h1:∀x∈b.l.M 1,∀y∈a.l,RK O key x y)(RA:1<=ja)(Rx:ja<=a.t)(RX:2<=jb)(Rw:jb<=b.t)(m:MH O key a.l b.l out ja jb)
  (hd:∀r z,WS O key a.l b.l r->R (.done (some r,z)) st)(hn:∀i2 j2 o2 a3 b3,MH O key a.l b.l o2 i2 j2->1<=i2->i2<=a.t->2<=j2->j2<=b.t->i2+j2+1=ja+jb->R (.done (none,i2,j2,o2,a3,b3)) st/\R (.yield (none,i2,j2,o2,a3,b3)) st):wpS M A E s (hiB1 a b g (none,ja,jb,out,ac,bc)) R st:=by
 let ha:ja-1<a.t:=sr;let hb:jb-1<b.t:=sr
 let ea:a[ja-1]?=some a[ja-1]:=To a _ ha;let eb:b[jb-1]?=some b[jb-1]:=To b _ hb
 let en:ja=ja-1+1:=sD;let Bv:jb=jb-1+1:=sr
 unfold hiB1;show Yz (Zu eb<|Yz<|Zu ea<|Yz<|L _ _ _ _ (Vi _ B) (Vj _ B) hk ?_);dsimp only;cases hc:O.blt (key b[jb-1]) (key a[ja-1]) with
 |true=>
  show Zv Z (Yz<|Zu ea ?_);let m':MH O key a.l b.l (out.push a[ja-1]) (ja-1) jb:=m.a sa sr (λx hx y hy=>by rw[vG en ea hy];show Wi (Lg sb Bv eb x hx)<|Py hc) (by rw[Qh en ea,RQ])
  cases d1:ja-1=0
  .show Zv (by simpa using d1) (YM<|hd _ _<|m'.ab sa sb<|by rw[d1];intro _ h;cases h)
  .show ZO (by simpa using d1) ?_;let z:=λa3 b3=>hn _ _ _ a3 b3 m' J sr RX Rw J
   cases d2:ac+1 >= g
   .show Zv d2 (YM (z _ _).1)
   .show ZO d2 (YM (z _ _).2)
 |false=>
  show ZO B (Yz<|Zu eb ?_);let m':MH O key a.l b.l (out.push b[jb-1]) ja (jb-1):=m.b sb sr (λx hx y hy=>by rw[vG Bv eb hy];show Wi (Lg sa en ea x hx) hc) (by rw[Qh Bv eb,RQ])
  cases d1:jb-1=1
  .show Zv (by simpa using d1) (YM<|hd _ _<|m'.ba sa sb λx hx y hy=>h1 x (by rwa[d1]at hx) y<|Vq hy)
  .show ZO (by simpa using d1) ?_;let z:=λa3 b3=>hn _ _ _ a3 b3 m' RA Rx J sD J
   cases d2:bc+1 >= g
   .show Zv d2 (YM (z _ _).1)
   .show ZO d2 (YM (z _ _).2)
def Zi6(L:WA M A E s O key kd S){XQ:SortSt}{out:Array Keyed}{na nb g:Nat}{R:ForInStep GY->SortSt->Prop}(hk:kindOf st=kd)(Vj:∀x∈a.l,S x)(Vi:∀x∈b.l,S x)(sa:a.l.E (RK O key))(sb:b.l.E (RK O key))(h1:∀x∈b.l.M 1,∀y∈a.l,RK O key x y)(Ld:1<=na)(Rz:na<=a.t)(Lc:2<=nb)(Ry:nb<=b.t)(m:MH O key a.l b.l out na nb)(ks:Tc st XQ)
  (hd:∀r z Xg,WS O key a.l b.l r->Tc st Xg->R (.done (some r,z)) Xg)(hn:∀i2 j2 o2 g3 Xg,MH O key a.l b.l o2 i2 j2->1<=i2->i2<=a.t->2<=j2->j2<=b.t->i2+j2+1<=na+nb->Tc st Xg->R (.yield (none,i2,j2,o2,g3)) Xg):wpS M A E s (vE a b (none,na,nb,out,g)) R XQ:=by
 unfold vE;show Yz (RJ (SU
  (I:=λy c Xg=>Xg=XQ/\∃ja jb out ac bc,c=(none,ja,jb,out,ac,bc)/\MH O key a.l b.l out ja jb/\1<=ja/\ja<=a.t/\2<=jb/\jb<=b.t/\ja+jb+y=na+nb)
  (Q:=λc Xg=>Xg=XQ/\((∃r z,c=(some r,z)/\WS O key a.l b.l r)\/∃ja jb out ac bc,c=(none,ja,jb,out,ac,bc)/\MH O key a.l b.l out ja jb/\1<=ja/\ja<=a.t/\2<=jb/\jb<=b.t/\ja+jb+1<=na+nb)) ?_ ?_ {Z,_,_,_,_,_,Z,m,Ld,Rz,Lc,Ry,Z}) ?_)
 .rintro y c Xg _ hy ⟨rfl,ja,jb,out,ac,bc,rfl,m,RA,Rx,RX,Rw,hr⟩;show nE L (ks.1.m hk) Vj Vi sa sb h1 RA Rx RX Rw m (λr z hr=>{Z,.inl ⟨r,z,Z,hr⟩}) λi2 j2 o2 a3 b3 m' e1 e2 e3 e4 e5=>{{Z,.inr {_,_,_,_,_,Z,m',e1,e2,e3,e4,J}},{Z,_,_,_,_,_,Z,m',e1,e2,e3,e4,J}}
 .rintro c Xg ⟨rfl,ja,jb,out,ac,bc,rfl,m,RA,Rx,RX,Rw,hr⟩;exists Z,.inr {_,_,_,_,_,Z,m,RA,Rx,RX,Rw,J}
 rintro c Xg ⟨rfl,Vx⟩;rcases Vx with ⟨r,z,rfl,hr⟩|⟨ja,jb,out,ac,bc,rfl,m,RA,Rx,RX,Rw,hr⟩
 .show YM (hd r _ _ hr ks)
 show Yz (wpS_lift<|Pw ⟨Z,?_⟩);show Yz (RJ (SU
  (I:=λy c WK=>Tc st WK/\∃Pm Pl out g ac bc,c=(none,Pm,Pl,out,g,ac,bc)/\MH O key a.l b.l out Pm Pl/\1<=Pm/\Pm<=a.t/\2<=Pl/\Pl<=b.t/\Pm+Pl<=ja+jb)
  (Q:=λc WK=>Tc st WK/\((∃r z,c=(some r,z)/\WS O key a.l b.l r)\/∃Pm Pl out g ac bc,c=(none,Pm,Pl,out,g,ac,bc)/\MH O key a.l b.l out Pm Pl/\1<=Pm/\Pm<=a.t/\2<=Pl/\Pl<=b.t/\Pm+Pl<=ja+jb)) ?_ (λc WK z=>{z.1,.inr z.2}) {ks,_,_,_,_,_,_,Z,m,RA,Rx,RX,Rw,XI _}) ?_)
 .rintro y c WK _ hy ⟨k1,Pm,Pl,out,g',ac',bc',rfl,m,Bs,Ju,Br,Jt,Lh⟩;unfold GX;cases hg:g'>1
  .show Zv hg (bE L (k1.1.m hk) Vj Vi sa sb h1 Bs Ju Br Jt m (λr z hr=>{k1,.inl ⟨r,z,Z,hr⟩}) λi2 j2 o2 g3 a3 b3 m3 e1 e2 e3 e4 e5=>{{k1,.inr {i2,j2,o2,g3,a3,b3,Z,m3,e1,e2,e3,e4,Yj e5 Lh}},{k1,i2,j2,o2,g3,a3,b3,Z,m3,e1,e2,e3,e4,Yj e5 Lh}})
  .show ZO hg (bE L (k1.1.m hk) Vj Vi sa sb h1 Bs Ju Br Jt m (λr z hr=>{k1,.inl ⟨r,z,Z,hr⟩}) λi2 j2 o2 g3 a3 b3 m3 e1 e2 e3 e4 e5=>{{k1,.inr {i2,j2,o2,g3,a3,b3,Z,m3,e1,e2,e3,e4,Yj e5 Lh}},{k1,i2,j2,o2,g3,a3,b3,Z,m3,e1,e2,e3,e4,Yj e5 Lh}})
 .rintro c WK ⟨k1,Vx⟩;rcases Vx with ⟨r,z,rfl,UQ⟩|⟨na3,nb3,Ha,g3,ac3,bc3,rfl,m3,e1,e2,e3,e4,UQ⟩
  .show YM (hd r _ _ UQ k1)
  .show Yz (Lk<|YM<|hn na3 nb3 Ha (g3+1) _ m3 e1 e2 e3 e4 J k1)
def ZT5(L:WA M A E s O key kd S){Q:Array Keyed->SortSt->Prop}(hk:kindOf st=kd)(Vj:∀x∈a.l,S x)(Vi:∀x∈b.l,S x)(sa:a.l.E (RK O key))(sb:b.l.E (RK O key))(ha:1<=a.t)(hb:1<=b.t)
  (h1:∀x∈b.l.M 1,∀y∈a.l,RK O key x y)(h2:∀x∈b.l,∀y∈a.l.drop (a.t-1),RK O key x y)
  (h:∀r g,WS O key a.l b.l r->Q r (SortSt.mk' (kindOf st) (arrOf st) (pendingOf st) g<|failedOf st)):wpS M A E s (BG a b) Q st:=by
 let bump:∀XQ,Tc st XQ->∀r,WS O key a.l b.l r->Q r XQ:=λXQ ⟨e1,e2,e3,e4⟩ r hr=>by
  have:=h r (gallopOf XQ) hr
  rwa[<-e1,<-e2,<-e3,<-e4]at this
 let k0:Tc st st:=⟨Z,Z,Z,Z⟩;let hl:a.t-1<a.t:=sr
 let e0:a[a.t-1]?=some a[a.t-1]:=To a _ hl;let ta:a.l.M a.t=a.l:=YJ B
 let tb:b.l.M b.t=b.l:=YJ B;let m0:MH O key a.l b.l #[] a.t b.t:={List.E.nil,λ_ _ _ h=>(by cases h),λ_ _ _ h=>(by cases h),by rw[ta,tb];simp}
 let m1:MH O key a.l b.l #[a[a.t-1]] (a.t-1) b.t:=m0.a sa J (by rwa[ta,tb]) (by rw[Qh sD e0];rfl);rw[nF];unfold GW;show Yz (wpS_lift<|Pw ⟨Z,?_⟩);show Yz (Zu e0 ?_);cases c1:a.t-1=0
 .show Zv (by simpa using c1) (YM<|bump st k0 _<|m1.ab sa sb<|by rw[c1];intro _ h;cases h)
 show ZO (by simpa using c1) ?_;cases c2:b.t=1
 .show Zv (by simpa using c2) (YM<|bump st k0 _<|m1.ba sa sb λx hx y hy=>h1 x (by rwa[c2]at hx) y<|Vq hy)
 show ZO (by simpa using c2) (Yz<|QJ ?_);show Yz (RJ (SU
  (I:=λx c XQ=>Tc st XQ/\∃na nb out g,c=(none,na,nb,out,g)/\MH O key a.l b.l out na nb/\1<=na/\na<=a.t/\2<=nb/\nb<=b.t/\na+nb+x<=a.t+b.t)
  (Q:=λc XQ=>Tc st XQ/\∃r,c.1=some r/\WS O key a.l b.l r) ?_ ?_ {k0,_,_,_,_,Z,m1,J,sr,J,XI _,J}) ?_)
 .rintro x c XQ _ hx ⟨k1,na,nb,out,g,rfl,m,e1,e2,e3,e4,GZ⟩;show Zi6 L hk Vj Vi sa sb h1 e1 e2 e3 e4 m k1 (λr z Xg hr k2=>⟨k2,r,Z,hr⟩) λi2 j2 o2 g3 Xg m' f1 f2 f3 f4 f5 k2=>{k2,_,_,_,_,Z,m',f1,f2,f3,f4,J}
 .rintro c XQ ⟨k1,na,nb,out,g,rfl,m,e1,e2,e3,e4,GZ⟩;lia
 .rintro⟨c1,c2⟩ XQ ⟨k1,r,hc,hr⟩;cases hc;show YM (bump XQ k1 r hr)
end
end
section
variable{M:Model}{A:Around}{E:Ae}{s:Shared}{O:KeyOrd}{key:Keyed->O.α}{kd:SortKind}{S:Keyed->Prop}
def nB{σ:Type}{st x:σ}{Q:PUnit->σ->Prop}(h:Q ⟨⟩ x):wpS M A E s (set x:StateT σ Sem PUnit) Q st:=by unfold wpS;rw[StateT.run_set];show Yh ⟨Z,h⟩
def bD:∀(r:List Keyed)(o k:Nat)(arr:Array Keyed),o+k+r.f<=arr.t->
  ((r.zipIdx k).foldl (λa x=>match x with|(p,j)=>a.setIfInBounds (o+j) p) arr).l=arr.l.M (o+k)++r++arr.l.drop (o+k+r.f)
 |[],o,k,arr,h=>B
 |p::r,o,k,arr,h=>by
  rw[YF]at h;let ih:=bD r o (k+1) (arr.setIfInBounds (o+k) p) (by rw[Array.size_setIfInBounds];lia)
  rw[List.zipIdx_cons,DR];show ih.m ?_;rw[eR,YF];let hl:o+k<arr.l.f:=by simp;lia
  rw[List.drop_set_of_lt J,show o+(k+1)=o+k+1 by lia,List.take_set,List.take_succ_eq_append_getElem hl,dS _ _ (by rw[Yl];grind)];simp[show o+k+1+r.length=o+k+(r.length+1) by lia,IG (by simpa using MQ hl:o+k<=arr.size)]
def ZU5(L:WA M A E s O key kd S){st:SortSt}{i sa na sb nb pw Bq:Nat}{P X Y T:List Keyed}{PA PB:List (Nat×Nat×Nat)}{Q:Bool->SortSt->Prop}(hk:kindOf st=kd)(hf:failedOf st=none)(ea:(arrOf st).l=P++X++Y++T)(hS:∀x∈(arrOf st).l,S x)
  (ep:(pendingOf st).l=PA++(sa,na,pw)::(sb,nb,Bq)::PB)(hi:PA.f=i)(h1:P.f=sa)(h2:X.f=na)(h3:sb=sa+na)(h4:Y.f=nb)(h5:1<=na)(h6:1<=nb)(sX:X.E (RK O key))(sY:Y.E (RK O key))
  (h:∀r6 XQ,r6.E (RK O key)->r6.Perm (X++Y)->(arrOf XQ).l=P++r6++T->(pendingOf XQ).l=PA++(sa,na+nb,pw)::PB->kindOf XQ=kd->failedOf XQ=none->Q true XQ):wpS M A E s (mergeAt' i) Q st:=by
 let hsz:(arrOf st).t=P.f+X.f+Y.f+T.f:=by rw[<-Ys,ea];simp;lia
 let Bp:∀j,j<na->∃p,(arrOf st)[sa+j]?=some p/\X[j]?=some p/\S p:=λj hj=>by let e:X[j]?=some X[j]:=Xp sr;show{X[j],?_,e,hS _<|by rw[ea];simp};rw[<-YH,ea,Yu,Yu,Yo J,Yr sD,show sa+j-P.f=j by lia,e]
 let Bo:∀j,j<nb->∃p,(arrOf st)[sb+j]?=some p/\Y[j]?=some p/\S p:=λj hj=>by let e:Y[j]?=some Y[j]:=Xp sr;show{Y[j],?_,e,hS _<|by rw[ea];simp};rw[<-YH,ea,Yu,Yo (by simp;lia),Yr (by simp;lia),show sb+j-(P++X).f=j by simp;lia,e]
 let Lb:∀{l:List Keyed}(_:l.E (RK O key)){i j:Nat}{p q:Keyed},i<=j->l[i]?=some p->l[j]?=some q->RK O key p q:=λ{l} sl {i j p q} WL ei ej=>by
  let(h1,rfl):=XA.H ei;let(h2,rfl):=XA.H ej;cases e:i=j
  .subst e;show Px _
  .show Kj.H sl i j h1 h2 J
 let bC:∀{j p},X[j]?=some p->j<na->ke key (arrOf st) (sa+j)=key p:=λ{j p} e hj=>by let(q,e1,e2,_):=Bp j hj;rw[e]at e2;cases e2;show UE e1
 let bB:∀{j p},Y[j]?=some p->j<nb->ke key (arrOf st) (sb+j)=key p:=λ{j p} e hj=>by let(q,e1,e2,_):=Bo j hj;rw[e]at e2;cases e2;show UE e1
 let pe:((((pendingOf st).setIfInBounds i (sa,na+nb,pw)).eraseIdxIfInBounds (i+1)).l)=PA++(sa,na+nb,pw)::PB:=by
  let e1:((pendingOf st).setIfInBounds i (sa,na+nb,pw)).l=PA++(sa,na+nb,pw)::(sb,nb,Bq)::PB:=by rw[eR,ep,dS _ _ J,hi,MR];rfl
  unfold Array.eraseIdxIfInBounds;let Xm:i+1<((pendingOf st).setIfInBounds i (sa,na+nb,pw)).t:=by rw[<-Ys,e1];simp;lia
  rw[dif_pos Xm,Array.toList_eraseIdx,e1,List.eraseIdx_append_of_length_le J,show i+1-PA.f=1 by grind];rfl
 let gi:(pendingOf st)[i]?=some (sa,na,pw):=by rw[<-YH,ep,Yo sr,show i-PA.f=0 by grind];rfl
 let gi1:(pendingOf st)[i+1]?=some (sb,nb,Bq):=by rw[<-YH,ep,Yo J,show i+1-PA.f=1 by grind];rfl
 let(p0,q1,q2,q3):=Bo 0 h6;let fY:∀y∈Y,RK O key p0 y:=λy hy=>by let(j,ej):=Yv hy;show Lb sY (Yi j) q2 ej
 unfold mergeAt';show Yz (QJ ?_);rw[gi,gi1];dsimp only;show Yz (nB ?_);show Yz (Zu q1 ?_);show Yz (EN L hk q3 (λj hj=>by let(p,a,_,b):=Bp j hj;exists p,a,b) J (λj l UH hl=>?_) λk EM hl hr=>?_)
 .let⟨p,e1,e2,_⟩:=Bp j J;let(q,e3,e4,_):=Bp l hl;rw[UE e1,UE e3];show Lb sX UH e2 e4
 dsimp only;let Bn:∀x∈X.M k,RK O key x p0:=λx hx=>by
  let(j,ej):=Yv hx;let hj:=(XA.H ej).1
  rw[Yl]at hj;rw[OY,if_pos J]at ej
  have:=hl j sr
  unfold beyB at this;rw[bC ej sD]at this;simp only[Pz,Rm,OQ]at this;show this
 let Bm:∀x∈X.drop k,RK O key p0 x:=λx hx=>by
  let(j,ej):=Yv hx;let hj:=(XA.H ej).1
  rw[YS]at hj;rw[SS]at ej
  have:=hr (k+j) J sD
  unfold beyB at this;rw[bC ej sr]at this;simp only[Pz,Rm,tI]at this;show Py this
 cases c1:na-k=0
 .rw[if_pos (by simpa using c1)];show YM (h (X++Y) _ ?_ (Ij _) (by change(arrOf st).l=_;rw[ea];simp) pe hk hf);rw[YI];exists sX,sY,λx hx y hy=>Wi (Bn x<|by rwa[YJ sD])<|fY y hy
 rw[if_neg (by simpa using c1)];let(pz,z1,z2,z3):=Bp (na-1) sD;rw[show sa+(na-1)=sa+k+(na-k)-1 by lia]at z1;show Yz (Zu z1 ?_);show Yz (EN L hk z3 (λj hj=>by let(p,a,_,b):=Bo j hj;exists p,a,b) sD (λj l UH hl=>?_) λkb hkb Vb Vr=>?_)
 .let⟨p,e1,e2,_⟩:=Bo j J;let(q,e3,e4,_):=Bo l hl;rw[UE e1,UE e3];show Lb sY UH e2 e4
 dsimp only;let NX:∀x∈X,RK O key x pz:=λx hx=>by
  let(j,ej):=Yv hx;let hj:=(XA.H ej).1
  show Lb sX sD ej z2
 let nz:∀y∈Y.M kb,RK O key y pz:=λy hy=>by
  let(j,ej):=Yv hy;let hj:=(XA.H ej).1
  rw[Yl]at hj;rw[OY,if_pos J]at ej
  have:=Vb j sr
  unfold beyB at this;rw[bB ej sD]at this;show Py this
 let NW:∀y∈Y.drop kb,RK O key pz y:=λy hy=>by
  let(j,ej):=Yv hy;let hj:=(XA.H ej).1
  rw[YS]at hj;rw[SS]at ej
  have:=Vr (kb+j) J sD
  unfold beyB at this;rwa[bB ej sr]at this
 cases c2:kb=0
 .rw[if_pos (by simpa using c2)];show YM (h (X++Y) _ ?_ (Ij _) (by change(arrOf st).l=_;rw[ea];simp) pe hk hf);rw[YI];exists sX,sY,λx hx y hy=>Wi (NX x hx)<|NW y<|by rwa[c2,ID]
 rw[if_neg (by simpa using c2)];let eX:((arrOf st).Q (sa+k) sb).l=X.drop k:=by rw[Fw,Fy,ea,Yu,Yu,xC,YK J,OU,El J,Fz (by rw[YS];grind),show sa+k-P.f=k by grind];show YJ (by rw[YS];omega)
 let eY:((arrOf st).Q sb (sb+kb)).l=Y.M kb:=by rw[Fw,Fy,ea,Yu,xC,YK (by simp;omega),OU,show sb-(P++X).f=0 by simp;omega,ID,Fz sr,tX]
 let zX:((arrOf st).Q (sa+k) sb).t=na-k:=by rw[<-Ys,eX,YS];omega
 let zY:((arrOf st).Q sb (sb+kb)).t=kb:=by rw[<-Ys,eY,Yl];omega
 let pX:=Mo k X;let pY:=Mo kb Y
 let sX2:(X.drop k).E (RK O key):=sX.sublist (DV _ _);let sY1:(Y.M kb).E (RK O key):=sY.sublist (Mm _ _)
 let cX:∀x∈X.M k,∀y∈X.drop k,RK O key x y:=by
  have:=sX
  rw[<-pX,YI]at this;show this.2.2
 let cY:∀x∈Y.M kb,∀y∈Y.drop kb,RK O key x y:=by
  have:=sY
  rw[<-pY,YI]at this;show this.2.2
 let bA:∀x∈((arrOf st).Q sb (sb+kb)).l.M 1,∀y∈((arrOf st).Q (sa+k) sb).l,RK O key x y:=λx hx y hy=>by
  rw[eY,Il,show min 1 kb=1 by omega]at hx;rw[eX]at hy
  have:x=p0:=by
   obtain⟨y0,l,e⟩:∃y0 l,Y=y0::l:=by
    cases hY:Y with
    |nil=>rw[hY]at h4;simp at h4;omega
    |cons y0 l=>exists y0,l,Z
   rw[e]at hx q2;simp at hx q2;rw[hx,q2]
  rw[this];show Bm y hy
 let hd2:∀x∈((arrOf st).Q sb (sb+kb)).l,∀y∈((arrOf st).Q (sa+k) sb).l.drop (((arrOf st).Q (sa+k) sb).t-1),RK O key x y:=λx hx y hy=>by
  rw[eY]at hx;rw[eX,zX,DP,show k+(na-k-1)=na-1 by omega]at hy
  have:y=pz:=by let(Xm,ez):=XA.H z2;rw[Ki Xm,ez,YK sr]at hy;show XD.H hy
  rw[this];show nz x hx
 let fin:∀(r:Array Keyed)(g:Nat)(ar:Array Keyed),ar=arrOf st->WS O key ((arrOf st).Q (sa+k) sb).l ((arrOf st).Q sb (sb+kb)).l r->
   Q true (SortSt.mk' (kindOf st) (List.foldl (λa x=>match x with|(p,j)=>a.setIfInBounds (sa+k+j) p) ar r.l.zipIdx) (((pendingOf st).setIfInBounds i (sa,na+nb,pw)).eraseIdxIfInBounds (i+1)) g<|failedOf st):=by
  rintro r g _ rfl ⟨gs,gp⟩;rw[eX,eY]at gp;let rl:r.l.f=na-k+kb:=by rw[gp.length_eq,Xy,YS,Yl];omega
  show h (X.M k++r.l++Y.drop kb) _ ?_ ?_ ?_ pe hk hf
  .rw[YI,YI];exists {sX.sublist<|Mm _ _,gs,λx hx y hy=>?_},sY.sublist<|DV _ _,λx hx y hy=>?_
   .rcases XB.H (gp.mem_iff.H hy) with hy|hy
    .show cX x hx y hy
    .show Wi (Bn x hx) (fY y<|Vq hy)
   .rcases XB.H hx with hx|hx
    .show Wi (NX x<|Vq hx) (NW y hy)
    .rcases XB.H (gp.mem_iff.H hx) with hx|hx
     .show Wi (NX x<|Mn hx) (NW y hy)
     .show cY x hx y hy
  .let p1:(X.M k++r.l++Y.drop kb).Perm (X.M k++(X.drop k++Y.M kb)++Y.drop kb):=Eg _ (MZ _ gp);show p1.m (List.Perm.of_eq ?_);rw[<-Yu,pX,Yu,pY]
  .let e:=bD r.l (sa+k) 0 (arrOf st) (by rw[rl];omega);show e.m ?_;rw[Nat.add_zero,rl,ea];let t1:(P++X++Y++T).M (sa+k)=P++X.M k:=by rw[Yu,Yu,List.take_append,YJ sr,Fz sr,show sa+k-P.f=k by omega]
   let t2:(P++X++Y++T).drop (sa+k+(na-k+kb))=Y.drop kb++T:=by rw[Yu,xC,YK (by simp;omega),OU,show sa+k+(na-k+kb)-(P++X).f=kb by simp;omega,El sr]
   rw[t1,t2];simp
 let bw:∀x∈((arrOf st).Q (sa+k) sb).l,S x:=λx hx=>hS x (by rw[eX]at hx;rw[ea];simp[Mn hx]);let bu:∀x∈((arrOf st).Q sb (sb+kb)).l,S x:=λx hx=>hS x (by rw[eY]at hx;rw[ea];simp[Vq hx])
 let sx:((arrOf st).Q (sa+k) sb).l.E (RK O key):=by rwa[eX]
 let sy:((arrOf st).Q sb (sb+kb)).l.E (RK O key):=by rwa[eY]
 split
 .show Yz (ZS5 L hk bw bu sx sy (by rw[zX];omega) (by rw[zY];omega) bA hd2 λr g hg=>?_);show Yz (OO<|Yz<|QJ<|YM ?_);change Q (failedOf st).isNone _
  rw[hf]
  have:=fin r g _ Z hg
  rwa[hf]at this
 .show Yz (ZT5 L hk bw bu sx sy (by rw[zX];omega) (by rw[zY];omega) bA hd2 λr g hg=>?_);show Yz (OO<|Yz<|QJ<|YM ?_);change Q (failedOf st).isNone _
  rw[hf]
  have:=fin r g _ Z hg
  rwa[hf]at this
def Stp(lo:Nat)(st XQ:SortSt):(Prop):=kindOf XQ=kindOf st/\failedOf XQ=failedOf st/\pendingOf XQ=pendingOf st/\(arrOf XQ).Perm (arrOf st)/\∀i,i<lo->(arrOf XQ)[i]?=(arrOf st)[i]?
def Stp.refl(lo:Nat)(st:SortSt):Stp lo st st:={Z,Z,Z,DQ _,λ_ _=>rfl}
def Stp.trans{lo:Nat}{a b c:SortSt}(h:Stp lo a b)(k:Stp lo b c):Stp lo a c:={k.1.m h.1,k.2.1.m h.2.1,k.2.2.1.m h.2.2.1,k.2.2.2.1.m h.2.2.2.1,λi hi=>(k.2.2.2.2 i hi).m (h.2.2.2.2 i hi)}
def Stp.size{lo:Nat}{a b:SortSt}(h:Stp lo a b):(arrOf b).t=(arrOf a).t:=h.2.2.2.1.size_eq
def Stp.all{lo:Nat}{a b:SortSt}(h:Stp lo a b)(hS:∀x∈(arrOf a).l,S x):∀x∈(arrOf b).l,S x:=λx hx=>hS x ((Uv.H h.2.2.2.1).mem_iff.H hx)
def Stp.mirror{lo i j:Nat}{st:SortSt}(hi:lo<=i)(hj:j<=(arrOf st).t):Stp lo st (setArr st (PyProof.Rows.mirror (arrOf st) i j ((j-i)/2))):=
 {Z,Z,Z,mirror_perm _ _ _ _,λk hk=>by change(PyProof.Rows.mirror (arrOf st) i j<|(j-i)/2)[k]?=_;rw[sM hj,if_neg J]}
def Stp.bubble{lo src d:Nat}{st:SortSt}(hs:src<(arrOf st).t)(hd:d<=src)(JS:lo<=src-d):Stp lo st (setArr st (PyProof.Rows.bubble (arrOf st) src d)):=
 {Z,Z,Z,bubble_perm _ _ _,λk hk=>by change(PyProof.Rows.bubble (arrOf st) src d)[k]?=_;rw[getElem?_bubble hs d hd,if_neg J,if_neg J]}
def Bl(h:xs[i]?=ys[j]?):ke key xs i=ke key ys j:=by unfold ke;rw[Yy,Yy,h]
def Ts(hj:j<=xs.t)(k:Nat):ke key (mirror xs i j ((j-i)/2)) k=if i<=k/\k<j then ke key xs (i+j-1-k) else ke key xs k:=by
 let e:=sM (i:=i) hj k;split
 .rename_i h;rw[if_pos h]at e;show Bl e
 .rename_i h;rw[if_neg h]at e;show Bl e
def br(hs:src<xs.t)(hd:d<=src)(k:Nat):ke key (bubble xs src d) k=if k=src-d then ke key xs src else if src-d<k/\k<=src then ke key xs (k-1) else ke key xs k:=by
 let e:=getElem?_bubble hs d hd k;split
 .rename_i h;rw[if_pos h]at e;show Bl e
 .rename_i h;rw[if_neg h]at e;split
  .rename_i h;rw[if_pos h]at e;show Bl e
  .rename_i h;rw[if_neg h]at e;show Bl e
def Bk(L:WA M A E s O key kd S){st:SortSt}{Q:Option Bool->SortSt->Prop}(hk:kindOf st=kd)(hS:∀x∈(arrOf st).l,S x)(hi:i<(arrOf st).t)(hj:j<(arrOf st).t)
  (h:Q (some<|O.blt (ke key (arrOf st) i)<|ke key (arrOf st) j) st):wpS M A E s (ltAt' i j) Q st:=by
 let e1:=To (arrOf st) i hi;let e2:=To (arrOf st) j hj
 rw[UE e1,UE e2]at h;rw[ltAt'_eq];show Yz (QJ ?_);show Yz (Zu e1<|Yz<|Zu e2 ?_);show L _ _ _ _ (hS _ B) (hS _ B) hk h
def So{st:SortSt}{Q:Unit->SortSt->Prop}(h:Q () (setArr st (mirror (arrOf st) i j ((j-i)/2)))):wpS M A E s (reverseSlice' i j) Q st:=by rw[reverseSlice'_eq];show OO h
def UD(O:KeyOrd)(key:Keyed->O.α)(arr:Array Keyed)(lo k:Nat):(Prop):=∀i j,i<=j->j<k->O.kle (ke key arr<|lo+i) (ke key arr<|lo+j)
def UU(O:KeyOrd)(key:Keyed->O.α)(arr:Array Keyed)(lo k:Nat):(Prop):=∀i j,i<=j->j<k->O.kle (ke key arr<|lo+j) (ke key arr<|lo+i)
def Bj(lo a WO:Nat):(StateT SortSt Sem (Option (Option Nat)×Nat)):=forIn [a:WO] ((none,a):Option (Option Nat)×Nat) λ_ r=>do
 let x <-ltAt' (lo+r.2) (lo+r.2-1)
 match x with
 |some b=>if b=true then pure (.done (none,r.2)) else pure (.yield (none,r.2+1))
 |_=>pure (.done (some none,r.2))
def Bi(L:WA M A E s O key kd S){st:SortSt}{lo a WO:Nat}{Q:Option (Option Nat)×Nat->SortSt->Prop}(hk:kindOf st=kd)(hS:∀x∈(arrOf st).l,S x)(hn:lo+WO<=(arrOf st).t)(ha:1<=a)(han:a<=WO)(hs:UD O key (arrOf st) lo a)
  (h:∀n,a<=n->n<=WO->UD O key (arrOf st) lo n->(n=WO\/O.klt (ke key (arrOf st)<|lo+n) (ke key (arrOf st)<|lo+n-1))->Q (none,n) st):wpS M A E s (Bj lo a WO) Q st:=by
 unfold Bj;show SU (I:=λx c XQ=>XQ=st/\c=(none,x)/\UD O key (arrOf st) lo x) ?_ ?_ ⟨Z,Z,hs⟩
 .rintro x c XQ nu hxn ⟨rfl,rfl,Wf⟩;show Yz (Bk L hk hS J J ?_);dsimp only;cases e:O.blt (ke key (arrOf XQ)<|lo+x) (ke key (arrOf XQ)<|lo+x-1) with
  |true=>
   rw[if_pos Z];show YM (h x nu J Wf<|.inr e)
  |false=>
   rw[if_neg B];show YM {Z,Z,λi j WL hj=>?_};cases Bh:j<x
   .show Wf i j WL Bh
   .let Og:j=x:=J;subst Og;cases Tv:i=j
    .subst Tv;show Px _
    .have:=Wf i (j-1) J J
     rw[show lo+(j-1)=lo+j-1 by lia]at this;show Wi this e
 .rintro c XQ ⟨rfl,rfl,Wf⟩;rw[show max a WO=WO by lia]at Wf ⊢;show h WO han (XI _) Wf (.inl Z)
def Bg(lo n WO:Nat):(StateT SortSt Sem (Option (Option Nat)×Nat×Nat)):=forIn [n:WO] ((none,n,0):Option (Option Nat)×Nat×Nat) λ_ r=>do
 let x <-ltAt' (lo+r.2.1) (lo+r.2.1-1)
 match x with
 |some b=>
  if b=true then
   if r.2.2>0 then do
    reverseSlice' (lo+r.2.1-(r.2.2+1)) (lo+r.2.1)
    pure (.yield (none,r.2.1+1,0))
   else pure (.yield (none,r.2.1+1,0))
  else do
   let y <-ltAt' (lo+r.2.1-1) (lo+r.2.1)
   match y with
   |some c=>if c=true then pure (.done (none,r.2.1,r.2.2)) else pure (.yield (none,r.2.1+1,r.2.2+1))
   |_=>pure (.done (some none,r.2.1,r.2.2))
 |_=>pure (.done (some none,r.2.1,r.2.2))
def Zz(hj:j<=xs.t)(he:∀k,i<=k->k<j->ke key xs k=ke key xs (j-1))(k:Nat):ke key (mirror xs i j ((j-i)/2)) k=ke key xs k:=by
 rw[Ts hj];split
 .rw[he _ sr sr,he k J J]
 .rfl
def bq(L:WA M A E s O key kd S){st:SortSt}{lo n WO:Nat}{Q:Option (Option Nat)×Nat×Nat->SortSt->Prop}(hk:kindOf st=kd)(hS:∀x∈(arrOf st).l,S x)(hn:lo+WO<=(arrOf st).t)(h1:1<=n)(hnn:n<=WO)(hs:UU O key (arrOf st) lo n)
  (h:∀m Vw XQ,Stp lo st XQ->n<=m->m<=WO->UU O key (arrOf XQ) lo m->Vw+1<=m->(∀i,lo+m-(Vw+1)<=i->i<lo+m->ke key (arrOf XQ) i=ke key (arrOf XQ) (lo+m-1))->Q (none,m,Vw) XQ):wpS M A E s (Bg lo n WO) Q st:=by
 unfold Bg;show SU (I:=λx c XQ=>∃Vw,c=(none,x,Vw)/\Stp lo st XQ/\UU O key (arrOf XQ) lo x/\Vw+1<=x/\(∀i,lo+x-(Vw+1)<=i->i<lo+x->ke key (arrOf XQ) i=ke key (arrOf XQ) (lo+x-1))) ?_ ?_ {0,Z,Stp.refl _ _,hs,J,λi h1 h2=>by congr 1;lia}
 .rintro x c XQ nu hxn ⟨Vw,rfl,WV,Wf,hq,he⟩;let Uy:=WV.1.m hk
  let Ul:=WV.all hS;let hz:=WV.t
  dsimp only;show Yz (Bk L Uy Ul J J ?_);dsimp only;cases e:O.blt (ke key (arrOf XQ)<|lo+x) (ke key (arrOf XQ)<|lo+x-1) with
  |true=>
   rw[if_pos Z];let non:∀ar,(∀k,k<=lo+x->ke key ar k=ke key (arrOf XQ) k)->UU O key ar lo (x+1):=λar bp i j WL hj=>by
    rw[bp _ J,bp _ J];cases Bh:j<x
    .show Wf i j WL Bh
    .let Og:j=x:=J;subst Og;cases Tv:i=j
     .subst Tv;show Px _
     .have:=Wf i (j-1) J J
      rw[show lo+(j-1)=lo+j-1 by lia]at this;show Wi (Py e) this
   cases c:Vw>0
   .rw[if_pos c];show Yz (So<|YM ⟨0,Z,WV.m<|Stp.mirror J J,?_,J,λi h1 h2=>by congr 1;lia⟩);show non _ λk hk=>Zz J he k
   .rw[if_neg c];show YM {0,Z,WV,non _ λ_ _=>rfl,sr,λi h1 h2=>by congr 1;omega}
  |false=>
   rw[if_neg B];show Yz (Bk L Uy Ul sr sr ?_);dsimp only;cases e2:O.blt (ke key (arrOf XQ)<|lo+x-1) (ke key (arrOf XQ)<|lo+x) with
   |true=>
    rw[if_pos Z];show YM (h x Vw XQ WV nu J Wf hq he)
   |false=>
    rw[if_neg B];let eq:ke key (arrOf XQ) (lo+x-1)=ke key (arrOf XQ) (lo+x):=O.total _ _ e2 e
    show YM {Vw+1,Z,WV,λi j WL hj=>?_,J,λi h1 h2=>?_}
    .cases Bh:j<x
     .show Wf i j WL Bh
     .let Og:j=x:=sr;subst Og;cases Tv:i=j
      .subst Tv;show Px _
      .have:=Wf i (j-1) sr sr
       rwa[show lo+(j-1)=lo+j-1 by omega,eq]at this
    .rw[show lo+(x+1)-1=lo+x by lia,<-eq];cases hi:i<lo+x
     .show he i J hi
     .rw[show i=lo+x by lia,eq]
 .rintro c XQ ⟨Vw,rfl,WV,Wf,hq,he⟩;rw[show max n WO=WO by lia]at *;show h WO Vw XQ WV hnn (XI _) Wf hq he
def Zj6(L:WA M A E s O key kd S){st:SortSt}{lo WO:Nat}{Q:Option Nat->SortSt->Prop}(hk:kindOf st=kd)(hS:∀x∈(arrOf st).l,S x)(hn:lo+WO<=(arrOf st).t)(h1:1<=WO)
  (h:∀m XQ,Stp lo st XQ->1<=m->m<=WO->UD O key (arrOf XQ) lo m->Q (some m) XQ):wpS M A E s (countRun' lo WO) Q st:=by
 rw[countRun'_eq];let one:UD O key (arrOf st) lo 1:=λi j WL hj=>by
  have:i=j:=J
  subst this;show Px _
 show Yz (Bi L hk hS hn (XI _) h1 one λn EL OB hs hx=>?_);dsimp only;cases c1:n=WO
 .rw[if_pos (by simpa using c1)];show YM (h n st (Stp.refl _ _) EL OB hs)
 rw[if_neg (by simpa using c1)];let Xm:O.klt (ke key (arrOf st)<|lo+n) (ke key (arrOf st)<|lo+n-1):=hx.resolve_left c1
 cases c2:n>1
 .rw[if_pos c2];show Yz (Bk L hk hS J J ?_);dsimp only;cases e:O.blt (ke key (arrOf st) lo) (ke key (arrOf st)<|lo+n-1) with
  |true=>
   rw[if_pos Z];show YM (h n st (Stp.refl _ _) EL OB hs)
  |false=>
   rw[if_neg B];show Yz (So ?_);let t1:Stp lo st (setArr st<|mirror (arrOf st) lo (lo+n)<|(lo+n-lo)/2):=Stp.mirror (XI _) J
   let eqs:∀k,lo<=k->k<lo+n->ke key (arrOf st) k=ke key (arrOf st) (lo+n-1):=λk k1 k2=>by
    let a1:=hs (k-lo) (n-1) sD J;let a2:=hs 0 (k-lo) J sD
    rw[show lo+(k-lo)=k by grind,show lo+(n-1)=lo+n-1 by lia]at a1;rw[show lo+(k-lo)=k by omega,Nat.add_zero]at a2;show KeyOrd.kle_antisymm a1 (Wi e a2)
   let Rv:UU O key (mirror (arrOf st) lo (lo+n)<|(lo+n-lo)/2) lo (n+1):=λi j WL hj=>by
    rw[Zz J eqs,Zz sr eqs];cases hjn:j<n
    .rw[eqs (lo+i) J J,eqs (lo+j) J J];show Px _
    .let Og:j=n:=J;subst Og;cases Tv:i=j
     .subst Tv;show Px _
     .rw[eqs (lo+i) J J];show Py Xm
   obtain⟨RZ,e1⟩:∃RZ,RZ=setArr st (mirror (arrOf st) lo (lo+n)<|(lo+n-lo)/2):={_,Z};let Rv:UU O key (arrOf RZ) lo (n+1):=by rwa[e1]
   rw[<-e1]at t1 ⊢;show Yz (wpS_lift<|Pw ⟨Z,?_⟩);show Yz (bq L (t1.1.m hk) (t1.all hS) (by have:=t1.t;lia) J J Rv λm Vw Xg nt TX We NV nr heq=>?_);dsimp only;let t2:=t1.m nt
   cases c3:Vw>0
   .rw[if_pos c3];show Yz (So ?_);let t3:Stp lo st (setArr Xg<|mirror (arrOf Xg) (lo+m-(Vw+1)) (lo+m)<|(lo+m-(lo+m-(Vw+1)))/2):=t2.m (Stp.mirror J (by have:=t2.t;lia))
    let Vh:UU O key (mirror (arrOf Xg) (lo+m-(Vw+1)) (lo+m)<|(lo+m-(lo+m-(Vw+1)))/2) lo m:=λi j WL hj=>by rw[Zz (by have:=t2.t;lia) heq,Zz (by have:=t2.t;omega) heq];show NV i j WL hj
    obtain⟨WK,e3⟩:∃WK,WK=setArr Xg (mirror (arrOf Xg) (lo+m-(Vw+1)) (lo+m)<|(lo+m-(lo+m-(Vw+1)))/2):={_,Z};let Vh:UU O key (arrOf WK) lo m:=by rwa[e3]
    rw[<-e3]at t3 ⊢;show Yz (So ?_);let t4:Stp lo st (setArr WK<|mirror (arrOf WK) lo (lo+m)<|(lo+m-lo)/2):=t3.m (Stp.mirror (XI _) (by have:=t3.t;lia))
    show Yz (Bi L (t4.1.m hk) (t4.all hS) (by have:=t4.t;lia) J We ?_ λq EK RW NU _=>?_)
    .intro i j WL hj;change O.kle (ke key (mirror (arrOf WK) lo (lo+m)<|(lo+m-lo)/2)<|lo+i) (ke key (mirror (arrOf WK) lo (lo+m)<|(lo+m-lo)/2)<|lo+j)
     rw[Ts (by have:=t3.t;lia),Ts (by have:=t3.t;omega),if_pos J,if_pos J,show lo+(lo+m)-1-(lo+i)=lo+(m-1-i) by lia,show lo+(lo+m)-1-(lo+j)=lo+(m-1-j) by lia];show Vh _ _ sD sD
    .show YM (h q _ t4 J RW NU)
   .rw[if_neg c3];let t3:=t2
    let Vh:=NV;obtain⟨WK,e3⟩:∃WK,WK=Xg:={_,Z};rw[<-e3]at t3 Vh ⊢;show Yz (So ?_);let t4:Stp lo st (setArr WK<|mirror (arrOf WK) lo (lo+m)<|(lo+m-lo)/2):=t3.m (Stp.mirror (XI _) (by have:=t3.t;omega))
    show Yz (Bi L (t4.1.m hk) (t4.all hS) (by have:=t4.t;omega) J We ?_ λq EK RW NU _=>?_)
    .intro i j WL hj;change O.kle (ke key (mirror (arrOf WK) lo (lo+m)<|(lo+m-lo)/2)<|lo+i) (ke key (mirror (arrOf WK) lo (lo+m)<|(lo+m-lo)/2)<|lo+j)
     rw[Ts (by have:=t3.t;omega),Ts (by have:=t3.t;omega),if_pos sr,if_pos sr,show lo+(lo+m)-1-(lo+i)=lo+(m-1-i) by omega,show lo+(lo+m)-1-(lo+j)=lo+(m-1-j) by omega];show Vh _ _ sr sr
    .show YM (h q _ t4 J RW NU)
 .rw[if_neg c2];let t1:=Stp.refl lo st
  let Rv:UU O key (arrOf st) lo (n+1):=λi j WL hj=>by
   cases Tv:i=j
   .subst Tv;show Px _
   .let h3:i=0:=J;let h4:j=n:=J
    subst h3 h4;rw[show lo+0=lo+j-1 by lia];show Py Xm
  obtain⟨RZ,e1⟩:∃RZ,RZ=st:={_,Z};let Rv:UU O key (arrOf RZ) lo (n+1):=by rwa[e1]
  let t1:Stp lo st RZ:=by rwa[e1]
  rw[<-e1];show Yz (wpS_lift<|Pw ⟨Z,?_⟩);show Yz (bq L (t1.1.m hk) (t1.all hS) (by have:=t1.t;omega) J J Rv λm Vw Xg nt TX We NV nr heq=>?_);dsimp only;let t2:=t1.m nt
  cases c3:Vw>0
  .rw[if_pos c3];show Yz (So ?_);let t3:Stp lo st (setArr Xg<|mirror (arrOf Xg) (lo+m-(Vw+1)) (lo+m)<|(lo+m-(lo+m-(Vw+1)))/2):=t2.m (Stp.mirror sr (by have:=t2.t;omega))
   let Vh:UU O key (mirror (arrOf Xg) (lo+m-(Vw+1)) (lo+m)<|(lo+m-(lo+m-(Vw+1)))/2) lo m:=λi j WL hj=>by rw[Zz (by have:=t2.t;omega) heq,Zz (by have:=t2.t;omega) heq];show NV i j WL hj
   obtain⟨WK,e3⟩:∃WK,WK=setArr Xg (mirror (arrOf Xg) (lo+m-(Vw+1)) (lo+m)<|(lo+m-(lo+m-(Vw+1)))/2):={_,Z};let Vh:UU O key (arrOf WK) lo m:=by rwa[e3]
   rw[<-e3]at t3 ⊢;show Yz (So ?_);let t4:Stp lo st (setArr WK<|mirror (arrOf WK) lo (lo+m)<|(lo+m-lo)/2):=t3.m (Stp.mirror (XI _) (by have:=t3.t;omega))
   show Yz (Bi L (t4.1.m hk) (t4.all hS) (by have:=t4.t;omega) J We ?_ λq EK RW NU _=>?_)
   .intro i j WL hj;change O.kle (ke key (mirror (arrOf WK) lo (lo+m)<|(lo+m-lo)/2)<|lo+i) (ke key (mirror (arrOf WK) lo (lo+m)<|(lo+m-lo)/2)<|lo+j)
    rw[Ts (by have:=t3.t;omega),Ts (by have:=t3.t;omega),if_pos sr,if_pos sr,show lo+(lo+m)-1-(lo+i)=lo+(m-1-i) by omega,show lo+(lo+m)-1-(lo+j)=lo+(m-1-j) by omega];show Vh _ _ sr sr
   .show YM (h q _ t4 sr RW NU)
  .rw[if_neg c3];let t3:=t2
   let Vh:=NV;obtain⟨WK,e3⟩:∃WK,WK=Xg:={_,Z};rw[<-e3]at t3 Vh ⊢;show Yz (So ?_);let t4:Stp lo st (setArr WK<|mirror (arrOf WK) lo (lo+m)<|(lo+m-lo)/2):=t3.m (Stp.mirror (XI _) (by have:=t3.t;omega))
   show Yz (Bi L (t4.1.m hk) (t4.all hS) (by have:=t4.t;omega) sr We ?_ λq EK RW NU _=>?_)
   .intro i j WL hj;change O.kle (ke key (mirror (arrOf WK) lo (lo+m)<|(lo+m-lo)/2)<|lo+i) (ke key (mirror (arrOf WK) lo (lo+m)<|(lo+m-lo)/2)<|lo+j)
    rw[Ts (by have:=t3.t;omega),Ts (by have:=t3.t;omega),if_pos sr,if_pos sr,show lo+(lo+m)-1-(lo+i)=lo+(m-1-i) by omega,show lo+(lo+m)-1-(lo+j)=lo+(m-1-j) by omega];show Vh _ _ sr sr
   .show YM (h q _ t4 sr RW NU)
def ZV5(L:WA M A E s O key kd S){st:SortSt}{lo n ok:Nat}{Q:Bool->SortSt->Prop}(hk:kindOf st=kd)(hS:∀x∈(arrOf st).l,S x)(hn:lo+n<=(arrOf st).t)(hok:ok<=n)(hs:UD O key (arrOf st) lo ok)
  (h:∀XQ,Stp lo st XQ->UD O key (arrOf XQ) lo n->Q true XQ):wpS M A E s (binarySort' lo n ok) Q st:=by
 rw[binarySort'_eq];show Yz (RJ (SU (I:=λk c XQ=>c=(none,())/\Stp lo st XQ/\UD O key (arrOf XQ) lo (min k n))
  (Q:=λc XQ=>c=(none,())/\Stp lo st XQ/\UD O key (arrOf XQ) lo n) ?_ ?_ ?_) ?_)
 .rintro k c XQ NT EM ⟨rfl,WV,Wf⟩;rw[show min k n=k by lia]at Wf;let hz:=WV.t
  let Uy:=WV.1.m hk;let Ul:=WV.all hS
  show Yz (RJ (SU (I:=λx c UC=>UC=XQ/\∃l r,c=(none,l,r)/\l<=r/\r<=k/\r-l<=k-x/\
    (∀i,i<l->O.kle (ke key (arrOf XQ)<|lo+i) (ke key (arrOf XQ)<|lo+k))/\(∀i,r<=i->i<k->O.klt (ke key (arrOf XQ)<|lo+k) (ke key (arrOf XQ)<|lo+i)))
   (Q:=λc UC=>UC=XQ/\∃l r,c=(none,l,r)/\l<=k/\
    (∀i,i<l->O.kle (ke key (arrOf XQ)<|lo+i) (ke key (arrOf XQ)<|lo+k))/\(∀i,l<=i->i<k->O.klt (ke key (arrOf XQ)<|lo+k) (ke key (arrOf XQ)<|lo+i))) ?_ ?_ {Z,0,k,Z,J,J,J,λi hi=>J,λi h1 h2=>J}) ?_)
  .rintro x c UC _ hxk ⟨rfl,l,r,rfl,hlr,nq,hm,JS,EJ⟩;dsimp only;cases Rf:l >= r
   .rw[if_pos Rf]
    have:l=r:=J
    subst this;show YM ⟨Z,l,l,Z,nq,JS,EJ⟩
   .rw[if_neg Rf];show Yz (Bk L Uy Ul J J ?_);dsimp only;cases Jr:O.blt (ke key (arrOf UC)<|lo+k) (ke key (arrOf UC)<|lo+(l+r)/2) with
    |true=>
     rw[if_pos Z];show YM {Z,l,(l+r)/2,Z,J,J,sD,JS,λi h1 h2=>?_};show KeyOrd.klt_of_klt_of_kle Jr (Wf _ _ h1 h2)
    |false=>
     rw[if_neg B];show YM {Z,(l+r)/2+1,r,Z,J,J,sD,λi h1=>?_,EJ};show Wi (Wf i ((l+r)/2) J J) (show O.kle _ _ from Jr)
  .rintro c UC ⟨rfl,l,r,rfl,hlr,nq,hm,JS,EJ⟩
   have:l=r:=sD
   subst this;exists Z,l,l,Z,nq,JS,EJ
  .rintro c UC ⟨rfl,l,r,rfl,hlk,JS,EJ⟩;dsimp only;rw[moveDown'_eq];show Yz (OO<|YM ⟨Z,WV.m<|Stp.bubble J sD J,?_⟩);rw[show min (k+1) n=k+1 by lia];let bo:lo+k<(arrOf UC).t:=sr
   intro i j WL hj;change O.kle (ke key (bubble (arrOf UC) (lo+k)<|lo+k-(lo+l))<|lo+i) (ke key (bubble (arrOf UC) (lo+k)<|lo+k-(lo+l))<|lo+j)
   rw[br bo sD,br bo sr,show lo+k-(lo+k-(lo+l))=lo+l by grind];let Bf:∀i,l<i->lo+i-1=lo+(i-1):=λi hi=>J
   repeat' split
   all_goals first
    | (exfalso;omega)
    |show Px _
    |show JS _ sr
    |show Wf _ _ sr sr
    | (rw[Bf j sD];show Py<|EJ _ J J)
    | (rw[Bf j sr];show Wf _ _ sr sr)
    | (rw[Bf i sD,Bf j sD];show Wf _ _ J J)
    | (rw[Bf i sr];show Wf _ _ sr sr)
 .rintro c XQ ⟨hc,WV,Wf⟩;exists hc,WV,?_
  rwa[show min (max (max ok 1) n) n=n by lia]at Wf
 .exists Z,Stp.refl _ _,λi j WL hj=>?_;cases h1:ok=0
  .have:i=j:=J
   subst this;show Px _
  .show hs i j WL J
 .rintro c XQ ⟨rfl,WV,Wf⟩;show YM (h XQ WV Wf)
def VH:(List (List Keyed)->Nat->List (Nat×Nat))
 |[],_=>[]
 |g::gs,o=>(o,g.f)::VH gs (o+g.f)
def GV:∀a b o,VH (a++b) o=VH a o++VH b (o+a.flatten.f)
 |[],b,o=>by simp[VH]
 |g::gs,b,o=>by simp[VH,GV gs b,Nat.add_assoc]
def nj:∀a o,(VH a o).f=a.f
 |[],o=>rfl
 |g::gs,o=>by simp[VH,nj gs]
structure PI(O:KeyOrd)(key:Keyed->O.α)(kd:SortKind)(a₀:Array Keyed)(st:SortSt)(segs:List (List Keyed))(rest:List Keyed):Prop where
 kind:kindOf st=kd
 fail:failedOf st=none
 perm:(arrOf st).Perm a₀
 arr:(arrOf st).l=segs.flatten++rest
 srt:∀g∈segs,1<=g.f/\g.E (RK O key)
 pend:(pendingOf st).l.R (λp=>(p.1,p.2.1))=VH segs 0
def PI.psize{st:SortSt}(h:PI O key kd a₀ st segs rest):(pendingOf st).t=segs.f:=by
 have:=QP List.f h.pend
 rwa[Yb,nj,Ys]at this
def PI.size{st:SortSt}(h:PI O key kd a₀ st segs rest):a₀.t=segs.flatten.f+rest.f:=by rw[<-h.perm.size_eq,<-Ys,h.arr,Xy]
def bj:∀{segs:List (List Keyed)},(∀g∈segs,1<=g.f/\g.E (RK O key))->segs.f<=segs.flatten.f
 |[],_=>XI _
 |g::gs,h=>by
  have:=bj (segs:=gs) λx hx=>h x (Yg _ hx)
  have:=(h g Ye).1
  simp;simp at *
  lia
def ni(L:WA M A E s O key kd S)(hS:∀x∈a₀.l,S x){st:SortSt}{Q:Bool->SortSt->Prop}(h:PI O key kd a₀ st segs rest)(hi:i+1<segs.f)
  (q:∀XQ NS,PI O key kd a₀ XQ NS rest->NS.f+1=segs.f->NS.flatten.f=segs.flatten.f->Q true XQ):wpS M A E s (mergeAt' i) Q st:=by
 obtain⟨S1,X,Y,S2,e,hl⟩:∃S1 X Y S2,segs=S1++X::Y::S2/\S1.f=i:=by show{segs.M i,segs[i],segs[i+1],segs.drop<|i+2,?_,by rw[Yl];lia};rw[<-Ki (i:=i+1) J,<-Ki (i:=i) sr,Mo]
 subst e;let hp:=h.pend
 rw[GV,Tn]at hp;let(PA,PR,e1,e2,e3):=List.map_eq_append_iff.H hp;simp only[VH]at e3;let(p1,PR1,e4,e5,e6):=List.map_eq_cons_iff.H e3;let(p2,PB,e7,e8,e9):=List.map_eq_cons_iff.H e6;let(sa,na,pw):=p1;let(sb,nb,Bq):=p2;cases e5;cases e8;let hPA:PA.f=i:=by
  have:=QP List.f e2
  rw[Yb,nj]at this;lia
 let hX:=h.srt X B;let hY:=h.srt Y B
 let ep:(pendingOf st).l=PA++(S1.flatten.f,X.f,pw)::(S1.flatten.f+X.f,Y.f,Bq)::PB:=by rw[e1,e4,e7];rfl
 show ZU5 (P:=S1.flatten) (X:=X) (Y:=Y) (T:=S2.flatten++rest) L h.kind h.fail (by rw[h.arr];simp) (λx hx=>hS x<|(Uv.H h.perm).mem_iff.H hx) ep hPA Z Z Z Z hX.1 hY.1 hX.2 hY.2 λr6 XQ z1 z2 z3 z4 z5 z6=>?_;let zl:r6.f=X.f+Y.f:=by rw[z2.length_eq,Xy]
 show q XQ (S1++r6::S2) {z5,z6,?_,by rw[z3];simp,?_,?_} (by simp;omega) (by simp;omega)
 .show Uv.X (List.Perm.m ?_<|Uv.H h.perm);rw[z3,h.arr];let e:(S1++X::Y::S2).flatten++rest=S1.flatten++(X++Y)++(S2.flatten++rest):=B
  rw[e];show Eg _ (MZ _ z2)
 .intro g hg;rcases XB.H hg with hg|hg
  .show h.srt g (by simp[hg])
  .rcases Yf.H hg with rfl|hg
   .exists by have:=hX.1;omega,z1
   .show h.srt g (by simp[hg])
 .rw[z4,YQ,TM,e2,e9,GV,Tn];simp only[VH];rw[zl,Nat.add_assoc]
def nh{arr:Array Keyed}{lo n:Nat}(h:UD O key arr lo n):((arr.l.drop lo).M n).E (RK O key):=by
 rw[Kj];intro i j hi hj WL;rw[Yl,YS]at hi hj;let a1:arr[lo+i]?=some ((arr.l.drop lo).M n)[i]:=by rw[<-YH];simp
 let a2:arr[lo+j]?=some ((arr.l.drop lo).M n)[j]:=by rw[<-YH];simp
 have:=h i j J sD
 rwa[UE a1,UE a2]at this
def PI.push{st XQ:SortSt}(h:PI O key kd a₀ st segs rest)(hr:n<=rest.f)(t:Stp segs.flatten.f st XQ)(hs:UD O key (arrOf XQ) segs.flatten.f n):
  ∃run WE,run.f=n/\WE.f+n=rest.f/\PI O key kd a₀ XQ segs (run++WE)/\run.E (RK O key):=by
 let hz:=t.t;let BJ:(arrOf st).t=segs.flatten.f+rest.f:=by rw[<-Ys,h.arr,Xy]
 let e0:(arrOf XQ).l.M segs.flatten.f=segs.flatten:=by
  apply MV;intro i;cases hi:i<segs.flatten.f
  .rw[OY,if_pos hi,YH,t.2.2.2.2 i hi,<-YH,h.arr,Yr hi]
  .rw[VD (by rw[Yl];grind),VD J]
 let e1:=Mo segs.flatten.f (arrOf XQ).l;let e2:=Mo n ((arrOf XQ).l.drop segs.flatten.f)
 exists ((arrOf XQ).l.drop segs.flatten.f).M n,((arrOf XQ).l.drop segs.flatten.f).drop n,?_,?_,{t.1.m h.kind,t.2.1.m h.fail,t.2.2.2.1.m h.perm,?_,h.srt,?_},nh hs
 .rw[Yl,YS,Ys];lia
 .rw[YS,YS,Ys];lia
 .rw[e2];rw[e0]at e1;show e1.symm
 .rw[t.2.2.1];show h.pend
def ng(L:WA M A E s O key kd S){a₀:Array Keyed}(hS:∀x∈a₀.l,S x){st:SortSt}{Q:Unit->SortSt->Prop}(hk:kindOf st=kd)(hf:failedOf st=none)(ha:arrOf st=a₀)(hp:pendingOf st=#[])
  (h:∀XQ,(arrOf XQ).Perm a₀->failedOf XQ=none->(arrOf XQ).l.E (RK O key)->Q () XQ):wpS M A E s sortRuns' Q st:=by
 rw[sortRuns'_eq];show Yz (QJ ?_);dsimp only;rw[ha];let pi0:PI O key kd a₀ st [] a₀.l:={hk,hf,ha▸DQ _,by rw[ha];rfl,λ_ h=>(by cases h),by rw[hp];rfl}
 show Yz (RJ (SU
  (I:=λx c XQ=>∃lo,c=(none,lo)/\∃segs rest,lo=segs.flatten.f/\PI O key kd a₀ XQ segs rest/\(x<=lo\/a₀.t<=lo))
  (Q:=λc XQ=>∃lo,c=(none,lo)/\∃segs rest,lo=segs.flatten.f/\PI O key kd a₀ XQ segs rest/\a₀.t<=lo) ?_ ?_ {0,Z,[],a₀.l,Z,pi0,.inl<|XI _}) ?_)
 .rintro x c XQ _ hx ⟨lo,rfl,segs,rest,rfl,pi,Mv⟩;dsimp only;cases c1:segs.flatten.f >= a₀.t
  .rw[if_pos c1];show YM {_,Z,segs,rest,Z,pi,c1}
  rw[if_neg c1];let hz:=pi.t
  let Jq:∀x∈(arrOf XQ).l,S x:=λx hx=>hS x ((Uv.H pi.perm).mem_iff.H hx);let hsz:=pi.perm.size_eq
  show Yz (Zj6 L pi.kind Jq sD sD λm Xg t2 TX We SJ=>?_);dsimp only;let BJ:=t2.t
  cases c2:m<minRun' a₀.t a₀.t 0
  .rw[if_pos c2];show Yz (wpS_lift<|Pw ⟨Z,?_⟩);show Yz (ZV5 L (t2.1.m pi.kind) (t2.all Jq) sD sD SJ λWK t3 hs3=>?_);rw[if_neg B];let n1:1<=min (a₀.t-segs.flatten.f) (minRun' a₀.t a₀.t 0):=sD
   let n2:min (a₀.t-segs.flatten.f) (minRun' a₀.t a₀.t 0)<=rest.f:=sD;let(run,WE,EI,Be,GU,NR):=pi.push n2 (t2.m t3) hs3;generalize min (a₀.t-segs.flatten.f) (minRun' a₀.t a₀.t 0)=n at *;obtain⟨La,e4⟩:∃La,La=WK:={_,Z};rw[<-e4]at GU ⊢;show Yz (QJ ?_);cases Bc:(pendingOf La).back? with
   |none=>
    dsimp only;let Wu:=GU
    let Wo:segs.flatten.f=segs.flatten.f:=rfl;obtain⟨XF,e5⟩:∃XF,XF=segs:={_,Z};obtain⟨WU,Bb⟩:∃WU,WU=La:={_,Z};rw[<-e5,<-Bb]at Wu;let Wo:XF.flatten.f=segs.flatten.f:=by rw[e5]
    rw[<-Bb];show Yz (OO<|YM ?_);exists _,Z,XF++[run],WE,by rw[xO,Xy,Mj,xD,YB];lia,{Wu.kind,Wu.fail,Wu.perm,?_,?_,?_},sD
    .change(arrOf WU).l=_;rw[Wu.arr];simp
    .intro g hg;rcases XB.H hg with hg|hg
     .show Wu.srt g hg
     .rw[XD.H hg];exists J,NR
    .change((pendingOf WU).push _).l.R _=_;rw[RQ,YQ,Wu.pend,GV,Tn,Wo];simp[VH,EI]
   |some p=>
    let(s1,n1,p1):=p;dsimp only;show Yz (RJ (SU (I:=λ_ c WU=>c=(none,())/\∃XF,PI O key kd a₀ WU XF (run++WE)/\XF.flatten.f=segs.flatten.f)
     (Q:=λc WU=>c=(none,())/\∃XF,PI O key kd a₀ WU XF (run++WE)/\XF.flatten.f=segs.flatten.f) ?_ (λ_ _ z=>z) ⟨Z,segs,GU,Z⟩) ?_)
    .rintro y c WU _ _ ⟨rfl,XF,Wu,Wo⟩;show Yz (QJ ?_);cases c5:(pendingOf WU).t>1
     .rw[if_pos c5];cases hp:(pendingOf WU)[(pendingOf WU).t-2]? with
      |none=>show YM ⟨Z,XF,Wu,Wo⟩
      |some pp=>
       let(w1,w2,w3):=pp;dsimp only;split
       .show YM ⟨Z,XF,Wu,Wo⟩
       .show Yz (ni L hS Wu (by rw[<-Wu.psize];lia) λst6 NQ nc l6 f6=>?_);rw[if_neg B];show YM {Z,NQ,nc,f6.m Wo}
     .rw[if_neg c5];show YM ⟨Z,XF,Wu,Wo⟩
    .rintro c WU ⟨rfl,XF,Vg,Wo⟩;dsimp only;show Yz (OO ?_);let Wu:PI O key kd a₀ (setPending WU<|(pendingOf WU).modify ((pendingOf WU).t-1) λx=>(x.1,x.2.1,power' a₀.t (2*s1+n1) (2*s1+n1+n1+n) a₀.t)) XF (run++WE):=by
      exists Vg.kind,Vg.fail,Vg.perm,Vg.arr,Vg.srt,?_;change((pendingOf WU).modify _ _).l.R _=_
      rw[<-Vg.pend,Array.toList_modify];apply MV;intro i;rw[Yw,Yw,List.getElem?_modify];cases (pendingOf WU).l[i]? with
      |none=>rfl
      |some x=>
       simp only[DT];split<;>rfl
     generalize setPending WU ((pendingOf WU).modify ((pendingOf WU).t-1) λx=>(x.1,x.2.1,power' a₀.t (2*s1+n1) (2*s1+n1+n1+n) a₀.t))=WU at *;show Yz (OO<|YM ?_);exists _,Z,XF++[run],WE,by rw[xO,Xy,Mj,xD,YB];omega,{Wu.kind,Wu.fail,Wu.perm,?_,?_,?_},sr
     .change(arrOf WU).l=_;rw[Wu.arr];simp
     .intro g hg;rcases XB.H hg with hg|hg
      .show Wu.srt g hg
      .rw[XD.H hg];exists sr,NR
     .change((pendingOf WU).push _).l.R _=_;rw[RQ,YQ,Wu.pend,GV,Tn,Wo];simp[VH,EI]
  .rw[if_neg c2];let(run,WE,EI,Be,GU,NR):=pi.push sD t2 SJ;obtain⟨n,en⟩:∃n,n=m:={_,Z};rw[<-en]at EI Be ⊢;obtain⟨La,e4⟩:∃La,La=Xg:={_,Z};rw[<-e4]at GU ⊢;show Yz (QJ ?_);cases Bc:(pendingOf La).back? with
   |none=>
    dsimp only;let Wu:=GU
    let Wo:segs.flatten.f=segs.flatten.f:=rfl;obtain⟨XF,e5⟩:∃XF,XF=segs:={_,Z};obtain⟨WU,Bb⟩:∃WU,WU=La:={_,Z};rw[<-e5,<-Bb]at Wu;let Wo:XF.flatten.f=segs.flatten.f:=by rw[e5]
    rw[<-Bb];show Yz (OO<|YM ?_);exists _,Z,XF++[run],WE,by rw[xO,Xy,Mj,xD,YB];lia,{Wu.kind,Wu.fail,Wu.perm,?_,?_,?_},sD
    .change(arrOf WU).l=_;rw[Wu.arr];simp
    .intro g hg;rcases XB.H hg with hg|hg
     .show Wu.srt g hg
     .rw[XD.H hg];exists J,NR
    .change((pendingOf WU).push _).l.R _=_;rw[RQ,YQ,Wu.pend,GV,Tn,Wo];simp[VH,EI]
   |some p=>
    let(s1,n1,p1):=p;dsimp only;show Yz (RJ (SU (I:=λ_ c WU=>c=(none,())/\∃XF,PI O key kd a₀ WU XF (run++WE)/\XF.flatten.f=segs.flatten.f)
     (Q:=λc WU=>c=(none,())/\∃XF,PI O key kd a₀ WU XF (run++WE)/\XF.flatten.f=segs.flatten.f) ?_ (λ_ _ z=>z) ⟨Z,segs,GU,Z⟩) ?_)
    .rintro y c WU _ _ ⟨rfl,XF,Wu,Wo⟩;show Yz (QJ ?_);cases c5:(pendingOf WU).t>1
     .rw[if_pos c5];cases hp:(pendingOf WU)[(pendingOf WU).t-2]? with
      |none=>show YM ⟨Z,XF,Wu,Wo⟩
      |some pp=>
       let(w1,w2,w3):=pp;dsimp only;split
       .show YM ⟨Z,XF,Wu,Wo⟩
       .show Yz (ni L hS Wu (by rw[<-Wu.psize];omega) λst6 NQ nc l6 f6=>?_);rw[if_neg B];show YM {Z,NQ,nc,f6.m Wo}
     .rw[if_neg c5];show YM ⟨Z,XF,Wu,Wo⟩
    .rintro c WU ⟨rfl,XF,Vg,Wo⟩;dsimp only;show Yz (OO ?_);let Wu:PI O key kd a₀ (setPending WU<|(pendingOf WU).modify ((pendingOf WU).t-1) λx=>(x.1,x.2.1,power' a₀.t (2*s1+n1) (2*s1+n1+n1+n) a₀.t)) XF (run++WE):=by
      exists Vg.kind,Vg.fail,Vg.perm,Vg.arr,Vg.srt,?_;change((pendingOf WU).modify _ _).l.R _=_
      rw[<-Vg.pend,Array.toList_modify];apply MV;intro i;rw[Yw,Yw,List.getElem?_modify];cases (pendingOf WU).l[i]? with
      |none=>rfl
      |some x=>
       simp only[DT];split<;>rfl
     generalize setPending WU ((pendingOf WU).modify ((pendingOf WU).t-1) λx=>(x.1,x.2.1,power' a₀.t (2*s1+n1) (2*s1+n1+n1+n) a₀.t))=WU at *;show Yz (OO<|YM ?_);exists _,Z,XF++[run],WE,by rw[xO,Xy,Mj,xD,YB];omega,{Wu.kind,Wu.fail,Wu.perm,?_,?_,?_},sr
     .change(arrOf WU).l=_;rw[Wu.arr];simp
     .intro g hg;rcases XB.H hg with hg|hg
      .show Wu.srt g hg
      .rw[XD.H hg];exists sr,NR
     .change((pendingOf WU).push _).l.R _=_;rw[RQ,YQ,Wu.pend,GV,Tn,Wo];simp[VH,EI]
 .rintro c XQ ⟨lo,rfl,segs,rest,e,pi,Mv⟩;exists lo,Z,segs,rest,e,pi,J
 .rintro c XQ ⟨lo,rfl,segs,rest,e,pi,Mv⟩;dsimp only;show Yz (RJ (SU
   (I:=λx c Xg=>c=(none,())/\∃segs,PI O key kd a₀ Xg segs rest/\a₀.t<=segs.flatten.f/\(segs.f+x<=a₀.t\/segs.f<=1))
   (Q:=λc Xg=>c=(none,())/\∃segs,PI O key kd a₀ Xg segs rest/\a₀.t<=segs.flatten.f/\segs.f<=1) ?_ ?_ {Z,segs,pi,J,.inl (by have:=bj pi.srt;have:=pi.t;lia)}) ?_)
  .rintro x c Xg _ hx ⟨rfl,TV,Pk,Vb,hc⟩;show Yz (QJ ?_);cases c1:(pendingOf Xg).t<=1
   .rw[if_pos c1];show YM {Z,TV,Pk,Vb,by rwa[<-Pk.psize]}
   .rw[if_neg c1];let hps:=Pk.psize
    show Yz (ni L hS Pk ?_ λWK Ba pi3 l3 f3=>?_)
    .let two:∀bb:Bool,(if bb=true then (pendingOf Xg).t-2-1 else (pendingOf Xg).t-2)+1<TV.f:=λbb=>by cases bb<;>simp<;>lia
     show two _
    .rw[if_neg B];show YM ⟨Z,Ba,pi3,J,sD⟩
  .rintro c Xg ⟨rfl,TV,Pk,Vb,hc⟩;exists Z,TV,Pk,Vb,?_;rcases hc with hc|hc
   .lia
   .show hc
  .rintro c Xg ⟨rfl,TV,Pk,Vb,hc⟩;show YM (h Xg Pk.perm Pk.fail ?_);let hr:rest=[]:=by have:=Pk.t;show YW.H J
   rw[Pk.arr,hr,YB]
   match TV,hc,Pk.srt with
   |[],_,_=>show List.E.nil
   |[g],_,hg=>simpa using (hg g Ye).2
end
end PyProof.Rows
namespace L2
open PySem PySem.Spec PyProof.Rows
section
variable{prog:Program}{w:World}{A:Around}{E:Ae}{s:Shared}
def m9{α:Type}{R:α->α->Prop}:∀{l:List α},l.f<2->l.E R
 |[],_=>List.E.nil
 |[_],_=>IM ..
 |_::_::_,h=>absurd h B
def sameBut(a:Addr)(h h':Heap):(Prop):=∀b o,b≠a->h.G b=some o->h'.G b=some o
def m8{key:Keyed->O.α}{kd:SortKind}{P:Fin->Shared->Prop}(ho:s.D.G a=some (seqObj "list" vs.C n))(hz:vs.f<=1000000)
  (MA:∀h':Heap,sameBut a s.D h'->2<=vs.f->∀Q:SortKind->Shared->Prop,Q kd {s with heap:=h'}->wpAny (model prog w) A (keyKind' vs.C) Q E {s with heap:=h'})
  (L:∀h':Heap,sameBut a s.D h'->WA (model prog w) A E {s with heap:=h'} O key kd λx=>x∈(pairsOf vs).l)
  (h:∀out:Array Keyed,out.Perm (pairsOf vs)->out.l.E (RK O key)->P (.done<|.ret .none) {s with heap:=sortedHeap s.D a vs (out.R (·.2))}):wpAny (model prog w) A (Builtin.«list.sort» {[.ref a],[]}) P E s:=by
 let LA:sizeLine=16777216:=Uu;let ha:a<(~~~s):=Ym ho
 obtain⟨e1,AZ⟩:∃e1,(s.D.update a<|Obj.mapSeq λ_=>(#[]:Array Value)).G a=some (seqObj "list" #[] e1):={_,OL ho λ_=>#[]};rw[list_sort_plain];show XU (DE ho Z<|XU<|MP ho Z ?_ (by rw[Xk];lia)<|Yi _);show XU (seqEpoch_at AZ Z<|XU<|wpAny_newTuple ?_<|by simp;omega);show XU (Mf<|Sd ?_);let sm:sameBut a s.D (((s.D.update a<|Obj.mapSeq λ_=>#[]).push (seqObj "tuple" vs.C 0)).push (seqObj "list" #[] 0)):=λb o hb e=>Xf _ (Xf _<|(YU _ _<|Xb hb).m e)
 let vD:(((s.D.update a<|Obj.mapSeq λ_=>#[]).push (seqObj "tuple" vs.C 0)).push (seqObj "list" #[] 0)).G a=some (seqObj "list" #[] e1):=Xf _ (Xf _ AZ);change wpAny (model prog w) A _ P E {s with heap:=((s.D.update a<|Obj.mapSeq λ_=>#[]).push (seqObj "tuple" vs.C 0)).push (seqObj "list" #[] 0)}
 dsimp only;let SJ:vs.C.t=vs.f:=B
 cases h2:vs.C.t<2
 .rw[if_pos h2,if_pos h2];show XU (Yh ?_);rw[StateT.run_pure];show XU (Yh ?_);dsimp only;show XU (seqEpoch_at vD Z<|XU<|MP vD Z ?_ (Yi _)<|by rw[Array.size_map];change(pairsOf vs).t<=sizeLine+1;rw[pairsOf_size];lia);simp only[tH,Pz,Rm];show Yh (h (pairsOf vs) (DQ _) ?_);show m9 (by rw[Ys,pairsOf_size];lia)
 .rw[if_neg h2,if_neg h2];show XU (MA _ sm J _ ?_);show XU (Ud (ng (L _ sm) (a₀:=pairsOf vs) (λx hx=>hx) (st:=SortSt.mk' kd (vs.C.zip vs.C) #[] 7 none)
   (Q:=λ_ XQ=>(arrOf XQ).Perm (pairsOf vs)/\failedOf XQ=none/\(arrOf XQ).l.E (RK O key)) Z Z Z Z λXQ a1 a2 a3=>⟨a1,a2,a3⟩) ?_ λ_ _ e=>e)
  rintro⟨⟨⟩,XQ⟩ s' ⟨rfl,hp,hf,hs⟩;dsimp only;let hsz:(arrOf XQ).t=vs.f:=hp.size_eq.m (pairsOf_size _)
  show XU (seqEpoch_at vD Z<|XU<|MP vD Z ?_ (Yi _)<|by show Yj (xm<|(Array.size_map ..).m hsz) ?_;lia);rw[hf];simp only[tH,Pz,Rm];show Yh (h _ hp hs)
def ZB6{key:Keyed->O.α}{kd:SortKind}{Q:Ae}(hl:s.D.IsList l vs.C)(hz:vs.f<=1000000)
  (MA:∀A h',(∀b o,s.D.G b=some o->h'.G b=some o)->2<=vs.f->∀E Q,Q kd {s with heap:=h'}->wpAny (model prog w) A (keyKind' vs.C) Q E {s with heap:=h'})
  (L:∀A' h' E,A'.units<=A.units+4->(∀b o,s.D.G b=some o->h'.G b=some o)->WA (model prog w) A' E {s with heap:=h'} O key kd λx=>x∈(pairsOf vs).l)
  (h:∀out:Array Keyed,out.Perm (pairsOf vs)->out.l.E (RK O key)->Q (.ref<|(~~~s)+1) {s with heap:=sortedAll s.D vs (out.R (·.2))}):wpAny (model prog w) A (call (.builtin "sorted") [.ref l]) Q E s:=by
 let hsz:((s.D.push<|seqObj "list" #[] 0).update (~~~s) (Obj.mapSeq (·++vs.C))).objs.t=(~~~s)+1:=by rw[sN,size_push']
 let OI:(((s.D.push<|seqObj "list" #[] 0).update (~~~s) (Obj.mapSeq (·++vs.C))).push (seqObj "list" vs.C 0)).G ((~~~s)+1)=some (seqObj "list" vs.C 0):=hsz▸Yp _ rfl;let LA:sizeLine=16777216:=Uu
 show tQ kind_sorted plain_sorted entry_sorted (args_sorted1 _) ?_;unfold Builtin.«sorted»;show XU (m:=checkCount "sorted" 1 1 _) (Yh<|XU<|collect_list hl ?_ J);show XU (Mf ?_ sr);change wpAny _ _ _ _ _ {s with heap:=((s.D.push<|seqObj "list" #[] 0).update (~~~s) (Obj.mapSeq (·++vs.C))).push (seqObj "list" vs.C 0)}
 rw[hsz];let old:∀b o,s.D.G b=some o->(((s.D.push<|seqObj "list" #[] 0).update (~~~s) (Obj.mapSeq (·++vs.C))).push (seqObj "list" vs.C 0)).G b=some o:=λb o e=>
  Xf _ ((YU _ _<|Xb<|YA<|Ym e).m (Xf _ e))
 let ne:∀b o,s.D.G b=some o->b≠(~~~s)+1:=λb o e=>YA (IJ<|Ym e);show XU (Sd<|TK xf ⟨_,OI,rfl⟩ xh (m8 (O:=O) (key:=key) (kd:=kd) OI hz (λh' k h2 Q q=>MA _ h' (λb o e=>k b o (ne b o e)<|old b o e) h2 _ Q q) (λh' k=>L _ h' _ (by first|(show A.units+1<=A.units+4;omega)|(show A.units+1+1<=A.units+4;lia)|(show A.units<=A.units+4;omega)) λb o e=>k b o (ne b o e)<|old b o e) λout a1 a2=>{_,rfl,?_})<|args_list_sort _)
 show Yh {_,Z,h out a1 a2}
def m7:(KeyOrd) where
 α:=Ac
 blt:=HT.lexLt
 irrefl:=My.Wq
 trans a b c:=My.VV
 negTrans a b c h:=by
  cases e:HT.lexLt a b with
  |true=>show .inl rfl
  |false=>
   show .inr ?_;cases e2:HT.lexLt b a with
   |true=>show My.VV e2 h
   |false=>
    have:=My.WJ e e2
    subst this;show h
 total a b h1 h2:=My.WJ h1 h2
def bh{Q:Bool->Shared->Prop}:∀{vs ws:Ag}{ns ms:Ac}(i:Nat),IntsAre vs ns->IntsAre ws ms->(fin=true↔vs.f<ws.f)->Q (HT.lexLt ns ms) s->W.KatLex prog w A b fin Q (vs.zip ws) i s
 |_,_,_,_,i,.nil,.nil,hf,h=>by
  have:fin=false:=by cases fin with|false=>rfl|true=>show absurd (hf.H rfl) B
  subst this;show W.kat_nil h
 |_,_,_,_,i,.nil,.cons c u hw,hf,h=>by
  have:fin=true:=hf.X B
  subst this;show W.kat_nil h
 |_,_,_,_,i,.cons a t hv,.nil,hf,h=>by
  have:fin=false:=by cases fin with|false=>rfl|true=>show absurd (hf.H rfl) B
  subst this;show W.kat_nil h
 |_,_,_,_,i,.cons a t hv,.cons c u hw,hf,h=>by
  rw[HT.Xq]at h;rw[List.zip_cons_cons];show W.kat_cons (wpAny_eqBool_int<|W.kat_go (λe=>?_) λe=>?_)
  .rw[if_pos (eq_of_beq e)]at h;show W.kat_yes (bh (i+1) hv hw (by rw[hf];simp) h)
  .rw[if_neg (λq=>by rw[q]at e;simp at e)]at h;show W.kat_no ?_;cases (b&&i == 0) with
   |true=>show oneLt_int h
   |false=>show W.kat_one _ _ (lt_int h)
end
end L2
namespace L2
open PySem PySem.Spec PyProof.Rows My
def bg:∀{vs:Ag}{ns ms:Ac},IntsAre vs ns->IntsAre vs ms->ns=ms
 |_,_,_,.nil,.nil=>rfl
 |_,_,_,.cons n t h,.cons _ _ k=>by rw[bg h k]
def a9{f:Value->Ac}:∀{vs:Ag},(∀v∈vs,∃a o xs n,v=.ref a/\h.G a=some o/\o.cls=.type "tuple"/\o.data=.seq xs n/\IntsAre xs.l (f v)/\f v≠[])->∃fs,W.KatTups h vs fs/\fs.f=vs.f/\∀v∈fs,∃n t,v=Value.int n t
 |[],_=>{[],W.KatTups.nil,Z,λ_ h=>(by cases h)}
 |v::vs,H=>by
  let(a,o,xs,n,e,h1,h2,h3,h4,h5):=H v Ye;let(fs,t,l,k):=a9 (vs:=vs) λy hy=>H y (Yg _ hy);obtain⟨z,u,hz⟩:∃z u,xs[0]?=some (Value.int z u):=by
   cases hx:xs.l with
   |nil=>
    rw[hx]at h4;generalize f v=g at h4 h5;cases h4;show absurd Z h5
   |cons x r=>
    rw[hx]at h4;generalize f v=g at h4 h5;cases h4 with
    |cons z u _=>exists z,u,by rw[<-YH,hx];rfl
  subst e;show{.int z u::fs,W.KatTups.cons h1 h2 h3 hz t,by simp[l],λy hy=>?_};rcases Yf.H hy with rfl|hy
  .exists z,u,Z
  .show k y hy
section
variable{X:Cx}
def m6(K:Ad)(hk:X.K=K:=by rfl):TB X (.builtin "sorted") (λxs H Q=>∃(p:Addr)(ys:List V)(L:Ab)(R:V->Ac->Prop),xs=[.ref p]/\SqL K H p ys/\Bears R ys L/\(∀v l,R v l->∃a,v=.ref a/\SqT K H a (l.R V.int))/\(ys.f<2\/∀l∈L,l≠[])/\ys.f<=1000000/\
  ∀(zs:List V)(M:Ab),Bears R zs M->M.Perm L->M.E (λa b=>HT.lexLt b a=false)->∀l,H l=none->Q ↑l (upd H l<|.lst zs)):=by
 subst hk;intro pins s σ H xs us Q I r h;let(p,ys,L,R,rfl,hq,hb,hR,XJ,hz,q):=h;let(u,rfl,ru):=SK r;let rfl:u=Value.ref p:=ru;let(XW,rv,pl,a8):=I.list hq;let KZ:ys.f=XW.f:=rv.f
 let uniq:∀{a:Addr}{l m:Ac},R ↑a l->R ↑a m->l=m:=λ{a l m} h1 h2=>by
  let(a1,e1,t1):=hR _ _ h1;let(a2,e2,t2):=hR _ _ h2;cases e1;cases e2;let(i1,r1,(o1,g1,c1,n1,d1),_):=I.tuple t1;let(i2,r2,(o2,g2,c2,n2,d2),_):=I.tuple t2;rw[g1]at g2;cases g2;rw[d1]at d2;let e:i1.C=i2.C:=by injection d2
  let e:i1=i2:=by simpa using QP Array.toList e
  subst e;show bg (ZA r1) (ZA r2)
 classical
 obtain⟨f,hf⟩:∃f:Value->Ac,∀(a:Addr)(l:Ac),R ↑a l->f ↑a=l:=by
  exists λv=>if h:∃l,∃a,v=Value.ref a/\R ↑a l then Classical.choose h else [],λa l hl=>?_;let ex:∃l,∃b,Value.ref a=Value.ref b/\R ↑b l:=⟨l,a,Z,hl⟩
  change(if h:∃l,∃b,Value.ref a=Value.ref b/\R ↑b l then Classical.choose h else [])=l;rw[dif_pos ex];let(b,e,hb):=dQ ex;cases e;show uniq hb hl
 let each:∀(i:Nat)(v:Value),XW[i]?=some v->∃a,v=.ref a/\ys[i]?=some ↑a/\R ↑a (f v)/\L[i]?=some (f v):=λi v e=>by
  let(hi,hv):=XA.H e;let(y,ey,ry):=rv.at hi;rw[hv]at ry;let(l,el,hl):=hb.at ey;let(a,ea,_):=hR _ _ hl;subst ea;let rfl:v=Value.ref a:=ry
  have:=hf a l hl
  exists a,Z,ey,by rw[this];show hl,by rwa[this]
 let eL:L=XW.R f:=by
  apply MV;intro i;rw[Yw];cases e:XW[i]? with
  |none=>
   have:XW.f<=i:=xT.H e
   show VD (by have:=hb.1;grind)
  |some v=>
   let(_,_,_,_,el):=each i v e;rw[el];rfl
 let tup:∀v∈XW,∃a o xs n,v=Value.ref a/\s.D.G a=some o/\o.cls=.type "tuple"/\o.data=.seq xs n/\IntsAre xs.l (f v):=λv hv=>by let(i,e):=Yv hv;let(a,rfl,_,hr,_):=each i v e;let(a1,e1,t1):=hR _ _ hr;cases e1;let(i1,r1,(o1,g1,c1,n1,d1),_):=I.tuple t1;exists a,o1,_,n1,Z,g1,c1,d1,by simpa using ZA r1
 let KY:∀x∈(pairsOf XW).l,x.1∈XW/\x.2=x.1:=λx hx=>by
  let hx:x∈(XW.C.zip XW.C).l:=hx;rw[Array.toList_zip]at hx;let(i,e):=Yv hx;rw[eM]at e;let e1:XW[i]?=some x.1:=by simpa using e.1
  let e2:XW[i]?=some x.2:=by simpa using e.2
  rw[e1]at e2;cases x;cases e2;exists WT e1,Z
 show ZB6 (O:=m7) (key:=λk=>f k.1) (kd:=tuples'<|Value.type "int" != Value.type "tuple") pl.isList J (λA' h' keep h2 E' Q' q'=>?_) (λA' h' E' _ keep x y st Q' hx hy hkd q'=>?_) λout a1 a2=>?_
 .let Om:∀v∈XW,f v≠[]:=λv hv=>by
   rcases XJ with XJ|XJ
   .lia
   .show XJ _ (by rw[eL];show List.mem_map_of_mem hv)
  let(fs,t,l,k):=a9 (h:=h') (f:=f) (vs:=XW) λv hv=>by let(a,o,xs,n,e1,e2,e3,e4,e5):=tup v hv;exists a,o,xs,n,e1,keep a o e2,e3,e4,e5,Om v hv
  show W.kat_kind (T:=.type "int") t J (λv hv=>?_) Z q';let(n,t,rfl):=k v hv;show W.Looks.now
 .let⟨ax,ox,xx,nx,e1,e2,e3,e4,e5⟩:=tup x.1 (KY x hx).1;let(ay,oy,xy,ny,g1,g2,g3,g4,g5):=tup y.1 (KY y hy).1;rw[lt'_eq];show Yz (QJ ?_);rw[hkd,e1,g1];show Yz (wpS_lift<|Fm<|W.kat_lt (keep ax ox e2) e4 (keep ay oy g2) g4<|bh 0 e5 g5 B ⟨Z,?_⟩);show YM q'
 .let⟨e,he⟩:=sortedAll_at s.D XW (out.R (·.2));let po:out.l.Perm (pairsOf XW).l:=Uv.H a1
  let zip2:((pairsOf XW).l.R (·.2))=XW:=by change((XW.C.zip XW.C).l.R (·.2))=XW;rw[Array.toList_zip];show List.map_snd_zip B
  let pv:(out.R (·.2)).l.Perm XW:=by rw[Array.toList_map];show zip2▸po.R (·.2)
  let mo:∀v∈(out.R (·.2)).l,∃a,v=Value.ref a/\R ↑a (f v):=λv hv=>by let(i,e):=Yv (pv.mem_iff.H hv);let(a,e1,_,e3,_):=each i v e;exists a,e1,e3
  obtain⟨zs,vz,bz⟩:∃zs:List V,Vals zs (out.R (·.2)).l/\Bears R zs ((out.R (·.2)).l.R f):=by
   clear he pv;generalize (out.R (·.2)).l=os at mo
   induction os with
   |nil=>exists [],.nil,Z,λi a e=>by simp at e
   |cons v os ih=>
    let(zs,vz,bz):=ih λy hy=>mo y (Yg _ hy);let(a,rfl,hr):=mo v Ye;show{.ref a::zs,.cons Z vz,by simp[bz.1],λi l e=>?_};cases i with
    |zero=>
     have:f ↑a=l:=by simpa using e
     exists .ref a,Z,this▸hr
    |succ i=>show bz.2 i l (by simpa using e)
  let EH:zs.f=XW.f:=by rw[vz.f,pv.length_eq]
  exists .ref<|(~~~s)+1,_,I.laid (t':=s.toks) (o:=.lst zs) (λb o g=>sortedAll_old g) (Ue _) {?_,(out.R (·.2)).l,e,vz,?_},Z,q zs _ bz ?_ ?_ _<|I.hok.fresh<|Ue _
  .have:sizeLine=16777216:=Uu
   lia
  .show he
  .rw[eL];show pv.R f
  .rw[Array.toList_map,Mc,SR];show tZ (λ{x y} hx hy KW=>?_) a2;let h1:=(KY x<|po.mem_iff.H hx).2
   let h2:=(KY y<|po.mem_iff.H hy).2;change HT.lexLt (f y.2) (f x.2)=false
   rwa[h1,h2]
end
end L2
namespace My
open PySem L2
open Classical in
def mZ(hx:Xh H x z)(hP:TupsV H xs L):∃e:Addr->Bool,(∀v∈xs,∃a,v=.ref a/\EqD K H 1 v x (e a))/\xs.any (Hf e)=decide (z∈L):=by
 let key:∀{a:Addr}{w:Ac},Xh H ↑a w->(Xh H ↑a z↔w=z):=by
  rintro a w ⟨t,e,h⟩;cases e;constructor
  .rintro⟨t,e,h2⟩;cases e;rw[h]at h2;injection h2 with h2
   injection h2 with h2;show(List.map_inj_right λ_ _ h=>by injection h).H h2
  .rintro rfl;exists _,Z,h
 exists λa=>decide<|Xh H ↑a z,λv hv=>?_,?_
 .let⟨i,hi⟩:=Yv hv;let(w,hw,t,rfl,ht):=hP.at hi;exists t,Z,?_;let k:=key ⟨t,Z,ht⟩
  change EqD K H 1 (V.ref t) x (decide<|Xh H (V.ref t) z);rw[show decide (Xh H ↑t z)=decide (w=z) by rw[xG];show k];show nY ⟨t,Z,ht⟩ hx
 .rw[OS,xB,YX];constructor
  .rintro⟨v,hv,hb⟩;let(i,hi):=Yv hv;let(w,hw,t,rfl,ht):=hP.at hi;let hb:decide (Xh H ↑t z)=true:=hb
   rw[YX,key ⟨t,Z,ht⟩]at hb;rw[<-hb];show WT hw
  .intro hz;let(i,hi):=Yv hz;let(v,hv,t,rfl,ht):=hP.2 i z hi;exists _,WT hv,Yx ⟨t,Z,ht⟩
def mY(hx:Xh H x z)(hp:SqL K H p xs)(hP:TupsV H xs L)(q:Q (.bl (decide (z∈L))) H):BP K x ↑p H Q:=by let(e,h1,h2):=mZ (K:=K) hx hP;exists 1,p,xs,e,Z,hp,su,h1,by rwa[h2]
abbrev Qg(a b:Ac):Prop:=HT.lexLt a b=true
def aZ:∀p a b,HT.lexLt (p++a) (p++b)=HT.lexLt a b
 |[],a,b=>rfl
 |x::p,a,b=>by rw[DU,DU,HT.Xq,if_pos Z,aZ p]
def aY:∀{s t:Ac}(a b:Ac),s.f=t.f->HT.lexLt s t=true->HT.lexLt (s++a) (t++b)=true
 |[],[],a,b,_,h=>by cases h
 |[],_::_,a,b,e,_=>by simp at e
 |_::_,[],a,b,e,_=>by simp at e
 |x::s,y::t,a,b,e,h=>by
  rw[HT.Xq]at h;rw[DU,DU,HT.Xq];split
  .rename_i q;rw[if_pos q]at h;show aY a b (by simpa using e) h
  .rename_i q;rwa[if_neg q]at h
def AY{a:Ab}(h:a.E λx y=>HT.lexLt y x=false)(hn:a.Nodup):a.E Qg:=by
 show(h.and hn).imp ?_;rintro x y ⟨h1,h2⟩;change HT.lexLt x y=true
 cases e:HT.lexLt x y with
 |true=>rfl
 |false=>show absurd (WJ e h1) h2
def mX(m:Int):∀k,∀l∈Of m k,l.f=k
 |0,l,h=>by rw[XD.H h];rfl
 |k+1,l,h=>by let(s,hs,hl):=List.mem_flatMap.H h;let(t,_,_,rfl):=VW.H hl;rw[Xy,mX m k s hs];rfl
def Jp(m:Int):∀k,(Of m k).E Qg
 |0=>IM ..
 |k+1=>by
  change((Of m k).flatMap (Tt m)).E Qg;rw[List.pairwise_flatMap];exists λs _=>?_,tZ (λ{s t} hs ht WV=>?_)<|Jp m k
  .unfold Tt;rw[SR];show Eh.imp λ{i j} WL=>?_;change HT.lexLt _ _=true
   rw[aZ,HT.Xq,if_neg J];show Yx J
  .intro x hx y hy;let(u,_,_,rfl):=VW.H hx;let(v,_,_,rfl):=VW.H hy;show aY _ _ (by rw[mX m k s hs,mX m k t ht]) WV
def GS{α:Type}[DecidableEq α]:∀{l m:List α},l.Nodup->(∀x∈l,x∈m)->l.f<=m.f
 |[],m,_,_=>Yi _
 |x::l,m,h,hs=>by
  let(h1,h2):=OV.H h;let hx:=hs x Ye
  have:=GS (l:=l) (m:=m.erase x) h2 λy hy=>(tN λ(e:y=x)=>h1<|e▸hy).X (hs y<|Yg _ hy)
  rw[t5 hx]at this
  have:=tU hx
  rw[YF];grind
end My
namespace L2
open PySem PySem.Spec PyProof.Rows
def mW(i j:Int):(Prop):=(-(10^200)<i/\i<10^200)/\(-(10^200)<j/\j<10^200)
def AX(h1:-(10^200)<a)(h2:a<10^200):Builtin.Int.intBits a<=1000:=by let h:a.natAbs<10^200:=sr;show PySem.intBits_le_iff.X (xn h su)
section
variable{X:Cx}
def AW:Wy X (binaryOp .Mult) (rI mW λi j=>.int (i*j)):=HU λ_ _ _ _ _ _ _ hc q=>mul_int q (.of_bits (Yj (AX hc.1.1 hc.1.2) su)<|Yj (AX hc.2.1 hc.2.2) su)
end
end L2
namespace My
open PySem L2
def aX(g:Zx n ps)(hT:Zf n ps T)(z0:0<=z)(z1:z<ps⁻¹):Conn (XT ps (VN n ps T z T)) (Zt ps z).1 (Zt ps z).2:=by
 let he:=Sv (z:=z) g z0 z1;let key:∀D:Ac,(∀o∈D,o∈T/\z∉Su n ps T o)->Conn (XT ps<|T.filter λy=>decide<|y∉D) (Zt ps z).1 (Zt ps z).2:=by
  intro D
  induction D with
  |nil=>
   intro _;let e:(T.filter λy=>decide<|y∉([]:Ac))=T:=Ip.X λy _=>B
   rw[e];show hT.2.2 _ _ he.1 he.2
  |cons o D ih=>
   intro hD;let c:=ih λy hy=>hD y (Yg _ hy)
   let(vC,w6):=hD o Ye;cases wL:o∈D
   .show c.mono (ZR λy hy=>?_);let(h1,h2):=Yn.H hy;let h2:=YG h2
    show Yn.X {h1,Yx λh=>(Yf.H h).elim (λe=>h2<|e▸wL) h2}
   .show YD λUp=>?_;let AV:∀y,y∈(T.filter λy=>decide<|y∉o::D)->y∈wo T o:=λy hy=>by
     let(h1,h2):=Yn.H hy;let h2:=YG h2
     show Xi.X {h1,λe=>h2<|by rw[e];show Ye}
    let c2:Conn (XT ps<|(T.filter λy=>decide<|y∉o::D)++[o]) (Zt ps z).1 (Zt ps z).2:=(Sx λy=>by
     rw[XB,Yn,Yn,XD];simp only[IK,Yf,not_or];constructor
     .rintro⟨h1,h2⟩;cases e:y=o
      .show .inr e
      .show .inl ⟨h1,e,h2⟩
     .rintro(⟨h1,_,h2⟩|e)
      .exists h1,h2
      .rw[e];exists vC,wL).H c
    let UJ:∀y∈(T.filter λy=>decide<|y∉o::D),0<=y/\y<ps⁻¹:=λy hy=>hT.1.all y (Yn.H hy).1;let(o0,o1):=hT.1.all o vC;let Wj:InN n.j (XT ps<|T.filter λy=>decide<|y∉o::D):=ZN g UJ
    let mV:InN n.j (XT ps<|(T.filter λy=>decide<|y∉o::D)++[o]):=ZN g λy hy=>by
     rcases XB.H hy with h|h
     .show UJ y h
     .rw[XD.H h];exists o0,o1
    let Tf:=Sv (z:=o) g o0 o1;let hl:=ZI n.j (XT ps<|T.filter λy=>decide<|y∉o::D)
    let own:¬Conn (XT ps<|wo T o) (Zt ps o).1 (Zt ps o).2:=(MD g hT o0 o1).H ((BM g hT vC vC).X Z);let cw:Conn (XT ps<|wo T o) (Zt ps z).1 (Zt ps z).2:=YD λh=>w6 ((MD g hT z0 z1).X h)
    let up:∀{i j:Nat},i<n.j->j<n.j->mk (WQ n.j<|XT ps<|T.filter λy=>decide<|y∉o::D) i=mk (WQ n.j<|XT ps<|T.filter λy=>decide<|y∉o::D) j->Conn (XT ps<|wo T o) i j:=λhi hj e=>((ZX Wj hi hj).H e).mono (ZR AV);let m:=(ZX mV he.1 he.2).X c2
    rw[Sw,LB,Ct J J]at m;rcases m with m|⟨m1,m2⟩
    .show Up ((ZX Wj he.1 he.2).H m)
    .rcases m1 with m1|m1<;>rcases m2 with m2|m2
     .show Up ((ZX Wj he.1 he.2).H (m1.m m2.symm))
     .show own (((up he.1 Tf.1 m1).symm.m cw).m (up he.2 Tf.2 m2))
     .show own (((up he.2 Tf.1 m2).symm.m cw.symm).m (up he.1 Tf.2 m1))
     .show Up ((ZX Wj he.1 he.2).H (m1.m m2.symm))
 let c:=key (T.filter λy=>decide<|z∉Su n ps T y) λo ho=>by let(h1,h2):=Yn.H ho;exists h1,YG h2
 show c.mono (ZR λy hy=>?_);let(h1,h2):=Yn.H hy;let h2:=YG h2
 show Vk.X {h1,YD λh=>h2<|Yn.X {h1,Yx h}}
def GR{a b:Ac}(ha:a.E (·<·))(hb:b.E (·<·))(h:∀z,z∈a↔z∈b):a=b:=
 (Oe ha hb λz hz=>(h z).H hz).eq_of_length (tf (Oe ha hb λz hz=>(h z).H hz).length_le (Oe hb ha λz hz=>(h z).X hz).length_le)
def aW{i:Int}(h0:0<=i):Ww xs (some i) none=xs.drop i.j:=by
 let e:HT.UN xs.f 0 (some i)=min i.j xs.f:=by change(if i<0 then (i+xs⁻¹).j else min i.j xs.f)=_;rw[if_neg J]
 unfold Ww;rw[e,HT.SH,YJ (by rw[YS];show XI _)];cases h:i.j<=xs.f
 .rw[IG h]
 .rw[tD J,YK<|XI _,YK sr]
def cutz{α:Type}(l:List α)(z:Int):(List α):=l.M z.j++l.drop (z.j+1)
def mU{z:Int}(h0:0<=z):Ww xs none (some z)++Ww xs (some (z+1)) none=cutz xs z:=by rw[bS h0,aW J,show(z+1).j=z.j+1 by lia];rfl
def mT{α:Type}(l:List α)(z:Int):(cutz l z).f<=l.f:=by unfold cutz;rw[Xy,Yl,YS];grind
def dn(lo hi i:Int):(Int):=if i=hi then lo else if i<hi then i else i-1
def aV(i:Nat):VI (i+1)=VI i++[(i:Int)]:=by unfold VI;rw[DS,YQ];rfl
end My
namespace L2
open PySem PySem.Spec PyProof.Rows
def Vv{N a b:St->Hp->Prop}{r:VK}{σ:St}{H:Hp}(h:N σ H):Ends.nx {nx:=N,rt:=r,bk:=a,ct:=b} σ H:=h
end L2
namespace My
def AU{α:Type}{l:List α}(h:l.f=1):∃a,l=[a]:=by
 cases l with
 |nil=>cases h
 |cons a l=>cases l with
  |nil=>exists a,Z
  |cons b l=>simp at h
def AS{α:Type}{l:List α}(h:l.f=2):∃a b,l=[a,b]:=by
 cases l with
 |nil=>cases h
 |cons a l=>
  let(b,rfl):=AU (Md h);exists a,b,Z
def AR{α:Type}{l:List α}(h:l.f=3):∃a b c,l=[a,b,c]:=by
 cases l with
 |nil=>cases h
 |cons a l=>
  let(b,c,rfl):=AS (Md h);exists a,b,c,Z
def AQ{α:Type}{l:List α}(h:l.f=4):∃a b c d,l=[a,b,c,d]:=by
 cases l with
 |nil=>cases h
 |cons a l=>
  let(b,c,d,rfl):=AR (Md h);exists a,b,c,d,Z
end My
namespace My
open PySem L2
def ZQ{l:Ac}{f:Int->Bool}{y:Int}(h:l[i]?=some y):(l.M (i+1)).filter f=(l.M i).filter f++(if f y=true then [y] else []):=by
 rw[WD,h,QM];congr 1;cases e:f y=true
 .rw[if_pos e];change List.filter _ [y]=_;rw[YZ,if_pos e];rfl
 .rw[if_neg e];change List.filter _ [y]=_;rw[YZ,if_neg e];rfl
end My
namespace L2
open PySem PySem.Spec PyProof.Rows
section
variable{X:Cx}
def mS:(R2):=λx y H Q=>∃a b xs ys,x=.ref a/\y=.ref b/\H a=some (.tup xs)/\H b=some (.tup ys)/\xs.f+ys.f<=sizeLine/\∀r H',Same H H'->H' r=some (.tup<|xs++ys)->Q ↑r H'
def mR(K:Ad)(hk:X.K=K:=by rfl):Wy X (binaryOp .Add) mS:=by
 intro pins s σ H x y v u Q I rx ry h;let(a,b,xs,ys,e1,e2,ha,hb,hz,q):=h;show Hh K hk pins s σ H x y v u Q I rx ry {a,b,xs,ys,e1,e2,SqT.of ha,SqT.of hb,hz,λhx=>?_,λ_ hy=>?_,λ_ _ p hp=>q p _ (My.XZ hp) XS}
 .subst hx;show q b H (Same.refl H) hb
 .subst hy;show q a H (Same.refl H) (by rwa[YB])
end
end L2
namespace My
open PySem L2
def Conn.lift(h:∀e∈es,Conn fs e.1 e.2)(c:Conn es i j):Conn fs i j:=by
 induction c with
 |refl i=>show .refl i
 |edge e=>show h _ e
 |symm _ ih=>show ih.symm
 |trans _ _ KU Qf=>show KU.m Qf
def aT(g:Zx n ps)(hT:Zf n ps T)(hW:Zf n ps W)(hz:z∈T)(hzW:z∉W):∃y,exg n ps T z y/\exg n ps W y z:=by
 let(z0,z1):=hT.1.all z hz;show YD λUp=>?_;show(MD g hT z0 z1).H ((BM g hT hz hz).X Z) ((aX g hW z0 z1).lift λe he=>?_);unfold XT at he;let(y,hy,rfl):=YN.H he;let(mQ,hyc):=Vk.H hy;let(y0,y1):=hW.1.all y mQ;let aS:y≠z:=λe=>hzW (e▸mQ)
 have:=(MD (o:=z) g hT y0 y1)
 show YD λh=>Up {y,{hz,aS,this.X h},{mQ,Xb aS,hyc}}
def mP(l:Ac):∃m:Ac,m.Perm l/\m.E (·<=·):=by
 induction l with
 |nil=>exists [],.refl _,.nil
 |cons x l ih=>
  let(m,h1,h2):=ih;let key:∀m:Ac,m.E (·<=·)->∃k:Ac,k.Perm (x::m)/\k.E (·<=·):=by
   intro m
   induction m with
   |nil=>intro _;exists [x],.refl _,IM _ _
   |cons y m Qf=>
    intro hp;let(hy,hm):=Wb.H hp;cases KW:x<=y
    .exists x::y::m,.refl _,Wb.X {λz hz=>?_,hp};rcases Yf.H hz with e|e
     .rw[e];show KW
     .show Fn KW (hy z e)
    .let⟨k,k1,k2⟩:=Qf hm;exists y::k,(k1.cons y).m (List.Perm.swap x y m),Wb.X {λz hz=>?_,k2};rcases Yf.H (k1.mem_iff.H hz) with e|e
     .rw[e];lia
     .show hy z e
  let(k,k1,k2):=key m h2;exists k,k1.m<|h1.cons x,k2
def mO(s:SameP M N):cnt M=cnt N:=by
 unfold cnt UW;rw[<-s.1];show QP List.f (DW λp hp=>?_);let hp:=YV.H hp
 rw[OS,XC,XC];constructor
 .intro h i hi e;show h i hi ((s.2 i p J hp).X e)
 .intro h i hi e;show h i hi ((s.2 i p J hp).H e)
def aR(g:Zx n ps)(hU:Zf n ps U):∀V:Ac,V.Nodup->(∀z∈V,z∈U)->WI n.j ps V=V:=by
 show Ls (λ_ _=>rfl) λV z ih hn hs=>?_;let SM:=VS.H hn
 let hV:∀y∈V,y∈U:=λy hy=>hs y (Yc _ hy);let hz:z∈U:=hs z (Yd _<|XD.X Z)
 let hzV:z∉V:=λh=>SM.2.2 z h z (XD.X Z) rfl;let(z0,z1):=hU.1.all z hz;let he:=Sv (z:=z) g z0 z1
 rw[Lo,ih SM.1 hV];unfold RB;rw[if_neg];intro e;let c:=(ZX (ZN g λy hy=>hU.1.all y<|hV y hy) he.1 he.2).H e
 show(MD g hU z0 z1).H ((BM g hU hz hz).X Z) (c.mono<|ZR λy hy=>Xi.X {hV y hy,λe'=>hzV<|by rwa[<-e']})
def mM{as bs:Ac}(g:Zx n ps)(h:∀y∈as,0<=y/\y<ps⁻¹)(z0:0<=z)(z1:z<ps⁻¹)(hz:z∉WI n.j ps (as++z::bs)):Conn (XT ps (WI n.j ps as)) (Zt ps z).1 (Zt ps z).2:=by
 let(us,e,_):=vK n.j ps (as++[z]) bs;rw[Yu]at e;let e:WI n.j ps (as++z::bs)=WI n.j ps (as++[z])++us:=e
 rw[e,Lo]at hz;let he:=Sv (z:=z) g z0 z1
 show(ZX (Ql g h) he.1 he.2).H (YD λXJ=>hz ?_);unfold RB;rw[if_neg XJ];show Yc _ (Yd _<|XD.X Z)
def mL{as bs:Ac}{y:Int}(h:y∈WI n ps as):y∈WI n ps (as++bs):=by let(us,e,_):=vK n ps as bs;rw[e];show Yc _ h
def Fr(n:Nat)(ps:Aa)(l:Ac):(Bool):=decide (WI n ps l=l)
def Fr.nil(n:Nat)(ps:Aa):Fr n ps []=true:=Yx rfl
def Rc:Fr n ps (l++[z])=true↔Fr n ps l=true/\mk (WQ n (XT ps l)) (Zt ps z).1≠mk (WQ n (XT ps l)) (Zt ps z).2:=by
 unfold Fr;rw[YX,YX,Lo];constructor
 .intro h;unfold RB at h;split at h
  .have:=(BI n ps l).length_le
   rw[h,Xy]at this;let h1:[z].f=1:=rfl
   lia
  .rename_i XJ;let e:=(List.append_inj' h Z).1
   rw[e]at XJ;exists e,XJ
 .rintro⟨e,XJ⟩;rw[e];unfold RB;rw[if_neg XJ]
def VR(n:Nat)(ps:Aa)(k:Nat):(Ab):=(Of ps⁻¹ k).filter (Fr n ps)
def aQ(g:Zx n ps):l∈VR n.j ps (n-1).j↔Zf n ps l:=by
 unfold VR;rw[Yn,VU];let g1:=g.1
 constructor
 .rintro⟨⟨h1,h2⟩,h3⟩;let e:WI n.j ps l=l:=YG h3
  let c:=vJ g l h2.all;rw[e]at c;exists h2,J,(Jy sD<|ZN g h2.all).H sD
 .intro h;exists {by have:=h.2.1;lia,h.1},Yx<|aR g h l h.1.nodup λz hz=>hz
def vB(hT:Zf n ps T):T.E (·<·):=(XR.H hT.1).2
def UB{a:Ac}(h:a.E (·<=·))(hn:a.Nodup):a.E (·<·):=(h.and hn).imp λh=>by have:=h.1;have:=h.2;lia
def ZT8(g:Zx n ps):∀zs:Ac,(∀z∈zs,0<=z/\z<ps⁻¹)->(WI n.j ps zs).Nodup:=by
 show Ls (λ_=>List.E.nil) λzs z ih hb=>?_;let Ow:∀y∈zs,0<=y/\y<ps⁻¹:=λy hy=>hb y (Yc _ hy)
 let(z0,z1):=hb z (Yd _<|XD.X Z);let he:=Sv (z:=z) g z0 z1
 rw[Lo];unfold RB;split
 .show ih Ow
 .next XJ=>
  show VS.X {ih Ow,B,λa ha b mK e=>?_};rw[XD.H mK]at e;subst e;show XJ ((ZX (Ql g Ow) he.1 he.2).X (.edge ?_));show YN.X ⟨a,ha,Z⟩
def mJ(g:Zx n ps)(hb:∀z∈zs,0<=z/\z<ps⁻¹)(hl:¬((WI n.j ps zs).f:Int)<n-1)(Tu:ms.Perm (WI n.j ps zs))(Lp:ms.E (·<=·)):Zf n ps ms:=by
 let g1:=g.1;let h2:=vJ g zs hb
 let h3:=n8 (M:=WQ n.j<|XT ps<|WI n.j ps zs) (by rw[ZI];grind);let NP:=(Jy sD<|Ql g hb).H sD
 show{XR.X {λz hz=>hb z<|(BI _ _ _).subset (Tu.mem_iff.H hz),UB Lp<|Tu.nodup_iff.X<|ZT8 g zs hb},by rw[Tu.length_eq];grind,λi j hi hj=>?_};show(Sx λy=>Tu.mem_iff).X (NP i j hi hj)
def mI{I os U:Ac}(g:Zx n ps)(hU:Zf n ps U)(hI:I.Nodup)(mH:∀z∈I,z∈U)(mG:∀z∈U,z∈I++os)(hb:∀z∈I++os,0<=z/\z<ps⁻¹):(WI n.j ps (I++os)).M I.f=I/\¬((WI n.j ps (I++os)).f:Int)<n-1:=by
 let g1:=g.1;let(us,e,_):=vK n.j ps I os;rw[aR g hU I hI mH]at e;show{by rw[e,List.take_left],?_};let NP:∀i j,i<n.j->j<n.j->Conn (XT ps<|WI n.j ps<|I++os) i j:=λi j hi hj=>nR g _ hb ((hU.2.2 i j hi hj).mono (ZR mG))
 let h1:=(Jy J<|Ql g hb).X NP;let h2:=vJ g (I++os) hb
 grind
def vA{p r:Ac}{x:Int}(h:(p++x::r).E (·<·)):(∀z∈p,z<x)/\∀z∈x::r,x<=z:=by
 let a:=YI.H h;exists λz hz=>a.2.2 z hz x Ye,λz hz=>?_;rcases Yf.H hz with h|h
 .rw[h];show SO _
 .show Iz ((Wb.H a.2.1).1 z h)
def Zm7{I os U F:Ac}(g:Zx n ps)(hU:Zf n ps U)(mH:∀z∈I,z∈U)(mG:∀z∈U,z∈I++os)(hb:∀z∈I++os,0<=z/\z<ps⁻¹)(ho:os.E (·<·))(hF:Zf n ps F)(hf:F.Perm (WI n.j ps (I++os)))(hIF:∀z∈I,z∈F):HT.lexLt U F=false:=by
 cases Pj:HT.lexLt U F with
 |false=>rfl
 |true=>
  exfalso;let(p,x,y,r,s,eU,ef,KW):=BL (by have:=hF.2.1;have:=hU.2.1;lia) Pj
  let GQ:x∈U:=by rw[eU];show Yd _ Ye
  let(x0,x1):=hU.1.all x GQ;let aU:=vA (eU▸vB hU)
  let aF:=vA (ef▸vB hF);let mF:x∉F:=λh=>by
   rw[ef]at h;rcases XB.H h with h|h
   .have:=aU.1 x h
    lia
   .have:=aF.2 x h
    lia
  let hxI:x∉I:=λh=>mF (hIF x h);let hxo:x∈os:=(XB.H<|mG x GQ).resolve_left hxI
  let(as,bs,eo):=List.append_of_mem hxo;let ao:=vA (eo▸ho)
  let Ow:∀z∈I++as,0<=z/\z<ps⁻¹:=λz hz=>hb z ((XB.H hz).elim (λh=>Yc _ h) λh=>Yd _<|by rw[eo];show Yc _ h);let hxG:x∉WI n.j ps ((I++as)++x::bs):=by rw[Yu,<-eo];show λh=>mF (hf.mem_iff.X h)
  let c:=mM g Ow x0 x1 hxG;show(MD g hU x0 x1).H ((BM g hU GQ GQ).X Z) (c.mono<|ZR λz hz=>?_);let EG:z∈F:=hf.mem_iff.X (by
   have:=mL (bs:=x::bs) hz
   rwa[Yu,<-eo]at this)
  let hzx:z≠x:=λe=>mF (e▸EG);show Xi.X {?_,hzx};rcases XB.H ((BI _ _ _).subset hz) with h|h
  .show mH z h
  .let h1:=ao.1 z h;rw[ef]at EG;rcases XB.H EG with h|h
   .rw[eU];show Yc _ h
   .have:=aF.2 z h
    lia
def With(n:Int)(ps:Aa)(I O U:Ac):(Prop):=Zf n ps U/\(∀z∈I,z∈U)/\∀z∈O,z∉U
def With.sub{I O U os:Ac}(h:With n ps I O U)(ho:∀z,z∈os↔(0<=z/\z<ps⁻¹)/\z∉O):∀z∈U,z∈I++os:=λz hz=>Yd _ ((ho z).X {h.1.1.all z hz,λh2=>h.2.2 z h2 hz})
def mE(H:Hp)(v:V)(o:Option Ac):(Prop):=match o with|none=>v=.non|some l=>Xh H v l
end My
namespace L2
open PySem PySem.Spec PyProof.Rows
def mD(K:Ad):(R2):=λx y H Q=>∃l b xs zs,x=.ref l/\y=.ref b/\SqL K H l xs/\SqL K H b zs/\xs.f+zs.f<=sizeLine/\∀p,H p=none->Q ↑p (upd H p<|.lst<|xs++zs)
section
variable{X:Cx}
def mC(K:Ad)(hk:X.K=K:=by rfl):Wy X (binaryOp .Add) (mD K):=by
 subst hk;intro pins s σ H x y v u Q I rx ry h;let(l,b,xs,zs,rfl,rfl,hH,hB,hz,q):=h;cases rx;cases ry;let(XW,r,p,_):=I.list hH;let(VZ,r2,p2,_):=I.list hB;let l1:=r.f
 let l2:=r2.f;let((cls,dd,data,sl),ho,hc,n,hd):=id p.isList;let((CT,Fg,data2,Ff),Th,UR,n2,hd2):=id p2.isList;simp only at hc hd UR hd2;subst hc hd UR hd2;let e:XW.C++VZ.C=(XW++VZ).C:=B
 show xg {_,ho,Z} {_,Th,Z} noFill_list_add seq_list_add PySem.F.slot_list_add PySem.F.entry_list_add (PySem.F.args_list_add_2 _ _) (list_addW l b XW.C VZ.C n n2 dd Fg sl Ff<|by rw[Xk,Xk];grind) {ho,Th,?_};rw[e];exists .ref _,_,I.lnew (t':=s.toks) (r.append r2) (by rw[Xy];lia),Z,q _ I.fresh
end
end L2
namespace My
open PySem L2
def TC(n:Int)(ps:Aa)(c:Nat):(Prop):=∃L:Ab,L.Nodup/\(∀l,l∈L↔Zf n ps l)/\L.f=c
def TC.uniq(h1:TC n ps c)(h2:TC n ps d):c=d:=by let(L,a1,a2,rfl):=h1;let(M,b1,b2,rfl):=h2;show((Ek a1 b1).X λl=>by rw[a2,b2]).length_eq
def NO:IsSet (m+1) (T++[(m:Int)])↔IsSet m T:=by
 constructor
 .intro h;let a:=XR.H h
  let b:=YI.H a.2;show XR.X {λz hz=>?_,b.1};let c:=a.1 z (Yc _ hz)
  let d:=b.2.2 z hz m (XD.X Z);omega
 .show λh=>h.snoc
def mB(h:IsSet (m+1) T):IsSet m T\/∃T',T=T'++[(m:Int)]/\IsSet m T':=by
 let a:=XR.H h;cases hm:(m:Int)∈T
 .let⟨p,r,e⟩:=List.append_of_mem hm;let b:=vA (e▸a.2)
  cases r with
  |nil=>show .inr {p,e,NO.H<|e▸h}
  |cons y r=>
   let h1:=a.1 y (by rw[e];simp);let h2:=(Wb.H (YI.H<|e▸a.2).2.1).1 y Ye
   omega
 .show .inl (XR.X {λz hz=>?_,a.2});let h1:=a.1 z hz
  let h2:z≠(m:Int):=λe=>hm (e▸hz);lia
def aP{es:List (Nat×Nat)}{a b i j:Nat}(c:Conn (es++[(a,b)]) i j):Conn (es++[(b,a)]) i j:=c.lift λe he=>by
 rcases XB.H he with q|q
 .show .edge (Yc _ q)
 .rw[XD.H q];show .symm (.edge B)
end My
namespace L2
open PySem PySem.Spec PyProof.Rows
section
variable{X:Cx}
def mz(XW:Ag)(y:Value)(k:Nat):(XW.C.Q 0 k).push y++XW.C.Q k=(XW.M k++y::XW.drop k).C:=by apply Array.ext';simp;show YJ (by rw[YS];show XI _)
def my:(V->List V->Hp->VK->Prop):=λx vs H Q=>∃l xs i y,x=.ref l/\vs=[.int i,y]/\H l=some (.lst xs)/\0<=i/\i<=xs⁻¹/\xs.f<sizeLine/\Q .non (upd H l<|.lst<|xs.M i.j++y::xs.drop i.j)
def Zt8:LI X "list.insert" my:=by
 intro pins s σ H x vs v us Q I rx rv h;let(l,xs,i,y,rfl,rfl,hH,h0,h1,hz,q):=h;cases rx;let(u,y',rfl,ru,ry):=rv.two;let(t,rfl):=ru;let(z,XW,n,r,hl,e):=I.lstM hH;let EH:sizeLine=16777216:=Uu
 let HK:¬(!Builtin.List.listFitsIndex i)=true:=by unfold Builtin.List.listFitsIndex;simp;lia
 show LV eE {_,e,Z} PySem.F.entry_list_insert (PySem.F.args_list_insert_3 _ _ _) (PySem.AutoSeq1.list_insert_list_int_val_1 l XW.C n i t y' HK<|by rw[Xk];grind) {e,?_};exists .non,_,I.lset (its':=XW.M i.j++y'::XW.drop i.j) hH e ?_ ((r.M _).append (.cons ry<|r.drop _)) ?_,Z,q
 .change((XW.C.Q 0<|if i<0 then (i+(XW.C.t:Int)).j else min i.j XW.C.t).push y'++XW.C.Q (if i<0 then (i+(XW.C.t:Int)).j else min i.j XW.C.t))=_;rw[if_neg J,Xk,IG sD];show mz XW y' i.j
 .rw[Xy,YF,Yl,YS];grind
end
end L2
namespace My
open PySem L2
def UA(n:Nat)(ps:Aa):(Nat->Ab)
 |0=>[[]]
 |i+1=>UA n ps i++((UA n ps i).R (·++[(i:Int)])).filter (Fr n ps)
def Wn:∀{i:Nat},l∈UA n ps i↔IsSet i l/\Fr n ps l=true
 |0=>by
  change l∈[[]]↔_;rw[XD];constructor
  .rintro rfl;exists IsSet.nil 0,Fr.nil n ps
  .rintro⟨h,_⟩;show YW.H (by have:=h.len;lia)
 |i+1=>by
  change l∈UA n ps i++_↔_;rw[XB,Wn,Yn,YN];constructor
  .rintro(⟨h1,h2⟩|⟨⟨s,hs,rfl⟩,h2⟩)
   .exists h1.up,h2
   .exists (Wn.H hs).1.snoc,h2
  .rintro⟨h1,h2⟩;rcases mB h1 with e|⟨s,rfl,e2⟩
   .show .inl ⟨e,h2⟩
   .show .inr {{s,Wn.X {e2,(Rc.H h2).1},Z},h2}
def mx(n:Nat)(ps:Aa):∀i:Nat,(UA n ps i).Nodup
 |0=>IM ..
 |i+1=>by
  show VS.X {mx n ps i,LW Iq<|List.E.R _ (λa b h e=>h<|DF e)<|mx n ps i,λx hx y hy e=>?_};let(s,_,e2):=YN.H (Yn.H hy).1;let h1:=(Wn.H hx).1.all (i:Int) (by rw[e,<-e2];simp)
  lia
def aO(n:Nat)(ps:Aa):∀i:Nat,(UA n ps i).f<=2^i
 |0=>XI 1
 |i+1=>by
  change(UA n ps i++_).f<=_;rw[Xy,Nat.pow_succ];let h1:=aO n ps i
  let h2:(((UA n ps i).R (·++[(i:Int)])).filter (Fr n ps)).f<=(UA n ps i).f:=Yj (YE ..) (by rw[Yb];show XI _);grind
def AO(n:Nat)(ps:Aa)(h:i<=10):(UA n ps i).f<=1024:=Yj (aO n ps i) (Ee su h)
def mw(g:Zx n ps):(l∈UA n.j ps ps.f/\l⁻¹=n-1)↔Zf n ps l:=by
 rw[<-aQ g,Wn];unfold VR;let g1:=g.1
 rw[Yn,VU];constructor
 .rintro⟨⟨a,b⟩,c⟩;exists ⟨J,a⟩,b
 .rintro⟨⟨a,b⟩,c⟩;exists ⟨b,c⟩,sr
def PhL(n:Nat)(ps:Aa)(H:Hp)(x:V)(l:Ac):(Prop):=∃t p h,x=.ref t/\H t=some (.tup [.ref p,.ref h])/\H p=some (.tup<|IL l)/\H h=some (.lst<|IL<|WQ n<|XT ps l)
def PhM(n:Nat)(ps:Aa)(d:Addr)(H:Hp)(x:V)(l:Ac):(Prop):=∃t p h,x=.ref t/\H t=some (.tup [.ref p,.ref h])/\H p=some (.tup<|IL l)/\H h=some (.lst<|IL<|WQ n<|XT ps l)/\h≠d
def PhL.same(s:Same H H')(h:PhL n ps H x l):PhL n ps H' x l:=by let(t,p,q,e,h1,h2,h3):=h;exists t,p,q,e,s _ _ h1,s _ _ h2,s _ _ h3
def PhM.same(s:Same H H')(h:PhM n ps d H x l):PhM n ps d H' x l:=by let(t,p,q,e,h1,h2,h3,h4):=h;exists t,p,q,e,s _ _ h1,s _ _ h2,s _ _ h3,h4
def PhM.low(h:PhM n ps d H x l):PhL n ps H x l:=by let(t,p,q,e,h1,h2,h3,h4):=h;exists t,p,q,e,h1,h2,h3
def PhM.mut{ys zs:List V}(h:PhM n ps d H x l)(hd:H d=some (.lst ys)):PhM n ps d (upd H d (.lst zs)) x l:=by let(t,p,q,e,h1,h2,h3,h4):=h;exists t,p,q,e,by rw[Za (OK h1 hd (λz=>nomatch z))];show h1,by rw[Za (OK h2 hd (λz=>nomatch z))];show h2,by rw[Za h4];show h3,h4
def Bears.app{α:Type}[DecidableEq α]{R:V->α->Prop}{xs ys:List V}{l m:List α}(h:Bears R xs l)(h2:Bears R ys m):Bears R (xs++ys) (l++m):=by
 show{by rw[Xy,Xy,h.1,h2.1],λi a e=>?_};let hl:=h.1
 cases c:i<l.f
 .rw[Yr c]at e;let(x,e1,r):=h.2 i a e;exists x,by rw[Yr J];show e1,r
 .rw[Yo J]at e;let(x,e1,r):=h2.2 _ a e;exists x,by rw[Yo J,hl];show e1,r
def mv{a b M N:Int}(a0:0<=a)(aM:a<M)(b0:0<=b)(bN:b<N):0<=a*b/\a*b<M*N:={Int.mul_nonneg a0 b0,Int.lt_of_le_of_lt (Int.mul_le_mul_of_nonneg_left (Iz bN) a0)<|Int.mul_lt_mul_of_pos_right aM J}
def PairsV.set(h:PairsV H xs ps)(i:Nat)(q:PairV H v p):PairsV H (xs.set i v) (ps.set i p):=by
 show{by rw[MT,MT];show h.1,λj x e=>?_};let hl:=h.1
 cases c:i=j
 .subst c;rw[Ml]at e;rw[if_pos Z]at e;cases Xm:i<ps.f
  .rw[if_pos Xm]at e;let rfl:=Yk e;exists v,by rw[Ml,if_pos Z,if_pos J],q
  .rw[if_neg Xm]at e;cases e
 .rw[Ml,if_neg c]at e;let(w,e1,r):=h.2 j x e;exists w,by rw[Ml,if_neg c];show e1,r
end My
namespace L2
open PySem PySem.Spec PyProof.Rows
def EF(K:Ad)(a b:Addr):(It):=
 ⟨λi H=>∃xs ys x y,SqL K H a xs/\SqL K H b ys/\xs[i]?=some x/\ys[i]?=some y,λi H v H'=>∃T x y,H T=none/\v=.ref T/\H'=upd H T (.tup [x,y])/\(∀xs,SqL K H a xs->xs[i]?=some x)/\∀ys,SqL K H b ys->ys[i]?=some y,
  λi H=>∃xs ys,SqL K H a xs/\SqL K H b ys/\(xs.f<=i\/ys.f<=i)⟩
def mr{P:Program}{w:World}{K:Ad}{elts:List Expr}{x1:Nat}{pos:Pos}(a b z TI TO i1 i2:Addr)(D:ZipApart z TI TO i1 i2 a b):
  Turn P w K (.Tuple elts x1 pos) (EF K a b) [z,TI,TO,i1,i2] z (λi h=>IsZip h z TI TO .none/\IsPair h TI ↑i1 ↑i2/\(∃c d,IsPair h TO c d)/\h.IsListIter i1 a i/\h.IsListIter i2 b i) where
 mem:=B
 obj:=λi h st c hc=>by
  let(hz,NM,(u,v,Mu),(o1,e1,_,d1),(o2,e2,_,d2)):=st;let Wk:c=z\/c=TI\/c=TO\/c=i1\/c=i2:=by simpa using hc
  rcases Wk with rfl|rfl|rfl|rfl|rfl
  .exists _,hz,λv q=>by let q':Data.fields _=Data.cell v:=q;cases q'
  .exists _,NM,λv q=>by let q':Data.seq _ _=Data.cell v:=q;cases q'
  .exists _,Mu,λv q=>by let q':Data.seq _ _=Data.cell v:=q;cases q'
  .exists o1,e1,λv q=>by rw[d1]at q;cases q
  .exists o2,e2,λv q=>by rw[d2]at q;cases q
 keep:=λi h h' st k=>by let(hz,NM,(u,v,Mu),h1,h2):=st;exists k z B _ hz,k TI B _ NM,{u,v,k TO B _ Mu},h1.at λo e=>k i1 B o e,h2.at λo e=>k i2 B o e
 item:=by
  intro X hP hw hK hc i pins s σ H E I hf st hg;subst hP hw hK;let(xs,ys,x,y,hq,RW,hx,hy):=hg;let(hz,NM,(u0,v0,Mu),h1,h2):=st;let(XW,rv,p,_):=I.list hq;let(u,hu,ru):=rv.get hx;let(VZ,vy,p2,_):=I.list RW;let(v,hv,mq):=vy.get hy;let fz:=hf z B
  let Qe:=hf TO B;let Qd:=hf i1 B
  let Qc:=hf i2 B;let JO:H (~~~s)=none:=I.hok.fresh (XI _)
  show wpAny_pyNext_zip_item D hz NM Mu h1 h2 p.isList p2.isList (x:=u) (y:=v) (by simpa using hu) (by simpa using hv) λh' a1 a2 a3 a4 a5 hsz hk=>?_;let MJ:∀b ob,s.D.G b=some ob->b≠(~~~s):=λb ob z=>YA (Ym z)
  let Ov:∀b ob,H b=some ob->b≠(~~~s):=λb ob z=>YA (I.hok.lt z);let MG:∀c ob,H c=some ob->c≠z/\c≠TO/\c≠i1/\c≠i2:=λc ob q=>{λe=>(by rw[e,fz.1]at q;cases q),λe=>(by rw[e,Qe.1]at q;cases q),λe=>(by rw[e,Qd.1]at q;cases q),λe=>(by rw[e,Qc.1]at q;cases q)}
  let Jo:∀c o,c∉[z,TO,i1,i2]->s.D.G c=some o->h'.G c=some o:=λc o VY q=>hk c o (λe=>VY<|by simp[e]) (λe=>VY<|by simp[e]) (λe=>VY<|by simp[e]) (λe=>VY<|by simp[e]) q;let I1:Inv X pins σ (upd H (~~~s)<|.tup [x,y]) {s with heap:=h'}:=by
   show I.step (g':=s.gens) (d':=s.drawn) (t':=s.toks) (ch:=[z,TO,i1,i2]) (λc hb=>?_) (λc o _ _ VY q _=>Jo c o VY q) (λc o _ _ VY q _=>{o.slots,Jo c o VY q})
    (λc o _ q n=>by rwa[Za (MJ c o q)]) (λc o VY q=>{o,Jo c o VY q}) (λc ys q=>by rwa[Za (Ov c _ q)]) (λc o v q=>by rwa[Za (Ov c _ q)])
    (λc ps q=>{#[],by rw[Za (Ov c _ q),q];simp}) (λm hm=>?_) (λc v' q=>?_) I.bare
   .let Wk:c=z\/c=TO\/c=i1\/c=i2:=by simpa using hb
    rcases Wk with rfl|rfl|rfl|rfl
    .exists fz.2.2.2.1,fz.2.1,fz.2.2.2.2.1,fz.2.2.2.2.2
    .exists Qe.2.2.2.1,Qe.2.1,Qe.2.2.2.2.1,Qe.2.2.2.2.2
    .exists Qd.2.2.2.1,Qd.2.1,Qd.2.2.2.2.1,Qd.2.2.2.2.2
    .exists Qc.2.2.2.1,Qc.2.1,Qc.2.2.2.2.1,Qc.2.2.2.2.2
   .let⟨o,es,ep,Wh,r⟩:=hm;exists o,es,ep,hk _ o (Xb fz.2.1) (Xb Qe.2.1) (Xb Qd.2.1) (Xb Qc.2.1) Wh,r
   .cases hb:c=(~~~s)
    .subst hb;rw[XS]at q;cases q;exists by change 2<=sizeLine;decide,[u,v],.cons ru<|.cons mq .nil,{_,a5,Z,_,Z}
    .rw[Za hb]at q;show(I.hok c v' q).stay (λe w' Wk q'=>?_) (λe q=>by rwa[Za (Ov e _ q)]) λe ys q=>by rwa[Za (Ov e _ q)]
     rcases Wk with rfl|Wk
     .have:=MG e _ q
      show hk e w' this.1 this.2.1 this.2.2.1 this.2.2.2 q'
     .have:=MG e _ Wk
      show hk e w' this.1 this.2.1 this.2.2.1 this.2.2.2 q'
  exists _,Z,wpAny_letOwnedTupleGo_zip a1 λh2 BJ SJ=>?_;let fT:z≠(~~~s):=MJ z _ hz
  let I2:Inv X pins σ (upd H (~~~s)<|.tup [x,y]) {s with heap:=h2}:=Inv.turned (s:={s with heap:=h'}) (h':=h2) (t':=s.toks) (it:=z) I1 (λb o hb q=>SJ.extBut b o hb q) (by rw[Za fT];show fz.1) fz.2.1 fz.2.2.2.1 fz.2.2.2.2.1 fz.2.2.2.2.2;show⟨.ref (~~~s),_,I2,Z,{_,x,y,JO,Z,Z,λys HG=>by rw[I.list_inj HG hq];show hx,λys HG=>by rwa[I.list_inj HG RW]},
   {BJ,SJ.extBut _ _ D.TIz (Jo _ _ (by have:=D.TIz;have:=D.TITO;have:=D.TIi1;have:=D.TIi2;simp;exists D.TIz,D.TITO,D.TIi1,D.TIi2) NM),⟨u,v,SJ.extBut _ _ D.TOz a2⟩,a3.at λo q=>SJ.extBut i1 o D.i1z q,a4.at λo q=>SJ.extBut i2 o D.i2z q},λc hc=>?_⟩
  let Wk:c=z\/c=TI\/c=TO\/c=i1\/c=i2:=by simpa using hc
  let hn:=(hf c hc).1;rcases Wk with rfl|rfl|rfl|rfl|rfl
  .rw[Za fT];show hn
  .rw[Za (MJ _ _ NM)];show hn
  .rw[Za (MJ _ _ Mu)];show hn
  .let⟨o,eo,_⟩:=h1;rwa[Za (MJ _ o eo)]
  .let⟨o,eo,_⟩:=h2;rwa[Za (MJ _ o eo)]
 done:=by
  intro X hP hw hK hc i pins s σ H E I hf st hg;subst hP hw hK;let(xs,ys,hq,RW,mj):=hg;let(hz,NM,(u0,v0,Mu),h1,h2):=st;let(XW,rv,p,_):=I.list hq;let(VZ,vy,p2,_):=I.list RW;let l1:=rv.f
  let l2:=vy.f;let fz:=hf z B
  let Qe:=hf TO B;let Qd:=hf i1 B
  let Qc:=hf i2 B;show wpAny_pyNext_zip_end (I.ok.hd hc) D hz NM Mu h1 h2 p.isList p2.isList (by
   rcases mj with e|e
   .show .inl (by simp;lia)
   .show .inr<|by simp;lia) λh' hk=>{Z,?_}
  let Jo:∀c o,c∉[z,TO,i1,i2]->s.D.G c=some o->h'.G c=some o:=λc o VY q=>hk c o (λe=>VY<|by simp[e]) (λe=>VY<|by simp[e]) (λe=>VY<|by simp[e]) (λe=>VY<|by simp[e]) q;let MG:∀c ob,H c=some ob->c≠z/\c≠TO/\c≠i1/\c≠i2:=λc ob q=>{λe=>(by rw[e,fz.1]at q;cases q),λe=>(by rw[e,Qe.1]at q;cases q),λe=>(by rw[e,Qd.1]at q;cases q),λe=>(by rw[e,Qc.1]at q;cases q)}
  show I.step (g':=s.gens) (d':=s.drawn) (t':=s.toks) (ch:=[z,TO,i1,i2]) (λc hb=>?_) (λc o _ _ VY q _=>Jo c o VY q) (λc o _ _ VY q _=>{o.slots,Jo c o VY q})
   (λc o _ q n=>n) (λc o VY q=>{o,Jo c o VY q}) (λc ys q=>q) (λc o v q=>q)
   (λc ps q=>{#[],by rw[q];simp}) (λm hm=>?_) (λc v' q=>?_) I.bare
  .let Wk:c=z\/c=TO\/c=i1\/c=i2:=by simpa using hb
   rcases Wk with rfl|rfl|rfl|rfl
   .exists fz.2.2.2.1,fz.2.1,fz.2.2.2.2.1,fz.2.2.2.2.2
   .exists Qe.2.2.2.1,Qe.2.1,Qe.2.2.2.2.1,Qe.2.2.2.2.2
   .exists Qd.2.2.2.1,Qd.2.1,Qd.2.2.2.2.1,Qd.2.2.2.2.2
   .exists Qc.2.2.2.1,Qc.2.1,Qc.2.2.2.2.1,Qc.2.2.2.2.2
  .let⟨o,es,ep,Wh,r⟩:=hm;exists o,es,ep,hk _ o (Xb fz.2.1) (Xb Qe.2.1) (Xb Qd.2.1) (Xb Qc.2.1) Wh,r
  .show(I.hok c v' q).stay (λe w' Wk q'=>?_) (λe q=>q) λe ys q=>q;rcases Wk with rfl|Wk
   .have:=MG e _ q
    show hk e w' this.1 this.2.1 this.2.2.1 this.2.2.2 q'
   .have:=MG e _ Wk
    show hk e w' this.1 this.2.1 this.2.2.1 this.2.2.2 q'
 self:=λ_ _ _ _ _ st h=>wpAny_pyIter_zip st.1 h
def mi(K:Ad)(ta:TA):(TI):=λσ H R=>ta σ H λvs H1=>∃a b,vs=[.ref a,.ref b]/\(∃xs ys,SqL K H1 a xs/\SqL K H1 b ys)/\R (EF K a b) H1
section
variable{X:Cx}
def AN(K:Ad){elts:List Expr}{x1:Nat}{RI:Pos}{e f:Expr}{ta:TA}{p pos:Pos}(hg:Gl X "zip")(hm:X.mg "zip"=none)(ha:PA X [e,f] ta)(hs:starEach [e,f] X.L=(false,eval e X.L)::starEach [f] X.L:=by rfl)(UX:(backTo pos<|starEach [f] X.L).any (·.1)=false:=by rfl)(hk:X.K=K:=by rfl):
  PI X (.Tuple elts x1 RI) (.Call (.Name "zip" p) [e,f] [] pos) (mi K ta):=by
 subst hk;intro pins s σ H R I h;show Call_ (Pu I hg hm Boot.«zip»<|IP (thn (ha pos pins s σ H _ I h) λus s1 Xw=>?_) hs UX);let(vs,H1,I1,r1,q1):=Xw;let(a,b,ev,(xs,ys,hq,RW),q):=q1;subst ev;let(u,u',rfl,ru,ru'):=HR r1;let rfl:u=Value.ref a:=ru;let rfl:u'=Value.ref b:=ru';let(XW,rv,pl,_):=I1.list hq;let(VZ,vy,aN,_):=I1.list RW;let lt1:a<(~~~s1):=by let(_,_,e,_):=pl;show Ym e
 let lt2:b<(~~~s1):=by let(_,_,e,_):=aN;show Ym e
 let D:ZipApart ((~~~s1)+4) ((~~~s1)+2) ((~~~s1)+3) (~~~s1) ((~~~s1)+1) a b:=by
  let key:∀n x y:Nat,x<n->y<n->ZipApart (n+4) (n+2) (n+3) n (n+1) x y:=λn x y h1 h2=>by constructor<;>(intro q;let q':(_:Nat)=_:=q;lia)
  show key _ _ _ lt1 lt2
 show call_zip_2 pl.isList aN.isList λh' hz NM Mu mh UZ hsz hk=>?_;show wpAny_pyIter_zip (s:={s1 with heap:=h'}) hz ?_;exists (~~~s1)+4,[(~~~s1)+4,(~~~s1)+2,(~~~s1)+3,(~~~s1),(~~~s1)+1],_,_,H1,Z,I1.kept (t':=s1.toks) hk,mr a b _ _ _ _ _ D,{hz,NM,{_,_,Mu},mh,UZ},λc hc=>?_,q;let hle:(~~~s1)<=c:=by
  let Wk:c=(~~~s1)+4\/c=(~~~s1)+2\/c=(~~~s1)+3\/c=(~~~s1)\/c=(~~~s1)+1:=by simpa using hc
  rcases Wk with e|e|e|e|e<;>rw[e]<;>first|show XI _|show Nat.le_add_right _ _
 show I1.fpOk hle (I1.hok.fresh hle)
end
end L2
namespace My
open PySem L2
section
variable{K:Ad}{a b:Addr}{xs ys:List V}{g:TG}{tt:TT}{te:TE}{o:Nat}{fr:List Nat}{σ:St}{H:Hp}{Q:VK}
def mf(Pv:Nat->List V->Hp->Prop)(h0:Pv 0 [] H)(KW:xs.f=ys.f)(hz:xs.f<sizeLine)(hl:∀i zs H,i<=xs.f->Pv i zs H->SqL K H a xs/\SqL K H b ys/\zs.f<=i)
  (hs:∀(i:Nat) x y zs H (p:Addr),H p=none->xs[i]?=some x->ys[i]?=some y->Pv i zs H->Fb Pv g tt te o fr σ i ↑p zs (upd H p<|.tup [x,y]))(hd:∀zs H,Pv xs.f zs H->∀p,H p=none->Q ↑p (upd H p<|.lst zs)):JQ (EF K a b) g tt te o fr σ H Q:=by
 exists λi m zs H=>m=xs.f-i/\i<=xs.f/\Pv i zs H,{xs.f,B,Yi _,h0},?_;rintro i m zs H ⟨rfl,hi,p⟩;let(q,q2,hy):=hl i zs H hi p;cases Xm:i<xs.f
 .show .inr {{xs,ys,xs[i],ys[i]'(by lia),q,q2,by simp[Xm],Xp sr},J,λx H' ⟨T,u,v,hT,ex,eH,hu,hv⟩=>?_};subst ex eH;show hs i u v zs H T hT (hu xs q) (hv ys q2) p (λj zs H=>∃m',m'<xs.f-i/\m'=xs.f-j/\j<=xs.f/\Pv j zs H) λzs H p'=>{xs.f-(i+1),sD,Z,Xm,p'}
 .let e:i=xs.f:=J;subst e;show .inl {{xs,ys,q,q2,.inl<|XI _},J,hd zs H p}
end
end My
namespace My
abbrev Mx:=Nat->Nat->Int
def sm:(Nat->(Nat->Int)->Int)
 |0,_=>0
 |n+1,f=>sm n f+f n
def ZD{f g:Nat->Int}:∀{n:Nat},(∀i,i<n->f i=g i)->sm n f=sm n g
 |0,_=>rfl
 |n+1,h=>by change sm n f+f n=sm n g+g n;rw[ZD λi hi=>h i J,h n J]
def GP{f g:Nat->Int}:∀{n:Nat},sm n (λi=>f i+g i)=sm n f+sm n g
 |0=>rfl
 |n+1=>by change sm n (λi=>f i+g i)+(f n+g n)=sm n f+f n+(sm n g+g n);rw[GP];lia
def EE{c:Int}{f:Nat->Int}:∀{n:Nat},sm n (λi=>c*f i)=c*sm n f
 |0=>(Rn c).symm
 |n+1=>by change sm n (λi=>c*f i)+c*f n=c*(sm n f+f n);rw[EE,Iy]
def Tq:∀{n:Nat},sm n (λ_=>0)=0
 |0=>rfl
 |n+1=>by change sm n (λ_=>0)+0=0;rw[Tq];rfl
def GO{f:Nat->Int}(h:∀i,i<n->f i=0):sm n f=0:=by rw[ZD h];show Tq
def AM{f:Nat->Int}:∀{n:Nat},sm (n+1) f=f 0+sm n (λi=>f (i+1))
 |0=>by change 0+f 0=f 0+0;lia
 |n+1=>by change sm (n+1) f+f (n+1)=f 0+(sm n (λi=>f<|i+1)+f (n+1));rw[AM];lia
def me{f:Nat->Nat->Int}:∀{n:Nat},sm n (λi=>sm m (f i))=sm m (λj=>sm n λi=>f i j)
 |0=>Tq.symm
 |n+1=>by change sm n (λi=>sm m<|f i)+sm m (f n)=sm m λj=>sm n (λi=>f i j)+f n j;rw[me,GP]
def sk(j k:Nat):(Nat):=if k<j then k else k+1
def mn(A:Mx)(j:Nat):(Mx):=λi k=>A (i+1) (sk j k)
def sg(j:Nat):(Int):=if j%2=0 then 1 else -1
def vw(j:Nat):sg (j+1)=- sg j:=by
 unfold sg;cases h:j%2=0
 .rw[if_pos h,if_neg sr]
 .rw[if_neg h,if_pos J];rfl
def det:(Nat->Mx->Int)
 |0,_=>1
 |n+1,A=>sm (n+1) λj=>sg j*A 0 j*det n (mn A j)
def NL{j k n:Nat}(h:k<n):sk j k<n+1:=by unfold sk;split<;>lia
def Zl:∀{n:Nat}{A sj:Mx},(∀i j,i<n->j<n->A i j=sj i j)->det n A=det n sj
 |0,_,_,_=>rfl
 |n+1,A,sj,h=>ZD λj hj=>by rw[h 0 j J hj,Zl (A:=mn A j) (sj:=mn sj j) λi k hi hk=>h (i+1) (sk j k) J (NL hk)]
def GN:∀{n:Nat}{A sj C:Mx}{c:Int}{i:Nat},i<n->(∀r j,r<n->j<n->r≠i->A r j=sj r j/\A r j=C r j)->(∀j,j<n->A i j=c*sj i j+C i j)->det n A=c*det n sj+det n C
 |0,_,_,_,_,_,hi,_,_=>absurd hi (SW _)
 |n+1,A,sj,C,c,i,hi,h1,h2=>by
  change sm (n+1) (λj=>sg j*A 0 j*det n (mn A j))=c*sm (n+1) (λj=>sg j*sj 0 j*det n (mn sj j))+sm (n+1) λj=>sg j*C 0 j*det n (mn C j);rw[<-EE,<-GP];show ZD λj hj=>?_;cases i with
  |zero=>
   let e1:det n (mn sj j)=det n (mn A j):=Zl λr k hr hk=>(h1 (r+1) (sk j k) sr (NL hk) J).1.symm;let e2:det n (mn C j)=det n (mn A j):=Zl λr k hr hk=>(h1 (r+1) (sk j k) J (NL hk) J).2.symm
   rw[e1,e2,h2 j hj];generalize det n (mn A j)=d;generalize sg j=s;rw[Iy,xi,<-Ro s c,OR s c,Ro c s,Ro c]
  |succ i=>
   let e:=GN (n:=n) (A:=mn A j) (sj:=mn sj j) (C:=mn C j) (c:=c) (i:=i) J (λr k hr hk XJ=>h1 (r+1) (sk j k) J (NL hk) J) λk hk=>h2 (sk j k) (NL hk);let e0:=h1 0 j J hj J
   rw[e,<-e0.1,<-e0.2];generalize det n (mn sj j)=d;generalize det n (mn C j)=d';generalize sg j*A 0 j=s;rw[Iy,<-Ro,<-Ro,OR s c]
def ma(h:j<=k):mn (mn A j) k i l=mn (mn A (k+1)) j i l:=by
 change A (i+1+1) (sk j<|sk k l)=A (i+1+1) (sk (k+1)<|sk j l);show QP _ ?_;unfold sk;cases h1:l<j
 .rw[if_pos (show l<k by lia),if_pos h1,if_pos (show l<k+1 by lia)]
 .rw[if_neg h1];cases h2:l<k
  .rw[if_pos h2,if_neg h1,if_pos (show l+1<k+1 by lia)]
  .rw[if_neg h2,if_neg (show ¬l+1<j by lia),if_neg (show ¬l+1<k+1 by lia)]
def l9:∀{n:Nat}{A:Mx}{i:Nat},i+1<n->(∀j,j<n->A i j=A (i+1) j)->det n A=0
 |0,_,_,hi,_=>absurd hi (SW _)
 |n+1,A,i+1,hi,h=>GO λj hj=>by rw[l9 (A:=mn A j) (i:=i) J λk hk=>h (sk j k)<|NL hk,Rn]
 |1,_,0,hi,_=>absurd hi sr
 |n+2,A,0,_,h=>by
  obtain⟨t,ht⟩:∃t:Nat->Nat->Int,t=λj k=>sg j*A 0 j*(sg k*A 1 (sk j k)*det n (mn (mn A j) k)):={_,Z};let e1:det (n+2) A=sm (n+2) λj=>sm (n+1) (t j):=ZD λj hj=>by rw[ht,EE];rfl
  let e2:∀j k,j<=k->k<n+1->t (k+1) j=- t j k:=λj k hjk hk=>by
   rw[ht];change sg (k+1)*A 0 (k+1)*(sg j*A 1 (sk (k+1) j)*det n (mn (mn A<|k+1) j))=- (sg j*A 0 j*(sg k*A 1 (sk j k)*det n (mn (mn A j) k)))
   let f1:sk (k+1) j=j:=by unfold sk;rw[if_pos J]
   let f2:sk j k=k+1:=by unfold sk;rw[if_neg J]
   let f3:det n (mn (mn A<|k+1) j)=det n (mn (mn A j) k):=Zl λi l _ _=>(ma hjk).symm;rw[f1,f2,f3,vw,<-h j J,<-h (k+1) J];generalize det n (mn (mn A j) k)=d;generalize A 0 j=x;generalize A 0 (k+1)=y;generalize sg j=s;generalize sg k=u;simp only[xj,Int.neg_inj];simp only[OR,xH,Ro]
  let e3:sm (n+2) (λj=>sm (n+1)<|t j)=sm (n+2) (λj=>sm (n+1) λk=>if k<j then t j k else 0)+sm (n+2) (λj=>sm (n+1) λk=>if k<j then 0 else t j k):=by rw[<-GP];show ZD λj _=>?_;rw[<-GP];show ZD λk _=>?_;split<;>lia
  let e4:sm (n+2) (λj=>sm (n+1) λk=>if k<j then t j k else 0)=sm (n+1) (λk=>sm (n+1) λj=>if k<=j then t (j+1) k else 0):=by
   rw[me];show ZD λk _=>?_;rw[AM,if_neg J,Fo];show ZD λj _=>?_;cases c:k<=j
   .rw[if_pos c,if_pos sr]
   .rw[if_neg c,if_neg J]
  let e5:sm (n+2) (λj=>sm (n+1) λk=>if k<j then 0 else t j k)=sm (n+1) (λj=>sm (n+1) λk=>if j<=k then t j k else 0):=by
   change sm (n+1) (λj=>sm (n+1) λk=>if k<j then 0 else t j k)+sm (n+1) (λk=>if k<n+1 then 0 else t (n+1) k)=_;rw[GO (f:=λk=>if k<n+1 then 0 else t (n+1) k) λk hk=>if_pos hk,Vo];show ZD λj _=>ZD λk _=>?_;cases c:j<=k
   .rw[if_pos c,if_neg J]
   .rw[if_neg c,if_pos J]
  rw[e1,e3,e4,e5,<-GP];show GO λj hj=>?_;rw[<-GP];show GO λk hk=>?_;cases c:j<=k
  .rw[if_pos c,if_pos c,e2 j k c hk];lia
  .rw[if_neg c,if_neg c];rfl
def put2(A:Mx)(i:Nat)(x y:Nat->Int):(Mx):=λr=>if r=i then x else if r=i+1 then y else A r
def l8{x x' y:Nat->Int}(hi:i+1<n):det n (put2 A i (λj=>x j+x' j) y)=det n (put2 A i x y)+det n (put2 A i x' y):=by
 have:=GN (n:=n) (A:=put2 A i (λj=>x j+x' j) y) (sj:=put2 A i x y) (C:=put2 A i x' y) (c:=1) (i:=i) J (λr j _ _ XJ=>by unfold put2;rw[if_neg XJ,if_neg XJ,if_neg XJ];exists Z,Z) (λj _=>by unfold put2;rw[if_pos Z,if_pos Z,if_pos Z,VL])
 rw[this,VL]
def aL{x y y':Nat->Int}(hi:i+1<n):det n (put2 A i x λj=>y j+y' j)=det n (put2 A i x y)+det n (put2 A i x y'):=by
 let ne:¬i+1=i:=J
 have:=GN (n:=n) (A:=put2 A i x λj=>y j+y' j) (sj:=put2 A i x y) (C:=put2 A i x y') (c:=1) (i:=i+1) J (λr j _ _ XJ=>by unfold put2;rw[if_neg XJ,if_neg XJ,if_neg XJ];exists Z,Z) (λj _=>by unfold put2;rw[if_neg ne,if_neg ne,if_neg ne,if_pos Z,if_pos Z,if_pos Z,VL])
 rw[this,VL]
def l7{x:Nat->Int}(hi:i+1<n):det n (put2 A i x x)=0:=l9 hi λj _=>by unfold put2;rw[if_pos Z,if_neg J,if_pos Z]
def l5{x y:Nat->Int}(hi:i+1<n):det n (put2 A i y x)=- det n (put2 A i x y):=by let h:=l7 (A:=A) (x:=λj=>x j+y j) hi;rw[l8 hi,aL hi,aL hi,l7 hi,l7 hi]at h;lia
def lZ:put2 A i (A i) (A (i+1))=A:=by
 funext r
 unfold put2;cases h:r=i
 .rw[if_pos h,h]
 .rw[if_neg h];cases h2:r=i+1
  .rw[if_pos h2,h2]
  .rw[if_neg h2]
def aK(hi:i+1<n):det n (put2 A i (A (i+1)) (A i))=- det n A:=by
 have:=l5 (A:=A) (x:=A i) (y:=A<|i+1) hi
 rwa[lZ]at this
def vt:∀{d:Nat}{A:Mx},a+d+1<n->(∀j,j<n->A a j=A (a+d+1) j)->det n A=0
 |0,A,hn,h=>l9 hn h
 |d+1,A,hn,h=>by
  let e:=aK (n:=n) (A:=A) (i:=a+d+1) J;let z:det n (put2 A (a+d+1) (A<|a+d+1+1)<|A<|a+d+1)=0:=by show vt (a:=a) (d:=d) J λj hj=>?_;unfold put2;rw[if_neg J,if_neg J,if_pos Z];show h j hj
  lia
def rotN(k t i:Nat):(Nat):=if i<k then i else if i=k then k+t else if i<=k+t then i-1 else i
def Zi8(k i:Nat):rotN k 0 i=i:=by
 unfold rotN;cases h:i<k
 .rw[if_pos h]
 .rw[if_neg h];cases h2:i=k
  .rw[if_pos h2,h2];rfl
  .rw[if_neg h2,if_neg J]
def lY:∀{t:Nat}{A:Mx},k+t<n->det n (λi=>A (rotN k t i))=sg t*det n A
 |0,A,_=>by rw[show sg 0=1 from Z,VL];show Zl λi j _ _=>by rw[Zi8]
 |t+1,A,h=>by
  let e:=lY (n:=n) (k:=k) (t:=t) (A:=put2 A (k+t) (A<|k+t+1)<|A<|k+t) J;rw[aK J]at e;let f:det n (λi=>A<|rotN k (t+1) i)=det n (λi=>put2 A (k+t) (A<|k+t+1) (A<|k+t)<|rotN k t i):=Zl λi j _ _=>by
   show congrFun ?_ j;let r1:rotN k (t+1) i=if i<k then i else if i=k then k+(t+1) else if i<=k+(t+1) then i-1 else i:=rfl
   let r2:rotN k t i=if i<k then i else if i=k then k+t else if i<=k+t then i-1 else i:=rfl
   unfold put2;cases h1:i<k
   .rw[if_pos h1]at r1 r2;rw[r1,r2,if_neg J,if_neg J]
   .rw[if_neg h1]at r1 r2;cases h2:i=k
    .rw[if_pos h2]at r1 r2;rw[r1,r2,if_pos Z];rfl
    .rw[if_neg h2]at r1 r2;cases h3:i<=k+t
     .rw[if_pos J]at r1;rw[if_pos h3]at r2;rw[r1,r2,if_neg J,if_neg J]
     .rw[if_neg h3]at r2;cases h4:i=k+t+1
      .rw[if_pos J]at r1;rw[r1,r2,if_neg sD,if_pos h4];show QP A J
      .rw[if_neg J]at r1;rw[r1,r2,if_neg J,if_neg h4]
  rw[f,e,vw,Int.mul_neg,xj]
def lX:∀{n:Nat}{A:Mx},(∀i,i<n+1->A i 0=0)->det (n+1) A=0
 |0,A,h=>by change 0+sg 0*A 0 0*1=0;rw[h 0 sr,Rn];rfl
 |n+1,A,h=>GO λj hj=>by
  cases j with
  |zero=>rw[h 0 J,Rn,ON]
  |succ j=>
   rw[lX (A:=mn A<|j+1) λi hi=>?_,Rn];change A (i+1) (sk (j+1) 0)=0
   rw[show sk (j+1) 0=0 from Z];show h (i+1) J
def lW(h:∀i,i<n->A (i+1) 0=0):det (n+1) A=A 0 0*det n (λi j=>A (i+1) (j+1)):=by
 change sm (n+1) (λj=>sg j*A 0 j*det n (mn A j))=_;rw[AM,GO λj hj=>?_]
 .rw[Vo,show sg 0=1 from Z,VL];show QP (A 0 0 * ·) (Zl λi j _ _=>?_);rfl
 .cases n with
  |zero=>show absurd hj (SW _)
  |succ n=>
   rw[lX (A:=mn A<|j+1) λi hi=>?_,Rn];show h i hi
def aJ{i:Nat}(hi:i<n)(h:∀j,j<n->A i j=0):det n A=0:=by
 have:=GN (A:=A) (sj:=A) (C:=A) (c:=1) hi (λr j _ _ _=>⟨Z,Z⟩) (λj hj=>by rw[h j hj];rfl)
 grind
def aI{c:Int}:∀{n:Nat}{A:Mx},det n (λi j=>c*A i j)=c^n*det n A
 |0,_=>by change(1:Int)=c^0*1;rw[IA];rfl
 |n+1,A=>by
  change sm (n+1) (λj=>sg j*(c*A 0 j)*det n (mn (λi j=>c*A i j) j))=c^(n+1)*sm (n+1) λj=>sg j*A 0 j*det n (mn A j);rw[<-EE];show ZD λj _=>?_;let e:det n (mn (λi j=>c*A i j) j)=c^n*det n (mn A j):=aI (A:=mn A j)
  rw[e,OM];generalize det n (mn A j)=d;generalize c^n=p;generalize sg j=s;generalize A 0 j=x;simp only[OR,xH,Ro]
def offN(R:Mx):(Mx):=λi j=>R 0 0*R (i+1) (j+1)-R (i+1) 0*R 0 (j+1)
def WH(R:Mx)(k:Nat):(Mx):=λr j=>if r=0 then R 0 j else if r<=k then R 0 0*R r j-R r 0*R 0 j else R r j
def aH{m:Nat}:∀{k:Nat},k<m+1->det (m+1) (WH R k)=R 0 0^k*det (m+1) R
 |0,_=>by
  rw[IA,VL];show Zl λi j _ _=>?_;unfold WH;cases h:i=0
  .rw[if_pos h,h]
  .rw[if_neg h,if_neg J]
 |k+1,hk=>by
  let ih:=aH (m:=m) (R:=R) (k:=k) J;obtain⟨C,hC⟩:∃C:Mx,C=λr j=>if r=k+1 then-R (k+1) 0*R 0 j else WH R k r j:={_,Z}
  obtain⟨sj,hB⟩:∃sj:Mx,sj=λr j=>if r=k+1 then R 0 j else WH R k r j:={_,Z}
  obtain⟨r6,hZ⟩:∃r6:Mx,r6=λr j=>if r=k+1 then 0 else WH R k r j:={_,Z}
  let hBz:det (m+1) sj=0:=vt (n:=m+1) (a:=0) (d:=k) J λj hj=>by
   rw[hB];change(if 0=k+1 then _ else WH R k 0 j)=if 0+k+1=k+1 then _ else _
   rw[if_neg J,if_pos J];rfl
  let hZz:det (m+1) r6=0:=aJ (i:=k+1) hk λj hj=>by rw[hZ];show if_pos rfl
  let hCz:det (m+1) C=0:=by
   have:=GN (A:=C) (sj:=sj) (C:=r6) (c:=- R (k+1) 0) hk (λr j _ _ XJ=>by
    rw[hC,hB,hZ];change(if r=k+1 then _ else WH R k r j)=(if r=k+1 then _ else WH R k r j)/\(if r=k+1 then _ else WH R k r j)=(if r=k+1 then _ else WH R k r j)
    rw[if_neg XJ,if_neg XJ,if_neg XJ];exists Z,Z) (λj _=>by
    rw[hC,hB,hZ];change(if k+1=k+1 then _ else _)=_*(if k+1=k+1 then _ else _)+(if k+1=k+1 then _ else _)
    rw[if_pos Z,if_pos Z,if_pos Z,Vo])
   rw[this,hBz,hZz,Rn];rfl
  have:=GN (A:=WH R<|k+1) (sj:=WH R k) (C:=C) (c:=R 0 0) hk (λr j _ _ XJ=>by
   let e1:WH R (k+1) r j=WH R k r j:=by
    unfold WH;cases h0:r=0
    .rw[if_pos h0,if_pos h0]
    .rw[if_neg h0,if_neg h0];cases h1:r<=k
     .rw[if_pos h1,if_pos J]
     .rw[if_neg h1,if_neg J]
   exists e1,?_;rw[hC,e1];change _=if r=k+1 then _ else _
   rw[if_neg XJ]) (λj _=>by
   let e1:WH R (k+1) (k+1) j=R 0 0*R (k+1) j-R (k+1) 0*R 0 j:=by unfold WH;rw[if_neg J,if_pos J]
   let e2:WH R k (k+1) j=R (k+1) j:=by unfold WH;rw[if_neg sr,if_neg J]
   rw[e1,e2,hC];change _=_+(if k+1=k+1 then-R (k+1) 0*R 0 j else _)
   rw[if_pos Z,xj]
   rfl)
  rw[this,hCz,ih,Vo,OM];rw[<-Ro,OR (R 0 0)]
def lT:R 0 0*det m (offN R)=R 0 0^m*det (m+1) R:=by
 rw[<-aH (k:=m) J,lW λi hi=>?_]
 .let e0:WH R m 0 0=R 0 0:=if_pos rfl;rw[e0];show QP (R 0 0 * ·) (Zl λi j hi hj=>?_);unfold WH offN;rw[if_neg J,if_pos J]
 .unfold WH;rw[if_neg J,if_pos J,OR];lia
def ex(k:Nat)(r:Nat->Nat)(i:Nat):(Nat):=if i<k then i else k+r (i-k)
def Rb(A:Mx)(k M:Nat)(R:Mx)(last:Int):(Prop):=last≠0/\∀m r c,(∀i,i<m+1->r i<M/\c i<M)->
 det (m+1) (λi j=>R (r i)<|c j)=det (k+m+1) (λi j=>A (ex k r i)<|ex k c j)*last^m
def lS(A:Mx)(n:Nat):Rb A 0 n A 1:={su,λm r c _=>by rw[Int.one_pow,Ma,Tn];show Zl λi j _ _=>?_;unfold ex;rw[if_neg (SW _),if_neg<|SW _,Tn,Tn,xp,xp]}
def GL{p:Int}(h:p≠0):∀n:Nat,p^n≠0
 |0=>by rw[IA];decide
 |n+1=>by rw[OM];show Int.mul_ne_zero (GL h n) h
def NK(r:Nat->Nat):(Nat->Nat)
 |0=>0
 |i+1=>r i+1
def AL(k:Nat)(r:Nat->Nat)(i:Nat):ex k (NK r) i=ex (k+1) r i:=by
 unfold ex;cases h:i<k
 .rw[if_pos h,if_pos J]
 .rw[if_neg h];cases h2:i=k
  .rw[if_pos J,h2,MR];rfl
  .rw[if_neg J];obtain⟨d,rfl⟩:∃d,i=k+d+1:={i-k-1,sD};rw[show k+d+1-k=d+1 by lia,show k+d+1-(k+1)=d by lia];change k+(r d+1)=k+1+r d
   lia
def Jn{k M:Nat}(h:Rb A k (M+1) R last)(hp:R 0 0≠0){m:Nat}{r c:Nat->Nat}(hb:∀i,i<m+1->r i<M/\c i<M):
  det (m+1) (λi j=>offN R (r i)<|c j)=R 0 0^m*(last^(m+1)*det (k+1+m+1) λi j=>A (ex (k+1) r i)<|ex (k+1) c j):=by
 let e1:=lT (m:=m+1) (R:=λi j=>R (NK r i)<|NK c j);let e2:=h.2 (m+1) (NK r) (NK c) λi hi=>by
  cases i with
  |zero=>exists Nat.succ_pos _,Nat.succ_pos _
  |succ i=>have:=hb i J;exists Nat.succ_lt_succ this.1,Nat.succ_lt_succ this.2
 let e3:det (m+1) (offN λi j=>R (NK r i)<|NK c j)=det (m+1) (λi j=>offN R (r i)<|c j):=rfl;let e4:det (k+(m+1)+1) (λi j=>A (ex k (NK r) i)<|ex k (NK c) j)=det (k+1+m+1) (λi j=>A (ex (k+1) r i)<|ex (k+1) c j):=by rw[show k+(m+1)+1=k+1+m+1 by lia];show Zl λi j _ _=>by rw[AL,AL]
 rw[e3]at e1;rw[e4]at e2;let e5:R (NK r 0) (NK c 0)=R 0 0:=rfl
 rw[e5,e2]at e1;generalize det (m+1) (λi j=>offN R (r i)<|c j)=x at *;generalize det (k+1+m+1) (λi j=>A (ex (k+1) r i)<|ex (k+1) c j)=y at *;rw[OM]at e1;show eK hp ?_;rw[e1,OR y,OR<|R 0 0^m,Ro]
def lR(A:Mx):det 1 A=A 0 0:=by change 0+sg 0*A 0 0*1=A 0 0;rw[show sg 0=1 from Z];lia
def lQ{k M:Nat}(h:Rb A k (M+1) R last)(hp:R 0 0≠0)(hi:i<M)(hj:j<M):
  offN R i j=last*det (k+2) (λa b=>A (ex (k+1) (λ_=>i) a)<|ex (k+1) (λ_=>j) b):=by
 have:=Jn h hp (m:=0) (r:=λ_=>i) (c:=λ_=>j) λ_ _=>⟨hi,hj⟩
 rwa[lR,IA,VL,OM,IA,VL]at this
def lP(h:Rb A k (M+1) R last)(hp:R 0 0≠0)(hR:∀i j,i<M->j<M->R' i j=(offN R i j).fdiv last):Rb A (k+1) M R' (R 0 0):=by
 exists hp,λm r c hb=>?_;let lO:∀i j,i<M->j<M->offN R i j=last*R' i j:=λi j hi hj=>by rw[hR i j hi hj,lQ h hp hi hj,Int.mul_fdiv_cancel_left _ h.1]
 let e1:=Jn h hp hb;let e2:det (m+1) (λi j=>offN R (r i)<|c j)=last^(m+1)*det (m+1) (λi j=>R' (r i)<|c j):=by rw[<-aI];show Zl λi j hi hj=>lO _ _ (hb i hi).1 (hb j hj).2
 rw[e2]at e1;show eK (GL h.1<|m+1) ?_;rw[e1];generalize det (k+1+m+1) (λi j=>A (ex (k+1) r i)<|ex (k+1) c j)=y;rw[xH,OR y]
def lN(h:Rb A k M R last)(ht:t<M):Rb (λi=>A (rotN k t i)) k M (λi=>R (rotN 0 t i)) last:=by
 exists h.1,λm r c hb=>?_;let e:=h.2 m (λi=>rotN 0 t<|r i) c λi hi=>⟨by
  have:=(hb i hi).1
  unfold rotN;rw[if_neg J];split
  .lia
  .split<;>lia,(hb i hi).2⟩
 rw[e];show QP (· * last^m) (Zl λi j _ _=>?_);show QP (λa=>A a<|ex k c j) ?_;unfold ex;cases hi:i<k
 .rw[if_pos hi,if_pos hi];unfold rotN;rw[if_pos hi]
 .rw[if_neg hi,if_neg hi];change k+rotN 0 t (r<|i-k)=rotN k t (k+r (i-k))
  generalize r (i-k)=a;let r1:rotN 0 t a=if a<0 then a else if a=0 then 0+t else if a<=0+t then a-1 else a:=rfl
  let r2:rotN k t (k+a)=if k+a<k then k+a else if k+a=k then k+t else if k+a<=k+t then k+a-1 else k+a:=rfl
  rw[if_neg J]at r1 r2;cases h1:a=0
  .rw[if_pos h1]at r1;rw[if_pos J]at r2;rw[r1,r2];lia
  .rw[if_neg h1]at r1;rw[if_neg J]at r2;cases h2:a<=t
   .rw[if_pos J]at r1;rw[if_pos J]at r2;rw[r1,r2];lia
   .rw[if_neg J]at r1;rw[if_neg J]at r2;rw[r1,r2]
def Ra(k i:Nat):ex k (λi=>i) i=i:=by
 unfold ex;cases h:i<k
 .rw[if_pos h]
 .rw[if_neg h];change k+(i-k)=i
  grind
def lM{k M:Nat}(h:Rb A k (M+1) R last)(h0:∀i,i<M+1->R i 0=0):det (k+M+1) A=0:=by
 let e:=h.2 M (λi=>i) (λi=>i) λi hi=>⟨hi,hi⟩;rw[lX (A:=λi j=>R i j) h0]at e;let e2:det (k+M+1) (λi j=>A (ex k (λi=>i) i)<|ex k (λi=>i) j)=det (k+M+1) A:=Zl λi j _ _=>by rw[Ra,Ra]
 rw[e2]at e;rcases Int.mul_eq_zero.H e.symm with z|z
 .show z
 .show absurd z (GL h.1 M)
def lK(h:Rb A k 1 R last):R 0 0=det (k+1) A:=by
 let e:=h.2 0 (λi=>i) (λi=>i) λi hi=>⟨J,sr⟩;rw[lR,IA,Ma]at e;let e2:det (k+0+1) (λi j=>A (ex k (λi=>i) i)<|ex k (λi=>i) j)=det (k+1) A:=Zl λi j _ _=>by rw[Ra,Ra]
 rwa[e2]at e
end My
namespace L2
open PySem PySem.Spec PyProof.Rows
def lJ(i j:Int):(Prop):=i.natAbs<2^9000/\j.natAbs<2^9000
def AK(i j:Int):(Prop):=j≠0/\j.natAbs<2^9000
def aG(h:a.natAbs<2^9000):Builtin.Int.intBits a<=9000:=PySem.intBits_le_iff.X h
section
variable{X:Cx}
def lI:Wy X (binaryOp .Mult) (rI lJ λi j=>.int (i*j)):=HU λ_ _ _ _ _ _ _ hc q=>mul_int q (.of_bits (Yj (aG hc.1) su)<|Yj (aG hc.2) su)
def Jm:Wy X (binaryOp .FloorDiv) (rI AK λi j=>.int (i.fdiv j)):=HU λ_ _ _ _ _ _ _ hc q=>floordiv_int hc.1 q (.inl<|PyProof.noPylong_of_log2<|(Nat.log2_lt (by have:=hc.1;lia)).X hc.2)
end
end L2
namespace My
def fnL(L:Ab):(Mx):=λi j=>(L.S i []).S j 0
def Mt{l:Ac}{x:Int}(h:L[i]?=some l)(h2:l[j]?=some x):fnL L i j=x:=by
 let e:L.S i []=l:=by rw[Ya,h];rfl
 unfold fnL;rw[e,Ya,h2];rfl
def vq(sj:Nat):(Nat->Nat)
 |0=>1
 |n+1=>(n+1)*(sj*vq sj n)
def AJ{f:Nat->Int}{C:Nat}:∀{n:Nat},(∀i,i<n->(f i).natAbs<=C)->(sm n f).natAbs<=n*C
 |0,_=>by change(0:Int).natAbs<=0*C;rw[Nat.zero_mul];show XI 0
 |n+1,h=>by
  let h1:=AJ (n:=n) λi hi=>h i J;let h2:=h n J
  let h3:(sm n f+f n).natAbs<=(sm n f).natAbs+(f n).natAbs:=Int.natAbs_add_le ..;change(sm n f+f n).natAbs<=(n+1)*C
  rw[Nat.succ_mul];lia
def aE:∀{n:Nat}{A:Mx},(∀i j,i<n->j<n->(A i j).natAbs<=sj)->(det n A).natAbs<=vq sj n
 |0,_,_=>XI 1
 |n+1,A,h=>by
  show AJ λj hj=>?_;let e:(sg j).natAbs=1:=by unfold sg;split<;>rfl
  rw[Ii,Ii,e,Nat.one_mul];show IE (h 0 j J hj) (aE λi k hi hk=>h (i+1) (sk j k) J<|NL hk)
def AI{b:Nat}:∀{n:Nat},n<=16->vq (2^b) n<=2^((b+4)*n)
 |0,_=>by change 1<=2^((b+4)*0);rw[Nat.mul_zero];show XI 1
 |n+1,h=>by
  let ih:=AI (b:=b) (n:=n) J;let e:2^((b+4)*(n+1))=16*(2^b*2^((b+4)*n)):=by rw[Nat.mul_succ,Nat.pow_add,Nat.pow_add,xo<|2^((b+4)*n),xo (2^b)<|2^4,Nat.mul_assoc]
  rw[e];change(n+1)*(2^b*vq (2^b) n)<=_
  show IE h (IE (XI _) ih)
def lH(hn:n<=16)(h:∀i j,i<n->j<n->(A i j).natAbs<=2^400):(det n A).natAbs<2^9000:=by
 let h1:=aE h;let h2:=AI (b:=400) hn
 let h3:2^((400+4)*n)<=2^(404*16):=Ee su (IE (XI _) hn);let h4:2^(404*16)<2^9000:=Nat.pow_lt_pow_right su su
 show xM (Yj h1<|Yj h2 h3) h4
def AH(h:Rb A k M R last){i j:Nat}(hi:i<M)(hj:j<M):R i j=det (k+1) (λa b=>A (ex k (λ_=>i) a) (ex k (λ_=>j) b)):=by
 have:=h.2 0 (λ_=>i) (λ_=>j) λ_ _=>⟨hi,hj⟩
 rwa[lR,IA,Ma]at this
def lG{k M n:Nat}(h:Rb A k M R last)(hn:k+M=n)(hn16:n<=16)(hA:∀i j,i<n->j<n->(A i j).natAbs<=2^400){i j:Nat}(hi:i<M)(hj:j<M):(R i j).natAbs<2^9000:=by
 rw[AH h hi hj];show lH J λa b ha hb=>hA _ _ ?_ ?_
 .let e:ex k (λ_=>i) a=if a<k then a else k+i:=rfl
  rw[e];split<;>lia
 .let e:ex k (λ_=>j) b=if b<k then b else k+j:=rfl
  rw[e];split<;>lia
def lF{L:Ab}{l:Ac}(h:L[t]?=some l)(i:Nat):(l::L.eraseIdx t)[i]?=L[rotN 0 t i]?:=by
 let ht:=(XA.H h).1;let r:rotN 0 t i=if i<0 then i else if i=0 then 0+t else if i<=0+t then i-1 else i:=rfl
 rw[if_neg J]at r;cases i with
 |zero=>
  rw[if_pos Z,Tn]at r;rw[r,h];rfl
 |succ i=>
  rw[if_neg J,Tn]at r;rw[r,List.getElem?_cons_succ,tS];cases c:i+1<=t
  .rw[if_pos c,if_pos J];rfl
  .rw[if_neg c,if_neg J]
def lE{l:Ac}(h:L[t]?=some l):fnL (l::L.eraseIdx t)=λi=>fnL L (rotN 0 t i):=by
 funext i j
 change((l::L.eraseIdx t).S i []).S j 0=(L.S (rotN 0 t i) []).S j 0;show QP (λr:Ac=>r.S j 0) ?_;rw[Ya,Ya,lF h]
def NJ(y:Int)(p:Ac)(last:Int)(l:Ac):(Ac):=List.zipWith (λown other=>(y*own-l.headD 0*other).fdiv last) l.tail p
def aB(h:l.f=p.f+1):(NJ y p last l).f=p.f:=by unfold NJ;rw[Ea,List.length_tail];grind
def AG{L:Ab}{M:Nat}(hp:p.f=M)(hL:L.f=M)(hl:∀l∈L,l.f=M+1){i j:Nat}(hi:i<M)(hj:j<M):
  fnL (L.R<|NJ y p last) i j=(offN (fnL<|(y::p)::L) i j).fdiv last:=by
 obtain⟨l,Jl⟩:∃l,L[i]?=some l:={_,Xp J};let KS:=hl l (WT Jl)
 obtain⟨x,l',rfl⟩:∃x l',l=x::l':=by
  cases l with
  |nil=>cases KS
  |cons x l'=>exists x,l',Z
 let OJ:l'.f=M:=by rw[YF]at KS;lia
 obtain⟨u,hu⟩:∃u,l'[j]?=some u:={_,Xp J};obtain⟨v,hv⟩:∃v,p[j]?=some v:={_,Xp J};let e1:fnL (L.R<|NJ y p last) i j=(y*u-x*v).fdiv last:=Mt (l:=NJ y p last<|x::l') (by rw[Yw,Jl];rfl) (by
  change(List.zipWith _ l' p)[j]?=_;rw[Fx,hu,hv]
  rfl)
 let e2:fnL ((y::p)::L) 0 0=y:=rfl;let e3:fnL ((y::p)::L) (i+1) (j+1)=u:=Mt (l:=x::l') Jl hu
 let e4:fnL ((y::p)::L) (i+1) 0=x:=Mt (l:=x::l') Jl rfl;let e5:fnL ((y::p)::L) 0 (j+1)=v:=Mt (l:=y::p) Z hv
 rw[e1];unfold offN;rw[e2,e3,e4,e5]
end My
namespace My
open PySem L2
def AF(K:Ad)(H:Hp)(v:V)(l:Ac):(Prop):=∃r k,v=.ref r/\SqK k K H r (IL l)
def LiV(d:Addr)(H:Hp)(v:V)(l:Ac):(Prop):=∃r,v=.ref r/\H r=some (.lst<|IL l)/\r≠d
def LiV.same(s:Same H H')(h:LiV d H v l):LiV d H' v l:=by let(r,e,h,n):=h;exists r,e,s _ _ h,n
def LiV.mut(h:LiV d H v l):LiV d (upd H d o) v l:=by let(r,e,h,n):=h;exists r,e,by rw[Za n];show h,n
def LiV.list(h:LiV d H v l):Uo H v l:=by let(r,e,h,_):=h;exists r,e,h
def Bears.erase{α:Type}[DecidableEq α]{R:V->α->Prop}{xs:List V}{l:List α}(h:Bears R xs l)(t:Nat):Bears R (xs.eraseIdx t) (l.eraseIdx t):=by
 let hl:=h.1;show{by rw[tL,tL,hl],λi a e=>?_};rw[tS]at e;rw[tS];split at e
 .next c=>rw[if_pos c];show h.2 _ _ e
 .next c=>rw[if_neg c];show h.2 _ _ e
def aA(x:Int)(l:Ac):Ww (IL (x::l)) (some 1) none=IL l:=by rw[aW su];rfl
def lD(t:Nat):sg t*sg t=1:=by unfold sg;split<;>rfl
end My
namespace My
def lC{f:Nat->Nat->Int}:sm n (λi=>sm m λj=>f i j)=sm m (λj=>sm n λi=>f i j):=me
def az:∀{n:Nat}{A:Mx},det (n+1) A=sm (n+1) λi=>sg i*A i 0*det n (λr c=>A (sk i r) (c+1))
 |0,A=>rfl
 |n+1,A=>by
  let e1:det (n+2) A=sg 0*A 0 0*det (n+1) (mn A 0)+sm (n+1) λj=>sg (j+1)*A 0 (j+1)*det (n+1) (mn A<|j+1):=AM;let e2:sm (n+2) (λi=>sg i*A i 0*det (n+1) λr c=>A (sk i r)<|c+1)=sg 0*A 0 0*det (n+1) (λr c=>A (sk 0 r)<|c+1)+sm (n+1) λi=>sg (i+1)*A (i+1) 0*det (n+1) (λr c=>A (sk (i+1) r)<|c+1):=AM
  rw[e1,e2];let e3:det (n+1) (mn A 0)=det (n+1) (λr c=>A (sk 0 r)<|c+1):=Zl λr c _ _=>rfl
  rw[e3];show QP (λz:Int=>sg 0*A 0 0*det (n+1) (λr c=>A (sk 0 r)<|c+1)+z) ?_;obtain⟨D,hD⟩:∃D:Nat->Nat->Int,D=λi j=>det n (λr c=>A (sk i r+1)<|sk (j+1)<|c+1):={_,Z};let e4:∀j,j<n+1->det (n+1) (mn A<|j+1)=sm (n+1) λi=>sg i*A (i+1) 0*D i j:=λj _=>by rw[az,hD];rfl
  let e5:∀i,i<n+1->det (n+1) (λr c=>A (sk (i+1) r)<|c+1)=sm (n+1) λj=>sg j*A 0 (j+1)*D i j:=λi hi=>by
   change sm (n+1) (λj=>sg j*A (sk (i+1) 0) (j+1)*det n (mn (λr c=>A (sk (i+1) r)<|c+1) j))=_;show ZD λj _=>?_;rw[hD];change sg j*A (sk (i+1) 0) (j+1)*det n (mn (λr c=>A (sk (i+1) r)<|c+1) j)=sg j*A 0 (j+1)*det n (λr c=>A (sk i r+1)<|sk (j+1)<|c+1)
   rw[show sk (i+1) 0=0 from Z];show QP (sg j*A 0 (j+1) * ·) (Zl λr c _ _=>?_);change A (sk (i+1)<|r+1) (sk j c+1)=A (sk i r+1) (sk (j+1)<|c+1)
   let f1:sk (i+1) (r+1)=sk i r+1:=by
    unfold sk;cases h:r<i
    .rw[if_pos h,if_pos J]
    .rw[if_neg h,if_neg J]
   let f2:sk j c+1=sk (j+1) (c+1):=by
    unfold sk;cases h:c<j
    .rw[if_pos h,if_pos J]
    .rw[if_neg h,if_neg J]
   rw[f1,f2]
  let e6:sm (n+1) (λj=>sg (j+1)*A 0 (j+1)*det (n+1) (mn A<|j+1))=sm (n+1) λj=>sm (n+1) λi=>sg (j+1)*A 0 (j+1)*(sg i*A (i+1) 0*D i j):=ZD λj hj=>by rw[e4 j hj,EE]
  let e7:sm (n+1) (λi=>sg (i+1)*A (i+1) 0*det (n+1) λr c=>A (sk (i+1) r)<|c+1)=sm (n+1) λi=>sm (n+1) λj=>sg (i+1)*A (i+1) 0*(sg j*A 0 (j+1)*D i j):=ZD λi hi=>by rw[e5 i hi,EE]
  rw[e6,e7,lC];show ZD λi _=>ZD λj _=>?_;rw[vw,vw];generalize D i j=d;generalize A 0 (j+1)=x;generalize A (i+1) 0=y;generalize sg i=s;generalize sg j=u;simp only[xj,Int.neg_inj];simp only[OR,xH,Ro]
def NI:∀{n:Nat}{A:Mx},det n (λi j=>A j i)=det n A
 |0,_=>rfl
 |n+1,A=>by
  rw[az (A:=A)];show ZD λj _=>?_;change sg j*A j 0*det n (λi k=>A (sk j k)<|i+1)=sg j*A j 0*det n (λr c=>A (sk j r)<|c+1)
  rw[<-NI (A:=λr c=>A (sk j r)<|c+1)]
def pr:(Nat->(Nat->Int)->Int)
 |0,_=>1
 |n+1,f=>pr n f*f n
def lB{n a b:Nat}(ha:a<n)(hb:b<n)(XJ:a≠b)(h:∀j,j<n->A a j=A b j):det n A=0:=by
 rcases Nat.lt_or_gt_of_ne XJ with c|c
 .obtain⟨d,rfl⟩:∃d,b=a+d+1:={b-a-1,sD};show vt hb h
 .obtain⟨d,rfl⟩:∃d,a=b+d+1:={a-b-1,sD};show vt ha λj hj=>(h j hj).symm
def putr(A:Mx)(i:Nat)(x:Nat->Int):(Mx):=λr=>if r=i then x else A r
def aw{c:Int}{x y:Nat->Int}(hi:i<n):det n (putr A i λj=>c*x j+y j)=c*det n (putr A i x)+det n (putr A i y):=
 GN hi (λr j _ _ XJ=>by unfold putr;rw[if_neg XJ,if_neg XJ,if_neg XJ];exists Z,Z) (λj _=>by unfold putr;rw[if_pos Z,if_pos Z,if_pos Z])
def av:putr A i (A i)=A:=by
 funext r
 unfold putr;cases h:r=i
 .rw[if_pos h,h]
 .rw[if_neg h]
def au{n a b:Nat}{c:Int}(ha:a<n)(hb:b<n)(XJ:a≠b):det n (putr A a λj=>A a j+c*A b j)=det n A:=by
 let e:(λj=>A a j+c*A b j)=λj=>c*A b j+A a j:=by funext j;lia
 rw[e,aw ha,av,lB ha hb XJ (A:=putr A a<|A b) λj _=>?_,Rn,Fo];unfold putr;rw[if_pos Z,if_neg (Xb XJ)]
def ly(a i:Nat):rotN 0 a (i+1)=sk a i:=by
 let r:rotN 0 a (i+1)=if i+1<0 then i+1 else if i+1=0 then 0+a else if i+1<=0+a then i+1-1 else i+1:=rfl
 rw[if_neg J,if_neg J]at r;rw[r];unfold sk;cases h:i<a
 .rw[if_pos h,if_pos J];lia
 .rw[if_neg h,if_neg J]
def aq{f:Nat->Int}{a:Nat}:∀{n:Nat},a<n->(∀j,j<n->j≠a->f j=0)->sm n f=f a
 |0,h,_=>absurd h (SW _)
 |n+1,h,h0=>by
  change sm n f+f n=f a;cases c:a=n
  .rw[GO λi hi=>h0 i sD J,c,Fo]
  .rw[aq (n:=n) J λj hj XJ=>h0 j J XJ,h0 n J J,Vo]
def lx(ha:a<n+1):det (n+1) (putr A a λj=>if j=a then 1 else 0)=det n (λi j=>A (sk a i) (sk a j)):=by
 let e:=lY (n:=n+1) (k:=0) (t:=a) (A:=putr A a λj=>if j=a then 1 else 0) J;let r0:rotN 0 a 0=a:=by change(if 0<0 then 0 else if 0=0 then 0+a else _)=a;rw[if_neg J,if_pos Z,Tn]
 let top:det (n+1) (λi=>putr A a (λj=>if j=a then 1 else 0)<|rotN 0 a i)=sg a*det n (λi j=>A (sk a i)<|sk a j):=by
  change sm (n+1) (λj=>sg j*putr A a (λj=>if j=a then 1 else 0) (rotN 0 a 0) j*det n (mn (λi=>putr A a (λj=>if j=a then 1 else 0)<|rotN 0 a i) j))=_;rw[aq ha λj _ XJ=>?_]
  .rw[r0];let e1:putr A a (λj=>if j=a then 1 else 0) a a=1:=by unfold putr;rw[if_pos Z,if_pos Z]
   rw[e1,Ma];show QP (sg a * ·) (Zl λi j _ _=>?_);change putr A a (λj=>if j=a then 1 else 0) (rotN 0 a<|i+1) (sk a j)=A (sk a i) (sk a j)
   rw[ly];unfold putr;rw[if_neg (by unfold sk;split<;>lia)]
  .rw[r0];let e1:putr A a (λj=>if j=a then 1 else 0) a j=0:=by unfold putr;rw[if_pos Z,if_neg XJ]
   rw[e1,Rn,ON]
 rw[top]at e;let h:=QP (sg a * ·) e
 simp only[<-Ro]at h;rw[show sg a*sg a=1 by unfold sg;split<;>rfl,VL,VL]at h
 show h.symm
def ak{w:Int}(ha:a<n+1):det (n+1) (λi j=>A i j+w*((if i=a then 1 else 0)*(if j=a then 1 else 0)))=det (n+1) A+w*det n (λi j=>A (sk a i) (sk a j)):=by
 let e:det (n+1) (λi j=>A i j+w*((if i=a then 1 else 0)*(if j=a then 1 else 0)))=det (n+1) (putr A a λj=>w*(λj=>if j=a then 1 else 0) j+A a j):=Zl λi j _ _=>by
  unfold putr;cases h:i=a
  .subst h;rw[if_pos Z,if_pos Z,VL];change A i j+w*(if j=i then 1 else 0)=w*(if j=i then 1 else 0)+A i j
   show Int.add_comm ..
  .rw[if_neg h,if_neg h,ON,Rn,Vo]
 rw[e,aw ha,av,lx ha];lia
def ind(u v i:Nat):(Int):=(if i=u then 1 else 0)-(if i=v then 1 else 0)
def Ph(A:Mx)(a b:Nat):(Mx):=λi j=>(A i j+(if i=b then A a j else 0))+(if j=b then A i a+(if i=b then A a a else 0) else 0)
def aj(ha:a<n)(hb:b<n)(XJ:a≠b):det n (Ph A a b)=det n A:=by
 let e1:det n A=det n (putr A b λj=>A b j+1*A a j):=(au hb ha<|Xb XJ).symm;obtain⟨R,hR⟩:∃R:Mx,R=putr A b (λj=>A b j+1*A a j):={_,Z};let e2:det n R=det n (putr (λi j=>R j i) b λj=>(λi j=>R j i) b j+1*(λi j=>R j i) a j):=by rw[au (A:=λi j=>R j i) hb ha (Xb XJ)];show NI.symm
 rw[e1,<-hR,e2,<-NI (A:=putr (λi j=>R j i) b λj=>(λi j=>R j i) b j+1*(λi j=>R j i) a j)];show Zl λi j _ _=>?_;let rv:∀r c,R r c=A r c+(if r=b then A a c else 0):=λr c=>by
  rw[hR];unfold putr;cases h:r=b
  .rw[if_pos h,if_pos h,h];lia
  .rw[if_neg h,if_neg h];lia
 unfold Ph;change _=(putr (λi j=>R j i) b λj=>R j b+1*R j a) j i
 unfold putr;cases h:j=b
 .rw[if_pos h,if_pos h,rv,rv,h];cases h2:i=b
  .rw[if_pos h2,if_pos h2];lia
  .rw[if_neg h2,if_neg h2];lia
 .rw[if_neg h,if_neg h];change _=R i j
  rw[rv];lia
def lu{w:Int}(ha:a<n+1)(hb:b<n+1)(XJ:a≠b):det (n+1) (λi j=>A i j+w*(ind a b i*ind a b j))=det (n+1) A+w*det n (λi j=>Ph A a b (sk a i) (sk a j)):=by
 let e1:=aj (A:=λi j=>A i j+w*(ind a b i*ind a b j)) ha hb XJ;let e2:det (n+1) (Ph (λi j=>A i j+w*(ind a b i*ind a b j)) a b)=det (n+1) (λi j=>Ph A a b i j+w*((if i=a then 1 else 0)*(if j=a then 1 else 0))):=Zl λi j _ _=>by
  let na:¬a=b:=XJ;let nb:¬b=a:=Xb XJ
  unfold Ph ind;cases hi:i=b
  .subst hi;cases hj:j=i
   .subst hj;simp[na,nb];lia
   .cases Pg:j=a
    .subst Pg;simp[na,nb,hj];lia
    .simp[na,nb,hj,Pg]
  .cases UZ:i=a
   .subst UZ;cases hj:j=b
    .subst hj;simp[na,nb];lia
    .cases Pg:j=i
     .subst Pg;simp[na,nb]
     .simp[na,nb,hj,Pg]
   .cases hj:j=b
    .subst hj;simp[na,nb,hi,UZ]
    .cases Pg:j=a
     .subst Pg;simp[na,nb,hi,UZ]
     .simp[na,nb,hi,UZ,hj,Pg]
 rw[<-e1,e2,ak ha,aj ha hb XJ]
end My
namespace My
open PySem L2
abbrev Ed:=Nat×Nat×Int
def lapE:(List Ed->Mx)
 |[]=>λ_ _=>0
 |e::E=>λi j=>e.2.2*(ind e.1 e.2.1 i*ind e.1 e.2.1 j)+lapE E i j
def lr(E:List Ed)(e:Ed)(i j:Nat):lapE (E++[e]) i j=lapE E i j+e.2.2*(ind e.1 e.2.1 i*ind e.1 e.2.1 j):=by
 induction E with
 |nil=>show _+0=0+_;lia
 |cons f E ih=>
  change _+lapE (E++[e]) i j=_+lapE E i j+_;rw[ih];lia
def Tb(E:List Ed)(z:Int):(Nat×Nat):=((E.S z.j (0,0,0)).1,(E.S z.j (0,0,0)).2.1)
def Uk(E:List Ed):(Ac->Int)
 |[]=>1
 |z::T=>(E.S z.j (0,0,0)).2.2*Uk E T
def lq(E:List Ed)(S T:Ac):Uk E (S++T)=Uk E S*Uk E T:=by
 induction S with
 |nil=>show _=1*_;rw[VL];rfl
 |cons z S ih=>show _*Uk E (S++T)=_*_*_;rw[ih,Ro]
def IsT(k:Nat)(E:List Ed)(T:Ac):(Prop):=IsSet E.f T/\T.f=k/\∀i j,i<k+1->j<k+1->Conn (T.R<|Tb E) i j
def TW(k:Nat)(E:List Ed)(s:Int):(Prop):=∃L:Ab,L.Nodup/\(∀T,T∈L↔IsT k E T)/\(L.R<|Uk E).sum=s
def ai{E:List Ed}{e:Ed}{z:Int}(h0:0<=z)(h1:z<E⁻¹):(E++[e]).S z.j (0,0,0)=E.S z.j (0,0,0):=by rw[Ya,Ya,Yr J]
def ah(E:List Ed)(e:Ed):(E++[e]).S (E.f:Int).j (0,0,0)=e:=by rw[Ya,YL,Yo<|XI _,MR];rfl
def GK{e:Ed}(h:IsSet E.f T):T.R (Tb (E++[e]))=T.R (Tb E):=VC λz hz=>by
 have:=h.all z hz
 unfold Tb;rw[ai this.1 this.2]
def NH{e:Ed}(h:∀z∈T,0<=z/\z<E⁻¹):Uk (E++[e]) T=Uk E T:=by
 induction T with
 |nil=>rfl
 |cons z T ih=>
  let hz:=h z Ye;change _*Uk (E++[e]) T=_*Uk E T
  rw[ai hz.1 hz.2,ih λy hy=>h y (Yg _ hy)]
def vp{e:Ed}(h:IsSet E.f T):IsT k (E++[e]) T↔IsT k E T:=by
 let h2:IsSet (E++[e]).f T:=by rw[Xy];show h.up
 constructor
 .rintro⟨_,a,b⟩;exists h,a,by rwa[GK h]at b
 .rintro⟨_,a,b⟩;exists h2,a,by rwa[GK h]
def AE{e:Ed}(h:IsSet E.f T):(T++[E⁻¹]).R (Tb (E++[e]))=T.R (Tb E)++[(e.1,e.2.1)]:=by
 rw[YQ,GK h];change _++[Tb (E++[e]) E⁻¹]=_
 unfold Tb;rw[ah]
def sh(a x:Nat):(Nat):=if x<a then x else x-1
def dl(a b x:Nat):(Nat):=if x=a then sh a b else sh a x
def GJ(a y:Nat):sh a (sk a y)=y:=by
 unfold sk;cases h:y<a
 .rw[if_pos h];unfold sh;rw[if_pos h]
 .rw[if_neg h];unfold sh;rw[if_neg J];lia
def Jk(a y:Nat):sk a y≠a:=by unfold sk;split<;>lia
def KR(h:x≠a):sk a (sh a x)=x:=by
 unfold sh;cases c:x<a
 .rw[if_pos c];unfold sk;rw[if_pos c]
 .rw[if_neg c];unfold sk;rw[if_neg J];lia
def QZ(a b y:Nat):dl a b (sk a y)=y:=by unfold dl;rw[if_neg (Jk a y),GJ]
def GI(hx:x≠a)(hy:y≠a)(h:sh a x=sh a y):x=y:=by
 have:=QP (sk a) h
 rwa[KR hx,KR hy]at this
def lj(XJ:b≠a)(h:dl a b x=dl a b y):x=y\/(x=a/\y=b)\/(x=b/\y=a):=by
 unfold dl at h;cases hx:x=a
 .rw[if_pos hx]at h;cases hy:y=a
  .show .inl (hx.m hy.symm)
  .rw[if_neg hy]at h;show .inr (.inl {hx,(GI XJ hy h).symm})
 .rw[if_neg hx]at h;cases hy:y=a
  .rw[if_pos hy]at h;show .inr (.inr {GI hx XJ h,hy})
  .rw[if_neg hy]at h;show .inl (GI hx hy h)
def lh(a b:Nat)(XJ:b≠a):dl a b a=dl a b b:=by unfold dl;rw[if_pos Z,if_neg XJ]
def lg{es:List (Nat×Nat)}{i j:Nat}(XJ:b≠a)(c:Conn (es++[(a,b)]) i j):Conn (es.R λe=>(dl a b e.1,dl a b e.2)) (dl a b i) (dl a b j):=by
 induction c with
 |refl i=>show .refl _
 |edge q=>
  rcases XB.H q with q|q
  .show .edge (YN.X {_,q,Z})
  .let e:=XD.H q;injection e with e1 e2
   rw[e1,e2,lh a b XJ];show .refl _
 |symm _ ih=>show .symm ih
 |trans _ _ a b=>show .trans a b
def k9{es:List (Nat×Nat)}{u v:Nat}(XJ:b≠a)(c:Conn (es.R λe=>(dl a b e.1,dl a b e.2)) u v):∀i j,dl a b i=u->dl a b j=v->Conn (es++[(a,b)]) i j:=by
 let he:Conn (es++[(a,b)]) a b:=.edge B;let same:∀i j,dl a b i=dl a b j->Conn (es++[(a,b)]) i j:=λi j e=>by
  rcases lj XJ e with e|⟨e1,e2⟩|⟨e1,e2⟩
  .rw[e];show .refl _
  .rw[e1,e2];show he
  .rw[e1,e2];show he.symm
 induction c with
 |refl u=>show λi j e1 e2=>same i j (e1.m e2.symm)
 |edge q=>
  intro i j e1 e2;let((x,y),KW,e):=YN.H q;injection e with x1 x2
  show(same i x<|e1.m x1.symm).m (.trans (.edge<|Yc _ KW)<|same y j<|x2.m e2.symm)
 |symm _ ih=>show λi j e1 e2=>(ih j i e2 e1).symm
 |@trans x y z _ _ KU Qf=>show λi j e1 e2=>(KU i (sk a y) e1<|QZ a b y).m (Qf (sk a y) j (QZ a b y) e2)
def QY{a b x k:Nat}(ha:a<k+1)(hb:b<k+2)(XJ:b≠a)(hx:x<k+2):dl a b x<k+1:=by
 unfold dl sh;cases h:x=a
 .rw[if_pos h];split<;>grind
 .rw[if_neg h];split<;>grind
def Jj{a b k:Nat}{es:List (Nat×Nat)}(ha:a<k+1)(hb:b<k+2)(XJ:b≠a):(∀i j,i<k+2->j<k+2->Conn (es++[(a,b)]) i j)↔∀i j,i<k+1->j<k+1->Conn (es.R λe=>(dl a b e.1,dl a b e.2)) i j:=by
 constructor
 .intro c i j h1 h2
  have:=lg XJ (c (sk a i) (sk a j) (NL h1)<|NL h2)
  rwa[QZ,QZ]at this
 .show λc i j h1 h2=>k9 XJ (c _ _ (QY ha hb XJ h1)<|QY ha hb XJ h2) i j Z rfl
def RV(a b:Nat)(E:List Ed):(List Ed):=E.R λe=>(dl a b e.1,dl a b e.2.1,e.2.2)
def ag{z:Int}(h0:0<=z)(h1:z<E⁻¹):(RV a b E).S z.j (0,0,0)=(dl a b (E.S z.j (0,0,0)).1,dl a b (E.S z.j (0,0,0)).2.1,(E.S z.j (0,0,0)).2.2):=by unfold RV;rw[Ya,Ya,Yw,Xp sr];rfl
def af(h:IsSet E.f T):T.R (Tb (RV a b E))=(T.R (Tb E)).R λe=>(dl a b e.1,dl a b e.2):=by
 rw[Mc];show VC λz hz=>?_
 have:=h.all z hz
 unfold Tb;rw[ag this.1 this.2];rfl
def k8(h:∀z∈T,0<=z/\z<E⁻¹):Uk (RV a b E) T=Uk E T:=by
 induction T with
 |nil=>rfl
 |cons z T ih=>
  let hz:=h z Ye;change _*Uk (RV a b E) T=_*Uk E T
  rw[ag hz.1 hz.2,ih λy hy=>h y (Yg _ hy)]
def AD{e:Ed}(ha:a<k+1)(hb:b<k+2)(XJ:b≠a)(he:(e.1=a/\e.2.1=b)\/(e.1=b/\e.2.1=a))(h:IsSet E.f T):IsT (k+1) (E++[e]) (T++[E⁻¹])↔IsT k (RV a b E) T:=by
 let hl:(RV a b E).f=E.f:=Yb ..;let hc:(∀i j,i<k+2->j<k+2->Conn ((T++[E⁻¹]).R (Tb<|E++[e])) i j)↔∀i j,i<k+2->j<k+2->Conn (T.R (Tb E)++[(a,b)]) i j:=by
  rw[AE h];rcases he with ⟨e1,e2⟩|⟨e1,e2⟩
  .rw[e1,e2]
  .rw[e1,e2];exists λc i j x y=>aP<|c i j x y,λc i j x y=>aP<|c i j x y
 let h2:IsSet (E++[e]).f (T++[E⁻¹]):=by rw[Xy];show h.snoc
 constructor
 .rintro⟨_,x,y⟩;exists hl▸h,?_,?_
  .rw[Xy,Yt]at x;lia
  .rw[af h];show(Jj ha hb XJ).H (hc.H y)
 .rintro⟨_,x,y⟩;rw[af h]at y;exists h2,by rw[Xy,Yt,x],hc.X<|(Jj ha hb XJ).X y
def AB{E:List Ed}{e:Ed}(hE:∀f∈E,f.1<k+1/\f.2.1<k+1)(he:e.1=e.2.1)(h:IsSet E.f T):¬IsT k (E++[e]) (T++[E⁻¹]):=by
 rintro⟨_,x,y⟩;rw[AE h]at y;let NP:∀i j,i<k+1->j<k+1->Conn (T.R<|Tb E) i j:=λi j hi hj=>(y i j hi hj).lift λf hf=>by
  rcases XB.H hf with q|q
  .show .edge q
  .rw[XD.H q,he];show .refl _
 let Wj:InN (k+1) (T.R<|Tb E):=λf hf=>by
  let(z,hz,rfl):=YN.H hf
  have:=h.all z hz
  unfold Tb;rw[Ya,Xp J];show hE _ (II _)
 let h2:=(Jy J Wj).X NP;let h3:=vP _ Wj
 rw[Yb]at h3;rw[Xy,Yt]at x;lia
def AA{e:Ed}(hE:∀f∈E,f.1<k+1/\f.2.1<k+1)(he:e.1=e.2.1)(h:TW k E s):TW k (E++[e]) s:=by
 let(L,a1,a2,a3):=h;exists L,a1,λT=>?_,?_
 .rw[a2];constructor
  .show λh=>(vp h.1).X h
  .intro h;let hs:=h.1
   rw[Xy]at hs;rcases mB hs with c|⟨T',c,c2⟩
   .show(vp c).H h
   .show absurd (c▸h) (AB hE he c2)
 .rw[<-a3];show QP List.sum (VC λT hT=>NH ((a2 T).H hT).1.all)
def k7(a b:Ac):(a++b).sum=a.sum+b.sum:=by
 induction a with
 |nil=>rw[OU,List.sum_nil,Fo]
 |cons x a ih=>rw[DU,DM,DM,ih];lia
def Zf8(w:Int)(l:Ab)(f:Ac->Int):(l.R λT=>f T*w).sum=w*(l.R f).sum:=by
 induction l with
 |nil=>rw[List.map_nil,List.map_nil,List.sum_nil,Rn]
 |cons x l ih=>rw[TM,TM,DM,DM,ih,Iy,OR]
def Az{e:Ed}(ha:a<k+1)(hb:b<k+2)(XJ:b≠a)(he:(e.1=a/\e.2.1=b)\/(e.1=b/\e.2.1=a))(h1:TW (k+1) E s1)(h2:TW k (RV a b E) s2):TW (k+1) (E++[e]) (s1+e.2.2*s2):=by
 let(L,a1,a2,a3):=h1;let(M,b1,b2,b3):=h2;let hl:(RV a b E).f=E.f:=Yb ..
 exists L++M.R (·++[E⁻¹]),VS.X {a1,?_,λx hx y hy c=>?_},λT=>?_,?_
 .show List.E.R _ (λx y h c=>h<|DF c) b1
 .let⟨z,hz,c2⟩:=YN.H hy
  have:=((a2 x).H hx).1.all E⁻¹ (by rw[c,<-c2];simp)
  lia
 .rw[XB,a2,YN];constructor
  .rintro(h|⟨T',hT,rfl⟩)
   .show(vp h.1).X h
   .have:=(b2 T').H hT
    show(AD ha hb XJ he<|hl▸this.1).X this
  .intro h;let hs:=h.1
   rw[Xy]at hs;rcases mB hs with c|⟨T',c,c2⟩
   .show .inl ((vp c).H h)
   .show .inr {T',(b2 T').X ((AD ha hb XJ he c2).H (c▸h)),c.symm}
 .rw[YQ,k7,Mc];let e1:L.R (Uk<|E++[e])=L.R (Uk E):=VC λT hT=>NH ((a2 T).H hT).1.all
  let e2:M.R (Uk (E++[e])∘(·++[E⁻¹]))=M.R λT=>Uk (RV a b E) T*e.2.2:=VC λT hT=>by
   let hs:IsSet E.f T:=hl▸((b2 T).H hT).1;change Uk (E++[e]) (T++[E⁻¹])=_
   rw[lq,NH hs.all,k8 hs.all];change _*(((E++[e]).S (E.f:Int).j (0,0,0)).2.2*1)=_
   rw[ah,Ma]
  rw[e1,e2,a3,Zf8,b3]
def Ay(XJ:b≠a):ind (dl a b u) (dl a b v) i=ind u v (sk a i)+(if sk a i=b then ind u v a else 0):=by
 let key:∀x:Nat,((if i=dl a b x then 1 else 0:Int))=(if sk a i=x then 1 else 0)+(if sk a i=b then (if a=x then 1 else 0) else 0):=λx=>by
  unfold dl;cases hx:x=a
  .rw[if_pos hx,if_neg<|show ¬sk a i=x from hx▸Jk a i,Fo];cases h:sk a i=b
   .rw[if_pos h,if_pos hx.symm,if_pos];rw[<-h,GJ]
   .rw[if_neg h,if_neg];intro e;show h (by rw[e,KR XJ])
  .rw[if_neg hx];let e2:(if sk a i=b then (if a=x then 1 else 0:Int) else 0)=0:=by rw[if_neg (Xb hx)];split<;>rfl
   rw[e2,Vo];cases h:sk a i=x
   .rw[if_pos h,if_pos];rw[<-h,GJ]
   .rw[if_neg h,if_neg];intro e;show h (by rw[e,KR hx])
 unfold ind;rw[key u,key v];cases h:sk a i=b
 .rw[if_pos h,if_pos h,if_pos h];lia
 .rw[if_neg h,if_neg h,if_neg h];lia
def ae(XJ:b≠a)(i j:Nat):∀E:List Ed,lapE (RV a b E) i j=Ph (lapE E) a b (sk a i) (sk a j)
 |[]=>by
  change(0:Int)=_;unfold Ph lapE;cases h:sk a i=b
  .cases h2:sk a j=b
   .rw[if_pos h,if_pos h2];rfl
   .rw[if_pos h,if_neg h2];rfl
  .cases h2:sk a j=b
   .rw[if_neg h,if_pos h2];rfl
   .rw[if_neg h,if_neg h2];rfl
 |e::E=>by
  let ih:=ae XJ i j E;change e.2.2*(ind (dl a b e.1) (dl a b e.2.1) i*ind (dl a b e.1) (dl a b e.2.1) j)+lapE (RV a b E) i j=_
  rw[ih,Ay XJ,Ay XJ];unfold Ph;change _=(e.2.2*(ind e.1 e.2.1 (sk a i)*ind e.1 e.2.1 (sk a j))+lapE E (sk a i) (sk a j)+(if sk a i=b then e.2.2*(ind e.1 e.2.1 a*ind e.1 e.2.1 (sk a j))+lapE E a (sk a j) else 0))+(if sk a j=b then (e.2.2*(ind e.1 e.2.1 (sk a i)*ind e.1 e.2.1 a)+lapE E (sk a i) a)+(if sk a i=b then e.2.2*(ind e.1 e.2.1 a*ind e.1 e.2.1 a)+lapE E a a else 0) else 0)
  generalize ind e.1 e.2.1 (sk a i)=x;generalize ind e.1 e.2.1 (sk a j)=y;generalize ind e.1 e.2.1 a=z;generalize e.2.2=w;cases h:sk a i=b
  .cases h2:sk a j=b
   .simp only[if_pos h,if_pos h2,Iy,xi];lia
   .simp only[if_pos h,if_neg h2,Iy,xi,Vo,Rn];lia
  .cases h2:sk a j=b
   .simp only[if_neg h,if_pos h2,Iy,xi,Vo,ON];lia
   .simp only[if_neg h,if_neg h2,Vo]
def aa(u v i:Nat):ind v u i=- ind u v i:=by unfold ind;lia
def kZ{e:Ed}(ha:a<k+1)(hb:b<k+2)(XJ:b≠a)(he:(e.1=a/\e.2.1=b)\/(e.1=b/\e.2.1=a)):det (k+1) (lapE (E++[e]))=det (k+1) (lapE E)+e.2.2*det k (lapE (RV a b E)):=by
 let e1:det (k+1) (lapE<|E++[e])=det (k+1) (λi j=>lapE E i j+e.2.2*(ind a b i*ind a b j)):=Zl λi j _ _=>by
  rw[lr];rcases he with ⟨x,y⟩|⟨x,y⟩
  .rw[x,y]
  .rw[x,y,aa a b i,aa a b j,Int.neg_mul_neg]
 let e2:det k (lapE<|RV a b E)=det k (λi j=>Ph (lapE E) a b (sk a i)<|sk a j):=Zl λi j _ _=>ae XJ i j E;rw[e1,e2];cases hk:b<k+1
 .show lu ha hk (Xb XJ)
 .let e3:det (k+1) (λi j=>lapE E i j+e.2.2*(ind a b i*ind a b j))=det (k+1) (λi j=>lapE E i j+e.2.2*((if i=a then 1 else 0)*(if j=a then 1 else 0))):=Zl λi j hi hj=>by unfold ind;rw[if_neg (show ¬i=b by lia),if_neg (show ¬j=b by lia),xk,xk]
  let e4:det k (λi j=>Ph (lapE E) a b (sk a i)<|sk a j)=det k (λi j=>lapE E (sk a i)<|sk a j):=Zl λi j hi hj=>by
   let h1:=NL (j:=a) hi;let h2:=NL (j:=a) hj
   unfold Ph;rw[if_neg (show ¬sk a i=b by lia),if_neg (show ¬sk a j=b by lia),Vo,Vo]
  rw[e3,e4];show ak ha
def Zf5{e:Ed}(he:e.1=e.2.1):lapE (E++[e])=lapE E:=by
 funext i j
 rw[lr,he];unfold ind;rw[Int.sub_self,ON,Rn,Vo]
def vo:∀m k E,E.f=m->(∀e∈E,e.1<k+1/\e.2.1<k+1)->TW k E (det k (lapE E))
 |0,k,E,hm,_=>by
  let rfl:=YW.H hm;cases k with
  |zero=>
   exists [[]],B,λT=>?_,Z;rw[XD];constructor
   .rintro rfl;show⟨IsSet.nil _,Z,λi j hi hj=>by
     have:i=j:=J
     rw[this];show .refl j⟩
   .intro h;show YW.H h.2.1
  |succ k=>
   exists [],.nil,λT=>{λh=>(by cases h),λh=>?_},?_
   .let h1:=h.1.len;let h2:=h.2.1
    rw[Fs]at h1;lia
   .show(aJ (i:=0) J λj _=>rfl).symm
 |m+1,k,E,hm,hE=>by
  obtain⟨E',e,rfl⟩:∃E' e,E=E'++[e]:={E.dropLast,E.getLast (λh=>by rw[h]at hm;cases hm),(eT _).symm};let JM:E'.f=m:=by rw[Xy]at hm;simpa using hm
  let kY:∀f∈E',f.1<k+1/\f.2.1<k+1:=λf hf=>hE f (Yc _ hf);let he:=hE e B
  let ih:=vo m k E' JM kY;cases hl:e.1=e.2.1
  .rw[Zf5 hl];show AA kY hl ih
  .obtain⟨k',rfl⟩:∃k',k=k'+1:={k-1,J};obtain⟨a,b,ha,hb,XJ,Va⟩:∃a b,a<k'+1/\b<k'+2/\b≠a/\((e.1=a/\e.2.1=b)\/(e.1=b/\e.2.1=a)):=by
    cases c:e.1<k'+1
    .exists e.1,e.2.1,c,he.2,λh=>hl h.symm,.inl ⟨Z,Z⟩
    .exists e.2.1,e.1,J,he.1,hl,.inr ⟨Z,Z⟩
   let Qf:=vo m k' (RV a b E') (by unfold RV;rwa[Yb]) λf hf=>by
    let(g,hg,rfl):=YN.H hf
    have:=kY g hg
    exists QY ha hb XJ this.1,QY ha hb XJ this.2
   rw[kZ ha hb XJ Va];show Az ha hb XJ Va ih Qf
def UY(ps:Aa)(ws:Ac):(List Ed):=List.zipWith (λp w=>(p.1.j,p.2.j,w)) ps ws
def ZC9(h1:1<=n)(hw:ws.f=ps.f):IsT (n-1).j (UY ps ws) T↔Zf n ps T:=by
 let hl:(UY ps ws).f=ps.f:=by unfold UY;rw[Ea];grind
 let hm:IsSet ps.f T->T.R (Tb<|UY ps ws)=XT ps T:=λhs=>VC λz hz=>by
  have:=hs.all z hz
  unfold Tb UY;rw[Ya,Fx,Xp J,Xp (show z.j<ws.f by lia),Ya,Xp sr];rfl
 unfold IsT Zf;rw[hl];constructor
 .rintro⟨a,b,c⟩;rw[hm a]at c;exists a,J,λi j hi hj=>c i j J sD
 .rintro⟨a,b,c⟩;rw[hm a];exists a,J,λi j hi hj=>c i j J J
def Ax(h:∀e∈E,e.2.2=1):∀{T:Ac},(∀z∈T,0<=z/\z<E⁻¹)->Uk E T=1
 |[],_=>rfl
 |z::T,hb=>by
  let hz:=hb z Ye;change(E.S z.j (0,0,0)).2.2*Uk E T=1
  rw[Ax h λy hy=>hb y<|Yg _ hy,Ma,Ya,Xp J];show h _ (II _)
def kX{l:Ab}{f:Ac->Int}(h:∀T∈l,f T=1):(l.R f).sum=l⁻¹:=by
 induction l with
 |nil=>rfl
 |cons x l ih=>
  rw[TM,DM,ih λT hT=>h T<|Yg _ hT,h x Ye,YF];lia
def Aw(g:Zx n ps)(ws:Ac):∀e∈UY ps ws,e.1<(n-1).j+1/\e.2.1<(n-1).j+1:=λe he=>by
 unfold UY at he;let(i,hi):=Yv he;rw[Fx]at hi;let g1:=g.1
 cases h1:ps[i]? with
 |none=>rw[h1]at hi;cases hi
 |some p=>
  cases h2:ws[i]? with
  |none=>rw[h1,h2]at hi;cases hi
  |some w=>
   rw[h1,h2]at hi;let rfl:=Yk hi;let(a,b,c,d):=g.2.2.2 p (WT h1);exists by change p.1.j<_;grind,by change p.2.j<_;lia
def kW(g:Zx n ps){L:Ab}(hL:L.Nodup)(hm:∀l,l∈L↔Zf n ps l):det (n-1).j (lapE (UY ps (List.replicate ps.f 1)))=L⁻¹:=by
 let g1:=g.1;let hw:(List.replicate ps.f (1:Int)).f=ps.f:=YT
 let(M,a1,a2,a3):=vo _ (n-1).j (UY ps<|List.replicate ps.f 1) Z (Aw g _);let hl:(UY ps<|List.replicate ps.f 1).f=ps.f:=by unfold UY;rw[Ea,hw];grind
 let w1:∀e∈UY ps (List.replicate ps.f (1:Int)),e.2.2=1:=λe he=>by
  unfold UY at he;let(i,hi):=Yv he;rw[Fx]at hi;cases h1:ps[i]? with
  |none=>rw[h1]at hi;cases hi
  |some p=>
   cases h2:(List.replicate ps.f (1:Int))[i]? with
   |none=>rw[h1,h2]at hi;cases hi
   |some w=>
    rw[h1,h2]at hi;let rfl:=Yk hi;show xS (WT h2)
 rw[<-a3,kX λT hT=>Ax w1 ((a2 T).H hT).1.all];let hp:M.Perm L:=(Ek a1 hL).X λl=>by rw[a2,hm,ZC9 g1 hw]
 rw[hp.length_eq]
end My
namespace L2
open PySem PySem.Spec PyProof.Rows
section
variable{X:Cx}
def kT(K:Ad):(V->V->Hp->VK->Prop):=λx y H Q=>∃p xs i v,x=.ref p/\y=.int i/\SqL K H p xs/\0<=i/\xs[i.j]?=some v/\Q v H
def vn(K:Ad)(hk:X.K=K:=by rfl):Dp X (kT K):=by
 subst hk;intro pins s σ H o i ov iv Q I ro ri h;let(p,xs,j,z,rfl,rfl,hq,h0,he,q):=h;cases ro;let(t,rfl):=ri;let(XW,r,pl,hz):=I.list hq;let(w,ew,LJ):=r.get he;let hl:=r.f
 let hn:=Dc;let Xm:=(XA.H he).1
 show wpAny_getItem_list pl.isList h0 J (by simpa using ew) ⟨z,H,I,LJ,q⟩
end
end L2
namespace My
open PySem L2
def kR{g:TG}{tb:TS}{D:Ends}(KW:xs.f=ys.f)(Pv:Nat->St->Hp->Prop)(h0:Pv 0 σ H)(hl:∀i σ H,i<=xs.f->Pv i σ H->SqL K H a xs/\SqL K H b ys)
  (hs:∀(i:Nat) x y σ H (p:Addr),H p=none->xs[i]?=some x->ys[i]?=some y->Pv i σ H->g ↑p σ (upd H p<|.tup [x,y]) λσ2 H2=>tb {D with nx:=Pv<|i+1,ct:=Pv<|i+1,bk:=D.nx} σ2 H2)(hd:∀σ H,Pv xs.f σ H->D.nx σ H):
  ∃W:Nat->Nat->St->Hp->Prop,(∃m,W 0 m σ H)/\∀i m σ H,W i m σ H->
   ((EF K a b).stop i H/\D.nx σ H)\/((EF K a b).go i H/\∃N:St->Hp->Prop,(∀σ' H',N σ' H'->∃m',m'<m/\W (i+1) m' σ' H')/\∀x H',(EF K a b).yld i H x H'->g x σ H' λσ2 H2=>tb {D with nx:=N,ct:=N,bk:=D.nx} σ2 H2):=by
 exists λi m σ H=>m=xs.f-i/\i<=xs.f/\Pv i σ H,{xs.f,B,Yi _,h0},?_;rintro i m σ H ⟨rfl,hi,p⟩;let(q,q2):=hl i σ H hi p;cases Xm:i<xs.f
 .show .inr {{xs,ys,xs[i],ys[i]'(by lia),q,q2,by simp[Xm],Xp sr},Pv<|i+1,λσ' H' p'=>{xs.f-(i+1),sD,Z,Xm,p'},λx H' ⟨T,u,v,hT,ex,eH,hu,hv⟩=>?_};subst ex eH;show hs i u v σ H T hT (hu xs q) (hv ys q2) p
 .let e:i=xs.f:=J;subst e;show .inl {{xs,ys,q,q2,.inl<|XI _},hd σ H p}
structure TabAt(H0:Hp)(r:Addr)(n:Nat)(H:Hp)(ys:List V)(L:Ab):Prop where
 tab:H r=some (.lst ys)
 rows:Bears (LiV r H) ys L
 len:L.f=n
 all:∀l∈L,l.f=n
 nd:ys.Nodup
 new:∀A,V.ref A∈ys->H0 A=none
def TabAt.same(s:Same H H')(h:TabAt H0 r n H ys L):TabAt H0 r n H' ys L:={s _ _ h.tab,h.rows.imp λ_ _ q=>q.Y s,h.len,h.all,h.nd,h.new}
def TabAt.at(h:TabAt H0 r n H ys L){i:Nat}(hi:i<n):∃A l,ys[i]?=some ↑A/\L[i]?=some l/\H A=some (.lst (IL l))/\l.f=n/\H0 A=none/\A≠r:=by let hl:=h.len;obtain⟨l,e⟩:∃l,L[i]?=some l:={_,Xp J};let(v,e1,A,rfl,e2,e3):=h.rows.2 i l e;exists A,l,e1,e,e2,h.all l<|WT e,h.new A<|WT e1,e3
def TabAt.put(h:TabAt H0 r n H ys L){l l':Ac}(e1:ys[i]?=some ↑A)(e2:L[i]?=some l)(e3:A≠r)(hl:l'.f=n):TabAt H0 r n (upd H A (.lst (IL l'))) ys (L.set i l'):=by
 let hi:=(XA.H e2).1;let UP:=(XA.H e1).1
 exists by rw[Za (Xb e3)];show h.tab,{by rw[MT];show h.rows.1,λj m em=>?_},by rw[MT];show h.len,λm hm=>?_,h.nd,h.new
 .rw[Ml]at em;cases c:i=j
  .subst c;rw[if_pos Z,if_pos hi]at em;let rfl:=Yk em;exists _,e1,A,Z,XS,e3
  .rw[if_neg c]at em;let(v,f1,sj,rfl,f2,f3):=h.rows.2 j m em;exists _,f1,sj,Z,?_,f3;rw[Za]
   .show f2
   .intro e;rw[e]at f1;show c (EZ h.nd e1 f1)
 .rcases eN hm with e|e
  .show h.all m e
  .rw[e];show hl
def kQ{L:Ab}{l:Ac}(hi:L[i]?=some l)(hj:j<l.f)(a b:Nat):fnL (L.set i (l.set j x)) a b=if a=i/\b=j then x else fnL L a b:=by
 let UP:=(XA.H hi).1;unfold fnL;cases ha:a=i
 .subst ha;let e1:(L.set a<|l.set j x).S a []=l.set j x:=by rw[Ya,Ml,if_pos Z,if_pos UP];rfl
  let e2:L.S a []=l:=by rw[Ya,hi];rfl
  rw[e1,e2];cases hb:b=j
  .subst hb;rw[if_pos ⟨Z,Z⟩,Ya,Ml,if_pos Z,if_pos hj];rfl
  .rw[if_neg λh=>hb h.2,Ya,Ml,if_neg<|Xb hb,<-Ya]
 .let e1:(L.set i<|l.set j x).S a []=L.S a []:=by rw[Ya,Ya,Ml,if_neg (Xb ha)]
  rw[e1,if_neg λh=>ha h.1]
def four{A:Mx}{u v:Nat}{w:Int}(XJ:u≠v)(a b:Nat){sj C D E:Mx}(h1:∀a b,sj a b=if a=u/\b=u then A u u+w else A a b)(h2:∀a b,C a b=if a=v/\b=v then sj v v+w else sj a b)(h3:∀a b,D a b=if a=u/\b=v then C u v-w else C a b)(h4:∀a b,E a b=if a=v/\b=u then D v u-w else D a b):E a b=A a b+w*(ind u v a*ind u v b):=by
 let nv:¬v=u:=Xb XJ;unfold ind;cases x1:a=u
 .subst x1;cases y1:b=a
  .subst y1;simp[h4,h3,h2,h1,XJ,nv]
  .cases y2:b=v
   .subst y2;simp[h4,h3,h2,h1,XJ,nv];lia
   .simp[h4,h3,h2,h1,XJ,nv,y1,y2]
 .cases x2:a=v
  .subst x2;cases y1:b=u
   .subst y1;simp[h4,h3,h2,h1,XJ,nv];omega
   .cases y2:b=a
    .subst y2;simp[h4,h3,h2,h1,XJ,nv]
    .simp[h4,h3,h2,h1,XJ,nv,y1,y2]
  .simp[h4,h3,h2,h1,XJ,nv,x1,x2]
def kP{ps:Aa}{ws:Ac}{p:Int×Int}{w:Int}(hp:ps[i]?=some p)(hw:ws[i]?=some w):UY (ps.M (i+1)) (ws.M (i+1))=UY (ps.M i) (ws.M i)++[(p.1.j,p.2.j,w)]:=by
 let h1:=(XA.H hp).1;let h2:=(XA.H hw).1
 unfold UY;rw[WD,WD,hp,hw];rw[List.zipWith_append (by rw[Yl,Yl];grind)];rfl
def Conn.image{f:Nat->Nat}(h:∀e∈es,Conn fs (f e.1) (f e.2))(c:Conn es i j):Conn fs (f i) (f j):=by
 induction c with
 |refl i=>show .refl _
 |edge e=>show h _ e
 |symm _ ih=>show ih.symm
 |trans _ _ KU Qf=>show KU.m Qf
def kO(g:Zx n ps)(h:IsSet ps.f T)(c:∀i j,i<n.j->j<n.j->Conn (XT ps T) i j):n-1<=T⁻¹:=by
 let g1:=g.1;let Wj:=ZN (ns:=T) g h.all
 let h2:=(Jy J Wj).X c;let h3:=vP _ Wj
 rw[show(XT ps T).f=T.f from Yb ..]at h3;lia
end My
namespace L2
open PySem
def Qb(t:SetTable):(Prop):=t.place.l.E (·<·)
def vm{xs:Array Nat}(h:xs.l.E (·<·)){i k a b:Nat}(kN:i<k)(ha:xs[i]?=some a)(hb:xs[k]?=some b):a<b:=by rw[<-YH]at ha hb;let(h1,e1):=XA.H ha;let(h2,e2):=XA.H hb;rw[<-e1,<-e2];show Kj.H h i k h1 h2 kN
def kM(h:xs.l.E (·<·)):∀f lo hi,hi-lo<=f->lo<=hi->hi<=xs.t->(∀i v,xs[i]?=some v->i<lo->v<j)->(∀i v,xs[i]?=some v->hi<=i->j<=v)->
  SetTable.below.go xs j f lo hi<=xs.t/\∀i v,xs[i]?=some v->(i<SetTable.below.go xs j f lo hi↔v<j)
 |0,lo,hi,hf,hl,hs,a,b=>by
  let e:lo=hi:=sD;unfold SetTable.below.go;exists J,λi v hv=>{a i v hv,λhvj=>Nat.lt_of_not_le λhc=>?_}
  have:=b i v hv J
  lia
 |f+1,lo,hi,hf,hl,hs,a,b=>by
  unfold SetTable.below.go;cases c:lo<hi
  .rw[if_pos c];dsimp only;obtain⟨m,hm⟩:∃m,xs[(lo+hi)/2]?=some m:={_,YO J};let em:xs.S ((lo+hi)/2) j=m:=by rw[Yy,hm];rfl
   rw[em];cases d:m<j
   .rw[if_pos d];show kM h f _ hi sD J hs (λi v hv UZ=>?_) b;cases e:i=(lo+hi)/2
    .rw[e,hm]at hv;show Yk hv▸d
    .have:=vm h (show i<(lo+hi)/2 by lia) hv hm
     lia
   .rw[if_neg d];show kM h f lo _ sD J J a λi v hv UZ=>?_;cases e:i=(lo+hi)/2
    .rw[e,hm]at hv
     have:=Yk hv
     lia
    .have:=vm h (show(lo+hi)/2<i by lia) hm hv
     lia
  .rw[if_neg c];exists sD,λi v hv=>{a i v hv,λhvj=>Nat.lt_of_not_le λhc=>?_}
   have:=b i v hv J
   lia
def vk(h:xs.l.E (·<·))(j:Nat):SetTable.below xs j<=xs.t/\∀i v,xs[i]?=some v->(i<SetTable.below xs j↔v<j):=
 kM h xs.t 0 xs.t J (Yi _) (XI _) (λi v _ h=>absurd h<|SW _) λi v hv hi=>by rw[xQ hi]at hv;cases hv
def kJ(h:xs.l.E (·<·)){i v:Nat}(hv:xs[i]?=some v):SetTable.below xs v=i:=by
 let(h1,h2):=vk h v;let a:¬i<SetTable.below xs v:=λq=>by have:=(h2 i v hv).H q;lia
 show tf J (xE λq=>?_);let Xm:=(eQ.H hv).1
 obtain⟨u,hu⟩:∃u,xs[SetTable.below xs v]?=some u:={_,YO J};let b:=vm h q hu hv
 have:=(h2 _ u hu).X b
 lia
def kI(h:xs.l.E (·<·)){i v:Nat}(hv:xs[i]?=some v):SetTable.below xs (v+1)=i+1:=by
 let(h1,h2):=vk h (v+1);let a:=(h2 i v hv).X (MU v)
 show tf (xE λq=>?_) a;obtain⟨u,hu⟩:∃u,xs[i+1]?=some u:={_,YO J};let b:=(h2 _ u hu).H q
 have:=vm h (MU i) hv hu
 lia
def kH(h:xs.l.E (·<·)):SetTable.below xs 0=0:=by let(h1,h2):=vk h 0;show Nat.le_zero.H (xE λq=>?_);obtain⟨u,hu⟩:∃u,xs[0]?=some u:={_,YO J};show SW _ ((h2 _ u hu).H q)
def ED(t:SetTable)(j:Nat):(Prop):=t.place[SetTable.below t.place j]?≠some j
def kG(h:Qb t)(hn:ED t j):Qb (t.put j).1:=by
 let(h1,h2):=vk h j;let up:∀i v,t.place[i]?=some v->SetTable.below t.place j<=i->j<v:=λi v hv hi=>by
  let a:¬v<j:=λq=>by have:=(h2 i v hv).X q;lia
  let b:v≠j:=λe=>hn (by rw[e]at hv;rwa[kJ h hv]);lia
 change(SetTable.insertAt t.place (SetTable.below t.place j) j).l.E (·<·);rw[SetTable.toList_insertAt];let dn:∀x∈t.place.l.M (SetTable.below t.place j),x<j:=λx hx=>by
  let(i,hi):=Yv hx;rw[OY]at hi;split at hi
  .rename_i q;rw[YH]at hi;show(h2 i x hi).H q
  .cases hi
 let ub:∀x∈t.place.l.drop (SetTable.below t.place j),j<x:=λx hx=>by let(i,hi):=Yv hx;rw[SS,YH]at hi;show up _ x hi (Nat.le_add_right _ _)
 show YI.X {LW (Mm _ _) h,Wb.X {ub,LW (DV _ _) h},λa ha b hb=>?_};rcases Yf.H hb with e|e
 .rw[e];show dn a ha
 .show xn (dn a ha) (ub b e)
def ZK3(h:t.slot j=.empty\/t.slot j=.dummy):ED t j:=λe=>by
 let e2:t.slot j=.live (SetTable.below t.place j):=by unfold SetTable.slot;dsimp only;rw[if_pos (by rw[e];simp)]
 rw[e2]at h;rcases h with h|h<;>cases h
def kF{f:Nat->Int}:∀n p j d,(∀e,p.dummy=some e->ED t e)->SetTable.probe.go t f h n p=some (.empty j d)->ED t j/\∀e,d=some e->ED t e
 |0,p,j,d,_,h=>by cases h
 |n+1,p,j,d,hp,h=>by
  let adv:∀q:SetTable.Probe,(t.advance q).dummy=q.dummy:=λq=>by unfold SetTable.advance;split<;>rfl
  unfold SetTable.probe.go at h;split at h
  .rename_i hs;cases h;exists ZK3<|.inl hs,hp
  .rename_i hs;show kF n _ j d (λe he=>by rw[adv]at he;cases he;show ZK3<|.inr hs) h
  .split at h
   .cases h
   .show kF n _ j d (λe he=>hp e<|by rwa[adv]at he) h
def ZY8{b:Bool}(e:t.freeSlot h=some (s,b)):ED t s:=by
 unfold SetTable.freeSlot at e;split at e
 .rename_i j d hp;let(a1,a2):=kF _ _ j d (λe he=>by cases he) hp;let e1:=QP Prod.fst (Yk e)
  dsimp only at e1;rw[<-e1];cases d with
  |none=>show a1
  |some x=>show a2 x rfl
 .cases e
def vj(t:SetTable)(n:Nat):Qb (t.standIn n):=by change(Array.range n).l.E (·<·);rw[Array.toList_range];show Eh
def kE(h:Qb t)(es:Array (Int×Value))(k:Int)(x:Value):Qb (layNew t es k x).2.1/\(layNew t es k x).2.1.led=t.led:=by
 unfold layNew;split
 .rename_i s b e;dsimp only;unfold SetTable.orStandIn;split
  .exists kG h<|ZY8 e,Z
  .exists vj _ _,Z
 .exists vj _ _,Z
def Zj8(h:Qb t)(es:Array (Int×Value))(n:Nat):Qb (relayAll t es n).2.1/\(relayAll t es n).2.1.led=t.led:=by
 unfold relayAll;split
 .rename_i t' order e;dsimp only;split
  .unfold SetTable.relaid SetTable.laid at e;cases ho:SetTable.layClean (SetTable.sizeAbove n-1) (es.R (·.1)) with
   |none=>rw[ho]at e;cases e
   |some owner=>
    rw[ho]at e;let e1:=QP Prod.fst (Yk e)
    dsimp only at e1;rw[<-e1];exists ?_,Z;change(List.R _<|List.filterMap _ _).C.l.E (·<·)
    rw[List.toList_toArray,SR,List.pairwise_filterMap];show Eh.imp λ{a b} Va x hx y hy=>?_;let ex:x.1=a:=by
     cases q:owner.S a none with
     |none=>rw[q]at hx;cases hx
     |some z=>rw[q]at hx;cases hx;rfl
    let ey:y.1=b:=by
     cases q:owner.S b none with
     |none=>rw[q]at hy;cases hy
     |some z=>rw[q]at hy;cases hy;rfl
    rwa[ex,ey]
  .exists vj _ _,Z
 .exists vj _ _,Z
end L2
namespace L2
open PySem PySem.Spec PyProof.Rows
def SetR(P:Program)(w:World)(h:Heap)(a:Addr)(led:Bool)(S:Int->Bool)(n:Nat):(Prop):=
 ∃o es ep t,h.G a=some o/\o.ExactSet/\o.data=.set es ep t/\ElemsOf (intKind P w) es.l/\(∀z,S z=true↔∃y∈es.l,(intKind P w).is z y.2=true)/\es.t<scanBound/\t.fits es.t=true/\es.t=n/\Qb t/\t.led=led
def SetR.at{S:Int->Bool}(q:SetR P w h a led S n)(k:∀o,h.G a=some o->h'.G a=some o):SetR P w h' a led S n:=
 let ⟨o,es,ep,t,ho,r⟩:=q
 {o,es,ep,t,k o ho,r}
section
variable{prog:Program}{w:World}{A:Around}{E:Ae}{s:Shared}
def ZM3{h:Heap}{o:Obj}{es:Array (Int×Value)}{ep:Nat}{t:SetTable}(ho:h.G a=some o)(hx:o.ExactSet)(hd:o.data=.set es ep t)(fs:Array (Int×Value))(u:SetTable):
  (h.update a<|Obj.putSet fs u).G a=some {o with data:=.set fs (ep+1) u}/\({o with data:=.set fs (ep+1) u}:Obj).ExactSet:=by let q:=OZ (Obj.putSet fs u) ho (by rw[putSet_of fs u hd];rfl);rw[putSet_of fs u hd]at q;exists q,hx
def kD{gv:Bool->Sem Unit}(hgv:∀b s1 R,R () s1->wpAny (model prog w) A (gv b) R E s1)
 {o:Obj}{es fs:Array (Int×Value)}{ep:Nat}{t u:SetTable}(ho:s.D.G a=some o)(hx:o.ExactSet)(hd:o.data=.set es ep t)
  {S:Int->Bool}(he:ElemsOf (intKind prog w) fs.l)(hm:∀z,S z=true↔∃y∈fs.l,(intKind prog w).is z y.2=true)(hb:fs.t<scanBound)(hf:u.fits fs.t=true)(hr:Qb u){dm:Bool}{R:Option Bool->Shared->Prop}
  (k:∀h',Heap.SameBut a s.D h'->SetR prog w h' a u.led S fs.t->R (some true) {s with heap:=h'}):
  wpAny (model prog w) A (do
   storeSet a fs u
   if (!dm&&u.tooFull)=true then do
    gv (relayAll u fs<|SetTable.grown fs.t).2.2
    storeSet a (relayAll u fs<|SetTable.grown fs.t).1 (relayAll u fs<|SetTable.grown fs.t).2.1
    pure (some true)
   else pure (some true)) R E s:=by
 let(h1,x1):=ZM3 ho hx hd fs u;let b1:=Kh s.D a (Obj.putSet fs u)
 show XU (wpAny_storeSet_of ho hd ?_<|fits_of_scanBound hb);cases c:(!dm&&u.tooFull)=true
 .rw[if_pos c];let p:=relayAll_perm u fs (SetTable.grown fs.t)
  let f:=relayAll_fits u fs (SetTable.grown fs.t);let(r,l):=Zj8 hr fs (SetTable.grown fs.t);generalize relayAll u fs (SetTable.grown fs.t)=r6 at p f r l ⊢;let(gs,v,gave):=r6;dsimp only at p f r l ⊢;let ez:gs.t=fs.t:=by rw[<-Ys,p.length_eq,Ys]
  let(h2,x2):=ZM3 h1 x1 Z gs v;show XU (hgv _ _ _<|XU<|wpAny_storeSet_of h1 Z (Yh ?_)<|fits_of_scanBound<|by rwa[ez]);show k _ (b1.m<|Kh _ a _) ⟨_,gs,_,v,h2,x2,Z,he.perm p,λz=>(hm z).m {λzz=>by let(y,hy,q):=zz;show{y,p.mem_iff.X hy,q},λzz=>by let(y,hy,q):=zz;exists y,p.mem_iff.H hy,q},by rw[ez];show hb,f,ez,r,l⟩
 .rw[if_neg c];show Yh (k _ b1 {_,fs,_,u,h1,x1,Z,he,hm,hb,hf,Z,hr,Z})
def kC{S:Int->Bool}{z:Int}{x:Value}{R:Bool->Shared->Prop}(hz:(intKind prog w).is z x=true)(Pq:x.scannable=true)(hS:SetR prog w s.D a led S n)(room:n+1<scanBound)
  (k:∀h',Heap.SameBut a s.D h'->SetR prog w h' a led (λy=>S y||decide (y=z)) (if S z then n else n+1)->R (!S z) {s with heap:=h'}):
  wpAny (model prog w) A (setAddHashed a x<|(intKind prog w).hash z) R E s:=by
 let(o,es,ep,t,ho,hx,hd,he,hm,hb,hf,hn,hr,hl):=hS;unfold setAddHashed setAddHashedIn;show Sd (XU<|Ft ho hd hf ?_);dsimp only;rw[if_pos (byScan_of Pq hb he)];unfold setAddByScan;show XU (XU<|Pw<|XU<|wpAny_setScan_of hz ho hd hf he ?_);cases hw:List.findIdx? (λy=>(intKind prog w).is z y.2) es.l with
 |some j=>
  let(j1,j2,_):=List.findIdx?_eq_some_iff_getElem.H hw;let yes:S z=true:=(hm z).X {es.l[j],II j1,j2}
  let fin:=k s.D (Heap.SameBut.refl a s.D) {o,es,ep,t,ho,hx,hd,he,λy=>by rw[sS,IK,<-hm y];show{λq=>q.elim id λq=>q▸yes,.inl},hb,hf,by rw[yes];show hn,hr,hl}
  rw[yes]at fin;dsimp only;show Yh (Yh fin)
 |none=>
  let no:S z=false:=Bool.eq_false_iff.X λq=>by
   let(y,hy,hp):=(hm z).H q
   have:=List.findIdx?_eq_none_iff.H hw y hy
   rw[hp]at this;cases this
  dsimp only;let p:=layNew_perm t es ((intKind prog w).hash z) x
  let f:=layNew_fits t es ((intKind prog w).hash z) x;let(r,l):=kE hr es ((intKind prog w).hash z) x;generalize layNew t es ((intKind prog w).hash z) x=r6 at p f r l ⊢;let(fs,u,dm,gave):=r6;dsimp only at p f r l ⊢;rw[RQ]at p;let ez:fs.t=n+1:=by rw[<-Ys,p.length_eq,Xy,Ys,hn];rfl
  let gw:∀(b:Bool){s1:Shared}{R':Unit->Shared->Prop},R' () s1->wpAny (model prog w) A (match b with|true=>rule "set.scan.the-table-gave-way" | false=>pure ()) R' E s1:=λb s1 R' q=>by
   cases b
   .show Yh q
   .show Pw q
  let fin:∀h',Heap.SameBut a s.D h'->SetR prog w h' a led (λy=>S y||decide (y=z)) fs.t->R true {s with heap:=h'}:=λh' q1 q2=>by let q:=k h' q1;rw[no]at q;rw[ez]at q2;show q q2
  let Av:=(he.push hz Pq).perm p;let TX:∀y,(S y||decide (y=z))=true↔∃v∈fs.l,(intKind prog w).is y v.2=true:=mem_push_iff hz hm p
  let vi:fs.t<scanBound:=J;show XU (gw _ ?_);let tail:∀v:SetTable,v.fits fs.t=true->Qb v->v.led=led->wpAny (model prog w) A (do
    storeSet a fs v
    if (!dm&&v.tooFull)=true then do
     (match (relayAll v fs<|SetTable.grown fs.t).2.2 with|true=>rule "set.scan.the-table-gave-way" | false=>pure ())
     storeSet a (relayAll v fs<|SetTable.grown fs.t).1 (relayAll v fs<|SetTable.grown fs.t).2.1
     pure (some true)
    else pure (some true)) (λy s1=>wpAny (model prog w) A (match y with|some added=>pure added|none=>setAddHashedIn a x ((intKind prog w).hash z) 99999) R E s1) E s:=λv a1 a2 a3=>
   kD (gv:=λb=>match b with|true=>rule "set.scan.the-table-gave-way" | false=>pure ()) (λb s1 R' q=>gw b q) ho hx hd Av TX vi a1 a2 λh' q1 q2=>Yh (fin h' q1<|a3▸q2)
  split
  .show XU ?_;rw[hashByValue_scannable 8 Pq];show Yh ?_;split
   .show tail u f r (l.m hl)
   .show tail _ (SetTable.fits_plain_off f) r (l.m hl)
  .show XU (Yh ?_);rw[if_pos Z];show tail u f r (l.m hl)
end
section
variable{prog:Program}{w:World}{A:Around}{R:Result->Shared->Prop}{I:Addr}{fp wr:List Addr}{G:Array GenState->Array GenState->Prop}{n:Nat}{P:Nat->Value->Prop}{St:Nat->Shared->Prop}
def Au(W:WalksS prog w A.in1 I fp wr G n P St)(b:Addr)(Ji:b∉fp)(val:Nat->Int)(hv:∀i v,P i v->∃t,v=.int (val i) t)(hn:n+1<scanBound):
  ∀k i s,n-i=k->i<=n->St i s->SetR prog w s.D b led (λz=>(firstMet val i).any (· == z)) (firstMet val i).f->
   (∀s',Moved (b::wr) G s s'->SetR prog w s'.D b led (λz=>(firstMet val n).any (· == z)) (firstMet val n).f->R (.ok<|.ret .none) s')->
   codeAny (model prog w) A (.builtin "set.update.loop" {[.ref b,.ref I],[]}) R s
 |0,i,s,hk,hi,st,hS,q=>by
  let e:i=n:=sD;subst e;show RP F.entry_set_update_loop ?_;rw[RM tE _];change wpAny _ A.in1 (pyNext ↑I >>= _) _ _ s
  show XU (W.done s _ _ st λs1 m=>?_);change wpAny _ A.in1 (ret Value.none) _ _ s1
  show Yh (q s1 (m.mono λc hc=>.tail _ hc)<|hS.at λo ho=>m.D b o (λhc=>Ji<|W.sub _ hc) ho)
 |k+1,i,s,hk,hi,st,hS,q=>by
  let Xm:i<n:=sD;show RP F.entry_set_update_loop ?_;rw[RM tE _];change wpAny _ A.in1 (pyNext ↑I >>= _) _ _ s
  show XU (W.item i s _ _ Xm st λv s1 hP RZ m=>?_);let(t,rfl):=hv i v hP;let Jq:=hS.at (h':=s1.D) λo ho=>m.D b o (λhc=>Ji<|W.sub _ hc) ho
  change wpAny _ A.in1 (holding [Value.int (val i) t] (setAdd b<|.int (val i) t) >>= _) _ _ s1;show XU (Sd ?_);unfold setAdd;show Sd (XU<|(intKind prog w).pyHash (k:=val i) (intKind_is _ _ _ _) ?_);let fm:=firstMet_length_le val i
  show kC (s:={s1 with toks:=s1.toks+1}) (intKind_is _ _ _ _) Z Jq J λh2 sb BW=>?_;let hS3:SetR prog w h2 b led (λz=>(firstMet val<|i+1).any (· == z)) (firstMet val<|i+1).f:=by
   let e1:(λz=>(firstMet val<|i+1).any (· == z))=λy=>((firstMet val i).any (· == y)||decide (y=val i)):=funext λy=>by rw[firstMet_succ,step_any]
   rwa[e1,firstMet_succ,step_length]
  let kept:∀c o,c≠b->s1.D.G c=some o->h2.G c=some o:=λc o hc e=>(sb.2 c hc).m e;show Yh {Me tE _,Au W b Ji val hv hn k (i+1) _ sD Xm (W.frame _ s1 _ _ RZ (Ue _) λc hc o e=>kept c o (λe'=>Ji<|e'▸hc) e) hS3 λs2 m2 kB=>?_};show q s2 (Moved.m W.gtrans ((m.mono λc hc=>.tail _ hc).then_heap (Ue _) λc o hc e=>kept c o (λe'=>hc<|e'▸.head _) e) m2) kB
end
section
variable{prog:Program}{w:World}{A:Around}{E:Ae}{s:Shared}
def Jh(w:World):(Obj):={cls:=.type "set",dict:=none,data:=.set #[] 0 (.fresh 0 0<|!w.params.followText "set-order")}
def As(a:Value){Q:Ae}(k:Q (.ref (~~~s)) {s with heap:=s.D.push (Jh w)}):
  codeAny (model prog w) A (.call (.builtin "set.__new__") {[.type "set",a],[]}) (wants Q E) s:=by
 show codeAny_of_tree ?_;change wpAny _ A.in1 (checkBuiltinCall "set.__new__" {[.type "set",a],[]} >>= λ_=>again<|.builtin "set.__new__" {[.type "set",a],[]}) _ _ s
 show XU (TH (F.newCall_set_1 a)<|Yh ⟨Me F.plain_set_new _,RP F.entry_set_new ?_⟩);rw[RM F.plain_set_new _];let AV:=sub_set_self
 unfold Builtin.«set.__new__» Builtin.Frozenset.newClass;let(hp,g,d,tk,os):=s;dsimp only
 wp_walk
 show Fq (Yh ?_);simp only[newObj];show XU (wpAny_alloc<|Yh<|Yh k)
def Zk8(e:h.G a=some (Jh w)):SetR prog w h a (!w.params.followText "set-order") (λz=>(firstMet (λ_=>0) 0).any (· == z)) 0:=by exists _,#[],0,_,e,⟨Z,Z,Z⟩,Z,λy hy=>(by cases hy),λz=>{λq=>(by cases q),λzz=>by let(y,hy,_):=zz;show(by cases hy)},su,by simp[SetTable.fits,SetTable.fresh,SetTable.fill],Z,.nil,Z
def ky{h0:Heap}{Q:Ae}(hh:A.handled=none)(KQ:h0.G b=some (Jh w))(hl:h0.IsList l items)(XJ:l≠b)(hi:IntsAre items.l ns)(hn:items.t+1<scanBound)
  (k:∀h' tk,SetR prog w h' b (!w.params.followText "set-order") (λz=>(firstMet (λi=>ns.S i 0) items.t).any (· == z)) (firstMet (λi=>ns.S i 0) items.t).f->(∀c o,c≠b->h0.G c=some o->h'.G c=some o)->Q .none {s with heap:=h',toks:=tk}):
  wpAny (model prog w) A.in1 (Builtin.«set.__init__» {[.ref b,.ref l],[]}) (λfin s'=>match fin with | .done f=>wants Q E (.ok f) s' | .again c'=>c'.quiet=true/\codeAny (model prog w) A c' (wants Q E) s') (λe s'=>wants Q E (.error e) s') {s with heap:=h0}:=by
 let hT:Shared.TypeIs {s with heap:=h0} ↑b "set":={_,KQ,Z};let NG:=hl
 let((ocls,odict,odata,ku),Pp,Te,nl,hdl):=hl;simp only at Te hdl;subst Te hdl;let q1:=F.sub_list_set
 let q2:=F.sub_list_frozenset;let q3:(Value.type "list" == Value.type "dict")=false:=su
 unfold Jh at KQ;unfold Builtin.«set.__init__» noKeywords Builtin.Frozenset.updateFrom;generalize hPI:pyIter=PI
 wp_walk
 subst hPI;show sR NG ?_;show XU (xt ?_);let kq:l<h0.objs.t:=Ym Pp
 let ltb:b<h0.objs.t:=Ym KQ;let bf:b∉[h0.objs.t,l]:=λq=>by
  rcases Yf.H q with e|e
  .show YA ltb e
  .show XJ (XD.H e).symm
 show Au ((Walks.list (A:=A.in1.in1) (by simp[hh]) _ l (YA kq) items).toS) b bf (led:=!w.params.followText "set-order") (λi=>ns.S i 0) (λi v hv=>IntsAre.int_at hi i v<|by rw[YH];show hv) hn (items.t-0) 0 _ J (Yi _)
  {{_,Yp _ Z,Z,Z},NG.push _} ?_ ?_
 .show Zk8 (Xf _ KQ)
 .rintro⟨h',g',d',tk',qQ⟩ m hS;let e1:g'=s.gens:=m.gens
  let e2:d'=s.drawn:=m.drawn;let e3:qQ=s.os:=m.os
  subst e1 e2 e3;change wpAny _ _ _ _ _ _
  show Yh ?_;change wpAny _ _ (ret Value.none) _ _ _
  show Yh (k h' tk' hS λc o hc e=>m.D c o (λq=>?_)<|Xf _ e);rcases Yf.H q with e'|e'
  .show hc e'
  .show YA (Ym e) (XD.H e')
set_option maxRecDepth 100000 in
set_option maxHeartbeats 3000000 in
def ko{Q:Ae}(hh:A.handled=none)(hl:s.D.IsList l items)(hi:IntsAre items.l ns)(hn:items.t+1<scanBound)
  (k:∀h' tk,SetR prog w h' (~~~s) (!w.params.followText "set-order") (λz=>(firstMet (λi=>ns.S i 0) items.t).any (· == z)) (firstMet (λi=>ns.S i 0) items.t).f->(∀c o,s.D.G c=some o->h'.G c=some o)->Q (.ref (~~~s)) {s with heap:=h',toks:=tk}):
  wpAny (model prog w) A (call (.type "set") [.ref l]) Q E s:=by
 let(c,tl,hmro):=SQ.mro;let a1:=SQ.made
 let a2:=SQ.sub;let a3:=SQ.notType
 let a4:=SQ.canCreate;let a5:=F.typeCall_set_1 ↑l
 show Fj (codeAny_of_tree ?_);change wpAny _ _ (callAny (.type "set") _) _ _ _
 show Yh {OP _ sC,RP F.entry_type_call ?_};rw[Around.under_plain (weight_type_call_type "set" [.ref l] []) Z]
 repeat any_goals first|assumption|wp_step
 show Mb (As ↑l (E:=E) (Q:=λob s1=>ob=.ref (~~~s)/\s1={s with heap:=s.D.push (Jh w)}) ⟨Z,Z⟩) λr s1 hr=>?_
 match r,hr with
 | .error e,hr=>show hr
 | .ok (.ret ob),hr=>
  let(rfl,rfl):=hr;let KQ:(s.D.push<|Jh w).G (~~~s)=some (Jh w):=Yp _ rfl
  let hT:Shared.TypeIs {s with heap:=s.D.push (Jh w)} (.ref (~~~s)) "set":={_,KQ,Z};let a6:=SQ.init.U
  let a7:=SQ.init.bind (.ref (~~~s))
  repeat any_goals first|assumption|wp_step
  let kq:l<(~~~s):=by let(_,e,_):=hl;show Ym e
  show Mb (xN (R:=wants (λr s2=>r=.none/\Q (.ref (~~~s)) s2) E) SQ.init.plain F.entry_set_init<|check_set_init_1 hT<|ky (A:=_) (s:=s) ?_ KQ (hl.push _) (YA kq) hi hn λh' tk hS kp=>{Z,k h' tk hS λc o e=>kp c o (YA<|Ym e)<|Xf _ e}) λr2 s2 Vr=>?_
  .simp[hh]
  .match r2,Vr with
   | .error e,Vr=>show Vr
   | .ok (.ret v),Vr=>
    let(rfl,q):=Vr
    repeat any_goals first|assumption|wp_step
end
def ZF6:Manifest.owners.U (String.ofList ['r','o','t','a','r','e','t','i','_','t','e','s'].reverse)=some Manifest.sig_set_iterator:=by kernel_rfl
def WX:PySem.Slot "set_iterator" "__next__" "set_iterator.__next__":=
 .of (owner:="set_iterator") (n:="__next__") (by rw[QK,Fv];kernel_rfl) sC sC sC
  (by first|show .inl sC|show .inr sC) (by rw[xq];kernel_rfl)
def vh:entryFor table "set_iterator.__next__"=some Builtin.«set_iterator.__next__»:=entryFor_of_tree sF
def vg(a:Value):argsOk "set_iterator.__next__" {[a],[]}:=by unfold argsOk;rw[signature?_of (id:="set_iterator.__next__") (n:=['_','_','t','x','e','n','_','_']) (o:=['r','o','t','a','r','e','t','i','_','t','e','s']) sF ZF6];kernel_rfl
def Zi9:PySem.Slot "set_iterator" "__iter__" "set_iterator.__iter__":=
 .of (owner:="set_iterator") (n:="__iter__") (by rw[QK,Fv];kernel_rfl) sC sC sC
  (by first|show .inl sC|show .inr sC) (by rw[xq];kernel_rfl)
def km(a:Value):argsOk "set_iterator.__iter__" {[a],[]}:=by unfold argsOk;rw[signature?_of (id:="set_iterator.__iter__") (n:=['_','_','r','e','t','i','_','_']) (o:=['r','o','t','a','r','e','t','i','_','t','e','s']) sF ZF6];kernel_rfl
def kj:entryFor table "set_iterator.__iter__"=some Builtin.«dict_keyiterator.__iter__»:=
 entryFor_alias (id':="dict_keyiterator.__iter__") sF (by first|rfl|decide +kernel|(unfold String.splitOn;simp +decide [String.splitOnAux])) sC sF
def ki:Manifest.owners.U (String.ofList ['t','e','s'].reverse)=some Manifest.sig_set:=by kernel_rfl
def Zf9:PySem.Slot "set" "__iter__" "set.__iter__":=
 .of (owner:="set") (n:="__iter__") (by rw[QK,Fv];kernel_rfl) sC sC sC
  (by first|show .inl sC|show .inr sC) (by rw[xq];kernel_rfl)
def kh(a:Value):argsOk "set.__iter__" {[a],[]}:=by unfold argsOk;rw[signature?_of (id:="set.__iter__") (n:=['_','_','r','e','t','i','_','_']) (o:=['t','e','s']) sF ki];kernel_rfl
def kg:entryFor table "set.__iter__"=some Builtin.«frozenset.__iter__»:=
 entryFor_alias (id':="frozenset.__iter__") sF (by first|rfl|decide +kernel|(unfold String.splitOn;simp +decide [String.splitOnAux])) sC sF
def IsSi(h:Heap)(I a:Addr)(f:Value)(i n ep:Nat):(Prop):=∃o,h.G I=some o/\o.cls=.type "set_iterator"/\o.data=.fields #[f,rawInt (i:Int),.ref a,rawInt (n:Int),rawInt (ep:Int)]
def IsSi.ty{s:Shared}(x:IsSi s.D I a f i n ep):s.TypeIs ↑I "set_iterator":=by let(o,p,q,_):=x;exists o,p,q
def IsSi.keep(x:IsSi h I a f i n ep)(e:∀o,h.G I=some o->h'.G I=some o):IsSi h' I a f i n ep:=by let(o,p,q):=x;exists o,e _ p,q
def SetIs(h:Heap)(a:Addr)(es:Array (Int×Value))(ep:Nat)(t:SetTable):(Prop):=∃o,h.G a=some o/\o.ExactSet/\o.data=.set es ep t
def SetIs.keep(x:SetIs h a es ep t)(e:∀o,h.G a=some o->h'.G a=some o):SetIs h' a es ep t:=by let(o,p,q):=x;exists o,e _ p,q
section
variable{prog:Program}{w:World}{A:Around}{E:Ae}{s:Shared}
def ZX7{Q:Nat->Shared->Prop}(hn:n≠0)(k:∀i,i<n->∀d,Q i {s with drawn:=d}):wpAny M A (choose src n) Q E s:=
 λΓ p _=>{hn,k _ (Nat.mod_lt _<|Nat.pos_of_ne_zero hn) _}
def kf{α:Type}:∀{l:List α}{i:Nat}{y:α},l[i]?=some y->(y::l.eraseIdx i).Perm l
 |[],_,_,h=>by simp at h
 |x::l,0,y,h=>by let rfl:x=y:=Yk h;show .rfl
 |x::l,i+1,y,h=>(List.Perm.swap x y<|l.eraseIdx i).m ((kf (l:=l) (i:=i) h).cons x)
def ZB7{α:Type}:∀(n:Nat)(xs:List α)(s:Shared)(Q:List α->Shared->Prop),n=xs.f->(∀ys d,ys.Perm xs->Q ys {s with drawn:=d})->wpAny M A (drawOrder n xs) Q E s
 |0,xs,s,Q,h,k=>by let e:xs=[]:=YW.H h.symm;subst e;show Yh (k [] s.drawn .rfl)
 |n+1,[],s,Q,h,k=>by cases h
 |n+1,x::xs,s,Q,h,k=>by change wpAny M A (choose .order (x::xs).f >>= _) Q E s;show XU (ZX7 B λi hi d=>?_);obtain⟨y,hy⟩:∃y,(x::xs)[i]?=some y:={_,Xp hi};rw[hy];dsimp only;show XU (ZB7 n ((x::xs).eraseIdx i) _ _ (by rw[t8 hi];lia) λys d' hp=>Yh<|k (y::ys) d' ?_);show(hp.cons y).m (kf hy)
def Ar{α:Type}{f:Nat->Nat}:∀(n k:Nat)(l:List α)(out:Array α),n=l.f->(pickOrder.go f n k l out).l.Perm (out.l++l)
 |0,k,l,out,h=>by rw[YW.H h.symm,YB];show .rfl
 |n+1,k,l,out,h=>by let hi:f k%l.f<l.f:=Nat.mod_lt _ J;obtain⟨y,hy⟩:∃y,l[f k%l.f]?=some y:={_,Xp hi};unfold pickOrder.go;rw[hy];dsimp only;show(Ar n (k+1) _ _<|by rw[t8 hi];lia).m ?_;rw[RQ,Yu];show MZ _ ?_;show kf hy
def Zh9{Q:Ae}(hr:IsSi s.D I a f i n ep)(h:Q ↑I s):wpAny (model prog w) A (pyIter ↑I) Q E s:=by
 show wpAny_pyIter_slot hr.ty Zi9 (TK Zi9 hr.ty kj ?_<|km _);change wpAny _ _ (ret<|.ref I) _ _ s
 show Yh {_,Z,"set_iterator",_,hr.ty,WX.U,h}
def EC(prog:Program)(w:World)(a:Addr)(es:Array (Int×Value))(ep:Nat)(t:SetTable)(ord:Ag)(sl:Nat->Nat):(Prop):=
 ∀A E s i Q,SetIs s.D a es ep t->i<=ord.f->Q ((ord[i]?).R λx=>(x,sl<|i+1)) s->wpAny (model prog w) A (setNext a (sl i) i ep) Q E s
def j9{sl:Nat->Nat}{i:Nat}{x:Value}{Q:Option Value->Shared->Prop}(hN:EC prog w a es ep t ord sl)(hS:SetIs s.D a es ep t)(hf:t.fits es.t=true)(hi:IsSi s.D I a (rawInt (sl i:Nat)) i es.t ep)(hx:ord[i]?=some x)
  (k:∀h',IsSi h' I a (rawInt (sl (i+1):Nat)) (i+1) es.t ep->Heap.SameBut I s.D h'->Q (some x) {s with heap:=h'}):wpAny (model prog w) A (pyNext<|.ref I) Q E s:=by
 let(o,ho,hc,hd):=id hi;let(oa,Jg,j8,Qa):=id hS;unfold pyNext;show XU (Fm<|LZ (name:=Str.ofString "__next__") hi.ty WX<|TK WX hi.ty vh ?_<|vg _);unfold Builtin.«set_iterator.__next__»;show XU (TH (a:=(Value.ref I,[])) Z ?_);dsimp only;show XU (xr ho hd ?_);dsimp only[rawInt];show XU (DY Jg Qa hf ?_);rw[if_neg B];rw[YL,YL,YL];show XU (hN _ _ s i _ hS (MQ (XA.H hx).1) ?_);rw[hx];dsimp only[Option.map_some];show XU (Fp ho hd B ?_);let Th:=OZ (Obj.mapFields λvs=>vs.setIfInBounds 0<|rawInt (sl (i+1):Nat)) ho (xP<|MX hd _)
 show XU (Fp Th (MX hd _) B ?_);show Yh {x,Z,Yh<|k _ ⟨_,OZ _ Th<|xP<|MX (MX hd _) _,?_,?_⟩<|(Kh ..).m (Kh ..)}
 .rw[Io,Io];show hc
 .rw[MX (MX hd _)];simp;rfl
def j7{sl:Nat->Nat}{Q:Option Value->Shared->Prop}(hh:A.handled=none)(hN:EC prog w a es ep t ord sl)(hS:SetIs s.D a es ep t)(hf:t.fits es.t=true)(hi:IsSi s.D I a (rawInt (sl ord.f:Nat)) ord.f es.t ep)
  (k:∀h',Heap.ExtBut I s.D h'->Q none {s with heap:=h'}):wpAny (model prog w) A (pyNext<|.ref I) Q E s:=by
 let(o,ho,hc,hd):=id hi;let(oa,Jg,j8,Qa):=id hS;unfold pyNext;show XU (Fm<|LZ (name:=Str.ofString "__next__") hi.ty WX<|TK WX hi.ty vh ?_<|vg _);unfold Builtin.«set_iterator.__next__»;show XU (TH (a:=(Value.ref I,[])) Z ?_);dsimp only;show XU (xr ho hd ?_);dsimp only[rawInt];show XU (DY Jg Qa hf ?_);rw[if_neg B];rw[YL,YL,YL];show XU (hN _ _ s ord.f _ hS (XI _) ?_);rw[VD (XI _)];dsimp only[Option.map_none];show XU (Fp ho hd B ?_);change wpAny _ _ (newExc (.type "StopIteration") [] >>= _) _ _ _
 show XU ?_;simp only[newExc,newTuple];show XU (Mh ?_<|by size_fits);show XU (m:=firstArgMember _ _) (TH (a:=Value.none) (by first|rfl|(simp only[firstArgMember];rfl)) ?_)
 show Mh ?_ (by size_fits);simp only[raiseNew];show XU (wpAny_handled ?_);rw[show A.in1.handled=none from hh];show XU (Yh<|wpAny_throw ?_);show XU (LU (T:="StopIteration") (b:=true) {_,Yp _ Z,Z} isSubtype_stop ?_);show Yh (k _<|(((Kh ..).extBut).push _).push _)
def j6{sl:Nat->Nat}(hh:A.handled=none)(hN:EC prog w a es ep t ord sl)(hf:t.fits es.t=true)(XJ:a≠I):
  Walks prog w A I [I,a] [I] ord.f (λi v=>ord[i]?=some v) (λi h=>i<=ord.f/\IsSi h I a (rawInt (sl i:Nat)) i es.t ep/\SetIs h a es ep t) where
 sub:=λb hb=>Yf.X (.inl<|XD.H hb)
 frame:=λ_ _ _ x hk=>{x.1,x.2.1.keep λo e=>hk I B o e,x.2.2.keep λo e=>hk a B o e}
 item:=λi s Q E hi ⟨_,x1,x2⟩ hQ=>by let hx:ord[i]?=some (ord[i]'hi):=Xp hi;show j9 hN x2 hf x1 hx λh' y hs=>hQ _ h' s.toks hx {hi,y,x2.keep λo e=>(hs.2 a XJ).m e} λb o hb eo=>hs.extBut b o (λe=>hb<|by simp[e]) eo
 done:=λs Q E zz hQ=>by let(_,x1,x2):=zz;show j7 hh hN x2 hf x1 λh' he=>hQ h' s.toks λb o hb eo=>he b o (λe=>hb<|by simp[e]) eo
 self:=λ_ _ _ _ x hQ=>Zh9 x.2.1 hQ
def j5(hf:t.fits es.t=true)(hr:Qb t)(hb:w.params.followText "set-order"=false)(hl:t.led=true)(hd:(!t.plain&&decide (es.t>1))=false):
  EC prog w a es ep t (es.l.R (·.2)) (λi=>if i=0 then 0 else (t.place.S (i-1) 0)+1):=by
 intro A E s i Q ⟨o,ho,hx,Qa⟩ hi q;let hps:t.place.t=es.t:=by unfold SetTable.fits at hf;simp only[Kf,RL]at hf;show hf.1
 rw[Yb,Ys]at hi;unfold setNext;show XU (Ft ho Qa hf ?_);dsimp only;show XU ?_;unfold setsByText;show XU (Fq<|Yh ?_);change wpAny _ _ (if (w.params.followText "set-order")=true then _ else _) _ _ _
 rw[if_neg (by rw[hb];decide)];change wpAny _ _ (if (!t.plain&&decide (es.t>1))=true then _ else _) _ _ _
 rw[if_neg (by rw[hd];decide)];show XU ?_;change wpAny _ _ (if (!t.led && !es.isEmpty)=true then _ else _) _ _ _
 rw[if_neg (by rw[hl];simp)];show Yh ?_;let eb:SetTable.below t.place (if i=0 then 0 else (t.place.S (i-1) 0)+1)=i:=by
  cases c:i=0
  .rw[if_pos c,c];show kH hr
  .rw[if_neg c];obtain⟨v,hv⟩:∃v,t.place[i-1]?=some v:={_,YO J};let e:t.place.S (i-1) 0=v:=by rw[Yy,hv];rfl
   rw[e,kI hr hv];lia
 rw[eb];show Yh ?_;cases c:i<es.t
 .obtain⟨v,hv⟩:∃v,t.place[i]?=some v:={_,YO J};obtain⟨y,hy⟩:∃y,es[i]?=some y:={_,YO c};let e:t.place.S i 0=v:=by rw[Yy,hv];rfl
  rw[Yw,YH,hy]at q;rw[hv,hy];simp only[DT,tJ,e,if_neg (Nat.succ_ne_zero i)]at q;show q
 .let e1:es[i]?=none:=xQ J;rw[Yw,YH,e1]at q;rwa[e1]
def Zr8(hf:t.fits es.t=true)(hb:w.params.followText "set-order"=true):
  EC prog w a es ep t ((pickOrder (w.params.setOrder a ep) es).l.R (·.2)) (λ_=>0):=by
 intro A E s i Q ⟨o,ho,hx,Qa⟩ hi q;unfold setNext;show XU (Ft ho Qa hf ?_);dsimp only;show XU ?_;unfold setsByText;show XU (Fq<|Yh ?_);change wpAny _ _ (if (w.params.followText "set-order")=true then _ else _) _ _ _
 rw[if_pos hb,if_neg B];show XU ?_;unfold setWalk;show XU (Ft ho Qa hf ?_);dsimp only;show XU ?_;unfold setsByText;show XU (Fq<|Yh ?_);change wpAny _ _ (if (w.params.followText "set-order")=true then _ else _) _ _ _
 rw[if_pos hb];show XU (Fq<|Yh ?_);rw[Yw,YH,Option.map_map]at q;show Yh q
def IsPl(h:Heap)(b:Addr)(pl:List Nat):(Prop):=∃o n,h.G b=some o/\o.data=.seq (pl.R λ(i:Nat)=>rawInt (i:Int)).C n
def IsPl.keep(x:IsPl h b pl)(e:∀o,h.G b=some o->h'.G b=some o):IsPl h' b pl:=by let(o,n,p,q):=x;exists o,n,e _ p,q
def j4{i j:Nat}{x:Int×Value}{Q:Option Value->Shared->Prop}(hS:SetIs s.D a es ep t)(hf:t.fits es.t=true)(hi:IsSi s.D I a ↑b i es.t ep)(hb:IsPl s.D b pl)(hj:pl[i]?=some j)(hx:es[j]?=some x)
  (k:∀h',IsSi h' I a ↑b (i+1) es.t ep->Heap.SameBut I s.D h'->Q (some x.2) {s with heap:=h'}):wpAny (model prog w) A (pyNext<|.ref I) Q E s:=by
 let(o,ho,hc,hd):=id hi;let(oa,Jg,j8,Qa):=id hS;let(ob,nb,Qr,Tz):=hb;unfold pyNext;show XU (Fm<|LZ (name:=Str.ofString "__next__") hi.ty WX<|TK WX hi.ty vh ?_<|vg _);unfold Builtin.«set_iterator.__next__»;show XU (TH (a:=(Value.ref I,[])) Z ?_);dsimp only;show XU (xr ho hd ?_);dsimp only[rawInt];show XU (DY Jg Qa hf ?_);rw[if_neg B];show XU (IC Qr Tz ?_);dsimp only;let e:(pl.R λ(i:Nat)=>rawInt (i:Int)).C[(i:Int).j]?=some (.int (j:Int) 0):=by rw[YL,dR,Yw,hj];rfl
 rw[e];dsimp only;rw[YL,YL];show XU ?_;unfold setNextDrawn;show XU (Ft Jg Qa hf ?_);dsimp only;rw[if_neg B,hx];show Yh ?_;show XU (Fp ho hd B ?_);show Yh {x.2,Z,Yh<|k _ ⟨_,OZ _ ho<|xP<|MX hd _,?_,?_⟩<|Kh ..}
 .rw[Io];show hc
 .rw[MX hd];simp;rfl
def j0{Q:Option Value->Shared->Prop}(hh:A.handled=none)(hS:SetIs s.D a es ep t)(hf:t.fits es.t=true)(hi:IsSi s.D I a ↑b pl.f es.t ep)(hb:IsPl s.D b pl)
  (k:∀h',Heap.ExtBut I s.D h'->Q none {s with heap:=h'}):wpAny (model prog w) A (pyNext<|.ref I) Q E s:=by
 let(o,ho,hc,hd):=id hi;let(oa,Jg,j8,Qa):=id hS;let(ob,nb,Qr,Tz):=hb;unfold pyNext;show XU (Fm<|LZ (name:=Str.ofString "__next__") hi.ty WX<|TK WX hi.ty vh ?_<|vg _);unfold Builtin.«set_iterator.__next__»;show XU (TH (a:=(Value.ref I,[])) Z ?_);dsimp only;show XU (xr ho hd ?_);dsimp only[rawInt];show XU (DY Jg Qa hf ?_);rw[if_neg B];show XU (IC Qr Tz ?_);dsimp only;let e:(pl.R λ(i:Nat)=>rawInt (i:Int)).C[(pl.f:Int).j]?=none:=by rw[YL,dR];show VD B
 rw[e];dsimp only;show XU (Fp ho hd B ?_);let Th:=OZ (Obj.mapFields λvs=>vs.setIfInBounds 0<|rawInt 0) ho (xP<|MX hd _)
 show XU (Fp Th (MX hd _) B ?_);change wpAny _ _ (newExc (.type "StopIteration") [] >>= _) _ _ _
 show XU ?_;simp only[newExc,newTuple];show XU (Mh ?_<|by size_fits);show XU (m:=firstArgMember _ _) (TH (a:=Value.none) (by first|rfl|(simp only[firstArgMember];rfl)) ?_)
 show Mh ?_ (by size_fits);simp only[raiseNew];show XU (wpAny_handled ?_);rw[show A.in1.handled=none from hh];show XU (Yh<|wpAny_throw ?_);show XU (LU (T:="StopIteration") (b:=true) {_,Yp _ Z,Z} isSubtype_stop ?_);show Yh (k _<|((((Kh ..).m (Kh ..)).extBut).push _).push _)
def jZ(hh:A.handled=none)(hp:pl.Perm (List.range es.t))(hf:t.fits es.t=true)(XJ:a≠I)(Lc:b≠I):
  Walks prog w A I [I,a,b] [I] pl.f (λi v=>(pl.filterMap λj=>(es[j]?).R (·.2))[i]?=some v) (λi h=>i<=pl.f/\IsSi h I a ↑b i es.t ep/\SetIs h a es ep t/\IsPl h b pl) where
 sub:=λc hc=>Yf.X (.inl<|XD.H hc)
 frame:=λ_ _ _ x hk=>{x.1,x.2.1.keep λo e=>hk I B o e,x.2.2.1.keep λo e=>hk a B o e,x.2.2.2.keep λo e=>hk b B o e}
 item:=λi s Q E hi ⟨_,x1,x2,x3⟩ hQ=>by
  let hj:pl[i]?=some (pl[i]'hi):=Xp hi;let Xm:=YV.H (hp.mem_iff.H<|WT hj)
  let hx:es[pl[i]'hi]?=some (es[pl[i]'hi]'Xm):=YO Xm;let fm:∀(l:List Nat),(∀j∈l,j<es.t)->l.filterMap (λj=>(es[j]?).R (·.2))=l.R λj=>(es.S j (0,.none)).2:=λl hl=>by
   induction l with
   |nil=>rfl
   |cons y l ih=>
    let hy:=hl y Ye;rw[DZ,TM,ih λj h=>hl j<|Yg _ h,YO hy,Yy,YO hy];rfl
  let hv:(pl.filterMap λj=>(es[j]?).R (·.2))[i]?=some (es[pl[i]'hi]'Xm).2:=by rw[fm pl λj hj=>YV.H<|hp.mem_iff.H hj,Yw,hj,DT,Yy,hx];rfl
  show j4 x2 hf x1 x3 hj hx λh' y hs=>hQ _ h' s.toks hv {hi,y,x2.keep λo e=>(hs.2 a XJ).m e,x3.keep λo e=>(hs.2 b Lc).m e} λc o hc eo=>hs.extBut c o (λe=>hc<|by simp[e]) eo
 done:=λs Q E zz hQ=>by let(_,x1,x2,x3):=zz;show j0 hh x2 hf x1 x3 λh' he=>hQ h' s.toks λc o hc eo=>he c o (λe=>hc<|by simp[e]) eo
 self:=λ_ _ _ _ x hQ=>Zh9 x.2.1 hQ
end
section
variable{prog:Program}{w:World}{A sj:Around}{E:Ae}{s:Shared}
def SetIs.ty(x:SetIs s.D a es ep t):s.TypeIs ↑a "set":=by let(o,p,q,_):=x;exists o,p,q.1
def jY{Q:Ae}(hh:A.handled=none)(hS:SetIs s.D a es ep t)(hf:t.fits es.t=true)(hr:Qb t)(hl:t.led=!w.params.followText "set-order")(hz:es.t<=sizeLine)
  (k:∀(I:Addr)(h':Heap) d (ord:Ag) (fp:List Addr) (St:Nat->Heap->Prop),ord.Perm (es.l.R (·.2))->Walks prog w A I fp [I] ord.f (λi v=>ord[i]?=some v) St->St 0 h'->(∀b∈fp,b<h'.objs.t/\(b=a\/(~~~s)<=b))->I∈fp->(~~~s)<=I->(∀c o,s.D.G c=some o->h'.G c=some o)->Q ↑I {s with heap:=h',drawn:=d}):
  wpAny (model prog w) sj (pyIter<|.ref a) Q E s:=by
 let(o,ho,hx,hd):=id hS;let Jf:a<(~~~s):=Ym ho
 show wpAny_pyIter_slot hS.ty Zf9 (TK Zf9 hS.ty kg ?_<|kh _);unfold Builtin.«frozenset.__iter__»;show XU (TH (a:=a) rfl ?_);show XU ?_;unfold Builtin.Frozenset.sizeOf;show XU (DY ho hd hf<|Yh ?_);show XU ?_;unfold setDrawn;show XU (Ft ho hd hf ?_);dsimp only;show XU ?_;unfold setsByText;show XU (Fq<|Yh<|Yh ?_);let num:∀ord sl,sl 0=0->EC prog w a es ep t ord sl->ord.Perm (es.l.R (·.2))->wpAny (model prog w) sj.in1 (pure (rawInt 0) >>= λfirst=>setEpoch a >>= λe=>newFields "set_iterator" [first,rawInt 0,.ref a,rawInt (es.t:Int),rawInt (e:Int)] >>= λit=>ret it)
   (λfin s'=>∃v,fin=Fin.done (Flow.ret v)/\∃T' r,s'.TypeIs v T'/\typeLookup (Value.type T') (Str.ofString "__next__")=pure (some r)/\Q v s') E s:=λord sl h0 hN hp=>by
  show XU (Yh<|XU<|wpAny_setEpoch_of ho hd hf<|XU ?_);unfold newFields;show Mh ?_ (by size_fits);let hI:IsSi (s.D.push {cls:=.type "set_iterator",data:=.fields [rawInt 0,rawInt 0,.ref a,rawInt (es.t:Int),rawInt (ep:Int)].C}) (~~~s) a (rawInt (sl 0:Nat)) 0 es.t ep:={_,Yp _ Z,Z,by rw[h0];rfl}
  show Yh {_,Z,"set_iterator",_,IsSi.ty (s:={s with heap:=_}) hI,WX.U,?_};let ne:a≠(~~~s):=YA Jf
  show k _ _ s.drawn ord _ _ hp (j6 hh hN hf ne) {Yi _,hI,hS.keep λo e=>Xf _ e} (λb hb=>?_) B (XI _) λc o e=>Xf _ e;rw[Mg];rcases Yf.H hb with e|e
  .rw[e];exists MU _,.inr<|XI _
  .rw[XD.H e];exists IJ Jf,.inl Z
 cases hb:w.params.followText "set-order"=true
 .rw [if_neg (by change ¬(!w.params.followText "set-order" && _)=true;rw[hb];simp)];show num _ (λ_=>0) Z (Zr8 hf hb) ?_
  have:=Ar (f:=w.params.setOrder a ep) es.t 0 es.l #[] (by rw[Ys])
  show this.R _
 .let Ow:w.params.followText "set-order"=false:=by simpa using hb
  rw[Ow]at hl;cases c:(!t.plain&&decide (es.t>1))=true
  .rw [if_pos (by change(!w.params.followText "set-order" && (!t.plain&&decide (es.t>1)))=true;rw[Ow,c];rfl)];show XU (ZB7 es.t (List.range es.t) s _ (by rw[MW]) λpl d hp=>?_);let UX:pl.f=es.t:=by rw[hp.length_eq,MW]
   show XU (wpAny_newTuple ?_<|by rwa[Yb,UX]);let hoS:∀(h:Heap) o,h.G a=some o->(h.push {cls:=.type "tuple",data:=.seq (List.R (λi=>rawInt ((i:Nat):Int)) pl).C}).G a=some o:=λh o e=>Xf _ e
   show XU (wpAny_setEpoch_of (hoS s.D o ho) hd hf<|XU ?_);unfold newFields;show Mh ?_ (by size_fits);let ne:a≠(~~~s):=YA Jf
   generalize BK:s.D.push {cls:=.type "tuple",data:=.seq (List.R (λi=>rawInt ((i:Nat):Int)) pl).C}=h1;let s1:h1.objs.t=(~~~s)+1:=by rw[<-BK];show Mg ..
   let Aq:∀c o,s.D.G c=some o->h1.G c=some o:=λc o e=>by rw[<-BK];show Xf _ e
   let KP:IsPl h1 (~~~s) pl:=by rw[<-BK];exists _,0,Yp _ Z,Z
   let hI:IsSi (h1.push {cls:=.type "set_iterator",data:=.fields [Value.ref (~~~s),rawInt 0,.ref a,rawInt (es.t:Int),rawInt (ep:Int)].C}) h1.objs.t a (.ref (~~~s)) 0 es.t ep:={_,Yp _ Z,Z,Z};show Yh {_,Z,"set_iterator",_,IsSi.ty (s:={s with heap:=_,drawn:=d}) hI,WX.U,?_};let NF:(pl.filterMap λj=>(es[j]?).R (·.2)).Perm (es.l.R (·.2)):=by show(hp.filterMap _).m ?_;rw[<-filterMap_getElem?_range es,List.map_filterMap]
   let Pp:(pl.filterMap λj=>(es[j]?).R (·.2)).f=pl.f:=by rw[NF.length_eq,Yb,Ys,UX]
   let W:=jZ (prog:=prog) (w:=w) (A:=A) (I:=h1.objs.t) (a:=a) (b:=(~~~s)) (es:=es) (ep:=ep) (t:=t) hh hp hf (by rw[s1];show YA<|IJ Jf) (by rw[s1];show YA<|MU _);rw[<-Pp]at W;show k _ _ d _ _ _ NF W {Yi _,hI,hS.keep λo e=>Xf _<|Aq _ o e,KP.keep λo e=>Xf _ e} (λb hb=>?_) B (by rw[s1];show Ue _) λc o e=>Xf _ (Aq c o e);rw[Mg,s1];rcases Yf.H hb with e|e
   .rw[e,s1];exists MU _,.inr<|Ue _
   .rcases Yf.H e with e|e
    .rw[e];exists IJ<|IJ Jf,.inl Z
    .rw[XD.H e];exists IJ<|MU _,.inr<|XI _
  .let c':(!t.plain&&decide (es.t>1))=false:=by simpa using c
   rw[if_neg (by change ¬(!w.params.followText "set-order" && (!t.plain&&decide (es.t>1)))=true;rw[c'];simp)];show num _ _ Z (j5 hf hr Ow hl c') .rfl
end
def jX:typeLookup (.type "set") "__len__"=pure (some (.builtin "set.__len__")):=by rw[QK,Fv];kernel_rfl
section
variable{prog:Program}{w:World}{A:Around}{E:Ae}{s:Shared}
def jW{r:Addr}{Q:Bool->Shared->Prop}(hT:s.TypeIs ↑r "set")(h:Q false s):wpAny (model prog w) A (Builtin.List.listLengthHint ↑r) Q E s:=by
 unfold Builtin.List.listLengthHint;show XU (wpAny_specialOf hT jX ?_);generalize BX:("set.__len__":String)=oB
 wp_delta
 rw[show splitId oB=some ("set","__len__") from by subst BX;decide +kernel];subst BX;show XU (LU (T:="set") (b:=true) hT sub_set_self ?_);change wpAny _ A (typeOf (Value.ref r) >>= _) _ _ _
 show XU (DK (T:="set") hT<|Yh h)
def Za6{Q:List Value->Shared->Prop}(hh:A.handled=none)(hS:SetIs s.D a es ep t)(hf:t.fits es.t=true)(hr:Qb t)(hl:t.led=!w.params.followText "set-order")(hz:es.t<=sizeLine)
  (k:∀(out:Ag) h' tk d,out.Perm (es.l.R (·.2))->(~~~s)<=h'.objs.t->(∀c o,s.D.G c=some o->h'.G c=some o)->Q out {s with heap:=h',toks:=tk,drawn:=d}):wpAny (model prog w) A (collect<|.ref a) Q E s:=by
 let Hj:(s.D.push<|seqObj "list" #[] 0).G (~~~s)=some (seqObj "list" #[] 0):=Yp _ rfl;let Jq:SetIs (s.D.push<|seqObj "list" #[] 0) a es ep t:=hS.keep λo e=>Xf _ e
 let Jf:a<(~~~s):=by let(_,e,_):=hS;show Ym e
 unfold collect;show XU (xt<|RP sP ?_);change wpAny _ _ (newList [] >>= λv=>again<|.builtin "list.__iadd__" {[v,.ref a],[]}) _ _ s
 show XU (Mf<|Yh ⟨OP _ sC,RP entry_list_iadd' ?_⟩);change wpAny _ _ (Builtin.List.listExtendWith (.ref (~~~s)) ↑a<|.ref (~~~s)) _ _ {s with heap:=s.D.push (seqObj "list" #[] 0)}
 unfold Builtin.List.listExtendWith;show XU (DK (T:="set") (SetIs.ty (s:={s with heap:=s.D.push (seqObj "list" #[] 0)}) Jq) ?_);let e1:Builtin.List.listSameRef (.ref (~~~s)) ↑a=false:=by change((~~~s) == a)=false;show tm (Vp Jf)
 rw[if_neg (by rw[e1];decide)];show XU (jY (A:=A.in1) (by simp[hh]) Jq hf hr hl hz λI h' d ord fp St NF W EV vf hI Rf kp=>?_);let hT':Shared.TypeIs {s with heap:=h',drawn:=d} ↑a "set":=SetIs.ty (s:={s with heap:=h',drawn:=d}) (Jq.keep λo e=>kp a o e)
 show XU (Sd<|jW hT' ?_);rw[if_pos sC];let hL2:=kp _ _ Hj
 show XU (Pw<|XU ?_);unfold Builtin.List.listTouch;show XU (MP (xs:=#[]) (n:=0) hL2 Z ?_ (Yi _)<|by change 1<=sizeLine+1;lia);let hL3:=OZ (Obj.mapSeq (·.push Value.none)) hL2 rfl
 show MP (xs:=#[].push Value.none) (n:=1) hL3 Z ?_ (by change 1<=sizeLine;decide) (by change 0<=sizeLine+1;lia);let hL4:=OZ (Obj.mapSeq Array.pop) hL3 rfl
 let old:∀c o,c≠(~~~s)->h'.G c=some o->((h'.update (~~~s) (Obj.mapSeq (·.push Value.none))).update (~~~s) (Obj.mapSeq Array.pop)).G c=some o:=λc o hc e=>by rwa[YU _ _ (Xb hc),YU _ _ (Xb hc)]
 generalize (h'.update (~~~s) (Obj.mapSeq (·.push Value.none))).update (~~~s) (Obj.mapSeq Array.pop)=h4 at *;let RD:(~~~s)∉fp:=λq=>by
  rcases(vf _ q).2 with e|e
  .show Vp Jf e
  .rw [show({s with heap:=s.D.push (seqObj "list" #[] 0)}:Shared).D.objs.t=(~~~s)+1 from Mg ..] at e;show Nat.not_succ_le_self _ e
 let jV:ord.f=es.t:=by rw[NF.length_eq,Yb,Ys]
 show Yh {Me eO _,codeAny_extend_loopS W.toS (by rwa[jV]) (~~~s) RD _ ord.f 0 _ #[] _ Z (Yi _) (W.frame 0 _ _ EV λb hb o e=>old b o (λq=>RD<|q▸hb) e) hL4 (ItemsOf.nil _) λs2 acc c m hL5 Vz=>?_};let eo:acc.l=ord:=by
  show MV λi=>?_;rw[YH];cases hi:i<ord.f
  .let q:acc[i]?=some (acc[i]'(by rwa[Vz.1])):=YO _;rw[q,Vz.2 i _ q]
  .rw[VD sD,xQ (by rw[Vz.1];omega)]
 change wpAny _ A (load (~~~s) >>= _) Q E s2;show XU (DD hL5 ?_);show Yh ?_;rw[eo,Moved.eq_with m];show k ord s2.D s2.toks d NF (MQ<|Ym hL5) λc o e=>?_;let lt:=Ym e
 show m.D c o (λq=>?_) (old c o (YA lt)<|kp c o<|Xf _ e);rcases Yf.H q with e'|e'
 .show YA lt e'
 .rw[XD.H e']at lt
  have:=Yq lt (Yj (Ue _)<|Mg .. ▸ Rf)
  show QL _ this
end
def Ap:∀{l:Ac},m.Nodup->l.f=m.f->(∀x∈m,x∈l)->l.Perm m:=by
 induction m with
 |nil=>intro l _ h _;rw[YW.H h]
 |cons x m ih=>
  intro l hn hl hs;let hx:=hs x Ye
  let SM:=OV.H hn;show(List.perm_cons_erase hx).m ((ih SM.2 (by rw[t5 hx,hl];rfl) λy hy=>?_).cons x);let ne:y≠x:=λe=>SM.1 (by rwa[<-e])
  show(tN ne).X (hs y<|Yg _ hy)
def ZO8(p:us.Perm vs):∀{ns:Ac},IntsAre vs ns->∃ms,IntsAre us ms/\ms.Perm ns:=by
 induction p with
 |nil=>intro ns h;exists ns,h,.rfl
 |cons x _ ih=>
  intro ns h;cases h with
  |cons n t h=>
   let(ms,h1,h2):=ih h;exists n::ms,.cons n t h1,h2.cons n
 |swap x y l=>
  intro ns h;cases h with
  |cons n t h=>
   cases h with
   |cons m u h=>exists m::n::_,.cons m u<|.cons n t h,.swap n m _
 |trans _ _ KU Qf=>
  intro ns h;let(ms,h1,h2):=Qf h;let(ls,h3,h4):=KU h1;exists ls,h3,h4.m h2
def Ao(h:IntsAre vs ns):vs.f=ns.f:=by
 induction h with
 |nil=>rfl
 |cons n t _ ih=>rw[YF,YF,ih]
def ve(val:Nat->Int):∀i,(firstMet val i).Nodup
 |0=>.nil
 |i+1=>by
  rw[firstMet_succ];unfold step_dedup;split
  .show ve val i
  .rename_i h;show VS.X {ve val i,B,λa ha b hb e=>?_};rw[XD.H hb]at e;show h (xB.X {a,ha,by rw[e];simp})
section
variable{prog:Program}{w:World}{A:Around}{E:Ae}{s:Shared}
def ZI2:∀{l:List (Int×Value)},ElemsOf (intKind prog w) l->∃ms,IntsAre (l.R (·.2)) ms/\∀z,z∈ms↔∃y∈l,(intKind prog w).is z y.2=true
 |[],_=>{[],.nil,λz=>{λh=>(by cases h),λzz=>by let(y,h,_):=zz;show(by cases h)}}
 |y::l,h=>by
  let(ms,h1,h2):=ZI2 h.tail;let((z,hz,_),_):=h.head;let(hy,v):=y;let(u,rfl):=Value.isInt_shape (show Value.isInt z v=true from hz);exists z::ms,.cons z u h1,λx=>?_;rw[Yf,h2];constructor
  .rintro(e|⟨y,hy,q⟩)
   .exists _,Ye,e▸hz
   .exists y,Yg _ hy,q
  .rintro⟨y,hy,q⟩;rcases Yf.H hy with e|e
   .rw[e]at q;show .inl ((intKind prog w).inj _ _ _ q hz)
   .show .inr ⟨y,e,q⟩
def ZA6{led:Bool}{S:Int->Bool}{Q:Ae}(hh:A.handled=none)(hS:SetR prog w s.D a (!w.params.followText "set-order") S n)(Pn:n<64)
  (k:∀(ms:Ac)(out:Ag) r h' tk d c,IntsAre out ms->ms.E (·<=·)->ms.f=n->(∀z,z∈ms↔S z=true)->(~~~s)<=r->h'.G r=some (seqObj "list" out.C c)->(∀c o,s.D.G c=some o->h'.G c=some o)->Q ↑r {s with heap:=h',toks:=tk,drawn:=d}):
  wpAny (model prog w) A (call (.builtin "sorted") [.ref a]) Q E s:=by
 let(o,es,ep,t,ho,hx,hd,he,hm,hb,hf,hn,hr,hl):=hS;let(ns,hI,hmem):=ZI2 he;let LA:sizeLine=16777216:=Uu
 show tQ kind_sorted plain_sorted entry_sorted (args_sorted1 _) ?_;unfold Builtin.«sorted»;show XU (m:=checkCount "sorted" 1 1 _) (Yh ?_);show XU (Za6 (A:=A.in1) (by simp[hh]) ⟨o,ho,hx,hd⟩ hf hr hl J λout h1 tk d hp Rf kp=>?_);let(ls,hI2,VE):=ZO8 hp hI;let lo:=Ao hI2
 let ll:ls.f=n:=by rw[<-lo,hp.length_eq,Yb,Ys,hn]
 show XU (Mf ?_);let hL:(h1.push<|seqObj "list" out.C 0).G h1.objs.t=some (seqObj "list" out.C 0):=Yp _ rfl
 show XU (Sd<|TK xf ⟨_,hL,Z⟩ xh (list_sort_tree hL hI2 J λres ms b1 b2 b3=>{_,Z,?_})<|args_list_sort _);let(c,hc):=sortedHeap_at (out:=res) hL;show Yh {_,Z,k ms res.l h1.objs.t _ tk d c b1 b3 (by rw[b2.length_eq,ll]) (λz=>by rw[b2.mem_iff,VE.mem_iff,hmem,hm]) Rf (by rwa[Array.toArray_toList]) λb ob e=>?_};let lt:=Ym (kp b ob e)
 rw[sortedHeap_old (YA lt) (by rw[size_push'];show IJ lt)];show Xf _ (kp b ob e)
end
section
variable{X:Cx}{p p2 pos UG:Pos}{e:Expr}{t:TA}
def Inv.drew(I:Inv X pins σ H s)(d:Drawn):Inv X pins σ H {s with drawn:=d}:=
 I.step (g':=s.gens) (d':=d) (t':=s.toks) (h':=s.D) (ch:=[]) (λb hb=>(by cases hb)) (λb o _ _ _ q _=>q) (λb o _ _ _ q _=>⟨o.slots,q⟩) (λb o _ _ n=>n) (λb o _ q=>⟨o,q⟩) (λb xs q=>q) (λb o u q=>q) (λb ps q=>{#[],by rw[q];simp}) (λm hm=>hm) I.hok I.bare
def Zw6(K:Ad)(t:TA):(TE):=λσ H Q=>t σ H λvs H1=>∃(a:Addr)(ns:Ac),vs=[.ref a]/\SqL K H1 a (ns.R V.int)/\ns.f<64/\∀ms:Ac,ms.E (·<·)->(∀z,z∈ms↔z∈ns)->∀l,H1 l=none->Q ↑l (upd H1 l<|.lst<|ms.R V.int)
def Zj4(K:Ad)(hc:X.calm=true)(g1:Gl X "sorted")(m1:X.mg "sorted"=none)(g2:Gl X "set")(m2:X.mg "set"=none)(ha:PA X [e] t)(hk:X.K=K:=by rfl)
  (he:starEach [e] X.L=[(false,eval e X.L)]:=by rfl)
  (Ou:starEach [.Call (.Name "set" p2) [e] [] UG] X.L=[(false,eval (.Call (.Name "set" p2) [e] [] UG) X.L)]:=by rfl):
  PE X (.Call (.Name "sorted" p) [.Call (.Name "set" p2) [e] [] UG] [] pos) (Zw6 K t):=by
 subst hk;intro pins s σ H Q I h;show OX (Pu I g1 m1 Boot.«sorted» ?_);show eZ ?_ (by rw[Ou];rfl) rfl;rw[Ou];change wpAny _ _ (spliced<|(false,eval (.Call (.Name "set" p2) [e] [] UG) X.L)::backTo pos []) _ _ s
 show sT ?_;show OX (Pu I g2 m2 Boot.«set» ?_);show IP (thn (ha UG pins s σ H _ I h) λus s1 zz=>?_) (by rw[he];rfl) rfl;let(vs,H1,I1,r1,q1):=zz;let(a,ns,rfl,hq,hn,q):=q1;let(u,rfl,ru):=SK r1;let rfl:u=Value.ref a:=ru;let(XW,rv,pl,hz):=I1.list hq;let hi:=ZA rv
 let el:XW.C.t=ns.f:=by rw[Xk,<-rv.f,Yb]
 let sb:scanBound=4096:=rfl;show ko (I.ok.hd hc) pl.isList (ns:=ns) (by simpa using hi) J λh2 tk hS kp=>?_;show sQ ?_;let fl:=firstMet_length_le (λi=>ns.S i 0) XW.C.t
 show ZA6 (led:=true) (s:={s1 with heap:=h2,toks:=tk}) (I.ok.hd hc) hS J λms out r h3 tk3 d c hI hs hl hmem Rf hr kp3=>?_;let em:∀z,z∈ms↔z∈ns:=λz=>by
  rw[hmem,firstMet_any,el];let e1:(List.range ns.f).R (λi=>ns.S i 0)=ns:=by
   show MV λi=>?_;rw[Yw];cases c:i<ns.f
   .rw[Ir c,Xp c,DT,Ya,Xp c];rfl
   .rw[VD (by rw[MW];lia),VD sr];rfl
  rw[e1];simp
 let Ta:ms.Nodup:=(Ap (ve _ _) hl λx hx=>(hmem x).X (xB.X ⟨x,hx,B⟩)).nodup_iff.X (ve _ _);let Xm:(~~~s1)<=h2.objs.t:=by let(_,_,_,_,e,_):=hS;show MQ (Ym e)
 let An:(~~~s1)<=r:=Yj Xm Rf;let Lu:ms.f<=ns.f:=by rwa[hl,<-el]
 let I2:=(I1.laid (o:=.lst<|ms.R V.int) (h':=h3) (t':=tk3) (λb o e=>kp3 b o<|kp b o e) An ⟨by rw[Yb];have:sizeLine=16777216:=Uu;lia,out,c,Oh hI,hr⟩).drew d;exists .ref r,_,I2,Z,q ms (My.UB hs Ta) em r<|I1.hok.fresh An
end
end L2
namespace My
open PySem L2
def ZQ7{f g:Nat->Nat}{N k:Nat}(hf:∀i j,i<N->j<N->(f i=f j↔Conn A i j))(hk:∀i,i<N->f i<k)(hg:∀a,a<k->g a<N/\f (g a)=a)(hA:InN N A)(hB:InN N sj):
  (∀i j,i<N->j<N->Conn (A++sj) i j)↔∀a b,a<k->b<k->Conn (sj.R λe=>(f e.1,f e.2)) a b:=by
 let gi:∀i,i<N->Conn A (g<|f i) i:=λi hi=>by let(h1,h2):=hg (f i) (hk i hi);show(hf _ _ h1 hi).H h2
 constructor
 .intro c a b ha hb;let(a1,a2):=hg a ha;let(b1,b2):=hg b hb;let q:=(c (g a) (g b) a1 b1).image (f:=f) (fs:=sj.R λe=>(f e.1,f e.2)) λe he=>by
   rcases XB.H he with q|q
   .let⟨e1,e2⟩:=hA e q;rw[(hf _ _ e1 e2).X (.edge q)];show .refl _
   .show .edge (YN.X ⟨e,q,Z⟩)
  rwa[a2,b2]at q
 .intro c i j hi hj;let up:∀{i j:Nat},Conn A i j->Conn (A++sj) i j:=λq=>q.mono λe he=>Yc _ he
  let q:=(c (f i) (f j) (hk i hi)<|hk j hj).image (f:=g) (fs:=A++sj) λe he=>by let(d,hd,rfl):=YN.H he;let(d1,d2):=hB d hd;show(up<|gi _ d1).m ((Conn.edge<|Yd _ hd).m (up<|gi _ d2).symm)
  show(up<|gi i hi).symm.m (q.m<|up<|gi j hj)
def PC(n:Int)(ps:Aa)(I O:Ac)(c:Nat):(Prop):=∃L:Ab,L.Nodup/\(∀l,l∈L↔Zf n ps l/\(∀z∈I,z∈l)/\∀z∈O,z∉l)/\L.f=c
def PC.uniq(h1:PC n ps I O c)(h2:PC n ps I O d):c=d:=by
 let(L,a1,a2,a3):=h1;let(M,b1,b2,b3):=h2
 have:L.Perm M:=(Ek a1 b1).X λl=>by rw[a2,b2]
 rw[<-a3,<-b3,this.length_eq]
def XE(m:Nat)(gone:Ac):(Ac):=(VI m).filter λz=>decide (z∉gone)
def WN{z:Int}:z∈XE m gone↔(0<=z/\z<(m:Int))/\z∉gone:=by unfold XE;rw[Yn,YX,Xx]
def Zu7(m:Nat)(gone:Ac):(XE m gone).E (·<·):=(XR.H<|EO m).2.filter _
def Sn(f:Nat->Nat)(ps:Aa)(R:Ac):(Aa):=R.R λz=>((f (Zt ps z).1:Int),(f (Zt ps z).2:Int))
def PZ(R:Ac)(S:Ac):(Ac):=S.R λt=>R.S t.j 0
def jU(hR:R.E (·<·))(hS:IsSet R.f S):(PZ R S).E (·<·):=by
 let(a1,a2):=XR.H hS;show SR.X (a2.imp_of_mem λ{a b} ha hb Va=>?_);let h1:=a1 a ha
 let h2:=a1 b hb;rw[Ya,Ya,Xp J,Xp J];show Kj.H hR a.j b.j sr sr sD
def Am(hS:IsSet R.f S){z:Int}(h:z∈PZ R S):z∈R:=by
 let(t,ht,rfl):=YN.H h;let h1:=hS.all t ht
 rw[Ya,Xp J];show II _
def jT{f:Nat->Nat}(hS:IsSet R.f S):XT (Sn f ps R) S=(XT ps (PZ R S)).R λe=>(f e.1,f e.2):=by
 unfold XT PZ;rw[Mc,Mc];show VC λt ht=>?_;let h1:=hS.all t ht
 let e:(Sn f ps R).S t.j (0,0)=((f (Zt ps<|R.S t.j 0).1:Int),(f (Zt ps<|R.S t.j 0).2:Int)):=by unfold Sn;rw[Ya,Yw,Ya,Xp sr];rfl
 rw[e];rfl
def QX(m:Nat)(I R S:Ac):(Ac):=(VI m).filter λz=>decide (z∈I\/z∈PZ R S)
def jS(m:Nat)(I R S:Ac):(QX m I R S).E (·<·):=(XR.H<|EO m).2.filter _
def WR{z:Int}:z∈QX m I R S↔(0<=z/\z<(m:Int))/\(z∈I\/z∈PZ R S):=by unfold QX;rw[Yn,YX,Xx]
section
variable{n:Int}{ps:Aa}{I O S:Ac}{f g:Nat->Nat}{k:Nat}
def jR(hI:IsSet ps.f I)(hS:IsSet (XE ps.f (I++O)).f S):(QX ps.f I (XE ps.f (I++O)) S).Perm (I++PZ (XE ps.f (I++O)) S):=by
 let ua:=jU (Zu7 ps.f<|I++O) hS;show(Ek (Hk<|jS _ _ _ _)<|VS.X {hI.nodup,Hk ua,λa ha b hb e=>?_}).X λz=>?_
 .have:=(WN.H<|Am hS hb).2
  show this (Yc _<|e▸ha)
 .rw[WR,XB];exists λh=>h.2,λh=>{?_,h};rcases h with q|q
  .show hI.all z q
  .show(WN.H<|Am hS q).1
theorem ZS7(g0:Zx n ps)(hI:IsSet ps.f I)(hf:∀i j,i<n.j->j<n.j->(f i=f j↔Conn (XT ps I) i j))(hk:∀i,i<n.j->f i<k)(hg:∀a,a<k->g a<n.j/\f (g a)=a)(hS:IsSet (XE ps.f (I++O)).f S):
  ((∀i j,i<n.j->j<n.j->Conn (XT ps<|QX ps.f I (XE ps.f<|I++O) S) i j)↔∀a b,a<k->b<k->Conn (XT (Sn f ps<|XE ps.f<|I++O) S) a b):=by
 let hp:=jR (O:=O) hI hS;let hA:=ZN (ns:=I) g0 hI.all
 let hB:=ZN (ns:=PZ (XE ps.f<|I++O) S) g0 λz hz=>(WN.H<|Am hS hz).1;let e:XT ps (I++PZ (XE ps.f<|I++O) S)=XT ps I++XT ps (PZ (XE ps.f<|I++O) S):=by unfold XT;show YQ
 rw[jT hS,<-ZQ7 hf hk hg hA hB,<-e];exists λc i j hi hj=>(Sx λz=>hp.mem_iff).H (c i j hi hj),λc i j hi hj=>(Sx λz=>hp.mem_iff).X (c i j hi hj)
def Al(hI:IsSet ps.f I)(hT:IsSet ps.f T)(h1:∀z∈I,z∈T)(h2:∀z∈O,z∉T):∃S,IsSet (XE ps.f (I++O)).f S/\T=QX ps.f I (XE ps.f (I++O)) S:=by
 exists (VI (XE ps.f<|I++O).f).filter λt=>decide<|(XE ps.f<|I++O).S t.j 0∈T,XR.X {λt ht=>Xx.H (Yn.H ht).1,(XR.H<|EO _).2.filter _},GR (XR.H hT).2 (jS _ _ _ _) λz=>?_;rw[WR];constructor
 .intro hz;exists hT.all z hz,?_;cases c:z∈I
  .show .inl c
  .right;let hR:z∈XE ps.f (I++O):=WN.X ⟨hT.all z hz,λq=>by
    rcases XB.H q with q|q
    .show c q
    .show h2 z q hz⟩
   let(t,ht):=Yv hR;let e:(XE ps.f<|I++O).S ((t:Int)).j 0=z:=by rw[YL];show ZS ht
   show YN.X {(t:Int),Yn.X {Xx.X {J,by have:=(XA.H ht).1;omega},Yx<|by rwa[e]},e}
 .rintro⟨_,q|q⟩
  .show h1 z q
  .let⟨t,ht,rfl⟩:=YN.H q;show YG (Yn.H ht).2
def jQ{S':Ac}(hS:IsSet (XE ps.f (I++O)).f S)(Ul:IsSet (XE ps.f (I++O)).f S')(e:QX ps.f I (XE ps.f (I++O)) S=QX ps.f I (XE ps.f (I++O)) S'):S=S':=by
 let key:∀{A sj:Ac},IsSet (XE ps.f<|I++O).f A->IsSet (XE ps.f<|I++O).f sj->QX ps.f I (XE ps.f<|I++O) A=QX ps.f I (XE ps.f<|I++O) sj->∀t,t∈A->t∈sj:=λ{A sj} hA hB e t ht=>by
  let h1:=hA.all t ht;let hm:(XE ps.f<|I++O).S t.j 0∈PZ (XE ps.f<|I++O) A:=YN.X ⟨t,ht,Z⟩
  let hR:=WN.H (Am hA hm);let h2:(XE ps.f<|I++O).S t.j 0∈QX ps.f I (XE ps.f<|I++O) sj:=e▸WR.X {hR.1,.inr hm}
  rcases(WR.H h2).2 with q|q
  .show absurd (Yc _ q) hR.2
  .let⟨u,hu,e2⟩:=YN.H q;let h3:=hB.all u hu
   rw[Ya,Ya,Xp J,Xp J]at e2
   have:=EZ (Hk<|Zu7 ps.f<|I++O) (i:=u.j) (j:=t.j) (Xp sr) (by rw[Xp sr];show QP some e2.symm)
   let e3:u=t:=J;show e3▸hu
 show GR (XR.H hS).2 (XR.H Ul).2 λt=>{key hS Ul e t,key Ul hS e.symm t}
def vd(f:Nat->Nat)(ps:Aa)(R:Ac):(Sn f ps R).f=R.f:=Yb ..
def jP(g0:Zx n ps)(hI:IsSet ps.f I)(Ux:∀z∈I,z∉O)(hf:∀i j,i<n.j->j<n.j->(f i=f j↔Conn (XT ps I) i j))(hk:∀i,i<n.j->f i<k)(hg:∀a,a<k->g a<n.j/\f (g a)=a)(hn:(k:Int)+I⁻¹=n)(h:TC k (Sn f ps (XE ps.f (I++O))) c):PC n ps I O c:=by
 let(L,h1,h2,h3):=h;let hs:∀l∈L,IsSet (XE ps.f<|I++O).f l:=λl hl=>vd f ps _▸((h2 l).H hl).1
 let len:∀{S:Ac},IsSet (XE ps.f<|I++O).f S->(QX ps.f I (XE ps.f<|I++O) S).f=I.f+S.f:=λ{S} hS=>by rw[(jR hI hS).length_eq,Xy];unfold PZ;rw[Yb]
 let iff:∀{S:Ac},IsSet (XE ps.f<|I++O).f S->(Zf n ps (QX ps.f I (XE ps.f<|I++O) S)↔Zf k (Sn f ps<|XE ps.f<|I++O) S):=λ{S} hS=>by
  let l:=len hS;let q:=ZS7 (O:=O) g0 hI hf hk hg hS
  constructor
  .rintro⟨a1,a2,a3⟩;exists by rw[vd];show hS,J,λa b ha hb=>q.H a3 a b J J
  .rintro⟨a1,a2,a3⟩;exists XR.X {λz hz=>(WR.H hz).1,jS _ _ _ _},J,q.X λa b ha hb=>a3 a b J J
 show{L.R<|QX ps.f I<|XE ps.f<|I++O,SR.X<|h1.imp_of_mem λ{a b} ha hb Va e=>Va<|jQ (hs a ha) (hs b hb) e,λT=>?_,by rw[Yb,h3]};rw[YN];constructor
 .rintro⟨S,hS,rfl⟩;exists (iff<|hs S hS).X ((h2 S).H hS),λz hz=>WR.X {hI.all z hz,.inl hz},λz hz q=>?_;rcases(WR.H q).2 with q|q
  .show Ux z q hz
  .show(WN.H<|Am (hs S hS) q).2 (Yd _ hz)
 .rintro⟨hT,q1,q2⟩;let(S,hS,rfl):=Al hI hT.1 q1 q2;exists S,(h2 S).X ((iff hS).H hT),Z
def ZT7(g0:Zx n ps)(gone:Ac)(hk:∀i,i<n.j->f i<k)(k1:1<=k)(kn:k<=n.j):Zx k (Sn f ps (XE ps.f gone)):=by
 let(g1,g2,g3,g4):=g0;exists J,J,?_,λp hp=>?_
 .rw[vd]
  have:(XE ps.f gone).f<=(VI ps.f).f:=YE ..
  have:=(EO ps.f).len
  lia
 .let⟨z,hz,rfl⟩:=YN.H hp;let hz1:=(WN.H hz).1
  obtain⟨q,hq⟩:∃q,ps[z.j]?=some q:={_,Xp J};let(e1,e2,e3,e4):=g4 q (WT hq);let ee:Zt ps z=(q.1.j,q.2.j):=by unfold Zt;rw[ZS hq]
  rw[ee];let a:=hk q.1.j sD
  let b:=hk q.2.j sD;exists by change(0:Int)<=(f q.1.j:Int);lia,by change(f q.1.j:Int)<(k:Int);grind,by change(0:Int)<=(f q.2.j:Int);lia,by change(f q.2.j:Int)<(k:Int);grind
def jO(g0:Zx n ps)(hI:IsSet ps.f I)(hf:∀i j,i<n.j->j<n.j->(f i=f j↔Conn (XT ps I) i j))(hk:∀i,i<n.j->f i<k)(hg:∀a,a<k->g a<n.j/\f (g a)=a)(k1:1<=k)(kn:k<=n.j)(hn:n<(k:Int)+I⁻¹):PC n ps I O 0:=by
 exists [],.nil,λT=>{λh=>(by cases h),λzz=>?_},Z;let(hT,q1,q2):=zz;let(S,hS,rfl):=Al hI hT.1 q1 q2;let q:=(ZS7 (O:=O) g0 hI hf hk hg hS).H hT.2.2
 let gg:=ZT7 (f:=f) g0 (I++O) hk k1 kn;let l:=kO gg (by rwa[vd]) λa b ha hb=>q a b sD sD
 let l2:=hT.2.1;rw[(jR hI hS).length_eq,Xy]at l2;unfold PZ at l2;rw[Yb]at l2;omega
end
def Uz:(Ac->Int->Nat)
 |[],_=>0
 |x::l,z=>if x=z then 0 else Uz l z+1
def GH:∀{l:Ac}{z:Int},z∈l->l[Uz l z]?=some z
 |x::l,z,h=>by
  unfold Uz;cases c:x=z
  .rw[if_pos c,c];rfl
  .rw[if_neg c];show GH ((Yf.H h).resolve_left λe=>c e.symm)
def jN(h:z∈l):Uz l z<l.f:=(XA.H<|GH h).1
def jM(hz:z∈l)(hy:y∈l):Uz l z=Uz l y↔z=y:=by
 show{λe=>?_,λe=>by rw[e]};let h1:=GH hz
 rw[e,GH hy]at h1;show(Yk h1).symm
def jL(hn:l.Nodup){i:Nat}{z:Int}(h:l[i]?=some z):Uz l z=i:=EZ hn (GH<|WT h) h
def Je(h:i<M.f):mk M i∈M:=by unfold mk;rw[Ya,Xp h];show II h
section
variable{N:Nat}{es:List (Nat×Nat)}{F:Ac}
def jK(h:InN N es)(hF:F.E (·<·))(hm:∀z,z∈F↔z∈Xv N es):
  ∃g:Nat->Nat,(∀i j,i<N->j<N->(Uz F (mk (Xv N es) i)=Uz F (mk (Xv N es) j)↔Conn es i j))/\(∀i,i<N->Uz F (mk (Xv N es) i)<F.f)/\∀a,a<F.f->g a<N/\Uz F (mk (Xv N es)<|g a)=a:=by
 let hl:=ZB N es;let jJ:∀i,i<N->mk (Xv N es) i∈F:=λi hi=>(hm _).X (Je J)
 let ex:∀a,∃i,a<F.f->i<N/\Uz F (mk (Xv N es) i)=a:=λa=>by
  cases c:a<F.f
  .let q:=(hm _).H (II c);let(i,hi):=Yv q;let UZ:=(XA.H hi).1
   exists i,λ_=>{J,?_};let e:mk (Xv N es) i=F[a]:=by unfold mk;show ZS hi
   rw[e];show jL (Hk hF) (Xp c)
  .exists 0,λh=>absurd h c
 exists λa=>Classical.choose<|ex a,λi j hi hj=>?_,λi hi=>jN<|jJ i hi,λa ha=>dQ (ex a) ha;rw[jM (jJ i hi) (jJ j hj)];show Qm h hi hj
def jI:∀i,∃p,p<=i/\VX M p=true/\mk M p=mk M i:=by
 intro i
 induction i using Nat.strongRecOn with
 |_ i ih=>
  cases c:VX M i=true
  .exists i,XI _,c,Z
  .obtain⟨j,hj,e⟩:∃j,j<i/\mk M j=mk M i:=YD λno=>c (XC.X λj hj e=>no ⟨j,hj,e⟩);let(p,h1,h2,h3):=ih j hj;exists p,J,h2,h3.m e
def ZZ8(hF:F.E (·<·))(hm:∀z,z∈F↔z∈M):F.f=cnt M:=by
 let e:F.Perm ((UW M M.f).R (mk M)):=by
  show(Ek (Hk hF) ?_).X λz=>?_
  .show SR.X ?_;unfold UW;show(Eh.filter<|VX M).imp_of_mem λ{a b} ha hb Va=>?_;show XC.H (Yn.H hb).2 a Va
  .rw[hm,YN];constructor
   .intro hz;let(i,hi):=Yv hz;let UZ:=(XA.H hi).1
    let(p,h1,h2,h3):=jI (M:=M) i;exists p,Yn.X {YV.X J,h2},h3.m ?_;unfold mk;show ZS hi
   .rintro⟨p,hp,rfl⟩;show Je (YV.H (Yn.H hp).1)
 rw[e.length_eq,Yb];rfl
def Zr4(h:InN N es)(hN:1<=N)(hF:F.E (·<·))(hm:∀z,z∈F↔z∈Xv N es):1<=F.f/\F.f<=N/\N<=F.f+es.f:=by
 let e:=ZZ8 hF hm;let hl:=ZB N es
 let e2:=mO (wk (n:=N) (es:=es) h);let e3:=vP es h
 let e4:=n8 (M:=Xv N es) J;let e5:cnt (Xv N es)<=N:=by unfold cnt UW;show Yj (YE ..) ?_;rw[MW];lia
 grind
end
def FD(A sj:Ac)(t:Int):(Prop):=t∈A/\t∉sj/\∀s,s<t->(s∈A↔s∈sj)
def Za5:∀{A sj:Ac},A.E (·<·)->sj.E (·<·)->A.f=sj.f->(HT.lexLt A sj=true↔∃t,FD A sj t)
 |[],[],_,_,_=>{λh=>(by cases h),λzz=>by let(t,h,_):=zz;show(by cases h)}
 |x::A,y::sj,hA,hB,hl=>by
  let(a1,a2):=Wb.H hA;let(b1,b2):=Wb.H hB;let OJ:A.f=sj.f:=Md hl
  change(if x=y then HT.lexLt A sj else decide (x<y))=true↔_;cases c:x=y
  .subst c;rw[if_pos Z,Za5 a2 b2 OJ];constructor
   .rintro⟨t,h1,h2,h3⟩;let tx:=a1 t h1
    exists t,Yg _ h1,λq=>?_,λs hs=>?_
    .rcases Yf.H q with e|e
     .lia
     .show h2 e
    .rw[Yf,Yf,h3 s hs]
   .rintro⟨t,h1,h2,h3⟩;let tx:t≠x:=λe=>h2 (e▸Ye)
    let JI:=(Yf.H h1).resolve_left tx;exists t,JI,λq=>h2<|Yg _ q,λs hs=>?_
    have:=h3 s hs
    rw[Yf,Yf]at this;cases e:s=x
    .rw[e];exists λq=>absurd (a1 x q)<|Int.lt_irrefl x,λq=>absurd (b1 x q)<|Int.lt_irrefl x
    .exists λq=>(this.H<|.inr q).resolve_left e,λq=>(this.X<|.inr q).resolve_left e
  .rw[if_neg c,YX];constructor
   .intro h;exists x,Ye,λq=>?_,λs hs=>{λq=>?_,λq=>?_}
    .rcases Yf.H q with e|e
     .show c e
     .have:=b1 x e;lia
    .rcases Yf.H q with e|e
     .lia
     .have:=a1 s e;lia
    .rcases Yf.H q with e|e
     .lia
     .have:=b1 s e;lia
   .rintro⟨t,h1,h2,h3⟩;let tx:x<=t:=by
     rcases Yf.H h1 with e|e
     .lia
     .have:=a1 t e;lia
    show YD λhc=>?_;let hyx:y<x:=J
    have:=(h3 y sD).X Ye
    rcases Yf.H this with e|e
    .lia
    .have:=a1 y e;grind
def Zx6{α:Type}[DecidableEq α]:∀{l m:List α},l.Nodup->(∀x∈l,x∈m)->l.f<=m.f
 |[],_,_,_=>Yi _
 |x::l,m,hn,hs=>by
  let hx:=hs x Ye;let(h1,h2):=OV.H hn
  have:=Zx6 (m:=m.erase x) h2 λy hy=>(tN λe=>h1<|by rwa[<-e]).X (hs y<|Yg _ hy)
  rw[t5 hx]at this
  have:=tU hx
  rw[YF];grind
def QW{s rest:TS}{D:Ends}{σ:L2.St}{H:Hp}(P:L2.St->Hp->Prop)(h1:∀σ' H',P σ' H'->rest D σ' H')(h2:∀K:L2.St->Hp->Prop,(∀σ' H',P σ' H'->K σ' H')->s {D with nx:=K} σ H):TF s rest D σ H:=h2 _ h1
def jH{tb:(L2.St->XK)->TS}{th:Addr->Addr->TS}{D:Ends}{σ:L2.St}{H:Hp}(P:L2.St->Addr->Hp->Prop)
  (h1:∀σ' C H',P σ' C H'->PySem.W.exmOne K ↑C ↑W=some true/\∀e:Addr,H' e=none->th e C (D.less i) (σ'.set i<|some<|.ref e) H')
  (h2:∀R:L2.St->XK,(∀σ' C H',P σ' C H'->R σ' ↑C none H')->tb R D σ H):Co K W i tb th D σ H:=h2 _ λ_ C _ p=>{C,Z,h1 _ _ _ p}
def ifT{D:Ends}{σ:L2.St}{H:Hp}(P:Bool->Prop)(h1:P true->t D σ H)(h2:P false->u D σ H)(h3:∀Q:Bool->Hp->Prop,(P true->Q true H)->(P false->Q false H)->c σ H Q):Dt c t u D σ H:=
 h3 _ (λp=>iteT<|h1 p) (λp=>iteF<|h2 p)
def ZG5{m:Nat}(hm:m<=30):∀k,(Of (m:Int) k).f<=30^k
 |0=>XI 1
 |k+1=>by
  let h1:=bT (m:=m) (Of (m:Int) k) λs hs=>(VU.H hs).2;let h2:=ZG5 hm k
  let h3:m*(Of (m:Int) k).f<=30*30^k:=IE hm h2;rw[Nat.pow_succ,xo];show Yj h1 h3
def Zu6(g:Zx n ps)(h:TC n ps c):c<10^20:=by
 let(L,hn,hm,rfl):=h;let(g1,g2,g3,_):=g;show xM (m:=30^13) (Yj (Zx6 (m:=Of ps⁻¹ (n-1).j) hn λx hx=>VU.X {?_,((hm x).H hx).1})<|Yj (ZG5 J _)<|Ee su sr) su
 have:=((hm x).H hx).2.1
 lia
def jG(g:Zx n ps):∃L:Ab,(∀l,l∈L↔Zf n ps l)/\L.E Qg:={VR n.j ps (n-1).j,λ_=>aQ g,(Jp _ _).filter _}
def jF(ps:Aa):(List (Nat×Nat)):=ps.R λp=>(p.1.j,p.2.j)
def ZA7(ps:Aa){e:Nat×Nat}:e∈XT ps (VI ps.f)↔e∈jF ps:=by
 unfold XT jF;rw[YN,YN];constructor
 .rintro⟨z,hz,rfl⟩;let(z0,z1):=Xx.H hz;let hp:ps[z.j]?=some (ps[z.j]'(by lia)):=Xp sr
  exists _,WT hp,?_;rw[ZS hp]
 .rintro⟨p,hp,rfl⟩;let(i,hi):=Yv hp
  have:=(XA.H hi).1
  exists (i:Int),Xx.X J,?_;rw[YL,ZS hi]
def PY:He n ps↔∀i j,i<n.j->j<n.j->Conn (jF ps) i j:=
 {λh i j hi hj=>(h i j hi hj).mono λe he=>(ZA7 ps).H he,λh i j hi hj=>(h i j hi hj).mono λe he=>(ZA7 ps).X he}
def ev(b:Int):(Ac->Int)
 |[]=>0
 |d::l=>d+b*ev b l
def ZR7{φ:Nat->Prop}(h:∀e∈es,(φ e.1↔φ e.2))(c:Conn es i j):φ i↔φ j:=by
 induction c with
 |refl i=>show Iff.rfl
 |edge q=>show h _ q
 |symm _ ih=>show ih.symm
 |trans _ _ i1 i2=>show i1.m i2
abbrev GG(ls:Ac)(z:Int):Int:=ls.S z.j 0
def lwS(ls:Ac)(x:Int):(Ac):=(VI ls.f).filter λz=>decide (GG ls z<x)
def mA(N:Nat)(ps:Aa)(ls:Ac)(x:Int):(Ac):=Xv N (XT ps<|lwS ls x)
def lvl(ls:Ac)(x:Int)(i:Nat):(Ac):=(VI i).filter λz=>decide (GG ls z=x)
def Ak(ls T:Ac):(Int):=(T.R<|GG ls).sum
section
variable{n:Int}{ps:Aa}{T:Ac}(g:Zx n ps)
include g
def jE(hT:Zf n ps T)(hW:Zf n ps W)(h:∀z∈T,z∈W):T.Perm W:=by
 have:=Ap (l:=W) hT.1.nodup (by have:=hT.2.1;have:=hW.2.1;lia) h
 show this.symm
end
end My
namespace HT
open PySem PyProof.Rows
section
def ltP(x y:Int×Ac):(Bool):=decide (x.1<y.1)||(decide (x.1=y.1)&&lexLt x.2 y.2)
end
end HT
namespace L2
open PySem PySem.Spec PyProof.Rows
section
variable{X:Cx}{a b:Expr}{ta tb:TE}{pos:Pos}
def jD(ha:PE X a ta)(h1:starEach [a] X.L=[(false,eval a X.L)]:=by rfl):PE X (.List [a] pos) (OA<|Us ta QC):=WB (XY ha XX h1)
def jC(ha:PE X a ta)(hb:PE X b tb)(h1:starEach [a,b] X.L=(false,eval a X.L)::starEach [b] X.L:=by rfl)(h2:starEach [b] X.L=[(false,eval b X.L)]:=by rfl):PE X (.List [a,b] pos) (OA<|Us ta<|Us tb QC):=WB (XY ha (XY hb XX h2) h1)
end
end L2
namespace My
open PySem L2
section
variable{one d0 d1:Int}{other:Option Int}
def du(one:Int)(other:Option Int)(d0 d1 y:Int):(Int):=if y=one then d0 else if some y=other then d1 else y
end
end My
namespace L2
open PySem PySem.Spec PyProof.Rows
def TL(l:List Str):(List V):=l.R V.str
end L2
namespace My
open PySem L2
def nT(i:Int):(Str):=Str.ofString (toString i)
def KO(cs:List Nat):(List Nat):=if cs.head?=some 45 then cs.tail else cs
def jB(cs:List Nat):(Bool):=decide (1<=(KO cs).f/\(KO cs).f<=60/\(∀c∈KO cs,48<=c/\c<=57)/\(cs=[48]\/(KO cs).head?≠some 48))
abbrev Tr:=Int×Aa×Ac
end My
namespace L2
open PySem PySem.Spec PyProof.Rows
section
variable{X:Cx}{a b c d:Expr}{ta tb tc td:TE}{pos:Pos}
def Zn9(ha:PE X a ta)(hb:PE X b tb)(hc:PE X c tc)(hd:PE X d td)(s0:starEach [a,b,c,d] X.L=(false,eval a X.L)::starEach [b,c,d] X.L:=by rfl)(s1:starEach [b,c,d] X.L=(false,eval b X.L)::starEach [c,d] X.L:=by rfl)(s2:starEach [c,d] X.L=(false,eval c X.L)::starEach [d] X.L:=by rfl)(s3:starEach [d] X.L=[(false,eval d X.L)]:=by rfl):PE X (.List [a,b,c,d] pos) (OA<|Us ta<|Us tb<|Us tc<|Us td QC):=WB (XY ha (XY hb (XY hc (XY hd XX s3) s2) s1) s0)
end
end L2
namespace My
open PySem PySem.W PyProof.Rows
def TU{α:Type}(c:Nat->Nat->Bool):(KasT α->α)
 | .ret a=>a
 | .ask i j k=>TU c (k<|c i j)
def PX{α β:Type}{c:Nat->Nat->Bool}{f:α->KasT β}:∀t:KasT α,TU c (t.bind f)=TU c (f (TU c t))
 | .ret _=>rfl
 | .ask i j k=>PX (k<|c i j)
section
variable{n:Nat}{key:Nat->Int}
def Ahd(key:Nat->Int)(i j:Nat):(Prop):=key i<key j\/(key i=key j/\i<j)
def Ahd.trans{i j k:Nat}(h1:Ahd key i j)(h2:Ahd key j k):Ahd key i k:=by unfold Ahd at *;grind
structure Ord(n m:Nat)(p:Array Nat):Prop where
 perm:p.Perm (List.range n).C
 suf:∀i,m<=i->i<n->p.S i 0=i
def Ord.size(h:Ord n m p):p.t=n:=by rw[h.perm.size_eq];simp
def QV{p:Array Nat}(h:i<p.t):p[i]?=some (p.S i 0):=by rw[Yy,YO h];rfl
def Ord.inj(h:Ord n m p)(hi:i<n)(hj:j<n)(e:p.S i 0=p.S j 0):i=j:=by
 let hn:p.l.Nodup:=(Uv.H h.perm).nodup_iff.X List.nodup_range;let hs:=h.t
 let e1:=QV (p:=p) (i:=i) J;let e2:=QV (p:=p) (i:=j) J
 rw[<-YH]at e1 e2;show(tG (i:=i) (j:=j) (by rw[Ys];omega) hn).H (by rw[e1,e2,e])
def Ord.lt(h:Ord n m p)(hm:m<=n)(hi:i<m):p.S i 0<m:=by
 cases hc:p.S i 0<m
 .show hc
 .let hs:=h.t;let hb:p.S i 0<n:=by let e1:=QV (p:=p) (i:=i) sD;rw[<-YH]at e1;show YV.H ((Uv.H h.perm).mem_iff.H (WT e1))
  let e:=h.inj J hb (h.suf _ sr hb).symm;grind
def Ord.mono(h:Ord n m p)(hk:m<=k):Ord n k p:={h.perm,λi hi=>h.suf i J}
def Ms{i j k:Nat}(hj:j<=p.t):(kas_rev p i j).S k 0=if i<=k/\k<j then p.S (i+j-1-k) 0 else p.S k 0:=by unfold kas_rev;rw[Yy,sM hj,apply_ite λo:Option Nat=>o.S 0,<-Yy,<-Yy]
def Ord.rev(h:Ord n m p)(hj:j<=m)(hm:m<=n):Ord n m (kas_rev p i j):=by let hs:=h.t;exists (mirror_perm _ _ _ _).m h.perm,λk hk hn=>?_;rw[Ms J,if_neg J];show h.suf k hk hn
def Asc(key:Nat->Int)(m:Nat)(p:Array Nat):(Prop):=∀i j,i<j->j<m->Ahd key (p.S i 0) (p.S j 0)
def Asc.more(hm:1<=m)(h:Asc key m p)(h2:Ahd key (p.S (m-1) 0) (p.S m 0)):Asc key (m+1) p:=λi j WL hj=>by
 cases e:j=m
 .subst e;cases e2:i=j-1
  .rw[e2];show h2
  .show(h i (j-1) J sr).m h2
 .show h i j WL J
def GF:∀f m p,m+f=n->1<=m->Ord n m p->Asc key m p->∃k,TU (λi j=>decide (key i<key j)) (kas_asc p f m)=k/\m<=k/\k<=n/\Asc key k p/\(k<n->key (p.S k 0)<key (p.S (k-1) 0))
 |0,m,p,hf,h1,ho,ha=>{m,Z,XI _,J,ha,λh=>J}
 |f+1,m,p,hf,h1,ho,ha=>by
  change ∃k,TU _ (if decide (key (p.S m 0)<key (p.S (m-1) 0))=true then KasT.ret m else kas_asc p f (m+1))=k/\_;cases hc:key (p.S m 0)<key (p.S (m-1) 0)
  .rw[if_pos (Yx hc)];exists m,Z,XI _,J,ha,λ_=>hc
  .rw[if_neg λz=>hc (YG z)];let e:=ho.suf m (XI _) J
   let l:=ho.lt J (i:=m-1) J;let(k,e1,e2,e3,e4,e5):=GF f (m+1) p J J (ho.mono J) (ha.more h1<|by unfold Ahd;rw[e]at hc ⊢;lia);exists k,e1,J,e3,e4,e5
structure Dsc(key:Nat->Int)(m g:Nat)(p:Array Nat):Prop where
 le:g+1<=m
 old:∀i j,i<j->j<m-(g+1)->Ahd key (p.S j 0) (p.S i 0)
 mid:∀i j,i<m-(g+1)->m-(g+1)<=j->j<m->key (p.S j 0)<key (p.S i 0)
 own:∀i j,m-(g+1)<=i->i<j->j<m->key (p.S i 0)=key (p.S j 0)/\p.S i 0<p.S j 0
def Fall(key:Nat->Int)(m:Nat)(p:Array Nat):(Prop):=∀i j,i<j->j<m->Ahd key (p.S j 0) (p.S i 0)
def Dsc.turn(h:Dsc key m g p)(hs:m<=p.t):Fall key m (kas_rev p (m-(g+1)) m):=λi j WL hj=>by
 let hl:=h.le;rw[Ms hs,Ms hs];cases c1:m-(g+1)<=j
 .rw[if_pos ⟨c1,hj⟩];cases c2:m-(g+1)<=i
  .rw[if_pos ⟨c2,J⟩];show .inr (h.own (m-(g+1)+m-1-j) (m-(g+1)+m-1-i) sr sr J)
  .rw[if_neg J];show .inl (h.mid i _ J J J)
 .rw[if_neg J,if_neg J];show h.old i j WL J
def Dsc.last(h:Dsc key m g p)(hs:m<=p.t):key ((kas_rev p (m-(g+1)) m).S (m-1) 0)=key (p.S (m-1) 0):=by
 let hl:=h.le;rw[Ms hs,if_pos sD];cases e:g=0
 .congr 2;grind
 .show(h.own (m-(g+1)+m-1-(m-1)) (m-1) sr sr J).1
def Dsc.fall(h:Dsc key m 0 p):Fall key m p:=λi j WL hj=>by
 let hl:=h.le;cases e:j<m-(0+1)
 .show h.old i j WL e
 .show .inl (h.mid i j sD J hj)
def Fall.new(hm:1<=m)(h:Fall key m p)(hk:key (p.S m 0)<key (p.S (m-1) 0)):Dsc key (m+1) 0 p:=by
 exists J,λi j WL hj=>h i j WL J,λi j hi h1 h2=>?_,λi j h1 h2 h3=>sD;let e:j=m:=J
 subst e;cases c:i=j-1
 .rw[c];show hk
 .have:=h i (j-1) J sr
  unfold Ahd at this;omega
def Fall.rev(h:Fall key m p)(hs:m<=p.t):Asc key m (kas_rev p 0 m):=λi j WL hj=>by rw[Ms hs,Ms hs,if_pos {Yi _,J},if_pos {Yi _,hj}];show h _ _ sr sr
def Asc.rev(h:Asc key m p)(hs:m<=p.t):Fall key m (kas_rev p 0 m):=λi j WL hj=>by rw[Ms hs,Ms hs,if_pos {Yi _,hj},if_pos {Yi _,sr}];show h _ _ sr sr
def vc:∀f m g p,m+f=n->Ord n m p->Dsc key m g p->∃p' m' g',TU (λi j=>decide (key i<key j)) (kas_desc f p m g)=(p',m',g')/\m<=m'/\m'<=n/\Ord n m' p'/\Dsc key m' g' p'
 |0,m,g,p,hf,ho,hd=>{p,m,g,Z,XI _,sr,ho,hd}
 |f+1,m,g,p,hf,ho,hd=>by
  let hl:=hd.le;let hs:=ho.t
  let em:=ho.suf m (XI _) J;let ll:=ho.lt J (i:=m-1) J
  change ∃p' m' g',TU _ (if decide (key (p.S m 0)<key (p.S (m-1) 0))=true then (if g>0 then kas_desc f (kas_rev p (m-(g+1)) m) (m+1) 0 else kas_desc f p (m+1) 0) else KasT.ask (p.S (m-1) 0) (p.S m 0) λd=>if d=true then .ret (p,m,g) else kas_desc f p (m+1) (g+1))=_/\_;cases hc:key (p.S m 0)<key (p.S (m-1) 0)
  .rw[if_pos (Yx hc)];cases hg:g>0
   .rw[if_pos hg];let hr:=ho.rev (i:=m-(g+1)) (XI m) J
    let em2:=hr.suf m (XI _) J;let(p',m',g',e1,e2,e3,e4,e5):=vc f (m+1) 0 (kas_rev p (m-(g+1)) m) J (hr.mono J) ((hd.turn J).new J (by rw[hd.last sr,em2];rwa[em]at hc));exists p',m',g',e1,J,e3,e4,e5
   .rw[if_neg hg];let rfl:g=0:=J;let(p',m',g',e1,e2,e3,e4,e5):=vc f (m+1) 0 p sr (ho.mono sr) (hd.fall.new J hc);exists p',m',g',e1,J,e3,e4,e5
  .rw[if_neg λz=>hc (YG z)];change ∃p' m' g',TU _ (if decide (key (p.S (m-1) 0)<key (p.S m 0))=true then KasT.ret (p,m,g) else kas_desc f p (m+1) (g+1))=_/\_
   cases UR:key (p.S (m-1) 0)<key (p.S m 0)
   .rw[if_pos (Yx UR)];exists p,m,g,Z,XI _,sr,ho,hd
   .rw[if_neg λz=>UR (YG z)];let ek:key (p.S (m-1) 0)=key (p.S m 0):=J
    let(p',m',g',e1,e2,e3,e4,e5):=vc f (m+1) (g+1) p sr (ho.mono sr) ⟨J,λi j h1 h2=>hd.old i j h1 J,λi j h1 h2 h3=>by
     cases c:j=m
     .rw[c,<-ek];show hd.mid i (m-1) J sD J
     .show hd.mid i j J J J,λi j h1 h2 h3=>by
     cases c:j=m
     .rw[c];cases c2:i=m-1
      .rw[c2,em];rw[em]at ek;exists ek,ll
      .have:=hd.own i (m-1) J J sr
       rw[em];rw[em]at ek;exists this.1.m ek,J
     .show hd.own i j J h2 sr⟩
    exists p',m',g',e1,J,e3,e4,e5
def Ze9(hm:1<=m)(hn:m<=n)(ho:Ord n m p)(hf:Fall key m p):∃k p',TU (λi j=>decide (key i<key j)) (kas_tail3 m n p)=(k,p')/\1<=k/\k<=n/\Ord n k p'/\Asc key k p':=by
 let hs:=ho.t;unfold kas_tail3;rw[PX];let hr:=ho.rev (i:=0) (XI m) hn
 let(k,e1,e2,e3,e4,_):=GF (n-m) m (kas_rev p 0 m) sD hm hr (hf.rev J);rw[e1];exists k,_,Z,J,e3,hr.mono e2,e4
def Zr9(hm:1<=m)(hn:m<n)(ho:Ord n m p)(hf:Fall key m p)(hk:key (p.S m 0)<key (p.S (m-1) 0)):∃k p',TU (λi j=>decide (key i<key j)) (kas_descPart m n p)=(k,p')/\1<=k/\k<=n/\Ord n k p'/\Asc key k p':=by
 unfold kas_descPart;rw[PX];let(p',m',g',e1,e2,e3,e4,e5):=vc (n-(m+1)) (m+1) 0 p sD (ho.mono J) (hf.new hm hk);rw[e1];let hs:=e4.t
 change ∃k q,TU _ (if g'>0 then kas_tail3 m' n (kas_rev p' (m'-(g'+1)) m') else kas_tail3 m' n p')=_/\_;cases hg:g'>0
 .rw[if_pos hg];show Ze9 J e3 (e4.rev (XI _) e3) (e5.turn J)
 .rw[if_neg hg];let rfl:g'=0:=J;show Ze9 J e3 e4 e5.fall
def jA(hn:1<=n)(ho:Ord n 1 p):∃k p',TU (λi j=>decide (key i<key j)) (kas_count n p)=(k,p')/\1<=k/\k<=n/\Ord n k p'/\Asc key k p':=by
 unfold kas_count;rw[PX];let(k,e1,e2,e3,e4,e5):=GF (key:=key) (n-1) 1 p J (XI _) ho λi j h1 h2=>J;rw[e1];let hs:=ho.t
 let hk:=ho.mono e2;cases c:k=n
 .rw[if_pos (by rw[c];show xF n)];exists k,p,Z,e2,e3,hk,e4
 .rw[if_neg λz=>c (RL.H z)];let Xm:k<n:=J
  let h5:=e5 Xm;cases c1:k>1
  .rw[if_pos c1];change ∃k' p',TU _ (if decide (key (p.S 0 0)<key (p.S (k-1) 0))=true then KasT.ret (k,p) else kas_descPart k n (kas_rev p 0 k))=_/\_
   cases c2:key (p.S 0 0)<key (p.S (k-1) 0)
   .rw[if_pos (Yx c2)];exists k,p,Z,e2,e3,hk,e4
   .rw[if_neg λz=>c2 (YG z)];let a0:=e4 0 (k-1) J J
    let eq:key (p.S 0 0)=key (p.S (k-1) 0):=by unfold Ahd at a0;grind
    let hr:=hk.rev (i:=0) (XI k) J;show Zr9 e2 Xm hr (e4.rev J) ?_;rwa[Ms sr,Ms sr,if_neg J,if_pos J,show 0+k-1-(k-1)=0 by lia,eq]
  .rw[if_neg c1];let rfl:k=1:=J;show Zr9 (XI _) Xm hk (λi j h1 h2=>J) h5
def jz(hk:Asc key k p):∀f l r,r-l<=f->l<=r->r<=k->(∀i,i<l->¬key (p.S k 0)<key (p.S i 0))->(∀i,r<=i->i<k->key (p.S k 0)<key (p.S i 0))->∃l',TU (λi j=>decide (key i<key j)) (kas_place p k f l r)=l'/\l'<=k/\(∀i,i<l'->¬key (p.S k 0)<key (p.S i 0))/\(∀i,l'<=i->i<k->key (p.S k 0)<key (p.S i 0))
 |0,l,r,hf,h1,h2,ha,hb=>{l,Z,J,ha,λi hi=>hb i sD}
 |f+1,l,r,hf,h1,h2,ha,hb=>by
  let mono:∀i j,i<=j->j<k->key (p.S i 0)<=key (p.S j 0):=λi j WL hj=>by
   cases e:i=j
   .rw[e];show SO _
   .have:=hk i j J hj
    unfold Ahd at this;lia
  unfold kas_place;cases c:l >= r
  .rw[if_pos c];exists l,Z,J,ha,λi hi=>hb i J
  .rw[if_neg c];change ∃l',TU _ (if decide (key (p.S k 0)<key (p.S ((l+r)/2) 0))=true then kas_place p k f l ((l+r)/2) else kas_place p k f ((l+r)/2+1) r)=l'/\_
   cases c2:key (p.S k 0)<key (p.S ((l+r)/2) 0)
   .rw[if_pos (Yx c2)];show jz hk f l ((l+r)/2) sD J J ha λi hi kN=>by
     have:=mono ((l+r)/2) i hi kN
     omega
   .rw[if_neg λz=>c2 (YG z)];show jz hk f ((l+r)/2+1) r sD J J (λi hi=>by
     have:=mono i ((l+r)/2) J J
     omega) hb
def GD{k d x:Nat}(hk:k<p.t)(hd:d<=k):(bubble p k d).S x 0=if x=k-d then p.S k 0 else if k-d<x/\x<=k then p.S (x-1) 0 else p.S x 0:=by rw[Yy,getElem?_bubble hk d hd,apply_ite λo:Option Nat=>o.S 0,apply_ite λo:Option Nat=>o.S 0,<-Yy,<-Yy,<-Yy]
def Aj:∀f k p,k+f=n->Ord n k p->Asc key k p->∃p',TU (λi j=>decide (key i<key j)) (kas_bin f p k)=p'/\Ord n n p'/\Asc key n p'
 |0,k,p,hf,ho,ha=>by let rfl:k=n:=J;exists p,Z,ho,ha
 |f+1,k,p,hf,ho,ha=>by
  let hs:=ho.t;let ek:=ho.suf k (XI _) J
  unfold kas_bin;rw[PX];let(l,e1,e2,e3,e4):=jz ha k 0 k J J (XI _) (λi hi=>J) λi hi UZ=>sD;rw[e1];show Aj f (k+1) (bubble p k<|k-l) J {(bubble_perm _ _ _).m ho.perm,λi hi hn=>?_} λi j WL hj=>?_
  .rw[GD J sD,if_neg J,if_neg J];show ho.suf i J hn
  .let low:∀x,x<k->p.S x 0<k:=λx hx=>ho.lt J hx;rw[GD J sD,GD sr sr];let ekl:k-(k-l)=l:=sD
   rw[ekl];cases c1:i=l
   .rw[if_pos c1,if_neg J,if_pos J];show .inl (e4 (j-1) sD sD)
   .rw[if_neg c1];cases c2:j=l
    .rw[if_pos c2,if_neg J];let a:=e3 i sD
     let b:=low i J;rw[ek]at a ⊢;unfold Ahd;lia
    .rw[if_neg c2];cases c3:l<i
     .rw[if_pos ⟨c3,J⟩,if_pos ⟨J,J⟩];show ha _ _ sD sD
     .rw[if_neg J];cases c4:l<j
      .rw[if_pos ⟨c4,sr⟩];show ha _ _ J sD
      .rw[if_neg J];show ha _ _ WL J
def KN(hn:1<=n):∃p,TU (λi j=>decide (key i<key j)) (kas_sort n)=p/\p.l.Perm (List.range n)/\p.l.E (Ahd key):=by
 let fin:∀p,Ord n n p->Asc key n p->p.l.Perm (List.range n)/\p.l.E (Ahd key):=λp ho ha=>by
  let hs:=ho.t;exists Uv.H ho.perm,Kj.X λi j hi hj WL=>?_;rw[Ys]at hi hj
  have:=ha i j WL J
  rwa[Yy,Yy,YO hi,YO hj]at this
 unfold kas_sort;rw[PX];let(k,p,e1,e2,e3,e4,e5):=jA (key:=key) hn (p:=(List.range n).C) {DQ _,λi _ hi=>by simp[Array.getD,hi]};rw[e1];change ∃q,TU _ (if k<n then kas_bin (n-max k 1) p (max k 1) else .ret p)=q/\_
 cases c:k<n
 .rw[if_pos c,Nat.max_eq_left e2];let(q,h1,h2,h3):=Aj (n-k) k p sD e4 e5;exists q,h1,fin q h2 h3
 .rw[if_neg c];let rfl:k=n:=J;exists p,Z,fin p e4 e5
end
end My
namespace L2
open PySem PySem.Spec PyProof.Rows
def ND(P:Program)(w:World)(K:Ad)(mg:Af)(base:Heap)(N:List Str)(qual:Str)(scope:Scope)(f:Addr)(cd:Value)(cl:List (Str×Addr))(A:Around)(outer:List Env)(s:Shared)(H:Hp):(Cx) where
 prog:=P
 w:=w
 K:=K
 mg:=mg
 base:=base
 A:=A.deeper (PySem.W.envX qual scope (~~~s) f cd cl)
 N:=N
 s₀:=s
 H₀:=H
 env:=PySem.W.envX qual scope (~~~s) f cd cl
 outer:=outer
 stack:=PySem.W.envX qual scope (~~~s) f cd cl::outer
 ex:=[]
 calm:=true
 fn:=λ_=>false
 pn:=[]
 xe:=λ_ _=>False
structure LamScope(v x:Str)(sc:Scope):Prop where
 kind:sc.kind=.function
 co:sc.isCoroutine=false
 gen:sc.isGenerator=false
 nocell:∀y∈sc.names,y.2≠.cell
 par:sc.names.U v=some .local
 free:sc.names.U x=some .free
 only:∀y,sc.names.U y=some .free->y=x
 ne:v≠x
section
variable{P:Program}{w:World}{K:Ad}{mg:Af}{base:Heap}{qual name v x:Str}{scope:Scope}{f c c':Addr}{cd pm QU u ux:Value}{A:Around}{outer:List Env}{s:Shared}{H:Hp}{vv vx:V}{params:Arguments}{body:Expr}{k:Nat}{t:TE}{Q:VK}
def va{c2:Addr}(h:List.U y [(x,c)]=some c2):y=x/\c2=c:=by
 unfold List.lookup at h;split at h
 .rename_i e;exists RL.H e,(Yk h).symm
 .cases h
def jy(S:LamScope v x scope)(hd:A.handled=none)(e0:Env0 P w K mg base A outer s H)(hc:s.D.IsCell c (some ux))(rx:RelV vx ux)(jx:H c=none)(rv:RelV vv u){h1:Heap}{tk:Nat}
  (Vl:h1.Ns (~~~s) λy=>[(v,u)].reverse.U y)(hk:∀b o,s.D.G b=some o->h1.G b=some o):
  Inv (ND P w K mg base [v,x] qual scope f cd [(x,c)] A outer s H) [] [some vv,some vx] H {s with heap:=h1,toks:=tk}:=by
 let HQ:∀b:Addr,b∉(ND P w K mg base [v,x] qual scope f cd [(x,c)] A outer s H).ex:=λb z=>absurd (show b∈([]:List Addr) from z) B;let hck:h1.IsCell c (some ux):=by let(o,e,d):=hc;exists o,hk _ _ e,d
 let lk:List.U x [(x,c)]=some c:=by unfold List.lookup;rw[xF]
 show⟨{e0.mod,S.kind,Z,Z,XI _,λy z c2 h1 h2=>?_,λy hy=>?_,λy c2 z _=>(nomatch z),λ_=>hd,Around.frames_deeper e0.frames,.inr ⟨Z,Z⟩,λb z=>absurd z<|HQ b,e0.bs,e0.bsz,λb _ _=>HQ b,λb z=>absurd z<|HQ b,e0.funs,e0.frf},
  rfl,e0.bare,Un.kept hk,{_,Vl,λi y v' h1 h2 h3=>?_},λy c2 h=>?_,e0.hok.fresh<|XI _,λy c2 h=>?_,λp hp=>absurd (show p∈([]:List (Addr×Obj)) from hp) B,e0.hok.kept hk,Z⟩
 .rw[(va h1).1,(va h2).1]
 .let hy:scope.names.U y=some .cell\/scope.names.U y=some .free:=hy;rcases hy with hy|hy
  .show absurd Z (S.nocell _<|RO hy)
  .rw[S.only y hy];exists c,lk
 .match i,h1,h2 with
  |0,h1,h2=>
   let rfl:v=y:=Yk h1;let rfl:vv=v':=Yk (Yk h2);exists u,rv,.inl {S.par,?_};change List.U v [(v,u)]=some u
   unfold List.lookup;rw[xF]
  |1,h1,h2=>
   let rfl:x=y:=Yk h1;let rfl:vx=v':=Yk (Yk h2);exists ux,rx,.inr {.inr S.free,c,lk,hck}
  |i+2,h1,h2=>cases h1
 .rw[(va h).2];exists _,hck
 .rw[(va h).2];show jx
def Ai(S:LamScope v x scope)(hr:Room (k+1) A)(e0:Env0 P w K mg base A outer s H)(ho:s.D.G f=some (PySem.W.kla_obj name qual params body scope [(x,c)] pm c' QU))(Tj:s.D.CodeRec ↑c' qual)
  (Sm:bindArgs (PySem.W.kla_fn name qual params body scope [(x,c)] pm ↑c' QU) {[u],[]}=pure [(v,u)])(hc:s.D.IsCell c (some ux))(rx:RelV vx ux)(jx:H c=none)(rv:RelV vv u)
  (hb:PE (ND P w K mg base [v,x] qual scope f ↑c' [(x,c)] A outer s H) body t)(hq:t [some vv,some vx] H Q):
  codeAny (model P w) A (.call ↑f {[u],[]}) (λr s'=>∃u',r=.ok (.ret u')/\CE outer P w H s Q u' s') s:=by
 let lim:s.D.NoLimit:=e0.mod.nolimit.keeps λb o e=>(e0.bs b o e).1;show PySem.W.kla_callFunE hr.depth ho Z S.co S.gen Z Tj ?_;rw[Sm];show Yh (wpAny_newFunctionEnv S.nocell (λy hy=>?_) (λh1 Vl vW=>{lim.fresh _ vW,?_}) S.kind)
 .rw[XD.H hy];show S.par
 let hk:∀b o,s.D.G b=some o->h1.G b=some o:=λb o e=>vW.extBut b o (YA<|Ym e) (Xf _ e);let I:Inv (ND P w K mg base [v,x] qual scope f ↑c' [(x,c)] A outer s H) [] [some vv,some vx] H {s with heap:=h1,toks:=s.toks+[(v,u)].f}:=jy S hr.hd e0 hc rx jx rv Vl hk
 show PySem.W.kla_codeExpr (Ud (hb [] _ _ H _ I hq) (λu' s' h=>?_) λe s' h=>False.elim h);let(y,H',AP,r,q):=h;exists u',Z,y,H',AP.os,AP.bare,AP.base,AP.hok,r,q
end
end L2
namespace My
open PySem PySem.W PyProof.Rows
def Asks{α:Type}(n:Nat)(R:α->Prop):(KasT α->Prop)
 | .ret a=>R a
 | .ask i j k=>i<n/\j<n/\∀b,Asks n R (k b)
def Asks.bind{α β:Type}{R:α->Prop}{S:β->Prop}{f:α->KasT β}:∀{t:KasT α},Asks n R t->(∀a,R a->Asks n S (f a))->Asks n S (t.bind f)
 | .ret a,h,hf=>hf a h
 | .ask _ _ _,h,hf=>{h.1,h.2.1,λb=>Asks.bind (h.2.2 b) hf}
def goT_wp'{α:Type}{R:α->Prop}{c:Nat->Nat->Bool}{cmp:Nat->Nat->(Bool->Shared->Prop)->Shared->Prop}{AP:Shared->Prop}(h:∀i j C s,i<n->j<n->AP s->(∀s',AP s'->C (c i j) s')->cmp i j C s){Q:α->Shared->Prop}:∀t s,Asks n R t->AP s->(∀s',AP s'->Q (TU c t) s')->t.kasWp cmp Q s
 | .ret _,s,_,hs,q=>q s hs
 | .ask i j k,s,ha,hs,q=>h i j _ s ha.1 ha.2.1 hs λs' Wf=>goT_wp' h (k<|c i j) s' (ha.2.2 _) Wf q
section
variable{n:Nat}
def Bd(n:Nat)(p:Array Nat):(Prop):=p.Perm (List.range n).C
def Bd.lt(h:Bd n p)(hn:1<=n)(i:Nat):p.S i 0<n:=by
 cases hi:i<p.t
 .let e1:=QV (p:=p) hi;rw[<-YH]at e1;show YV.H ((Uv.H h).mem_iff.H (WT e1))
 .rw[Yy,xQ J];show hn
def Bd.rev(h:Bd n p)(i j:Nat):Bd n (kas_rev p i j):=(mirror_perm _ _ _ _).m h
def jw(hn:1<=n)(hp:Bd n p):∀f m:Nat,Asks n (λ_=>True) (kas_asc p f m)
 |0,m=>trivial
 |f+1,m=>⟨hp.lt hn _,hp.lt hn _,λb=>by
  cases b with
  |true=>show trivial
  |false=>show jw hn hp f<|m+1⟩
def u9(hn:1<=n):∀f p m q,Bd n p->Asks n (λr=>Bd n r.1) (kas_desc f p m q)
 |0,p,m,q,hp=>hp
 |f+1,p,m,q,hp=>⟨hp.lt hn _,hp.lt hn _,λb=>by
  cases b with
  |true=>
   change Asks n _ (if q>0 then kas_desc f (kas_rev p (m-(q+1)) m) (m+1) 0 else kas_desc f p (m+1) 0);split
   .show u9 hn f _ _ _ (hp.rev _ _)
   .show u9 hn f _ _ _ hp
  |false=>
   exists hp.lt hn _,hp.lt hn _,λd=>?_;cases d with
   |true=>show hp
   |false=>show u9 hn f _ _ _ hp⟩
def ZS4(hn:1<=n)(hp:Bd n p)(m r:Nat):Asks n (λz=>Bd n z.2) (kas_tail3 m r p):=
 (jw hn (hp.rev _ _) _ _).bind λ_ _=>hp.rev _ _
def Ah(hn:1<=n)(hp:Bd n p)(m r:Nat):Asks n (λz=>Bd n z.2) (kas_descPart m r p):=
 (u9 hn _ p _ _ hp).bind λz hz=>by
  split
  .show ZS4 hn (hz.rev _ _) _ _
  .show ZS4 hn hz _ _
def ZP7(hn:1<=n)(hp:Bd n p)(r:Nat):Asks n (λz=>Bd n z.2) (kas_count r p):=
 (jw hn hp _ _).bind λz _=>by
  split
  .show hp
  .split
   .exists hp.lt hn _,hp.lt hn _,λb=>?_;cases b with
    |true=>show hp
    |false=>show Ah hn (hp.rev _ _) _ _
   .show Ah hn hp _ _
def jv(hn:1<=n)(hp:Bd n p)(k:Nat):∀f l r:Nat,Asks n (λ_=>True) (kas_place p k f l r)
 |0,l,r=>trivial
 |f+1,l,r=>by
  unfold kas_place;split
  .show trivial
  .exists hp.lt hn _,hp.lt hn _,λb=>?_;cases b with
   |true=>show jv hn hp k f _ _
   |false=>show jv hn hp k f _ _
def ZZ7(hn:1<=n):∀f p k,Bd n p->Asks n (λz=>Bd n z) (kas_bin f p k)
 |0,p,k,hp=>hp
 |f+1,p,k,hp=>(jv hn hp k _ _ _).bind λl _=>ZZ7 hn f _ _ ((bubble_perm _ _ _).m hp)
def PV(hn:1<=n):Asks n (λz=>Bd n z) (kas_sort n):=
 (ZP7 hn (p:=(List.range n).C) (DQ _) n).bind λz hz=>by
  split
  .show ZZ7 hn _ _ _ hz
  .show hz
end
end My
namespace L2
open PySem PySem.Spec PyProof.Rows PySem.W
def Pf(key:Int->Int)(ns ms:Ac):(Prop):=∃p:List Nat,p.Perm (List.range ns.f)/\p.E (My.Ahd λi=>key<|ns.S i 0)/\ms=p.R λi=>ns.S i 0
section
variable{X:Cx}{pins:List (Addr×Obj)}{σ:St}{H:Hp}{s:Shared}{b:Addr}{o:Obj}
def Inv.pin1(I:Inv X pins σ H s)(F:FpOk X pins H b)(e:s.D.G b=some o)(hd:∀v,o.data≠.cell v):Inv X (pins++[(b,o)]) σ H s:=I.pins_of λp hp=>by
 rcases XB.H hp with hp|hp
 .show I.pin p (Yd _ hp)
 .rw[XD.H hp];exists e,F.1,F.2.1,F.2.2.1,hd
def FpOk.more{pl:List (Addr×Obj)}(F:FpOk X pins H b)(hn:∀p∈pl,p.1≠b):FpOk X (pins++pl) H b:=⟨F.1,F.2.1,F.2.2.1,F.2.2.2.1,F.2.2.2.2.1,λp hp=>by
 rcases XB.H hp with hp|hp
 .show F.2.2.2.2.2 p (Yc _ hp)
 .rcases XB.H hp with hp|hp
  .show F.2.2.2.2.2 p (Yd _ hp)
  .show hn p hp⟩
def Inv.changed{h':Heap}{t':Nat}(I:Inv X pins σ H s)(F:FpOk X pins H b)(k:∀c o,c≠b->s.D.G c=some o->h'.G c=some o):Inv X pins σ H {s with heap:=h',toks:=t'}:=
 I.turned k F.1 F.2.1 F.2.2.2.1 F.2.2.2.2.1 F.2.2.2.2.2
def Inv.adopt(I:Inv X pins σ H s)(hex:X.ex=[])(F:FpOk X pins H b)(new:ObjOk X.prog X.w (upd H b u) s.D b u):Inv X pins σ (upd H b u) s:=by
 let f4:(~~~X.s₀)<=b:=F.2.2.2.1.resolve_left (by rw[hex];simp);let hn:=F.1
 exists I.ok,I.os,I.bare,{I.base.keep,I.base.slot,λc o e n hc=>?_,I.base.there,λc xs q=>?_,λc o w q=>?_,λc ps q=>?_},I.loc,I.cell,?_,λx c e=>?_,λp hp=>?_,λc w e=>?_,I.len
 .rw[Za (YA<|Yq (Ym e) f4)];show I.base.free c o e n hc
 .have:=I.base.tups c xs q
  rwa[Za (Wz this hn)]
 .have:=I.base.frzs c o w q
  rwa[Za (Wz this hn)]
 .let⟨m,this⟩:=I.base.tbls c ps q;exists m,by rwa[Za (Wz this hn)]
 .rw[Za (Xb F.2.1)];show I.free
 .rw[Za (F.2.2.2.2.1 x c e)];show I.freeC x c e
 .have:=I.pin p hp
  exists this.1,by rw[Za (F.2.2.2.2.2 p hp)];show this.2.1,this.2.2
 .cases hb:c=b
  .subst hb;rw[XS]at e;cases e;show new
  .rw[Za hb]at e;show(I.hok c w e).stay (λ_ _ _ q=>q) (λd q=>by rwa[Za (Wz q hn)]) λd xs q=>by rwa[Za (Wz q hn)]
end
section
variable{X:Cx}{pins:List (Addr×Obj)}{σ:St}{H:Hp}{s:Shared}{a kS:Addr}{A:Around}{E:Ae}{P:PySem.Fin->Shared->Prop}{kA:Array Value}{e e1:Nat}{ns:Ac}{vs:Ag}
def Zi7{st:SortSt}{out:Ag}(I:Inv X (pins++[(a,seqObj "list" #[] e1),(kS,seqObj "list" kA e)]) σ H s)(Fa:FpOk X pins H a)(Fk:FpOk X pins H kS)(NT:a≠kS)(hz:kA.t<64)(Qs:failedOf st=none)
  (GC:(arrOf st).R (·.2)=out.C)(hlen:out.f<64)(h:∀s' m,Inv X pins σ H s'->s'.D.G a=some (seqObj "list" out.C m)->P (.done<|.ret .none) s'):
  wpAny (model X.prog X.w) A (ksk_tail a false e1 ↑kS st) P E s:=by
 let LA:sizeLine=16777216:=Uu;let pa:=(I.pin (a,seqObj "list" #[] e1) B).1
 let pk:=(I.pin (kS,seqObj "list" kA e) B).1;let I0:Inv X pins σ H s:=I.unpinned
 let ju:(s.D.update kS<|Obj.mapSeq λ_=>(#[]:Array Value)).G a=some (seqObj "list" #[] e1):=(YU _ _<|Xb NT).m pa;obtain⟨m,hm⟩:∃m,((s.D.update kS<|Obj.mapSeq λ_=>(#[]:Array Value)).update a (Obj.mapSeq λ_=>out.C)).G a=some (seqObj "list" out.C m):={_,OL ju λ_=>out.C};unfold ksk_tail;dsimp only;rw[GC];show XU (MP pk Z ?_ J<|Yi _);show XU (Fl ?_);show XU (seqEpoch_at ju Z ?_);show XU (MP ju Z ?_ (Yi _)<|by simp;lia);rw[Qs];simp only[tH,Pz,Rm];show Yh (h _ m ?_ hm);let I1:Inv X pins σ H {s with heap:=s.D.update kS<|Obj.mapSeq λ_=>(#[]:Array Value),toks:=s.toks}:=I0.changed Fk λc o hc q=>(YU _ _<|Xb hc).m q
 show I1.changed (t':=s.toks) Fa λc o hc q=>(YU _ _<|Xb hc).m q
def ZD9{vs:Ag}{ns:Ac}(h0:IntsAre vs ns):∀i,i<ns.f->∃t,vs[i]?=some (.int (ns.S i 0) t):=by
 induction h0 with
 |nil=>show λi h=>absurd h (SW _)
 |cons n t r ih=>
  intro i h;cases i with
  |zero=>exists t,Z
  |succ i=>show ih i (by rw[YF]at h;lia)
end
def EB(c:Addr)(qual:Str):(HO):=.ext λh=>h.CodeRec ↑c qual
def TabH(H:Hp)(Pt:Addr)(pos:Pos)(qual:Str):(Prop):=∃ps:Array Value,H Pt=some (.tbl ps)/\TriplesOk ps.l/\(codeAmong pos ps.l=none\/∃c,codeAmong pos ps.l=some ↑c/\H c=some (EB c qual))
def SameX(Pt:Addr)(H H':Hp):(Prop):=∀b o,b≠Pt->H b=some o->H' b=some o
def ZO2{c:Addr}(h1 h2:Heap)(r:h1.CodeRec ↑c qual)(k:∀o,h1.G c=some o->h2.G c=some o):h2.CodeRec ↑c qual:=by let(c2,o,vs,t,e,g,r):=r;cases e;exists c,o,vs,t,Z,k _ g,r
section
variable{X:Cx}{pins:List (Addr×Obj)}{σ:St}{H:Hp}{s:Shared}{c Pt cc:Addr}{x:Str}{params:Arguments}{body:Expr}{scope:Scope}{pos:Pos}{E:Ae}{Q:Ae}
def Inv.builtinsAt(I:Inv X pins σ H s)(hB:X.base.BuiltinsAt X.mg Pt):s.D.BuiltinsAt X.mg Pt:=by let(bm,o,h1,h2,h3,h4,h5,h6):=hB;exists bm,o,h1,h2,h3,h4,I.bk _ _ h5,h6
def z9(I:Inv X pins σ H s)(TR:X.L.code=.ref c)(hC:codeHdIn X.K c Pt=true)(hB:X.base.BuiltinsAt X.mg Pt)(hT:TabH H Pt pos (X.L.qual++Str.ofString "<lambda>"))(Te:closureFor scope X.L=pure [(x,cc)])(GB:defaultsOf params X.L=([],[]))(z8:mainGlobals≠Pt)
  (h:∀f c' pm QU s' H',SameX Pt H H'->TabH H' Pt pos (X.L.qual++Str.ofString "<lambda>")->FpOk X pins H' f->Inv X pins σ H' s'->s'.D.G f=some (kla_obj (Str.ofString "<lambda>") (X.L.qual++Str.ofString "<lambda>") params body scope [(x,cc)] pm c' QU)->H' c'=some (EB c'<|X.L.qual++Str.ofString "<lambda>")->Q ↑f s'):
  wpAny (model X.prog X.w) X.A (eval (.Lambda params body scope pos) X.L) Q E s:=by
 let(ps,hP,z7,Vx):=hT;let Uj:s.D.G Pt=some (tabObj ps):=I.hok Pt _ hP
 let Vl:s.D.Ns mainGlobals X.mg:=I.mod.glob.keeps I.bk;let hHd:=codeHd_of_K I.kIn hC
 show kla_eval GB ?_;rcases Vx with hnf|⟨c',hf,Wk⟩
 .show kla_makeFunction Te I.ok.glob Vl TR hHd Uj z7 hnf z8 (I.builtinsAt hB) λc' QU h' tk hx Rf Xm KL htb=>?_;let hPl:Pt<(~~~s):=Ym Uj
  let uZ:H c'=none:=I.hok.fresh Rf;let hcP:c'≠Pt:=Vp (Yq hPl Rf)
  let keep:∀b o,b≠Pt->s.D.G b=some o->(h'.push<|kla_obj (Str.ofString "<lambda>") (X.L.qual++Str.ofString "<lambda>") params body scope [(x,cc)] ((X.mg "__name__").S .none) c' QU).G b=some o:=λb o hb e=>Xf _ (hx b o hb e);let sx:SameX Pt H (upd (upd H Pt<|.tbl<|ps++#[rawInt pos.line,rawInt pos.col,.ref c']) c'<|EB c'<|X.L.qual++Str.ofString "<lambda>"):=λb o hb e=>by rwa[Za (Wz e uZ),Za hb]
  let tb:TabH (upd (upd H Pt<|.tbl<|ps++#[rawInt pos.line,rawInt pos.col,.ref c']) c'<|EB c'<|X.L.qual++Str.ofString "<lambda>") Pt pos (X.L.qual++Str.ofString "<lambda>"):=by let et:(ps++#[rawInt pos.line,rawInt pos.col,Value.ref c']).l=ps.l++[rawInt pos.line,rawInt pos.col,.ref c']:=B;exists ps++#[rawInt pos.line,rawInt pos.col,.ref c'],by rw[Za (Xb hcP),XS],by rw[et];show TriplesOk_snoc _ _ _ _ z7,.inr {c',by rw[et];show codeAmong_snoc _ z7 hnf,XS}
  let GA:∀b,H b=none->b≠Pt:=λb n z=>by rw[z,hP]at n;cases n
  show h h'.objs.t c' _ QU _ _ sx tb ?_ (I.un {λb o e n _ _=>keep b o (GA b n) e,λb o e n _ _=>{o.slots,keep b o (GA b n) e},λb o e n _=>?_,λb o e _=>?_,λb xs e=>?_,λb o u e=>?_,λb qs e=>?_} λb u e=>?_) (Yp _ Z) XS
  .let jt:(~~~s)<=h'.objs.t:=J;show I.fpOk jt ?_;rw[Za (Vp Xm),Za (Vp<|Yq hPl jt)];show I.hok.fresh jt
  .rw[Za (YA<|Yq (Ym e) Rf),Za (GA b n)];show n
  .cases hb:b=Pt
   .rw[hb];exists _,Xf _ htb
   .exists o,keep b o hb e
  .show sx b _ (λz=>by rw[z,hP]at e;cases e) e
  .show sx b _ (λz=>by rw[z,hP]at e;cases e) e
  .cases hb:b=Pt
   .subst hb;rw[hP]at e;let rfl:ps=qs:=by cases e;rfl
    exists #[rawInt pos.line,rawInt pos.col,.ref c'],by rw[Za (Xb hcP),XS]
   .exists #[],by rw[sx b _ hb e];simp
  .cases hb:b=c'
   .subst hb;rw[XS]at e;cases e;exists ZO2 _ _ KL λo g=>Xf _ g,?_,ZO2;let(c2,o,_,_,e2,g,_):=KL;cases e2;exists o,Xf _ g
   .rw[Za hb]at e;cases Gz:b=Pt
    .subst Gz;rw[XS]at e;cases e;show Xf _ htb
    .rw[Za Gz]at e;show(I.hok b u e).stay (λd o hd g=>keep d o (λz=>?_) g) (λd g=>sx d _ (λz=>by rw[z,hP]at g;cases g) g) λd xs g=>sx d _ (λz=>by rw[z,hP]at g;cases g) g;rcases hd with hd|hd
     .show Gz (hd.symm.m z)
     .rw[z,hP]at hd;cases hd
 .show kla_makeFunctionHit Te I.ok.glob Vl TR hHd Uj z7 hf (I.builtinsAt hB) λQU h' tk hk hsz=>?_;show h h'.objs.t c' _ QU _ H (λ_ _ _ e=>e) {ps,hP,z7,.inr ⟨c',hf,Wk⟩} (I.fpOk hsz<|I.hok.fresh hsz) (I.kept λb o e=>Xf _<|hk b o e) (Yp _ Z) Wk
end
section
variable{Ui:Pos}{Pt:Addr}
def SqT.samex{K:Ad}{H H2:Hp}{a:Addr}{xs:List V}{qual:Str}(h:SqT K H a xs)(t:TabH H Pt Ui qual)(sx:SameX Pt H H2):SqT K H2 a xs:=by
 let(ps,hP,_):=t;rcases h with (h|⟨o,h⟩)|h
 .show .inl (.inl<|sx _ _ (λz=>by rw[z,hP]at h;cases h) h)
 .show .inl (.inr {o,sx _ _ (λz=>by rw[z,hP]at h;cases h) h})
 .show .inr h
end
def NC(Pt:Addr)(H:Hp):(Prop):=H Pt=some (.tbl #[])/\∀b,b=Pt\/H b=none\/∃o xs,H b=some (.frz o<|.lst xs)
def ZG8{P:Program}{w:World}{K:Ad}{mg mb:Af}{CX:RH}{k:Nat}{fa a Pt c:Addr}{fd:FuncData}{x:Str}{sp:Sp}{s₁:Shared}{vs:Ag}{ns:Ac}
  (KX:K.In s₁.D)(Vl:s₁.D.Ns mainGlobals mg)(hb:s₁.D.Ns builtinsNs mb)(mK:∀x:Str,x≠"__name__"->mb x=bootBuiltins x)(js:s₁.D.NoLimit)(hg:s₁.gens=#[])
  (hT:s₁.D.G Pt=some (tabObj #[]))(hC:codeHdIn K c Pt=true)(jr:K.U Pt=none)(hbm:∃bm ob,mg (Str.ofString "__builtins__")=some ↑bm/\bm≠builtinsNs/\s₁.D.G bm=some ob/\ob.cls=.type "module"/\ob.dict=some builtinsNs/\ob.data=.plain)
  (ha:s₁.D.G a=some {cls:=.type "list",data:=.seq vs.C})(hi:IntsAre vs ns)(hl:ns.f<=sizeLine)(hr:Room k callerA)
  (F:∀base:Heap,K.In base->base.Ns mainGlobals mg->base.BuiltinsAt mg Pt->FnOk P w K mg base CX k fa fd [x] sp)(Sm:∀s u,BindsTo s fd {[u],[]} [(x,u)])
  (Sa:∀H:Hp,NC Pt H->SqL K H a (ns.R V.int)->sp [.ref a] H (λv _=>v=.bl true) λ_ _ _=>False)
  (jq:∀H e s',CX [] H s₁ (λ_ _ _=>False) e s'->False):
  codeAny (model P w) callerA (.call ↑fa {[.ref a],[]}) (λr s'=>r=.ok (.ret<|.bool true)/\OldK s₁.D s'.D/\s'.os=s₁.os/\AllBare s'.gens) s₁:=by
 let rv:=qh hi;let jo:=hi.f
 let haP:a≠Pt:=λz=>by rw[z,hT]at ha;cases ha
 let core:∀H:Hp,NC Pt H->SqL K H a (ns.R V.int)->HOk P w H s₁.D->(∀b,H b≠none->b=a\/b=Pt)->(H a≠none->K.U a=none)->
   codeAny (model P w) callerA (.call ↑fa {[.ref a],[]}) (λr s'=>r=.ok (.ret<|.bool true)/\OldK s₁.D s'.D/\s'.os=s₁.os/\AllBare s'.gens) s₁:=by
  intro H hO hS hok hA hK;let base_of:∀{b:Addr}{o:Obj},s₁.D.G b=some o->H b=none->(Ut s₁.D H).G b=some o:=λe n=>Zah e n
  let free:∀{b:Addr}{o:Obj},s₁.D.G b=some o->(∀XW n,o.data≠.seq XW n)->(∀vs,o.data≠.fields vs)->H b=none:=λ{b o} e d1 d2=>by
   cases q:H b with
   |none=>rfl
   |some u=>
    rcases hA b (by rw[q];simp) with e'|e'
    .subst e';rw[ha]at e;cases e;show absurd Z (d1 _ _)
    .subst e';rw[hT]at e;cases e;show absurd Z (d2 _)
  let uY:∀{b:Addr}{m:Af},s₁.D.Ns b m->(Ut s₁.D H).Ns b m:=λ{b m} ⟨o,es,ep,e,d,r⟩=>{o,es,ep,base_of e (free e (λ_ _ z=>by rw[d]at z;cases z) λ_ z=>by rw[d]at z;cases z),d,r};let hKb:K.In (Ut s₁.D H):=λb o e=>base_of (KX b o e) (by
   cases q:H b with
   |none=>rfl
   |some u=>
    rcases hA b (by rw[q];simp) with e'|e'
    .subst e';rw[hK (by rw[q];simp)]at e;cases e
    .subst e';rw[jr]at e;cases e)
  let hM:Mod K mg (Ut s₁.D H):={hKb,uY Vl,{mb,uY hb,mK},by let(mc,h1,h2):=js;exists mc,uY h1,h2};let hB:(Ut s₁.D H).BuiltinsAt mg Pt:=by
   let(bm,ob,b1,b2,b3,b4,b5,b6):=hbm;exists bm,ob,b1,b2,λz=>?_,λz=>?_,base_of b3 (free b3 (λ_ _ z=>by rw[b6]at z;cases z) λ_ z=>by rw[b6]at z;cases z),b4,b5,b6
   .let⟨o,es,ep,e,d,_⟩:=Vl;rw[z,e]at b3;cases b3;rw[d]at b6;cases b6
   .rw[z,hT]at b3;cases b3;cases b4
  let e0:Env0 P w K mg (Ut s₁.D H) callerA [] s₁ H:={Z,hM,λb o e=>Zai e,xm<|ZP8 _ _,trivial,λb hb=>absurd (show b∈([]:List Addr) from hb) B,hok,.of_eq hg};show Mb ((F _ hKb (uY Vl) hB).run callerA [] s₁ H {[.ref a],[]} [.ref a] [.ref a] _ _ hr e0 (Sm s₁<|.ref a) (.cons Z .nil) (Sa H hO hS)) λr s' h=>?_;cases r with
  |error e=>show(jq H e s' h).elim
  |ok fl=>
   cases fl with
   |next=>show False.elim h
   |brk=>show False.elim h
   |cont=>show False.elim h
   |ret u=>
    let(v,H',os,bare,un,zZ,r',q):=h;let q':v=.bl true:=q
    subst q';let rfl:u=Value.bool true:=r';let(more,eP):=un.tbls Pt #[] hO.1;let hP':s'.D.G Pt=some {cls:=.none,data:=.fields (#[]++more)}:=zZ Pt _ eP
    let kept:∀b o,b≠Pt->s₁.D.G b=some o->s'.D.G b=some o:=λb o Vu e=>by
     cases q:H b with
     |none=>show un.keep b o e q (by intro z;show absurd (show b∈([]:List Addr) from z) B) B
     |some u=>
      rcases hO.2 b with z|z|⟨ob,xs,z⟩
      .show absurd z Vu
      .rw[q]at z;cases z
      .let z2:=un.frzs b ob _ z;let(e1,_):=hok b _ z;let(e2,_):=zZ b _ z2;rw[e]at e1;cases e1;show e2
    exists Z,{λb o e=>?_,λb o e=>?_},os,bare
    .cases Vu:b=Pt
     .subst Vu;rw[hT]at e;let rfl:=Yk e;let(oc,vsc,_,_,_,_,_,_,_,c1,c2,c3,c4,_):=codeHd_of_K KX hC;show .inr (.inl {⟨c,oc,vsc,c1,c2,c3,c4⟩,Z,#[],more,Z,hP'})
     .show .inl (kept b o Vu e)
    .cases Vu:b=Pt
     .rw[Vu];exists _,hP'
     .exists o,kept b o Vu e
 cases hk:K.U a with
 |some o=>
  let e:=KX a o hk;rw[ha]at e;cases e;show core (λb=>if b=Pt then some (.tbl #[]) else none) {if_pos Z,λb=>?_} (.inr {_,vs.C,_,hk,Z,Z,Z,by rw[Xk,jo];show hl,by simpa using rv}) (λb u z=>?_) (λb z=>?_) λz=>absurd (if_neg haP) z
  .cases Vu:b=Pt
   .show .inl Vu
   .show .inr (.inl<|if_neg Vu)
  .cases Vu:b=Pt
   .let z':=(if_pos Vu).symm.m z;cases z';subst Vu;show hT
   .let z':=(if_neg Vu).symm.m z;cases z'
  .cases Vu:b=Pt
   .show .inr Vu
   .show absurd (if_neg Vu) z
 |none=>
  show core (λb=>if b=Pt then some (.tbl #[]) else if b=a then some (.frz {cls:=.type "list",data:=.seq vs.C} (.lst<|ns.R V.int)) else none) {if_pos Z,λb=>?_} (.inl<|.inr {{cls:=.type "list",data:=.seq vs.C},(if_neg haP).m (if_pos Z)}) (λb u z=>?_) (λb z=>?_) λ_=>hk
  .cases Vu:b=Pt
   .show .inl Vu
   .cases hb:b=a
    .show .inr (.inr {_,_,(if_neg Vu).m (if_pos hb)})
    .show .inr (.inl<|(if_neg Vu).m (if_neg hb))
  .cases Vu:b=Pt
   .let z':=(if_pos Vu).symm.m z;cases z';subst Vu;show hT
   .cases hb:b=a
    .let z':=((if_neg Vu).m (if_pos hb)).symm.m z;cases z';subst hb;exists ha,by rw[Yb];show hl,vs,_,rv,ha
    .let z':=((if_neg Vu).m (if_neg hb)).symm.m z;cases z'
  .cases Vu:b=Pt
   .show .inr Vu
   .cases hb:b=a
    .show .inl hb
    .show absurd ((if_neg Vu).m (if_neg hb)) z
def NB{l:PySem.W.OpenLaw}{n k:Nat}{q:Program}{loose:List Str}{XP:Af->Heap->Prop}{YP:World->Heap->Prop}{d:DefRec}{K:Params->Ad}{CX:RH}{sp:Ad->Sp}{x:Str}{c Pt:Addr}
  (hn:l.most=some n)(OB:n<=sizeLine)(qi:d.params.defaults=[])(hr:Room k callerA)
  (hY:∀(w:World)(h:Heap),YP w h->(K w.params).In h/\h.G Pt=some (tabObj #[]))(hC:∀w:World,codeHdIn (K w.params) c Pt=true)(jr:∀w:World,(K w.params).U Pt=none)
  (F:∀(w:World)(mg:Af)(fa:Addr)(h:Heap),(K w.params).In h->h.Ns mainGlobals mg->mg d.name=some ↑fa->
   ∃fd:FuncData,(∀(s:Shared)(u:Value),BindsTo s fd {[u],[]} [(x,u)])/\
    ∀base:Heap,(K w.params).In base->base.Ns mainGlobals mg->base.BuiltinsAt mg Pt->FnOk l.prog w (K w.params) mg base CX k fa fd [x] (sp<|K w.params))
  (Sa:∀(w:World)(H:Hp)(a:Addr)(ns:Ac),ns.f<=n->NC Pt H->SqL (K w.params) H a (ns.R V.int)->sp (K w.params) [.ref a] H (λv _=>v=.bl true) λ_ _ _=>False)
  (jq:∀(H:Hp)(s:Shared)(e:Value)(s':Shared),CX [] H s (λ_ _ _=>False) e s'->False):
  PySem.W.WalkO q loose XP YP l.row.toRowW d [] (λf vs=>PySem.call f vs):=by show Att.SE hn qi λw s₀ s₁ mg mb fa o pm cd doc a vs ns G Y ho hd Tj CG HH hints hlen hg=>?_;let(KX,hT):=hY w _ Y;let(fd,hb,hF):=F w mg fa _ KX G.T.g CG;show ZG8 KX G.T.g G.T.b G.T.builtins G.T.nolimit hg hT (hC w) (jr w) G.T.bmain HH hints (Yj hlen OB) hr hF hb (λH hO hS=>Sa w H a ns hlen hO hS) λH e s'=>jq H s₁ e s'
def VM(K:Ad)(mg:Af)(base:Heap)(fd:FuncData)(Pt:Addr):(Prop):=∃c,fd.code=.ref c/\codeHdIn K c Pt=true/\base.BuiltinsAt mg Pt/\mainGlobals≠Pt
def LamScope.of(h1:sc.kind=.function)(h2:sc.isCoroutine=false)(h3:sc.isGenerator=false)(h4:sc.names=[(v,.local),(x,.free)]\/sc.names=[(x,.free),(v,.local)])(hn:v≠x):LamScope v x sc:=by
 let b1:(v == x)=false:=tm hn;let b2:(x == v)=false:=tm (Xb hn)
 exists h1,h2,h3,λy hy=>?_,?_,?_,λy hy=>?_,hn
 .let l1:NameKind.local≠NameKind.cell:=su;let l2:NameKind.free≠NameKind.cell:=su
  rcases h4 with e|e<;>rw[e]at hy<;>rcases Yf.H hy with rfl|hy
  .show l1
  .rw[XD.H hy];show l2
  .show l2
  .rw[XD.H hy];show l1
 .rcases h4 with e|e<;>rw[e]<;>simp[List.lookup,b1,b2]
 .rcases h4 with e|e<;>rw[e]<;>simp[List.lookup,b1,b2]
 .rcases h4 with e|e<;>rw[e]at hy<;>simp only[List.lookup]at hy
  .split at hy
   .cases hy
   .split at hy
    .rename_i q;show RL.H q
    .cases hy
  .split at hy
   .rename_i q;show RL.H q
   .split at hy
    .cases hy
    .cases hy
section
variable{P:Program}{w:World}{K:Ad}{mg:Af}{base:Heap}
def Fun.okL{x qual:Str}{st:Stmt}{f c:Addr}{fd:FuncData}{N ps:List Str}{k:Nat}{sp:Sp}(F:Fun K x qual st f fd)(hc:fd.code=.ref c)(S:FnScope N ps (Zb st))(len:∀vs H Q E,sp vs H Q E->vs.f=ps.f)
  (hbody:∀A outer s H vs Q E,Room k (A.deeper<|envOfC qual (Zb st) (~~~s) f<|.ref c)->sp vs H Q E->
   ∃t,PSs (Wx WY P w K mg base N qual (Zb st) f ↑c A outer s H E).nox (ZY st) t/\t {nx:=λ_ H'=>Q .non H',rt:=Q} (start N vs) H):FnOk P w K mg base WY (k+1) f fd ps sp:=by let(oc,od,kV,doc,pm,an,XG,ct,Tx,rfl,lk,Tj):=F.ex;let rfl:XG=.ref c:=hc;show HP lk Tj S len λA outer s H vs Q E hr Sa=>?_;let(t,h,q):=hbody A outer s H vs Q E hr Sa;exists t,h.nox,q
end
end L2
namespace My
open PySem L2
def pl(ls T U:Ac):(Prop):=HT.ltP (Ak ls T,T) (Ak ls U,U)=true
def OrdL(ls:Ac)(m:Nat)(os:Ac):(Prop):=os.Perm (VI m)/\os.E λx y=>GG ls x<GG ls y\/(GG ls x=GG ls y/\x<y)
def jn(g:Zx n ps)(hT:Zf n ps T)(hW:Zf n ps W)(h:∀z∈T,z∈W):T=W:=
 GR (vB hT) (vB hW) λz=>(jE g hT hW h).mem_iff
structure Ent where
 T:Ac
 I:Ac
 O:Ac
deriving DecidableEq
end My
namespace L2
open PySem PySem.Spec PyProof.Rows PySem.W My
def SameX.same(s:Same H H'):SameX Pt H H':=λb o _ e=>s b o e
def SameX.trans{Pt:Addr}{H H1 H2:Hp}(a:SameX Pt H H1)(b:SameX Pt H1 H2):SameX Pt H H2:=λc o hc e=>b c o hc (a c o hc e)
def TabH.same(t:TabH H Pt pos qual)(s:Same H H'):TabH H' Pt pos qual:=by
 let(ps,h1,h2,h3):=t;exists ps,s _ _ h1,h2,?_;rcases h3 with h|⟨c,h,h'⟩
 .show .inl h
 .show .inr {c,h,s _ _ h'}
def TabH.ne{Pt a:Addr}{o:HO}(t:TabH H Pt pos qual)(h:H a=some o)(hn:∀ps,o≠.tbl ps):a≠Pt:=λe=>by let(ps,h1,_):=t;rw[e,h1]at h;show hn ps (Yk h).symm
def TabH.put{Pt r:Addr}{zs:List V}{u:List V}(t:TabH H Pt pos qual)(hr:H r=some (.lst zs)):TabH (upd H r (.lst u)) Pt pos qual:=by
 let(ps,h1,h2,h3):=t;show{ps,by rw[Za (OK h1 hr B)];show h1,h2,?_};rcases h3 with h|⟨c,h,h'⟩
 .show .inl h
 .show .inr {c,h,by rwa[Za (OK h' hr<|by unfold EB;simp)]}
end L2
namespace My
open PySem L2
def SqK.samex(h:SqK kd K H a xs)(t:TabH H Pt pos qual)(sx:SameX Pt H H2):SqK kd K H2 a xs:=by
 cases kd with
 |true=>show SqT.samex (show SqT K H a xs from h) t sx
 |false=>
  rcases(show SqL K H a xs from h) with (h|⟨o,h⟩)|h
  .show .inl (.inl<|sx _ _ (t.ne h B) h)
  .show .inl (.inr {o,sx _ _ (t.ne h B) h})
  .show .inr h
def WebAt.samex(h:WebAt C H w n ps)(t:TabH H Pt pos qual)(sx:SameX Pt H H2):WebAt C H2 w n ps:=by let(dx,tl,xs,h1,h2,h3):=h;exists dx,tl,xs,sx _ _ (t.ne h1 B) h1,sx _ _ (t.ne h2 B) h2,h3.1,λi p hp=>?_;let(x,hx,q,e,hq):=h3.2 i p hp;exists x,hx,q,e,sx _ _ (t.ne hq B) hq
end My
namespace My
def un1{α:Type}{P:List α->Prop}(h:∀a,P [a])(l:List α)(e:l.f=1):P l:=by let(a,rfl):=AU e;show h a
def qb{α:Type}{P:List α->Prop}(h:∀a b,P [a,b])(l:List α)(e:l.f=2):P l:=by let(a,b,rfl):=AS e;show h a b
def un3{α:Type}{P:List α->Prop}(h:∀a b c,P [a,b,c])(l:List α)(e:l.f=3):P l:=by let(a,b,c,rfl):=AR e;show h a b c
def un4{α:Type}{P:List α->Prop}(h:∀a b c d,P [a,b,c,d])(l:List α)(e:l.f=4):P l:=by let(a,b,c,d,rfl):=AQ e;show h a b c d
def un5{α:Type}{P:List α->Prop}(h:∀a b c d e,P [a,b,c,d,e])(l:List α)(e:l.f=5):P l:=by
 cases l with
 |nil=>cases e
 |cons x r=>
  let(a,b,c,d,rfl):=AQ (Md e);show h x a b c d
end My
namespace My
open PySem L2
def ZQ4(h:TC n ps c):c=0↔∀T,¬Zf n ps T:=by
 let(L,a1,a2,a3):=h;constructor
 .intro e T hT;rw[e]at a3
  have:=(a2 T).X hT
  rw[YW.H a3]at this;cases this
 .intro e;rw[<-a3,YW];show eW.X λT hT=>e T ((a2 T).H hT)
end My
namespace L2
open PySem PySem.Spec PyProof.Rows PySem.W
def zW:∀bs:List Bool,(bs.R Value.bool).mapM firstOfTuple'=(pure ((bs.R Value.bool).R λ_=>none):Sem _)
 |[]=>B
 |b::bs=>by rw[TM,List.mapM_cons,zW bs];change(pure none >>= λb=>pure _ >>= λbs=>pure<|b::bs)=_;simp
def Zu2:∀bs:List Bool,(bs.R Value.bool).mapM typeOf=(pure ((bs.R Value.bool).R λ_=>Value.type "bool"):Sem _)
 |[]=>B
 |b::bs=>by rw[TM,List.mapM_cons,Zu2 bs];change(pure (Value.type "bool") >>= λb=>pure _ >>= λbs=>pure<|b::bs)=_;simp
def Zh7{ns:Ac}{key:Int->Bool}(hk:kA.l=ns.R λz=>Value.bool (key z))(h2:2<=ns.f):keyKind' kA=pure oneType':=by
 let e:kA=((ns.R key).R Value.bool).C:=by rw[<-Array.toArray_toList (xs:=kA),hk,Mc];rfl
 rw[e];obtain⟨b1,b2,bs,eb⟩:∃b1 b2 bs,ns.R key=b1::b2::bs:=by
  match ns,h2 with
  |x::y::l,_=>exists _,_,_,Z
 rw[eb,keyKind'_eq,List.mapM_toArray,zW];simp only[map_pure,pure_bind];rw[if_neg B,if_neg B];rw[oneTypeOnly'_eq,List.mapM_toArray,Zu2];simp only[map_pure,pure_bind];let UJ:((List.R (λ_=>Value.type "bool")<|List.R Value.bool<|b1::b2::bs).C.all λx=>x == Value.type "bool")=true:=by simp only[List.all_toArray,List.all_map,OW];intro _ _;rfl
 let h0:(List.R (λ_=>Value.type "bool")<|List.R Value.bool<|b1::b2::bs).C[0]?=some (Value.type "bool"):=B;rw[h0];simp only[UJ,LS,pure_bind,Option.isSome_some]
def jm{E:Ae}{s:Shared}{Q:Bool->Shared->Prop}(h:Q (decide (b2i p<b2i q)) s):wpAny (model prog w) A (keyLt' oneType' (.bool p) (.bool q)) Q E s:=by rw[keyLt'_oneType,oneLt'_eq];simp only[LS];show XU (wpAny_cRoomFor_byValue Z ?_);show XU (wpAny_callSpecialIfBound?_slot (typeIs_bool' s p) F.slot_bool_lt<|call_gives F.slot_bool_lt (typeIs_bool' s p) F.entry_int_lt (F.args_int_lt_2 _ _) (gives_int_lt_bools p q) ?_);show Mi h
section
variable{X:Cx}{pins:List (Addr×Obj)}{σ:St}{H:Hp}{s:Shared}{a kS:Addr}{A:Around}{E:Ae}{P:PySem.Fin->Shared->Prop}{kA:Array Value}{e e1:Nat}{f:Value}{key:Int->Bool}{ns:Ac}{vs:Ag}
def jk(hv:IntsAre vs ns)(hk:kA.l=ns.R λz=>Value.bool (key z))(hi:i<ns.f):∃u,kas_item (kA.zip vs.C) i=(.bool (key (ns.S i 0)),.int (ns.S i 0) u):=by
 let(u,hu):=ZD9 hv i hi;let ht:kA.l[i]?=some (Value.bool<|key<|ns.S i 0):=by rw[hk,Yw,Ya,Xp hi];rfl
 exists u,?_;unfold kas_item;rw[Yy,<-YH,ksk_zip,(eM (z:=(Value.bool<|key<|ns.S i 0,Value.int (ns.S i 0) u))).X ⟨ht,hu⟩];rfl
def Zi5(hv:IntsAre vs ns)(hk:kA.l=ns.R λz=>Value.bool (key z)):∀l:List Nat,(∀i∈l,i<ns.f)->IntsAre (l.R λi=>(kas_item (kA.zip vs.C) i).2) (l.R λi=>ns.S i 0)
 |[],_=>.nil
 |i::l,h=>by
  let(u,e):=jk hv hk (h i Ye);let r:=Zi5 hv hk l λj hj=>h j (Yg _ hj)
  rw[TM,TM,e];show .cons _ u r
def zV(I:Inv X (pins++[(a,seqObj "list" #[] e1),(kS,seqObj "list" kA e)]) σ H s)(Fa:FpOk X pins H a)(Fk:FpOk X pins H kS)(NT:a≠kS)(hv:IntsAre vs ns)(Pn:ns.f<64)(hk:kA.l=ns.R λz=>Value.bool (key z))
  (h:∀s' m out ms,Inv X pins σ H s'->s'.D.G a=some (seqObj "list" out m)->IntsAre out.l ms->Pf (λz=>b2i<|key z) ns ms->P (.done<|.ret .none) s'):
  wpAny (model X.prog X.w) A (ksk_end a false vs.C e1 ↑kS kA) P E s:=by
 let zU:=hv.f;let jj:=QP List.f hk
 rw[Ys,Yb]at jj;let hzs:(kA.zip vs.C).t=ns.f:=by rw[Array.size_zip,show vs.C.t=vs.f from Xk];grind
 unfold ksk_end;dsimp only;rw[if_neg su];cases h2:vs.C.t<2
 .rw[if_pos h2,if_pos h2];rw[Xk]at h2;show XU (Yh ?_);rw[StateT.run_pure];show XU (Yh ?_);dsimp only;show Zi7 (out:=vs) I Fa Fk NT J Z ?_ sD λs' m AP e=>h s' m vs.C ns AP e (by simpa using hv) ?_
  .change(if false=true then (kA.zip vs.C).reverse else kA.zip vs.C).R (·.2)=vs.C;rw[if_neg su,Array.map_snd_zip (by rw[Xk];lia)]
  .exists List.range ns.f,Ij _,?_,?_
   .match ns.f,(show ns.f<2 by lia) with
    |0,_=>show List.E.nil
    |1,_=>show IM _ _
   .match ns,(show ns.f<2 by omega) with
    |[],_=>rfl
    |[x],_=>rfl
 .rw[if_neg h2,if_neg h2];rw[Xk]at h2;rw[Zh7 hk J];show XU (Yh ?_);rw[if_neg su];let(p,TQ,VE,Jd):=My.KN (n:=ns.f) (key:=λi=>b2i<|key<|ns.S i 0) J;let runs:=kas_runs (prog:=X.prog) (w:=X.w) (A:=A) (E:=E) (κ:=oneType') (it:=kA.zip vs.C) (n:=ns.f) (s:=s) (Q:=λ_ st s'=>s'=s/\failedOf st=none/\arrOf st=p.R (kas_item<|kA.zip vs.C))
   (G:=λq s'=>s'=s/\q=p) sr Pn (λq st s' _ e2 e3 e4=>{e4.1,e3,by rw[e2,e4.2]})
   (My.goT_wp' (c:=λi j=>decide<|b2i (key<|ns.S i 0)<b2i (key<|ns.S j 0)) (AP:=λs'=>s'=s) (λi j C s' hi hj hs hC=>by let(u,e):=jk hv hk hi;let(u',e'):=jk hv hk hj;unfold kas_cmp;rw[e,e'];show jm<|hC s' hs) _ s (My.PV sr) Z λs' hs=>⟨hs,TQ⟩)
  unfold kasC kas_st at runs;rw[<-hzs,kas_range]at runs;show XU (Ud runs ?_ λ_ _ z=>z);rintro⟨⟨⟩,st⟩ s' ⟨rfl,hf,ha⟩;dsimp only;let hb:∀i∈p.l,i<ns.f:=λi hi=>YV.H (VE.mem_iff.H hi)
  let UX:p.l.f=ns.f:=by rw[VE.length_eq,MW]
  show Zi7 (out:=p.l.R λi=>(kas_item (kA.zip vs.C) i).2) I Fa Fk NT J hf ?_ (by rw[Yb];lia) λUb m AP e=>h Ub m _ _ AP e (by simpa using Zi5 hv hk p.toList hb) ⟨p.l,VE,Jd,Z⟩;let ha:arrOf st=p.R (kas_item<|kA.zip vs.C):=ha
  rw[ha,Array.map_map];show Array.toList_inj.H B
def ZI8(I:Inv X (pins++[(a,seqObj "list" #[] e1),(kS,seqObj "list" #[] 0)]) σ H s)(Fa:FpOk X pins H a)(Fk:FpOk X pins H kS)(NT:a≠kS)(hv:IntsAre vs ns)(Pn:ns.f<64)
  (turn:∀pl z t s',z∈ns->Inv X (pins++pl) σ H s'->wpAny (model X.prog X.w) A (call f [.int z t]) (λv Ub=>v=.bool (key z)/\Inv X (pins++pl) σ H Ub) (λ_ _=>False) s')
  (h:∀s' m out ms,Inv X pins σ H s'->s'.D.G a=some (seqObj "list" out m)->IntsAre out.l ms->Pf (λz=>b2i<|key z) ns ms->P (.done<|.ret .none) s'):
  wpAny (model X.prog X.w) A (ksk_rest a f false vs.C e1<|.ref kS) P E s:=by
 let LA:sizeLine=16777216:=Uu;let zU:=hv.f
 unfold ksk_rest;show XU (Pw ?_);rw[<-Array.forIn_toList];simp only[List.toList_toArray];show XU (ksk_fold (λi s'=>∃kA e,Inv X (pins++[(a,seqObj "list" #[] e1),(kS,seqObj "list" kA e)]) σ H s'/\kA.l=(ns.M i).R λz=>Value.bool<|key z) vs 0 s ⟨#[],0,I,Z⟩ ?step ?done)
 case step=>
  rintro j x s' hx ⟨kA,e,AP,hk⟩;rw[Tn]at hk ⊢;let hj:j<ns.f:=by rw[<-zU];show(XA.H hx).1
  let(t,ht):=ZD9 hv j hj;rw[hx]at ht;let rfl:=Yk ht;let hz:kA.t<=j:=by let h1:=QP List.f hk;rw[Ys,Yb,Yl]at h1;lia
  let eg:ns.S j 0=ns[j]:=by rw[Ya,Xp hj];rfl
  let hmem:ns.S j 0∈ns:=by rw[eg];show II hj
  show XU (Fm<|Ud (turn _ _ t s' hmem AP) (λv Ub he=>?_) λ_ _ hF=>hF.elim);let(rfl,J2):=he;dsimp only;let pk:=(J2.pin (kS,seqObj "list" kA e) B).1
  obtain⟨c2,UR⟩:∃c2,(Ub.D.update kS (Obj.mapSeq (·.push (.bool<|key<|ns.S j 0)))).G kS=some (seqObj "list" (kA.push<|.bool<|key<|ns.S j 0) c2):={_,OL pk (·.push (.bool<|key<|ns.S j 0))};show XU (MP pk Z ?_ J<|by rw[Array.size_push];lia);show Yh {Z,kA.push<|.bool<|key<|ns.S j 0,c2,?_,?_}
  .let J3:Inv X (pins++[(a,seqObj "list" #[] e1)]) σ H Ub:=J2.pins_of λp hp=>J2.pin p (Yd _ (by
    rcases XB.H hp with hp|hp
    .show Yc _ hp
    .show Yd _<|by rw[XD.H hp];show Ye))
   let Fk2:FpOk X (pins++[(a,seqObj "list" #[] e1)]) H kS:=Fk.more λp hp=>by rw[XD.H hp];show NT
   let J4:=(J3.changed (t':=Ub.toks) Fk2 λc o hc q=>(YU Ub.D (Obj.mapSeq (·.push (.bool<|key<|ns.S j 0)))<|Xb hc).m q).pin1 Fk2 UR λv z=>by cases z
   rwa[Yu]at J4
  .let ek:((ns.M<|j+1).R λz=>Value.bool<|key z)=((ns.M j).R λz=>Value.bool<|key z)++[Value.bool (key<|ns.S j 0)]:=by rw[List.take_add_one,Xp hj,YQ,eg];rfl
   rw[RQ,ek,hk]
 case done=>
  rintro s' ⟨kA,e,AP,hk⟩;rw[Tn,zU,YR]at hk;let pk:=(AP.pin (kS,seqObj "list" kA e) B).1
  show XU (DE pk Z ?_);show zV AP Fa Fk NT hv Pn hk h
def ZH8(I:Inv X pins σ H s)(Fa:FpOk X pins H a)(ho:s.D.G a=some (seqObj "list" vs.C n))(hv:IntsAre vs ns)(Pn:ns.f<64)
  (turn:∀pl z t s',z∈ns->Inv X (pins++pl) σ H s'->wpAny (model X.prog X.w) A (call f [.int z t]) (λv Ub=>v=.bool (key z)/\Inv X (pins++pl) σ H Ub) (λ_ _=>False) s')
  (h:∀s' m out ms,Inv X pins σ H s'->s'.D.G a=some (seqObj "list" out m)->IntsAre out.l ms->Pf (λz=>b2i<|key z) ns ms->P (.done<|.ret .none) s'):
  wpAny (model X.prog X.w) A (ksk_tree a f false) P E s:=by
 let LA:sizeLine=16777216:=Uu;let zU:=hv.f
 obtain⟨e1,AZ⟩:∃e1,(s.D.update a<|Obj.mapSeq λ_=>(#[]:Array Value)).G a=some (seqObj "list" #[] e1):={_,OL ho λ_=>#[]};let I1:Inv X pins σ H {s with heap:=s.D.update a<|Obj.mapSeq λ_=>(#[]:Array Value),toks:=s.toks}:=I.changed Fa λc o hc q=>(YU _ _<|Xb hc).m q
 let I2:Inv X pins σ H {s with heap:=(s.D.update a<|Obj.mapSeq λ_=>(#[]:Array Value)).push (seqObj "tuple" vs.C 0),toks:=s.toks}:=I1.kept λc o q=>Xf _ q;let Th:((s.D.update a<|Obj.mapSeq λ_=>(#[]:Array Value)).push (seqObj "tuple" vs.C 0)).G a=some (seqObj "list" #[] e1):=Xf _ AZ
 unfold ksk_tree;show XU (DE ho Z ?_);show XU (MP ho Z ?_ (by rw[Xk];lia)<|Yi _);show XU (seqEpoch_at AZ Z ?_);show XU (wpAny_newTuple ?_<|by change vs.f<=_;omega);show XU (Mf ?_<|Yi _);show Sd ?_;let Fk:FpOk X pins H ((s.D.update a<|Obj.mapSeq λ_=>(#[]:Array Value)).push (seqObj "tuple" vs.C 0)).objs.t:=I2.fpOk (XI _) (I2.hok.fresh<|XI _)
 let NT:a≠((s.D.update a<|Obj.mapSeq λ_=>(#[]:Array Value)).push (seqObj "tuple" vs.C 0)).objs.t:=YA (Ym Th);let I3:Inv X pins σ H {s with heap:=((s.D.update a<|Obj.mapSeq λ_=>(#[]:Array Value)).push (seqObj "tuple" vs.C 0)).push (seqObj "list" #[] 0),toks:=s.toks}:=I2.kept λc o q=>Xf _ q
 let I4:=(I3.pin1 Fa (Xf _ Th) λv z=>by cases z).pin1 (Fk.more (pl:=[(a,seqObj "list" #[] e1)]) λp hp=>by rw[XD.H hp];show NT) (Yp _ Z) λv z=>by cases z
 rw[Yu]at I4;show ZI8 I4 Fa Fk NT hv Pn turn h
def ZY5{tp q:Addr}{Q:Ae}(I:Inv X pins σ H s)(ht:s.D.IsList tp vs.C)(hv:IntsAre vs ns)(Pn:ns.f<64)
  (turn:∀pl z t s',z∈ns->Inv X (pins++pl) σ H s'->wpAny (model X.prog X.w) A.in1.in1 (call ↑q [.int z t]) (λv Ub=>v=.bool (key z)/\Inv X (pins++pl) σ H Ub) (λ_ _=>False) s')
  (h:∀s' a m out ms,FpOk X pins H a->Inv X pins σ H s'->s'.D.G a=some (seqObj "list" out m)->IntsAre out.l ms->Pf (λz=>b2i<|key z) ns ms->Q ↑a s'):
  wpAny (model X.prog X.w) A (call (.builtin "sorted") [.ref tp] [(Str.ofString "key",.ref q)]) Q E s:=by
 let LA:sizeLine=16777216:=Uu;let zU:=hv.f
 show call_function_entry_kw kind_sorted plain_sorted entry_sorted (ksk_s1 _ _) ?_;unfold Builtin.«sorted»;show XU (m:=checkCount "sorted" 1 1 _) (Yh ?_);show XU (collect_list ht ?_ sr);show XU (Mf ?_ sr);let hsz:((s.D.push<|seqObj "list" #[] 0).update (~~~s) (Obj.mapSeq (·++vs.C))).objs.t=(~~~s)+1:=by rw[sN,size_push']
 let OI:(((s.D.push<|seqObj "list" #[] 0).update (~~~s) (Obj.mapSeq (·++vs.C))).push (seqObj "list" vs.C 0)).G ((~~~s)+1)=some (seqObj "list" vs.C 0):=by rw[<-hsz];show Yp _ rfl
 let keep:∀b o,s.D.G b=some o->(((s.D.push<|seqObj "list" #[] 0).update (~~~s) (Obj.mapSeq (·++vs.C))).push (seqObj "list" vs.C 0)).G b=some o:=λb o q=>by let Xm:b<(~~~s):=Ym q;show Xf _ ((YU _ _<|Vp Xm).m (Xf _ q))
 change wpAny _ _ _ _ _ {s with heap:=((s.D.push<|seqObj "list" #[] 0).update (~~~s) (Obj.mapSeq (·++vs.C))).push (seqObj "list" vs.C 0)};rw[hsz];let Fa:FpOk X pins H ((~~~s)+1):=I.fpOk (Ue _) (I.hok.fresh<|Ue _)
 show XU (Sd<|wpAny_call_entry_kw xf ⟨_,OI,Z⟩ xh ?body (ksk_l1 _ _));change wpAny (model X.prog X.w) A.in1.in1 (Builtin.«list.sort» {[.ref ((~~~s)+1)],[(Str.ofString "key",.ref q)]}) _ _ _
 rw[ksk_t1];show ZH8 (s:={s with heap:=((s.D.push<|seqObj "list" #[] 0).update (~~~s) (Obj.mapSeq (·++vs.C))).push (seqObj "list" vs.C 0),toks:=s.toks}) (I.kept keep) Fa OI hv Pn turn λs' m out ms AP e hi hs=>{_,Z,?_};show Yh {_,Z,h s' _ m out ms Fa AP e hi hs}
end
def ji(K:Ad)(Pt:Addr)(Ui:Pos)(qual:Str)(i:Nat)(te tb:TE):(TE):=λσ H Q=>te σ H λy H1=>∃(p:Addr)(ns:Ac)(vx:V)(key:Int->Bool),y=.ref p/\SqL K H1 p (ns.R V.int)/\ns.f<64/\TabH H1 Pt Ui qual/\σ[i]?=some (some vx)/\
 (∀H2,SameX Pt H1 H2->∀z∈ns,tb [some (.int z),some vx] H2 λr H3=>r=.bl (key z)/\H3=H2)/\
 ∀(ms:Ac)(l:Addr)(H2:Hp),Pf (λz=>b2i<|key z) ns ms->SameX Pt H1 H2->TabH H2 Pt Ui qual->H2 l=none->Q ↑l (upd H2 l<|.lst<|ms.R V.int)
section
variable{X:Cx}{p kp pos Ui:Pos}{e body:Expr}{params:Arguments}{scope:Scope}{te tb:TE}{v x:Str}{i k:Nat}{c Pt cc:Addr}
def SqL.samexT{K:Ad}{H H2:Hp}{a:Addr}{xs:List V}{qual:Str}(h:SqL K H a xs)(t:TabH H Pt Ui qual)(sx:SameX Pt H H2):SqL K H2 a xs:=by
 let(ps,hP,_):=t;rcases h with (h|⟨o,h⟩)|h
 .show .inl (.inl<|sx _ _ (λz=>by rw[z,hP]at h;cases h) h)
 .show .inl (.inr {o,sx _ _ (λz=>by rw[z,hP]at h;cases h) h})
 .show .inr h
def jh(he:PE X e te)(hg:Gl X (Str.ofString "sorted"))(hm:X.mg (Str.ofString "sorted")=none)(hr:Room (k+3) X.A)(hex:X.ex=[])(TR:X.L.code=.ref c)(hC:codeHdIn X.K c Pt=true)(hB:X.base.BuiltinsAt X.mg Pt)(z8:mainGlobals≠Pt)
  (S:LamScope v x scope)(Te:closureFor scope X.L=pure [(x,cc)])(GB:defaultsOf params X.L=([],[]))(Sm:∀(c':Addr)(pm QU u:Value),bindArgs (kla_fn (Str.ofString "<lambda>") (X.L.qual++Str.ofString "<lambda>") params body scope [(x,cc)] pm ↑c' QU) {[u],[]}=pure [(v,u)])
  (hi:X.N[i]?=some x)(hkx:X.L.kindOf x=some .cell)(VY:X.L.cells.U x=some cc)
  (hb:∀(f c':Addr)(A:Around)(outer:List Env)(s:Shared)(H:Hp),Room k (A.deeper<|envX (X.L.qual++Str.ofString "<lambda>") scope (~~~s) f ↑c' [(x,cc)])->PE (ND X.prog X.w X.K X.mg X.base [v,x] (X.L.qual++Str.ofString "<lambda>") scope f ↑c' [(x,cc)] A outer s H) body tb)(hs:starEach [e] X.L=[(false,eval e X.L)]:=by rfl):
  PE X (.Call (.Name (Str.ofString "sorted") p) [e] [{some<|Str.ofString "key",.Lambda params body scope Ui,kp}] pos) (ji X.K Pt Ui (X.L.qual++Str.ofString "<lambda>") i te tb):=by
 intro pins s σ H Q I h;show OX (Pu I hg hm Boot.«sorted» ?_ su su);let ha:PA X [e] (Us te QC):=XY he XX hs
 show callWith_kw (thn (ha pos pins s σ H (λvs H1=>match vs with
  |[y]=>∃(p:Addr)(ns:Ac)(vx:V)(key:Int->Bool),y=.ref p/\SqL X.K H1 p (ns.R V.int)/\ns.f<64/\TabH H1 Pt Ui (X.L.qual++Str.ofString "<lambda>")/\σ[i]?=some (some vx)/\
   (∀H2,SameX Pt H1 H2->∀z∈ns,tb [some (.int z),some vx] H2 λr H3=>r=.bl (key z)/\H3=H2)/\
   ∀(ms:Ac)(l:Addr)(H2:Hp),Pf (λz=>b2i<|key z) ns ms->SameX Pt H1 H2->TabH H2 Pt Ui (X.L.qual++Str.ofString "<lambda>")->H2 l=none->Q ↑l (upd H2 l<|.lst<|ms.R V.int)
  |_=>False) I h) λus s1 hh=>?_) (by rw[hs];rfl) (by rw[hs];rfl) Z rfl
 let(vs,H1,I1,r,q):=hh
 match vs,r,q with
 |[],_,q=>show False.elim q
 |_::_::_,_,q=>show False.elim q
 |[y],r,q=>
  let(p2,ns,vx,key,rfl,hq,Pn,hT,hσ,hk,q):=q;let(u,rfl,ru):=SK r;let rfl:u=Value.ref p2:=ru;show kws_cons (z9 I1 TR hC hB hT Te GB z8 λf c' pm QU s2 H2 sx tab F I2 hf Wk=>kws_nil ?_);let I3:=I2.pin1 F hf λv z=>by cases z
  let RW:=SqL.samexT hq hT sx;let(XW,rv,g1,hz):=I2.list RW;let hv:=ZA rv
  show ZY5 I3 g1.isList hv Pn (key:=key) (λpl z t s3 hmem AP=>?_) λs3 a m out ms Fa AP KJ GC WV=>?_
  .-- the lambda called
   let Qr:s3.D.G f=some (kla_obj (Str.ofString "<lambda>") (X.L.qual++Str.ofString "<lambda>") params body scope [(x,cc)] pm c' QU):=(AP.pin (f,_)<|Yd _<|Yc _<|Yd _ Ye).1;let(mm,_,jg):=AP.loc;let(ux,rx,zT):=jg i x vx hi hσ (.inr<|.inl hkx);let Rl:s3.D.IsCell cc (some ux):=by
    rcases zT with ⟨kz,_⟩|⟨_,c2,e2,UR⟩
    .rw[hkx]at kz;cases kz
    .rw[VY]at e2;cases e2;show UR
   let KL:s3.D.CodeRec ↑c' (X.L.qual++Str.ofString "<lambda>"):=(AP.hok c' _ Wk).1;let Vr:Room (k+1) X.A.in1.in1:=(hr.in1).in1
   show Fj (Mb (Ai (u:=.int z t) (vv:=.int z) S Vr AP.env0.in1.in1 Qr KL (Sm c' pm QU _) Rl rx (AP.freeC x cc VY) ⟨t,Z⟩ (hb f c' _ _ s3 H2<|Vr.deeper _)<|hk H2 sx z hmem) λrr s4 hh=>?_);let(u',rfl,ce):=hh;let(v',H',J',mq,e1,e2):=AP.after ce;subst e1 e2;let rfl:=mq;exists Z,J'
  .let J0:Inv X pins σ H2 s3:=AP.unpinned;let Fa0:FpOk X pins H2 a:=⟨Fa.1,Fa.2.1,Fa.2.2.1,Fa.2.2.2.1,Fa.2.2.2.2.1,λp hp=>Fa.2.2.2.2.2 p (by
    rcases XB.H hp with hp|hp
    .show Yc _ hp
    .show Yd _<|Yc _ hp)⟩
   let Lu:ms.f=ns.f:=by let(pp,h1,_,rfl):=WV;rw[Yb,h1.length_eq,MW]
   exists .ref a,_,J0.adopt hex Fa0 (u:=.lst<|ms.R V.int) {?_,out.l,m,Oh GC,by simpa using KJ},Z,q ms a H2 WV sx tab Fa.1;rw[Yb,Lu]
   have:sizeLine=16777216:=Uu
   lia
end
abbrev PU:List (Str×Value):=[(Str.ofString "default",.none)]
section
variable{prog:Program}{w:World}{A:Around}{I S:Addr}{fp wr:List Addr}{n:Nat}{P:Nat->Value->Prop}{St:Nat->Heap->Prop}{R:Result->Shared->Prop}
def Zy8(W:Walks prog w A.in1 I fp wr n P St)(lt:Nat->Nat->Bool)(C:Heap->Prop)(ck:∀h h',C h->(∀b o,b≠S->b∉wr->h.G b=some o->h'.G b=some o)->C h')(cc:∀s i j v u E Q,C s.D->i≠j->P i v->P j u->Q (.bool (lt i j)) s->wpAny (model prog w) A.in1 (compareOp .Lt v u) Q E s)(RD:S∉fp):∀k j s vb c,n-(j+1)=k->j+1<=n->St (j+1) s.D->P (argBest lt j) vb->C s.D->
  s.D.G S=some {cls:=.type "list",dict:=none,data:=.seq #[vb,vb] c,slots:=#[]}->
  (∀v h' tk,P (argBest lt<|n-1) v->(∀b o,b≠S->b∉wr->s.D.G b=some o->h'.G b=some o)->R (.ok<|.ret v) {s with heap:=h',toks:=tk})->
  codeAny (model prog w) A (.builtin "min.loop" {[.ref I,.none,.ref S],PU}) R s:=by
 let uX:S∉wr:=λh=>RD (W.sub _ h);let nm:(toString "min"++toString ".loop":String)="min.loop":=su
 intro k
 induction k with
 |zero=>
  intro j s vb c hk hj st pb ta hS hR;let ej:j+1=n:=sD
  show RP xw ?_;rw[RM TJ _];change wpAny _ A.in1 (seqItems? ↑S >>= _) _ _ s
  show XU (IC hS Z ?_);change wpAny _ A.in1 (tryCatch (pyNext<|.ref I) _ >>= _) _ _ s
  show XU (DL<|W.done s _ _ (ej▸st) λh' tk Uy=>?_);let Ul:=Uy S _ uX hS
  change wpAny _ A.in1 (updateSeq S (λ_=>#[]) >>= _) _ _ _;show XU (xu Ul Z<|XU<|Fl<|Yh ?_);show hR vb _ tk (by rwa[<-ej]) λb o b1 b2 e=>(YU _ _<|Xb b1).m (Uy b o b2 e)
 |succ k ih=>
  intro j s vb c hk hj st pb ta hS hR;let Xm:j+1<n:=sr
  show RP xw ?_;rw[RM TJ _];change wpAny _ A.in1 (seqItems? ↑S >>= _) _ _ s
  show XU (IC hS Z ?_);change wpAny _ A.in1 (tryCatch (pyNext<|.ref I) _ >>= _) _ _ s
  show XU (DL<|W.item (j+1) s _ _ Xm st λv h' tk pv XQ Uy=>?_);let Ul:=Uy S _ uX hS
  let jf:=ck _ h' ta λb o _ b2 e=>Uy b o b2 e;change wpAny _ A.in1 (tryCatch (holding [v,v]<|richCompare .Lt (v) (vb) >>= _) _ >>= _) _ _ _
  show XU (DL<|Sd<|XU<|show wpAny _ _ (compareOp .Lt (v)<|vb) _ _ _ from cc {s with heap:=h',toks:=tk} (j+1) _ v vb _ _ jf (Vp<|Nat.lt_succ_of_le<|My.Rh _ _) pv pb ?_);show XU (Sd<|Mi ?_);show XU (Fl<|Yh ?_);cases hb:lt (j+1) (argBest lt j) with
  |true=>
   simp only[LS];show XU (xu Ul Z<|XU<|Fl ?_);rw[nm];let up:∀b o,b≠S->h'.G b=some o->(h'.update S<|Obj.mapSeq λ_=>#[v,v]).G b=some o:=λb o b1 e=>(YU _ _<|Xb b1).m e
   show Yh {Me TJ _,ih (j+1) _ (v) _ sr Xm (W.frame _ h' _ XQ λb Ji o e=>up b o (λh=>RD<|h▸Ji) e) ?_ (ck _ _ jf λb o b1 _ e=>up b o b1 e) (OZ _ Ul Z) λv' Hr NA zS zR=>?_}
   .unfold argBest;rw[if_pos hb];show pv
   .show hR v' Hr NA zS λb o b1 b2 e=>zR b o b1 b2 (up b o b1<|Uy b o b2 e)
  |false=>
   simp only[Pz,Rm];show XU (Fl ?_);rw[nm];show Yh {Me TJ _,ih (j+1) _ (vb) c sr Xm XQ ?_ jf Ul λv' Hr NA zS zR=>?_}
   .unfold argBest;rwa[if_neg (by rw[hb];decide)]
   .show hR v' Hr NA zS λb o b1 b2 e=>zR b o b1 b2 (Uy b o b2 e)
def je(W:Walks prog w A.in1 I fp wr n P St)(lt:Nat->Nat->Bool)(C:Heap->Prop)(ck:∀h h',C h->(∀b o,b≠S->b∉wr->h.G b=some o->h'.G b=some o)->C h')(cc:∀s i j v u E Q,C s.D->i≠j->P i v->P j u->Q (.bool (lt i j)) s->wpAny (model prog w) A.in1 (compareOp .Lt v u) Q E s)(RD:S∉fp)(hn:0<n){c:Nat}(st:St 0 s.D)(ta:C s.D)(hS:s.D.G S=some {cls:=.type "list",dict:=none,data:=.seq #[] c,slots:=#[]})
  (hR:∀v h' tk,P (argBest lt<|n-1) v->(∀b o,b≠S->b∉wr->s.D.G b=some o->h'.G b=some o)->R (.ok<|.ret v) {s with heap:=h',toks:=tk}):
  codeAny (model prog w) A (.builtin "min.loop" {[.ref I,.none,.ref S],PU}) R s:=by
 let uX:S∉wr:=λh=>RD (W.sub _ h);let nm:(toString "min"++toString ".loop":String)="min.loop":=su
 show RP xw ?_;rw[RM TJ _];change wpAny _ A.in1 (seqItems? ↑S >>= _) _ _ s
 show XU (IC hS Z ?_);change wpAny _ A.in1 (tryCatch (pyNext<|.ref I) _ >>= _) _ _ s
 show XU (DL<|W.item 0 s _ _ hn st λv h' tk pv XQ Uy=>?_);let Ul:=Uy S _ uX hS
 change wpAny _ A.in1 (updateSeq S (λ_=>#[v,v]) >>= _) _ _ _;show XU (xu Ul Z ?_);rw[nm];let up:∀b o,b≠S->h'.G b=some o->(h'.update S<|Obj.mapSeq λ_=>#[v,v]).G b=some o:=λb o b1 e=>(YU _ _<|Xb b1).m e
 show Yh {Me TJ _,Zy8 W lt C ck cc RD _ 0 _ v _ Z hn (W.frame _ h' _ XQ λb Ji o e=>up b o (λh=>RD<|h▸Ji) e) pv (ck _ _ ta λb o b1 b2 e=>up b o b1<|Uy b o b2 e) (OZ _ Ul Z) λv' Hr NA zS zR=>?_};show hR v' Hr NA zS λb o b1 b2 e=>zR b o b1 b2 (up b o b1<|Uy b o b2 e)
def Zx8(W:Walks prog w A.in1 I fp wr n P St)(hn:n=0)(RD:S∉fp){c:Nat}(st:St 0 s.D)(hS:s.D.G S=some {cls:=.type "list",dict:=none,data:=.seq #[] c,slots:=#[]})
  (hR:∀h' tk,(∀b o,b≠S->b∉wr->s.D.G b=some o->h'.G b=some o)->R (.ok<|.ret .none) {s with heap:=h',toks:=tk}):
  codeAny (model prog w) A (.builtin "min.loop" {[.ref I,.none,.ref S],PU}) R s:=by
 subst hn;show RP xw ?_;rw[RM TJ _];change wpAny _ A.in1 (seqItems? ↑S >>= _) _ _ s
 show XU (IC hS Z ?_);change wpAny _ A.in1 (tryCatch (pyNext<|.ref I) _ >>= _) _ _ s
 show XU (DL<|W.done s _ _ st λh' tk Uy=>?_);show XU (Pw<|Yh ?_);show hR h' tk λb o _ b2 e=>Uy b o b2 e
def ZA4{E:Ae}{s:Shared}{id:String}{b:Builtin}{args:Ag}{kw:List (Str×Value)}{Q:Ae}(hk:builtinKind id=none)(hp:plainId id=true)(hb:entryFor table id=some b)(ha:argsOk id ⟨args,kw⟩)
  (hc:wpAny (model prog w) A.in1 (b ⟨args,kw⟩) (λfin s'=>match fin with
   | .done f=>(match (Except.ok f:Result) with | .ok (.ret v)=>Q v s' | .ok _=>False | .error e=>E e s')
   | .again c'=>c'.quiet=true/\codeAny (model prog w) A c' (λr s'=>match r with | .ok (.ret v)=>Q v s' | .ok _=>False | .error e=>E e s') s') E s):wpAny (model prog w) A (call (.builtin id) args kw) Q E s:=by
 show Fj (xN hp hb ?_);simp only[checkBuiltinCall,hk];cases jd:Manifest.signature? id with
 |none=>show Yh hc
 |some sig=>
  let ET:Bind.checkArgs id sig ⟨args,kw⟩=pure ():=by simpa only[argsOk,jd] using ha
  simp only[ET];show Yh hc
def jc(a:Value):argsOk "min" {[a],PU}:=by unfold argsOk;kernel_rfl
def i9{E:Ae}{s:Shared}{Q:Ae}(hh:A.handled=none)(hl:s.D.IsList l (intItems xs))
  (h0:xs.t=0->∀h' tk,(∀b o,s.D.G b=some o->h'.G b=some o)->Q .none {s with heap:=h',toks:=tk})
  (h:0<xs.t->∀v h' tk,(intItems xs)[argBest (λi j=>decide<|numAt xs i<numAt xs j) (xs.t-1)]?=some v->(∀b o,s.D.G b=some o->h'.G b=some o)->Q v {s with heap:=h',toks:=tk}):
  wpAny (model prog w) A (call (.builtin "min") [.ref l] PU) Q E s:=by
 let nm:(toString "min"++toString ".loop":String)="min.loop":=su;show ZA4 F.kind_min F.plain_min F.entry_min (jc _) ?_;change wpAny _ A.in1 (Builtin.Builtins.bindParams "min" ["key","default"] 0 {[],PU} >>= _) _ _ s
 show XU (TH (a:=[none,some .none]) Z ?_);show XU (Yh ?_);show XU (iter_intList hl λs₂ e st vf hlI=>?_);subst e;show XU (Mh ?_);rw[nm];let W:=Walks.list (prog:=prog) (w:=w) (A:=A.in1) hh (~~~s) l hlI (intItems xs)
 obtain⟨G,hG⟩:∃G,G=s.D.push {cls:=.type "list_iterator",data:=.fields #[.ref l,.int 0 0]}:={_,Z};let hold:∀b o,s.D.G b=some o->b≠G.objs.t/\b∉[(~~~s)]/\(G.push {cls:=.type "list",data:=.seq #[] 0}).G b=some o:=λb o e=>by
  let Xm:=Ym e;let i8:b<G.objs.t:=by rw[hG];show Yq Xm (by rw[Mg];show Ue _)
  exists YA i8,λhm=>by rw[XD.H hm]at Xm;show QL _ Xm,Xf _<|by rw[hG];show Xf _ e
 rw[<-hG]at st vf ⊢;let RD:G.objs.t∉[(~~~s),l]:=λhm=>QL _ (vf _ hm)
 let Xg:=W.frame 0 G (G.push {cls:=.type "list",data:=.seq #[] 0}) st λb _ o e=>Xf _ e;let i7:(intItems xs).t=xs.t:=by simp[intItems]
 rcases Nat.eq_zero_or_pos xs.t with hz|hz
 .show Yh {Me TJ _,Zx8 W (i7.m hz) RD Xg (Yp _ Z) λh' tk hk=>?_};show h0 hz h' tk λb o e=>by let(a1,a2,a3):=hold b o e;show hk b o a1 a2 a3
 .show Yh {Me TJ _,je W (λi j=>decide<|numAt xs i<numAt xs j) (λ_=>True) (λ_ _ _ _=>trivial) (λs i j v u E Q _ _ pv pu q=>?_) RD (by rwa[i7]) Xg trivial (Yp _ Z) λv h' tk pv hk=>?_}
  .let⟨t1,rfl⟩:=intItems_at pv;let(t2,rfl):=intItems_at pu;show lt_int q
  .rw[i7]at pv;show h hz v h' tk pv λb o e=>by let(a1,a2,a3):=hold b o e;show hk b o a1 a2 a3
end
def i6(K:Ad)(te:TE):(TE):=λσ H Q=>te σ H λy H1=>∃p ns,y=.ref p/\SqL K H1 p (ns.R V.int)/\(ns=[]->Q .non H1)/\∀m:Int,m∈ns->(∀a∈ns,m<=a)->Q (.int m) H1
def Zm9{p kp pos cp:Pos}{j:Nat}(hc:X.calm=true)(hg:Gl X (Str.ofString "min"))(hm:X.mg (Str.ofString "min")=none)(he:PE X e te)(hs:starEach [e] X.L=[(false,eval e X.L)]:=by rfl):
  PE X (.Call (.Name (Str.ofString "min") p) [e] [{some<|Str.ofString "default",.Constant .none j cp,kp}] pos) (i6 X.K te):=by
 intro pins s σ H Q I h;show OX (Pu I hg hm Boot.«min» ?_ su su);let ha:PA X [e] (Us te QC):=XY he XX hs
 show callWith_kw (thn (ha pos pins s σ H (λvs H1=>match vs with
  |[y]=>∃p ns,y=.ref p/\SqL X.K H1 p (ns.R V.int)/\(ns=[]->Q .non H1)/\∀m:Int,m∈ns->(∀a∈ns,m<=a)->Q (.int m) H1
  |_=>False) I h) λus s1 hh=>?_) (by rw[hs];rfl) (by rw[hs];rfl) Z rfl
 let(vs,H1,I1,r,q):=hh
 match vs,r,q with
 |[],_,q=>show False.elim q
 |_::_::_,_,q=>show False.elim q
 |[y],r,q=>
  let(p2,ns,rfl,hq,q0,q1):=q;let(u,rfl,ru):=SK r;let rfl:u=Value.ref p2:=ru;show kws_cons (Constant_none<|kws_nil ?_);let(XW,rv,pl,hz):=I1.list hq;let hi:=ZA rv
  let(xs,e'):=hi.allInts.items;let Vl:ns=xs.l.R (·.1):=by rw[<-hi.numsOf,<-nums_intItems,<-e']
  let hl:=pl.isList;rw[e']at hl;show i9 (I1.ok.hd hc) hl (λhsz h' tk hk=>?_) λhsz v h' tk hv hk=>?_
  .exists .non,H1,I1.kept (t':=tk) hk,Z,q0 ?_;rw[Vl,Eb];show YW.H (by rwa[Ys])
  .let⟨t,rfl⟩:=intItems_at hv;let(h1,h2):=argBest_lt (numAt xs) (xs.t-1);exists .int _,H1,I1.kept (t':=tk) hk,⟨t,Z⟩,q1 _ ?_ λa ha=>?_
   .rw[Vl,numAt_eq];show getD_mem (by rw[Yb,Ys];omega)
   .rw[Vl]at ha;let(j,hj,rfl):=mem_getD ha;rw[Yb,Ys]at hj;rw[<-numAt_eq];show h2 j sD
end L2
namespace My
open PySem L2
def zQ(K:Ad)(mg:Af)(x qual:Str)(st:Stmt)(fs:List Str)(Pt:Addr):(Prop):=∃C f fd c,mg x=some ↑C/\Fun K "__init__" qual st f fd/\Cls K C/\Mk K C f/\(∀a∈fs,NoAttr K C a)/\fd.code=.ref c/\PySem.W.codeHdIn K c Pt=true
def Gy{mg:Af}{oc:Value}{od an:Option Addr}{Tx:Array (Option Value)}{kV doc pm ct:Value}(X:K.In h)(G:h.Ns mainGlobals mg)
  (aC:PySem.W.nsIn K mainGlobals x=some (some<|.ref C))(a:PySem.W.findIn K ↑C "__init__"=some (some<|.ref f))(i:PySem.W.isFn K ↑f=true)
  (l:K.U f=some {oc,od,.func<|PySem.W.fnOf "__init__" qual (JR st) (ZY st) (Zb st) .none kV doc pm an ↑cA ct,Tx})(c:PySem.W.codeIn K ↑cA qual=true)(k:PySem.W.keepIn K ↑f=true)
  (pg:PySem.W.plainGet K C Str.empty=true)(hd:PySem.W.hasDictIn K C=true)(po:PySem.W.plainOver K C=true)(sa:PySem.W.findIn K ↑C "__setattr__"=some (some<|.builtin "object.__setattr__"))(mk:PySem.W.makesIn K C=true)(kc:PySem.W.keepIn K ↑C=true)
  (na:∀a∈fs,PySem.W.findIn K ↑C a=some none)(z:PySem.W.codeHdIn K cA Pt=true):zQ K mg x qual st fs Pt:=
 {C,f,_,cA,MS X G aC,wG l c k,⟨pg,hd,po,sa⟩,⟨mk,a,i,kc⟩,na,Z,z}
def KI(M:Ac)(ps:Aa)(g:Ac)(i:Nat):(Ac):=(VI i).filter λz=>decide (z∉g/\mk M (ps.S z.j (0,0)).1.j≠mk M (ps.S z.j (0,0)).2.j)
def i5(M:Ac)(ps:Aa)(g:Ac)(i:Nat):KI M ps g (i+1)=KI M ps g i++if (i:Int)∉g/\mk M (ps.S i (0,0)).1.j≠mk M (ps.S i (0,0)).2.j then [(i:Int)] else []:=by
 unfold KI;rw[aV,QM];congr 1;rw[YZ,sW];change(if decide ((i:Int)∉g/\mk M (ps.S ((i:Int).j) (0,0)).1.j≠mk M (ps.S ((i:Int).j) (0,0)).2.j)=true then [(i:Int)] else [])=_
 rw[YL];simp only[IK]
def i4(M:Ac)(ps:Aa)(g:Ac)(i:Nat):(KI M ps g i).f<=i:=Yj (YE ..) (by rw[ZP];show XI _)
def Xa:(Option Int->V)
 |none=>.non
 |some z=>.int z
def uW(w k s ld l i fu:V):(List (Str×V)):=[("web",w),("kept",k),("shut",s),("lead",ld),("least",l),("incoming",i),("further",fu)]
def Wt:SameX x H (upd H x o):=λb o' hb e=>by rwa[Za hb]
def WebAt.but{C CP w x dx:Addr}(h:WebAt C H w n ps)(hx:H x=some (.ins CP dx []))(s:SameX x H H1):WebAt C H1 w n ps:=by
 let(d,tl,xs,h1,h2,h3):=h;exists d,tl,xs,s _ _ (λe=>?_) h1,s _ _ (λe=>?_) h2,h3.1,λi p e=>?_
 .rw[e,hx]at h1
  have:=QP (λo=>match o with|some (HO.ins _ _ fs)=>fs.f|_=>0) h1
  show absurd this (by change ¬0=2;decide)
 .rw[e,hx]at h2;cases h2
 .let⟨v,a1,tt,a2,a3⟩:=h3.2 i p e;exists v,a1,tt,a2,s _ _ (λe=>by rw[e,hx]at a3;cases a3) a3
def zP{CP a x dx:Addr}(h:SqT K H a xs)(hx:H x=some (.ins CP dx []))(s:SameX x H H1):SqT K H1 a xs:=by
 rcases h with (h|⟨o,h⟩)|h
 .show .inl (.inl<|s _ _ (λz=>by rw[z,hx]at h;cases h) h)
 .show .inl (.inr {o,s _ _ (λz=>by rw[z,hx]at h;cases h) h})
 .show .inr h
def zN{CP Pt x dx:Addr}(t:TabH H Pt pos qual)(hx:H x=some (.ins CP dx []))(s:SameX x H H1):TabH H1 Pt pos qual:=by
 let(ps,h1,h2,h3):=t;exists ps,s _ _ (λe=>by rw[e,hx]at h1;cases h1) h1,h2,?_;rcases h3 with h|⟨c,h,h'⟩
 .show .inl h
 .show .inr {c,h,s _ _ (λe=>by rw[e,hx]at h';cases h') h'}
def Nz(ha:SqT K H a (IL l))(hb:SqT K H b (IL m))(hl:l.f+m.f<=1000)(k:∀r H',Same H H'->SqT K H' r (IL (l++m))->Q ↑r H'):Hi K ↑a ↑b H Q:=by
 exists a,b,_,_,Z,Z,ha,hb,by rw[Xr,Xr];show Yj hl su,λe=>?_,λ_ e=>?_,λ_ _ p hp=>?_
 .let el:l=[]:=Eb.H e;rw[el,OU]at k;show k b H (Same.refl _) hb
 .let em:m=[]:=Eb.H e;rw[em,YB]at k;show k a H (Same.refl _) ha
 .show k p _ (XZ hp) (SqT.of ?_);rw[XS,wC]
def SY(M:Ac)(ps:Aa)(z:Int):(Int×Int):=(min (mk M (ps.S z.j (0,0)).1.j)<|mk M (ps.S z.j (0,0)).2.j,max (mk M (ps.S z.j (0,0)).1.j)<|mk M (ps.S z.j (0,0)).2.j)
def ZJ3{l:Ac}(hp:l.Perm [a,b])(hs:l.E (·<=·)):l=[min a b,max a b]:=by
 cases c:a<=b
 .rw[sV c,tq c];show vQ hp hs (by simpa using c)
 .rw[tu J,sU sr];show vQ (hp.m<|List.Perm.swap b a []) hs (by simp;omega)
def Zt9{z:Int}(h:z∈KI M ps g i):0<=z/\z<(i:Int):=Xx.H (Yn.H h).1
def WG(n:Int)(ps:Aa)(I O F:Ac):(Ac):=KI (Xv n.j<|XT ps I) ps (I++O++F) ps.f
def RU(n:Int)(ps:Aa)(I O F:Ac)(ld:Option Int):(Ac):=(WG n ps I O F).filter λz=>decide (∃y,ld=some y/\SY (Xv n.j<|XT ps I) ps z=SY (Xv n.j<|XT ps I) ps y)
def Vf(n:Int)(ps:Aa)(I O F:Ac)(ld:Option Int):(Ac):=(WG n ps I O F).filter λz=>decide (z∉RU n ps I O F ld)
def PartAt(K:Ad)(CP C:Addr)(H:Hp)(x:Addr)(n:Int)(ps:Aa)(I O F inc:Ac)(ld fu:Option Int):(Prop):=∃dx w a b l i,H x=some (.ins CP dx<|uW ↑w ↑a ↑b (Xa ld) ↑l ↑i<|Xa fu)/\WebAt C H w n ps/\SqT K H a (IL I)/\SqT K H b (IL O)/\H l=some (.tup<|IL F)/\H i=some (.lst<|IL inc)
def PartAt.samex(h:PartAt K CP C H x n ps I O F inc ld fu)(t:TabH H Pt pos qual)(sx:SameX Pt H H2):PartAt K CP C H2 x n ps I O F inc ld fu:=by let(dx,w,a,b,l,i,h1,h2,h3,h4,h5,h6):=h;exists dx,w,a,b,l,i,sx _ _ (t.ne h1 B) h1,h2.samex t sx,SqK.samex (kd:=true) h3 t sx,SqK.samex (kd:=true) h4 t sx,sx _ _ (t.ne h5 B) h5,sx _ _ (t.ne h6 B) h6
structure PartOk(n:Int)(ps:Aa)(I O:Ac)(ld:Option Int)(F inc:Ac)(fu:Option Int):Prop where
 tr:With n ps I O F
 least:∀U,With n ps I O U->HT.lexLt U F=false
 inc:Pf (λz=>PyProof.Rows.b2i<|decide<|ld=some z) (RU n ps I O F ld) inc
 none:fu=none↔Vf n ps I O F ld=[]
 some:∀y,fu=some y->y∈Vf n ps I O F ld/\∀z∈Vf n ps I O F ld,y<=z
def xchT(F:Ac)(o z:Int):(Ac):=(wo F o++[z]).mergeSort λa b=>decide (a<=b)
def zM(F:Ac)(o z:Int):(xchT F o z).Perm (wo F o++[z]):=List.mergeSort_perm _ _
def KH(F:Ac)(o z:Int):(xchT F o z).E (·<=·):=by
 show(d8 (le:=λa b:Int=>decide<|a<=b) (λa b c h1 h2=>?_) (λa b=>?_) _).imp λh=>YG h
 .simp only[IK]at *;lia
 .simp only[sS,IK];lia
def UO(n:Int)(ps:Aa)(I F:Ac)(z:Int):(Ac):=(VN n ps F z F).filter λt=>decide (t∉I)
section
variable{n:Int}{ps:Aa}{I O F T M:Ac}{x y z:Int}(g:Zx n ps)
include g
def uV(hF:With n ps I O F)(he:exg n ps F x y)(hx:x∉I)(hy:y∉O)(hp:M.Perm (wo F x++[y]))(hs:M.E (·<=·)):With n ps I O M:=by
 exists nZ g hF.1 he hp hs,λv hv=>(vM g hF.1 he hp hs).X (.inl {hF.2.1 v hv,λe=>hx<|e▸hv}),λv hv h=>?_;rcases(vM g hF.1 he hp hs).H h with h|h
 .show hF.2.2 v hv h.1
 .show hy (h▸hv)
def Zb5(hF:Zf n ps F)(he:exg n ps F x y)(h:y<x)(hp:M.Perm (wo F x++[y]))(hs:M.E (·<=·)):HT.lexLt M F=true:=by
 let tM:=nZ g hF he hp hs;let yF:y∉F:=((vN g hF).H he).2.1
 show(Za5 (XR.H tM.1).2 (XR.H hF.1).2 (by have:=tM.2.1;have:=hF.2.1;lia)).X ⟨y,(vM g hF he hp hs).X (.inr Z),yF,λs Wf=>?_⟩;rw[vM g hF he hp hs];constructor
 .rintro(q|q)
  .show q.1
  .lia
 .show λq=>.inl ⟨q,J⟩
def Ze7(hF:With n ps I O F)(PQ:∀U,With n ps I O U->HT.lexLt U F=false)(hT:With n ps (I++[z]) O T)(hTm:∀U,With n ps (I++[z]) O U->HT.lexLt U T=false):∀v∈T,v∈F\/v=z:=λv hv=>YD λno=>by
 let vF:v∉F:=λh=>no (.inl h);let vz:v≠z:=λh=>no (.inr h)
 let(u,e1,e2):=aT g hT.1 hF.1 hv vF;let uF:u∈F:=e2.1
 let uT:u∉T:=((vN g hT.1).H e1).2.1;let uI:u∉I:=λh=>uT (hT.2.1 u<|Yc _ h)
 let vO:v∉O:=λh=>hT.2.2 v h hv;let uO:u∉O:=λh=>hF.2.2 u h uF
 let vI:v∉I++[z]:=λh=>by
  rcases XB.H h with h|h
  .show vF (hF.2.1 v h)
  .show vz (XD.H h)
 let uv:u≠v:=λe=>uT (e▸hv);let(M1,p1,q1):=mP (wo F u++[v]);let w1:=uV g hF e2 uI vO p1 q1
 let(M2,p2,q2):=mP (wo T v++[u]);let w2:=uV g hT e1 vI uO p2 q2
 rcases Int.lt_or_lt_of_ne uv with h|h
 .have:=Zb5 g hT.1 e1 h p2 q2
  rw[hTm M2 w2]at this;cases this
 .have:=Zb5 g hF.1 e2 h p1 q1
  rw[PQ M1 w1]at this;cases this
def Zd7(hF:With n ps I O F)(PQ:∀U,With n ps I O U->HT.lexLt U F=false)(hz:z∉F):With n ps I (O++[z]) F/\∀U,With n ps I (O++[z]) U->HT.lexLt U F=false:=
 {{hF.1,hF.2.1,λv hv=>(XB.H hv).elim (hF.2.2 v) λh=>by rwa[XD.H h]},λU hU=>PQ U {hU.1,hU.2.1,λv hv=>hU.2.2 v<|Yc _ hv}}
end
def Ve{z:Int}:With n ps I O T↔With n ps I (O++[z]) T\/With n ps (I++[z]) O T:=by
 constructor
 .intro h;cases c:z∈T
  .show .inr {h.1,λv hv=>(XB.H hv).elim (h.2.1 v) λe=>by rw[XD.H e];show c,h.2.2}
  .show .inl {h.1,h.2.1,λv hv=>(XB.H hv).elim (h.2.2 v) λe=>by rwa[XD.H e]}
 .rintro(h|h)
  .exists h.1,h.2.1,λv hv=>h.2.2 v<|Yc _ hv
  .exists h.1,λv hv=>h.2.1 v<|Yc _ hv,h.2.2
def RowAll(n:Int)(ps:Aa)(I O:Ac)(R:Ab):(Prop):=R.Nodup/\∀T,T∈R↔With n ps I O T
def RowAll.pc(h:RowAll n ps I O R):PC n ps I O R.f:={R,h.1,λl=>h.2 l,Z}
def ZI6{z:Int}(hA:RowAll n ps I (O++[z]) A)(hB:RowAll n ps (I++[z]) O sj):RowAll n ps I O (A++sj.reverse):=by
 exists VS.X {hA.1,(Fu sj).nodup_iff.X hB.1,λa ha b hb e=>?_},λT=>?_
 .subst e;show((hA.2 a).H ha).2.2 z B (((hB.2 a).H (Wa.H hb)).2.1 z B)
 .rw[XB,Wa,hA.2,hB.2];show Ve.symm
def iZ{a b c d:Int}(h1:min a b=min c d)(h2:max a b=max c d):(a=c/\b=d)\/(a=d/\b=c):=by
 rcases Int.le_total a b with p|p<;>rcases Int.le_total c d with q|q<;>simp only[sV,tu,sU,tq,p,q]at h1 h2
 .show .inl ⟨h1,h2⟩
 .show .inr ⟨h1,h2⟩
 .show .inr ⟨h2,h1⟩
 .show .inl ⟨h2,h1⟩
section
variable{n:Int}{ps:Aa}{I O F T:Ac}{o t t':Int}(g:Zx n ps)
include g
def Zt6(hT:Zf n ps T)(ho:o∈T):¬Conn (XT ps (wo T o)) (Zt ps o).1 (Zt ps o).2:=by let(o0,o1):=hT.1.all o ho;show(MD g hT o0 o1).H ((BM g hT ho ho).X Z)
def Zd8(hT:Zf n ps T)(hI:∀v∈I,v∈T)(ht:t∈T)(hn:t∉I):¬Conn (XT ps I) (Zt ps t).1 (Zt ps t).2:=λc=>
 Zt6 g hT ht (c.mono<|ZR λv hv=>Xi.X {hI v hv,λe=>hn<|by rwa[<-e]})
def iY(WW:∀z∈I,0<=z/\z<ps⁻¹)(t0:0<=t)(t1:t<ps⁻¹)(s0:0<=t')(s1:t'<ps⁻¹)(h:SY (Xv n.j (XT ps I)) ps t=SY (Xv n.j (XT ps I)) ps t'):
  (Conn (XT ps I) (Zt ps t).1 (Zt ps t').1/\Conn (XT ps I) (Zt ps t).2 (Zt ps t').2)\/(Conn (XT ps I) (Zt ps t).1 (Zt ps t').2/\Conn (XT ps I) (Zt ps t).2 (Zt ps t').1):=by
 let Wj:=ZN g WW;let a:=Sv (z:=t) g t0 t1
 let b:=Sv (z:=t') g s0 s1;let h:(min (mk (Xv n.j<|XT ps I) (Zt ps t).1)<|mk (Xv n.j<|XT ps I) (Zt ps t).2,max (mk (Xv n.j<|XT ps I) (Zt ps t).1)<|mk (Xv n.j<|XT ps I) (Zt ps t).2)=(min (mk (Xv n.j<|XT ps I) (Zt ps t').1)<|mk (Xv n.j<|XT ps I) (Zt ps t').2,max (mk (Xv n.j<|XT ps I) (Zt ps t').1)<|mk (Xv n.j<|XT ps I) (Zt ps t').2):=h
 let(h1,h2):=Prod.mk.inj h;rw[<-Qm Wj a.1 b.1,<-Qm Wj a.2 b.2,<-Qm Wj a.1 b.2,<-Qm Wj a.2 b.1];show iZ h1 h2
def Za9(WW:∀z∈I,0<=z/\z<ps⁻¹)(hT:Zf n ps T)(hI:∀v∈I,v∈T)(ht:t∈T)(hs:t'∈T)(hn:t∉I)(SM:t'∉I)(h:SY (Xv n.j (XT ps I)) ps t=SY (Xv n.j (XT ps I)) ps t'):t=t':=YD λne=>by
 let(t0,t1):=hT.1.all t ht;let(s0,s1):=hT.1.all t' hs;let sub:∀v∈I++[t],v∈wo T t':=λv hv=>by
  rcases XB.H hv with hv|hv
  .show Xi.X {hI v hv,λe=>SM<|by rwa[<-e]}
  .rw[XD.H hv];show Xi.X ⟨ht,ne⟩
 let up:∀{i j},Conn (XT ps I) i j->Conn (XT ps<|I++[t]) i j:=λc=>c.mono (ZR λv hv=>Yc _ hv);let ed:Conn (XT ps<|I++[t]) (Zt ps t).1 (Zt ps t).2:=.edge (YN.X ⟨t,B,Z⟩)
 let c:Conn (XT ps<|I++[t]) (Zt ps t').1 (Zt ps t').2:=by
  rcases iY g WW t0 t1 s0 s1 h with ⟨a,b⟩|⟨a,b⟩
  .show((up a).symm.m ed).m (up b)
  .show((up b).symm.m ed.symm).m (up a)
 show Zt6 g hT hs (c.mono<|ZR sub)
def Zu9(WW:∀z∈I,0<=z/\z<ps⁻¹)(hT:With n ps I O T)(hF:∀v∈I,v∈F)(ht:t∈T)(hn:t∉F):t∈WG n ps I O F:=by
 let(t0,t1):=hT.1.1.all t ht;let a:=Sv (z:=t) g t0 t1
 let hI:t∉I:=λh=>hn (hF t h);show Yn.X {Xx.X ⟨t0,t1⟩,Yx {λh=>?_,λe=>?_}}
 .rcases XB.H h with h|h
  .rcases XB.H h with h|h
   .show hI h
   .show hT.2.2 t h ht
  .show hn h
 .show Zd8 g hT.1 hT.2.1 ht hI ((Qm (ZN g WW) a.1 a.2).H e)
end
def RT(n:Int)(ps:Aa)(I F:Ac)(asc:Bool)(z:Int):(Ab):=if asc then (UO n ps I F z).R λo=>xchT F o z else ((UO n ps I F z).R λo=>xchT F o z).reverse
def RS(n:Int)(ps:Aa)(I F:Ac):(Ac->Bool->Ab)
 |[],_=>[]
 |z::r,asc=>RT n ps I F asc z++RS n ps I F r (!asc)
def Zr6(n:Int)(ps:Aa)(I F:Ac)(z:Int):∀l asc,RS n ps I F (l++[z]) asc=RS n ps I F l asc++RT n ps I F (asc != (l.f%2 == 1)) z
 |[],asc=>by change RT n ps I F asc z++[]=[]++RT n ps I F (asc != false) z;rw[YB,OU,Bool.bne_false]
 |y::l,asc=>by change RT n ps I F asc y++RS n ps I F (l++[z]) (!asc)=RT n ps I F asc y++RS n ps I F l (!asc)++_;rw[Zr6 n ps I F z l,Yu,YF];congr 3;rcases(by lia:l.f%2=0/\(l.f+1)%2=1\/l.f%2=1/\(l.f+1)%2=0) with ⟨a,b⟩|⟨a,b⟩<;>rw[a,b]<;>cases asc<;>rfl
def zL(n:Int)(ps:Aa)(I F:Ac)(asc:Bool)(z:Int):(RT n ps I F asc z).f<=F.f:=by
 unfold RT;let h:(UO n ps I F z).f<=F.f:=Yj (YE ..) (ES n ps F z F)
 split
 .rw[Yb];show h
 .rw[VB,Yb];show h
def Zc9(n:Int)(ps:Aa)(I F:Ac):∀l asc,(RS n ps I F l asc).f<=l.f*F.f
 |[],_=>Yi _
 |z::l,asc=>by
  change(RT n ps I F asc z++RS n ps I F l (!asc)).f<=_;rw[Xy,YF,Nat.succ_mul]
  have:=zL n ps I F asc z
  have:=Zc9 n ps I F l (!asc)
  lia
def uU(n:Int)(ps:Aa)(I F inc:Ac):(Ab):=F::RS n ps I F inc (inc.f%2 == 1)
def VT:o∈VN n ps F t F↔o∈F/\t∈Su n ps F o:=by unfold VN;rw[Yn,YX];show Iff.rfl
def Wm{o t v:Int}:v∈xchT F o t↔(v∈F/\v≠o)\/v=t:=by rw[(zM F o t).mem_iff,XB,Xi,XD]
section
variable{n:Int}{ps:Aa}{I O F T:Ac}{ld:Option Int}{o t:Int}(g:Zx n ps)
include g
def zK(WW:∀z∈I,0<=z/\z<ps⁻¹)(hF:With n ps I O F)(hu:Vf n ps I O F ld=[])(hT:With n ps I O T):T=F\/∃t∈WG n ps I O F,∃o∈UO n ps I F t,T=xchT F o t:=by
 cases c:∀v∈T,v∈F
 .show .inl (jn g hT.1 hF.1 c)
 .obtain⟨t,ht,hn⟩:∃t,t∈T/\t∉F:=YD λno=>c λv hv=>YD λhn=>no ⟨v,hv,hn⟩;let hto:=Zu9 g WW hT hF.2.1 ht hn
  let alike:∀v∈WG n ps I O F,∃y,ld=some y/\SY (Xv n.j<|XT ps I) ps v=SY (Xv n.j<|XT ps I) ps y:=λv hv=>by
   let hm:v∈RU n ps I O F ld:=YD λno=>by
    have:v∈Vf n ps I O F ld:=Yn.X {hv,Yx no}
    rw[hu]at this;cases this
   show YG (Yn.H hm).2
  let only:∀v∈T,v∉F->v=t:=λv hv hvn=>by let(y,e1,e2):=alike v (Zu9 g WW hT hF.2.1 hv hvn);let(y',e3,e4):=alike t hto;rw[e1]at e3;cases e3;show Za9 g WW hT.1 hT.2.1 hv ht (λh=>hvn<|hF.2.1 v h) (λh=>hn<|hF.2.1 t h) (e2.m e4.symm)
  let(o,e1,e2):=aT g hT.1 hF.1 ht hn;let oT:o∉T:=((vN g hT.1).H e1).2.1
  let hM:=nZ g hF.1 e2 (zM F o t) (KH F o t);show .inr {t,hto,o,Yn.X {VT.X ⟨e2.1,e2.2.2⟩,Yx λh=>oT<|hT.2.1 o h},jn g hT.1 hM λv hv=>Wm.X ?_};cases cv:v∈F
  .show .inl {cv,λe=>oT<|by rwa[<-e]}
  .show .inr (only v hv cv)
def Zq6(hF:With n ps I O F)(ht:t∈WG n ps I O F)(ho:o∈UO n ps I F t):With n ps I O (xchT F o t):=by
 let(h1,h2):=Yn.H ht;let(hg,_):=YG h2;let(h3,h4):=Yn.H ho;let(h5,h6):=VT.H h3;let tF:t∉F:=λh=>hg (Yd _ h)
 show uV g hF {h5,λe=>tF (by rwa[e]),h6} (YG h4) (λh=>hg<|Yc _<|Yd _ h) (zM F o t) (KH F o t)
end
def QT{I F T:Ac}:T∈RT n ps I F asc z↔∃o∈UO n ps I F z,T=xchT F o z:=by
 let h:T∈((UO n ps I F z).R λo=>xchT F o z)↔∃o∈UO n ps I F z,T=xchT F o z:=by rw[YN];exists λzz=>by let(o,h1,h2):=zz;show⟨o,h1,h2.symm⟩,λzz=>by let(o,h1,h2):=zz;exists o,h1,h2.symm
 unfold RT;split
 .show h
 .rw[Wa];show h
def Vt{I F T:Ac}:∀{l:Ac}{asc:Bool},T∈RS n ps I F l asc↔∃z∈l,∃o∈UO n ps I F z,T=xchT F o z
 |[],_=>{λh=>(by cases h),λzz=>by let(_,h,_):=zz;show(by cases h)}
 |z::l,asc=>by
  change T∈RT n ps I F asc z++RS n ps I F l (!asc)↔_;rw[XB,QT,Vt];constructor
  .rintro(h|⟨z',h1,h2⟩)
   .exists z,Ye,h
   .exists z',Yg _ h1,h2
  .rintro⟨z',h1,h2⟩;rcases Yf.H h1 with e|e
   .show .inl (e▸h2)
   .show .inr ⟨z',e,h2⟩
def zJ(ht:t∉F)(e:xchT F o t=xchT F o' t'):t=t':=by
 have:t∈xchT F o' t':=e▸Wm.X (.inr Z)
 rcases Wm.H this with h|h
 .show absurd h.1 ht
 .show h
def iX(ho:o∈F)(ht:t∉F)(e:xchT F o t=xchT F o' t):o=o':=YD λne=>by
 let h1:o∈xchT F o' t:=Wm.X (.inl ⟨ho,ne⟩);rw[<-e]at h1;rcases Wm.H h1 with h|h
 .show h.2 rfl
 .show ht (h▸ho)
def Yz8(hF:F.Nodup)(hz:z∉F):(RT n ps I F asc z).Nodup:=by
 let hm:∀v∈UO n ps I F z,v∈F:=λv hv=>(VT.H (Yn.H hv).1).1;let h:((UO n ps I F z).R λo=>xchT F o z).Nodup:=by let hd:(UO n ps I F z).E (·≠·):=(hF.filter _).filter _;show SR.X (tZ (λ{a b} ha hb Va e=>Va<|iX (hm a ha) hz e) hd)
 unfold RT;split
 .show h
 .show(Fu _).nodup_iff.X h
def ZO4(hF:F.Nodup):∀{l:Ac}{asc:Bool},l.Nodup->(∀z∈l,z∉F)->(RS n ps I F l asc).Nodup
 |[],_,_,_=>.nil
 |z::l,asc,hn,hl=>by
  let(n1,n2):=OV.H hn;show VS.X {Yz8 hF<|hl z Ye,ZO4 hF n2 λv hv=>hl v<|Yg _ hv,λa ha b hb e=>?_};let(o,_,h1):=QT.H ha;let(z',a8,o',_,h2):=Vt.H hb;rw[h1,h2]at e
  have:=zJ (hl z Ye) e
  show n1 (this▸a8)
def zH(g:Zx n ps)(WW:∀z∈I,0<=z/\z<ps⁻¹)(hF:With n ps I O F)(hu:Vf n ps I O F ld=[])(Sl:∀z,z∈inc↔z∈WG n ps I O F)(hn:inc.Nodup):RowAll n ps I O (uU n ps I F inc):=by
 let uS:∀z∈inc,z∉F:=λz hz h=>(YG (Yn.H<|(Sl z).H hz).2).1 (Yd _ h);exists OV.X {λh=>?_,ZO4 hF.1.1.nodup hn uS},λT=>?_
 .let⟨z,hz,o,_,e⟩:=Vt.H h;show uS z hz (by rw[e];show Wm.X<|.inr Z)
 .unfold uU;rw[Yf,Vt];constructor
  .rintro(h|⟨z,hz,o,ho,rfl⟩)
   .rw[h];show hF
   .show Zq6 g hF ((Sl z).H hz) ho
  .intro h;rcases zK g WW hF hu h with e|⟨t,ht,o,ho,e⟩
   .show .inl e
   .show .inr {t,(Sl t).X ht,o,ho,e}
def iW{u v i j:Nat}(c:Conn (es++[(u,v)]) i j):Conn es i j\/(Conn es i u/\Conn es v j)\/(Conn es i v/\Conn es u j):=by
 induction c with
 |refl i=>show .inl (.refl i)
 |edge h=>
  rcases XB.H h with h|h
  .show .inl (.edge h)
  .cases XD.H h;show .inr (.inl {.refl _,.refl _})
 |symm _ ih=>
  rcases ih with a|⟨a,b⟩|⟨a,b⟩
  .show .inl a.symm
  .show .inr (.inr ⟨b.symm,a.symm⟩)
  .show .inr (.inl ⟨b.symm,a.symm⟩)
 |trans _ _ KU Qf=>
  rcases KU with a|⟨a,b⟩|⟨a,b⟩<;>rcases Qf with c|⟨c,d⟩|⟨c,d⟩
  .show .inl (a.m c)
  .show .inr (.inl {a.m c,d})
  .show .inr (.inr {a.m c,d})
  .show .inr (.inl {a,b.m c})
  .show .inr (.inl ⟨a,d⟩)
  .show .inl (a.m d)
  .show .inr (.inr {a,b.m c})
  .show .inl (a.m d)
  .show .inr (.inr ⟨a,d⟩)
def ZU4{key:Int->Int}(h:Pf key ns ms):ms.Perm ns:=by
 let(p,h1,_,rfl):=h;let e:(List.range ns.f).R (λi=>ns.S i 0)=ns:=by
  show MV λi=>?_;rw[Yw];cases c:i<ns.f
  .rw[Ir c,Xp c];change some (ns.S i 0)=_
   rw[Ya,Xp c];rfl
  .rw[VD (by simpa using c),VD J];rfl
 have:=h1.R λi=>ns.S i 0
 rwa[e]at this
def iV(key:Int->Int)(ns:Ac):∃ms,Pf key ns ms:=by
 let hp:=List.mergeSort_perm (List.range ns.f) λi j=>decide (key (ns.S i 0)<key (ns.S j 0)\/(key (ns.S i 0)=key (ns.S j 0)/\i<=j));let hs:=d8 (le:=λi j=>decide<|key (ns.S i 0)<key (ns.S j 0)\/(key (ns.S i 0)=key (ns.S j 0)/\i<=j)) (λa b c h1 h2=>by simp only[IK]at *;grind) (λa b=>by simp only[sS,IK];grind) (List.range ns.f)
 exists _,_,hp,?_,Z;show(hs.and<|hp.nodup_iff.X List.nodup_range).imp λ{a b} h=>?_;let h1:=YG h.1
 let h2:=h.2;change key (ns.S a 0)<key (ns.S b 0)\/(key (ns.S a 0)=key (ns.S b 0)/\a<b)
 grind
def zG(n:Int)(ps:Aa)(I O F:Ac)(ld:Option Int):(Vf n ps I O F ld).E (·<·):=((vL _).filter _).filter _
def KG(g:Zx n ps)(ld:Option Int)(h:∃U,With n ps I O U):∃F inc fu,PartOk n ps I O ld F inc fu:=by
 let(L,l1,l2):=jG g;let(U,hU):=h;obtain⟨F,hF,hm⟩:∃F,With n ps I O F/\∀U,With n ps I O U->HT.lexLt U F=false:=by
  let key:∀M:Ab,M.E Qg->(∃U∈M,With n ps I O U)->∃F∈M,With n ps I O F/\∀U∈M,With n ps I O U->HT.lexLt U F=false:=by
   intro M
   induction M with
   |nil=>rintro _ ⟨U,h,_⟩;cases h
   |cons x M ih=>
    intro hp hex;let(p1,p2):=Wb.H hp;cases c:With n ps I O x
    .exists x,Ye,c,λV hV _=>?_;rcases Yf.H hV with e|e
     .rw[e];show Wq x
     .cases q:HT.lexLt V x with
      |false=>rfl
      |true=>
       let z:=VV q (p1 V e);rw[Wq]at z;cases z
    .let⟨V,hV,hw⟩:=hex;let(F,hF,a,b):=ih p2 {V,(Yf.H hV).resolve_left λe=>c<|e▸hw,hw};exists F,Yg _ hF,a,λV hV hw=>?_;rcases Yf.H hV with e|e
     .show absurd (e▸hw) c
     .show b V e hw
  let(F,_,a,b):=key L l2 {U,(l1 U).X hU.1,hU};exists F,a,λV hV=>b V ((l1 V).X hV.1) hV
 let(inc,hi):=iV (λz=>PyProof.Rows.b2i<|decide<|ld=some z) (RU n ps I O F ld);let Sk:=zG n ps I O F ld
 cases hu:Vf n ps I O F ld with
 |nil=>exists F,inc,none,hF,hm,hi,{λ_=>hu,λ_=>rfl},λy h=>by cases h
 |cons y l=>
  rw[hu]at Sk;exists F,inc,some y,hF,hm,hi,{λh=>(by cases h),λh=>(by rw[hu]at h;cases h)},λv h=>?_;cases h;rw[hu];exists Ye,λv hv=>?_;rcases Yf.H hv with e|e
  .rw[e];show SO _
  .show Iz ((Wb.H Sk).1 v e)
inductive RowR(n:Int)(ps:Aa):Nat->Ac->Ac->Option Int->Ab->Prop
 |und {d:Nat} {I O F inc:Ac} {ld:Option Int}:PartOk n ps I O ld F inc none->inc.f<=30->(∀z∈inc,z∉F/\0<=z/\z<ps⁻¹)->RowR n ps d I O ld (uU n ps I F inc)
 |div {d:Nat} {I O F inc:Ac} {z y:Int} {A sj:Ab}:PartOk n ps I O (some z) F inc (some y)->(I++[z]).Nodup->(∀v∈I++[z],0<=v/\v<ps⁻¹)->(∀v∈I++[z],v∉O)->(O++[z]).f<=30->(∃U,With n ps (I++[z]) O U)->(∃U,With n ps I (O++[z]) U)->0<=y->y<ps⁻¹->PC n ps I (O++[z]) A.f->RowR n ps d I (O++[z]) (some y) A->RowR n ps d (I++[z]) O (some y) sj->RowR n ps (d+1) I O (some z) (A++sj.reverse)
def Zg8{key:Int->Int}(h:Pf key ns ms)(h':Pf key ns ms'):ms=ms':=by
 let(p,h1,h2,rfl):=h;let(p',JI,iU,rfl):=h';let e:p=p':=List.Perm.eq_of_pairwise (le:=Ahd λi=>key<|ns.S i 0) (λa b _ _ x y=>by unfold Ahd at x y;omega) h2 iU (h1.m JI.symm)
 rw[e]
def PartOk.uniq{n:Int}{ps:Aa}{I O F F' inc Wd:Ac}{ld fu Jc:Option Int}(h1:PartOk n ps I O ld F inc fu)(h2:PartOk n ps I O ld F' Wd Jc):F=F'/\inc=Wd/\fu=Jc:=by
 let eF:F=F':=WJ (h2.least F h1.tr) (h1.least F' h2.tr);subst eF;exists Z,Zg8 h1.inc h2.inc,?_;cases fu with
 |none=>
  cases Jc with
  |none=>rfl
  |some y=>
   have:=(h2.some y Z).1
   rw[h1.none.H Z]at this;cases this
 |some y=>
  cases Jc with
  |none=>
   have:=(h1.some y Z).1
   rw[h2.none.H Z]at this;cases this
  |some y'=>
   let(a1,a2):=h1.some y rfl;let(b1,b2):=h2.some y' rfl
   have:=a2 y' b1
   have:=b2 y a1
   rw[show y=y' by omega]
def RowW(n:Int)(ps:Aa)(R:Ab):(Prop):=∃ld F inc fu,PartOk n ps [] [] ld F inc fu/\(ld=none↔WG n ps [] [] F=[])/\(∀y,ld=some y->y∈WG n ps [] [] F/\∀z∈WG n ps [] [] F,y<=z)/\RowR n ps 31 [] [] ld R/\TC n ps R.f
section
variable{n:Int}{ps:Aa}{I O F:Ac}{y z:Int}(g:Zx n ps)
include g
def Gx(WW:∀v∈I,0<=v/\v<ps⁻¹):z∈WG n ps I O F↔(0<=z/\z<ps⁻¹)/\z∉I/\z∉O/\z∉F/\¬Conn (XT ps I) (Zt ps z).1 (Zt ps z).2:=by
 unfold WG KI;rw[Yn,Xx,YX];constructor
 .rintro⟨h,h1,h2⟩;let a:=Sv (z:=z) g h.1 h.2
  exists h,λq=>h1<|Yc _<|Yc _ q,λq=>h1<|Yc _<|Yd _ q,λq=>h1<|Yd _ q,λc=>h2<|(Qm (ZN g WW) a.1 a.2).X c
 .rintro⟨h,h1,h2,h3,h4⟩;let a:=Sv (z:=z) g h.1 h.2
  exists h,λq=>?_,λe=>h4<|(Qm (ZN g WW) a.1 a.2).H e;rcases XB.H q with q|q
  .rcases XB.H q with q|q
   .show h1 q
   .show h2 q
  .show h3 q
def iT(WW:∀v∈I,0<=v/\v<ps⁻¹)(hF:With n ps I O F)(hz:z∈WG n ps I O F):∃U,With n ps (I++[z]) O U:=by
 let((z0,z1),zI,zO,zF,hc):=(Gx g WW).H hz;obtain⟨o,ho,hoI⟩:∃o,o∈VN n ps F z F/\o∉I:=YD λno=>hc ((aX g hF.1 z0 z1).mono (ZR λv hv=>YD λh=>no ⟨v,hv,h⟩));let(h5,h6):=VT.H ho;let he:exg n ps F o z:={h5,λe=>zF (by rwa[e]),h6}
 let hw:=uV g hF he hoI zO (zM F o z) (KH F o z);exists xchT F o z,hw.1,λv hv=>?_,hw.2.2;rcases XB.H hv with hv|hv
 .show hw.2.1 v hv
 .rw[XD.H hv];show Wm.X (.inr Z)
def iS(WW:∀v∈I,0<=v/\v<ps⁻¹)(y0:0<=y/\y<ps⁻¹)(z0:0<=z/\z<ps⁻¹)(h:(Conn (XT ps I) (Zt ps y).1 (Zt ps z).1/\Conn (XT ps I) (Zt ps z).2 (Zt ps y).2)\/(Conn (XT ps I) (Zt ps y).1 (Zt ps z).2/\Conn (XT ps I) (Zt ps z).1 (Zt ps y).2)):SY (Xv n.j (XT ps I)) ps y=SY (Xv n.j (XT ps I)) ps z:=by
 let Wj:=ZN g WW;let a:=Sv (z:=y) g y0.1 y0.2
 let b:=Sv (z:=z) g z0.1 z0.2;rw[<-Qm Wj a.1 b.1,<-Qm Wj b.2 a.2,<-Qm Wj a.1 b.2,<-Qm Wj b.1 a.2]at h;change(min (mk (Xv n.j<|XT ps I) (Zt ps y).1)<|mk (Xv n.j<|XT ps I) (Zt ps y).2,max (mk (Xv n.j<|XT ps I) (Zt ps y).1)<|mk (Xv n.j<|XT ps I) (Zt ps y).2)=(min (mk (Xv n.j<|XT ps I) (Zt ps z).1)<|mk (Xv n.j<|XT ps I) (Zt ps z).2,max (mk (Xv n.j<|XT ps I) (Zt ps z).1)<|mk (Xv n.j<|XT ps I) (Zt ps z).2)
 rcases h with ⟨e1,e2⟩|⟨e1,e2⟩
 .rw[e1,<-e2]
 .rw[e1,<-e2,Int.min_comm,Int.max_comm]
end
section
variable{n:Int}{ps:Aa}(g:Zx n ps)
include g
def Jb(d:Nat)(hP:PartOk n ps I O ld F inc fu)(WW:∀v∈I,0<=v/\v<ps⁻¹)(hu:Vf n ps I O F ld=[]):∃R,RowR n ps d I O ld R/\RowAll n ps I O R:=by
 let rfl:=hP.none.X hu;let hp:=ZU4 hP.inc
 let Ta:(RU n ps I O F ld).Nodup:=((((vL _).imp λh e=>by lia:(VI ps.f).Nodup)).filter _).filter _;let Sl:∀z,z∈inc↔z∈WG n ps I O F:=λz=>by
  rw[hp.mem_iff];constructor
  .show λh=>(Yn.H h).1
  .intro h;show YD λno=>?_
   have:z∈Vf n ps I O F ld:=Yn.X {h,Yx no}
   rw[hu]at this;cases this
 let hlen:inc.f<=30:=by rw[hp.length_eq];show Yj (YE ..) (Yj (i4 _ _ _ _) g.2.2.1)
 exists _,.und hP hlen λz hz=>by let(h1,_,_,h2,_):=(Gx g WW).H ((Sl z).H hz);show⟨h2,h1⟩,zH g WW hP.tr hu Sl<|hp.nodup_iff.X Ta
def iR:∀d I O F inc ld fu,PartOk n ps I O ld F inc fu->I.Nodup->(∀v∈I,0<=v/\v<ps⁻¹)->(∀v∈I,v∉O)->O.Nodup->(∀v∈O,0<=v/\v<ps⁻¹)->(ld=none->WG n ps I O F=[])->(∀z,ld=some z->z∈WG n ps I O F)->ps.f<=d+I.f+O.f->∃R,RowR n ps d I O ld R/\RowAll n ps I O R:=by
 intro d
 induction d with
 |zero=>
  intro I O F inc ld fu hP hIn WW Ux uR uQ _ _ hm;show Jb g 0 hP WW ?_;let uS:WG n ps I O F=[]:=eW.X λz hz=>by
   let(h1,h2,h3,_):=(Gx g WW).H hz;let nd:(z::(I++O)).Nodup:=OV.X {λh=>(XB.H h).elim h2 h3,VS.X {hIn,uR,λa ha b hb e=>Ux a ha<|e▸hb}}
   have:=GS (m:=VI ps.f) nd λv hv=>Xx.X (by
    rcases Yf.H hv with e|e
    .rw[e];show h1
    .show(XB.H e).elim (WW v) (uQ v))
   rw[ZP,YF,Xy]at this;lia
  unfold Vf;rw[uS];rfl
 |succ d ih=>
  intro I O F inc ld fu hP hIn WW Ux uR uQ NG RR hm;cases hu:Vf n ps I O F ld=[]
  .show Jb g _ hP WW hu
  obtain⟨y,rfl⟩:∃y,fu=some y:=by
   cases fu with
   |none=>show absurd (hP.none.H Z) hu
   |some y=>exists y,Z
  let(yu,_):=hP.some y rfl;let(yo,ya):=Yn.H yu;let ya:=YG ya
  obtain⟨z,rfl⟩:∃z,ld=some z:=by
   cases ld with
   |none=>rw[NG Z]at yo;cases yo
   |some z=>exists z,Z
  let zo:=RR z rfl;let(zE,yI,yO,yF,yc):=(Gx g WW).H yo;let(iQ,zI,zO,zF,zc):=(Gx g WW).H zo;let XJ:SY (Xv n.j<|XT ps I) ps y≠SY (Xv n.j<|XT ps I) ps z:=λe=>ya (Yn.X {yo,Yx ⟨z,Z,e⟩})
  let yz:y≠z:=λe=>XJ (by rw[e]);let hIz:(I++[z]).Nodup:=VS.X {hIn,B,λa ha b hb e=>zI<|by rwa[<-XD.H hb,<-e]}
  let hOz:(O++[z]).Nodup:=VS.X {uR,B,λa ha b hb e=>zO<|by rwa[<-XD.H hb,<-e]};let Gw:∀v∈I++[z],0<=v/\v<ps⁻¹:=λv hv=>(XB.H hv).elim (WW v) λh=>by rwa[XD.H h]
  let zD:∀v∈O++[z],0<=v/\v<ps⁻¹:=λv hv=>(XB.H hv).elim (uQ v) λh=>by rwa[XD.H h]
  let Ru:(O++[z]).f<=30:=by
   have:=GS (m:=VI ps.f) hOz λv hv=>Xx.X (zD v hv)
   rw[ZP]at this
   have:=g.2.2.1
   lia
  let zC:∀v∈I++[z],v∉O:=λv hv=>(XB.H hv).elim (Ux v) λh=>by rwa[XD.H h]
  let iP:∀v∈I,v∉O++[z]:=λv hv h=>(XB.H h).elim (Ux v hv) λh=>zI (by rwa[<-XD.H h]);let(s1,s2):=Zd7 g hP.tr hP.least zF;let(F1,Rt,Gv,KP):=KG g (some y) ⟨F,s1⟩;let e1:F1=F:=WJ (s2 F1 KP.tr) (KP.least F s1)
  subst e1;let hW:=iT g WW hP.tr zo
  let(F2,Ny,zB,Gu):=KG g (some y) hW;let yF2:y∉F2:=λh=>(Ze7 g hP.tr hP.least Gu.tr Gu.least y h).elim yF yz
  let(A,RC,Td):=ih I (O++[z]) F1 Rt (some y) Gv KP hIn WW iP hOz zD (λh=>by cases h) (λv h=>by cases h;show(Gx g WW).X {zE,yI,λh=>(XB.H h).elim yO λh=>yz<|XD.H h,yF,yc}) (by rw[Xy,Yt];lia)
  let(sj,b9,Lq):=ih (I++[z]) O F2 Ny (some y) zB Gu hIz Gw zC uR uQ (λh=>by cases h) (λv h=>by
   cases h;show(Gx g Gw).X {zE,λh=>(XB.H h).elim yI λh=>yz<|XD.H h,yO,yF2,λc=>?_};let e:XT ps (I++[z])=XT ps I++[((Zt ps z).1,(Zt ps z).2)]:=YQ
   rw[e]at c;rcases iW c with h|h
   .show yc h
   .show XJ<|iS g WW zE iQ h) (by rw[Xy,Yt];lia)
  exists _,.div hP hIz Gw zC Ru hW ⟨F1,s1⟩ zE.1 zE.2 Td.pc RC b9,ZI6 Td Lq
def iO(h:∃U,Zf n ps U):∃R,RowW n ps R/\R.Nodup/\∀T,T∈R↔Zf n ps T:=by
 let(U,hU):=h;let hw:∀T,With n ps [] [] T↔Zf n ps T:=λT=>{λh=>h.1,λh=>{h,λz q=>(by cases q),λz q=>(by cases q)}}
 let(F,_,_,hP0):=KG g none {U,(hw U).X hU};let Sk:(WG n ps [] [] F).E (·<·):=(vL _).filter _
 obtain⟨ld,h1,h2⟩:∃ld:Option Int,(ld=none↔WG n ps [] [] F=[])/\∀y,ld=some y->y∈WG n ps [] [] F/\∀z∈WG n ps [] [] F,y<=z:=by
  cases ho:WG n ps [] [] F with
  |nil=>exists none,{λ_=>rfl,λ_=>rfl},λy h=>by cases h
  |cons y l=>
   rw[ho]at Sk;exists some y,{λh=>(by cases h),λh=>(by cases h)},λv h=>?_;cases h;exists Ye,λv hv=>?_;rcases Yf.H hv with e|e
   .rw[e];show SO _
   .show Iz ((Wb.H Sk).1 v e)
 let(F',inc,fu,hP):=KG g ld {U,(hw U).X hU};let eF:F'=F:=WJ (hP0.least F' hP.tr) (hP.least F hP0.tr)
 subst eF;let(R,r1,r2):=iR g 31 [] [] F' inc ld fu hP .nil (λv h=>by cases h) (λv h=>by cases h) .nil (λv h=>by cases h) (λe=>h1.H e) (λz e=>(h2 z e).1) (by have:=g.2.2.1;simp;lia);exists R,{ld,F',inc,fu,hP,h1,h2,r1,R,r2.1,λl=>(r2.2 l).m (hw l),Z},r2.1,λT=>(r2.2 T).m (hw T)
end
end My
namespace L2
open PySem PySem.Spec PyProof.Rows PySem.MeetsSeq
section
variable{X:Cx}
def iN(K:Ad):(V->List V->Hp->VK->Prop):=λx vs H Q=>∃(n:Nat)(l:Addr)(xs:List V)(y:V)(e:Addr->Bool)(j:Nat)(a:Addr),x=.ref l/\vs=[y]/\H l=some (.lst xs)/\n<=6/\(∀v∈xs,∃a,v=.ref a/\EqD K H n v y (e a))/\xs[j]?=some ↑a/\e a=true/\(∀m b,m<j->xs[m]?=some ↑b->e b=false)/\Q (.int j) H
def Zu8(K:Ad)(hu:X.A.units+8<cLine)(hk:X.K=K:=by rfl):LI X "list.index" (iN K):=by
 subst hk;intro pins s σ H x vs v us Q I rx rv h;let(n,l,xs,y,e,j,a,rfl,rfl,hH,hn,he,hj,hy,Up,q):=h;cases rx;let(u,rfl,ru):=rv.one;let(z,XW,m,r,hl,ho):=I.lstM hH;let hsz:sizeLine=16777216:=Uu
 let UH:j<xs.f:=(XA.H hj).1;let at_:∀(i:Nat)(hi:i<XW.C.t),∃b,xs[i]?=some ↑b/\XW.C[i]=.ref b:=λi hi=>by
  let UZ:i<XW.f:=by simpa using hi
  let(w,ew,LJ):=r.at UZ;let(b,rfl,_):=he w (WT ew);let e3:XW[i]=Value.ref b:=LJ
  exists b,ew,by simpa using e3
 let hjs:j<XW.C.t:=by rw[Xk];lia
 show LV F.slot_list_index {_,ho,Z} F.entry_list_index (F.args_list_index_2 _ _) (SeqAt.list_indexAt l XW.C m none #[] u (λw=>match w with | .ref b=>e b|_=>false) j hjs J ?_ ?_) {ho,λw hw=>?_,?_}
 .let⟨b,e1,e2⟩:=at_ j hjs;rw[hj]at e1;cases e1;rwa[e2]
 .intro i hi WL;let(b,e1,e2):=at_ i hi;rw[e2];show Up i b WL e1
 .show BN I (by change X.A.units+1+n<cLine;lia) ru r he w (by simpa using hw)
 .exists .int j,H,I.tok _,{_,Z},q
end
end L2
namespace My
open PySem L2
def ZP9{mg:Af}:FnOk P w K mg base WY k f fd ps λ_ _ _ _=>False:={λ_ _ _ _ h=>h.elim,λ_ _ _ _ _ _ _ _ _ _ _ _ _ h=>h.elim}
def Zy7{α:Type}[DecidableEq α]{x:α}:∀{l:List α},x∈l->∃j:Nat,l[j]?=some x/\∀i:Nat,i<j->l[i]?≠some x
 |y::l,h=>by
  cases c:y=x
  .exists 0,by rw[c];rfl,λi hi=>absurd hi<|SW _
  .let⟨j,h1,h2⟩:=Zy7 ((Yf.H h).resolve_left λe=>c e.symm);exists j+1,h1,λi hi=>?_
   match i,hi with
   |0,_=>show λe=>c (Yk e)
   |i+1,hi=>show h2 i J
def Zc8(hX:Bears (Xh H) xs L)(EA:SqT K H ta (IL U))(hU:U∈L):∃(e:Addr->Bool)(j:Nat)(a:Addr),(∀v∈xs,∃a,v=.ref a/\EqD K H 1 v ↑ta (e a))/\xs[j]?=some ↑a/\e a=true/\(∀m b,m<j->xs[m]?=some ↑b->e b=false)/\L[j]?=some U:=by
 let key:∀{c:Addr}{w:Ac},H c=some (.tup<|IL w)->(Xh H ↑c U↔w=U):=λ{c w} hc=>by
  constructor
  .rintro⟨c',e,h⟩;cases e;rw[hc]at h;injection h with h
   injection h with h;show(List.map_inj_right λ_ _ h=>by injection h).H h
  .rintro rfl;exists c,Z,hc
 let(j,h1,h2):=Zy7 hU;let(v,hv,c,rfl,hc):=hX.2 j U h1;exists λa=>@decide (Xh H ↑a U)<|Classical.propDecidable _,j,c,λv hv=>?_,hv,?_,λm b hm hb=>?_,h1
 .let⟨i,hi⟩:=Yv hv;let(w,hw,c',rfl,Wk):=hX.at hi;exists c',Z,?_;let e:@decide (Xh H ↑c' U) (Classical.propDecidable _)=decide (w=U):=by rw[xG];show key Wk
  change EqD K H 1 ↑c' ↑ta (@decide (Xh H ↑c' U)<|Classical.propDecidable _);rw[e];show cx (SqT.of Wk) EA
 .show @Yx _ (Classical.propDecidable _) ((key hc).X Z)
 .let⟨w,hw,c',e,Wk⟩:=hX.at hb;cases e;show @Se _ (Classical.propDecidable _) λh=>h2 m hm (by rw[hw,(key Wk).H h])
def iM(g:Zx n ps)(h:RowR n ps d I O ld R):∀T∈R,With n ps I O T:=by
 induction h with
 |und hP _ _=>
  intro T hT;rcases Yf.H hT with e|e
  .rw[e];show hP.tr
  .let⟨z,hz,o,ho,rfl⟩:=Vt.H e;show Zq6 g hP.tr (Yn.H<|(ZU4 hP.inc).mem_iff.H hz).1 ho
 |div _ _ _ _ _ _ _ _ _ _ _ _ ihA ihB=>
  intro T hT;rcases XB.H hT with h|h
  .show Ve.X (.inl<|ihA T h)
  .show Ve.X (.inr<|ihB T<|Wa.H h)
def Zf7{l:Ac}{ld Ja:Option Int}(h1:ld=none↔l=[])(h2:∀y,ld=some y->y∈l/\∀z∈l,y<=z)(JI:Ja=none↔l=[])(iU:∀y,Ja=some y->y∈l/\∀z∈l,y<=z):ld=Ja:=by
 cases ld with
 |none=>show(JI.X<|h1.H Z).symm
 |some y=>
  cases Ja with
  |none=>show absurd (h1.X<|JI.H Z) B
  |some y'=>
   let(a1,a2):=h2 y rfl;let(b1,b2):=iU y' rfl
   have:=a2 y' b1
   have:=b2 y a1
   rw[show y=y' by lia]
end My
namespace L2
open PySem PySem.Spec PyProof.Rows
def Rr{N P:List Str}{sc:Scope}(h:sc.kind=.function/\sc.isCoroutine=false/\sc.isGenerator=false/\N.Nodup/\N.M P.f=P/\(∀x∈P,sc.names.U x=some .local\/sc.names.U x=some .cell)/\∀y∈sc.names,y.2≠.free):FnScope N P sc:=⟨h.1,h.2.1,h.2.2.1,h.2.2.2.1,h.2.2.2.2.1,h.2.2.2.2.2.1,h.2.2.2.2.2.2⟩
structure DfA(K:Ad)(mg:Af)(x:Str)(st:Stmt)(f:Addr)(fd:FuncData)(ps:List Str):Prop where
 fn:Fun K x x st f fd
 bi:Binds K fd ps []
 mm:mg x=some ↑f
def Xu{X:Cx}{CX:RH}{k m:Nat}{f:Addr}{fd:FuncData}{ps:List Str}{sp:Sp}{x:Str}{st:Stmt}{e:Expr}{es:List Expr}{t:TA}{p pos:Pos}{E:XK}(F:FnOk X.prog X.w X.K X.mg X.base CX k f fd ps sp)(hr:Room m X.A)(d:DfA X.K X.mg x st f fd ps)(hx:SI CX X E)(ha:PA X (e::es) t)(hk:k<=m:=by decide)(hg:Gl X x:=by show Z)(Tz:(x == ("__debug__":Str))=false:=by decide)(he:starEach (e::es) X.L=(false,eval e X.L)::starEach es X.L:=by rfl)(UX:(backTo pos<|starEach es X.L).any (·.1)=false:=by rfl):PE X (.Call (.Name x p) (e::es) [] pos) (JX sp [] E t):=
 QB F (hr.mono hk) hg d.mm d.fn.kp d.bi .nil hx ha Tz he UX
def Ez(N P:List Str)(sc:Scope):(Prop):=sc.kind=.function/\sc.isCoroutine=false/\sc.isGenerator=false/\N.Nodup/\N.M P.f=P/\(∀x∈P,sc.names.U x=some .local\/sc.names.U x=some .cell)/\∀y∈sc.names,y.2≠.free
instance (N P:List Str) (sc:Scope):Decidable (Ez N P sc):=by unfold Ez;infer_instance
section
variable{P:Program}{w:World}{K:Ad}{mg:Af}{base:Heap}{x:Str}{st:Stmt}{f:Addr}{fd:FuncData}{ps:List Str}{k:Nat}{sp:Sp}
abbrev Xd(P:Program)(w:World)(base:Heap)(CX:RH)(_:DfA K mg x st f fd ps)(k:Nat)(sp:Sp):Prop:=FnOk P w K mg base CX k f fd ps sp
def DfA.okI(q:DfA K mg x st f fd ps)(N:List Str)(S:Ez N ps (Zb st))
  (hbody:∀XG A outer s H vs Q E,Room k (A.deeper<|envOfC x (Zb st) (~~~s) f XG)->sp vs H Q E->
   ∃t,PSs (Wx WY P w K mg base N x (Zb st) f XG A outer s H E).nox (ZY st) t/\t {nx:=λ_ H'=>Q .non H',rt:=Q} (start N vs) H) (len:∀vs H Q E,sp vs H Q E->vs.f=ps.f:=by intro _ _ _ _ h;cases h;subst_vars;rfl):Xd P w base WY q (k+1) sp:=q.fn.ok (Rr S) len hbody
def DfA.okXI(q:DfA K mg x st f fd ps)(N:List Str)(S:Ez N ps (Zb st))
  (hbody:∀XG A outer s H vs Q E,Room k (A.deeper<|envOfC x (Zb st) (~~~s) f XG)->sp vs H Q E->
   ∃t,PSs (Wx (VO P w) P w K mg base N x (Zb st) f XG A outer s H E) (ZY st) t/\t {nx:=λ_ H'=>Q .non H',rt:=Q} (start N vs) H) (len:∀vs H Q E,sp vs H Q E->vs.f=ps.f:=by intro _ _ _ _ h;cases h;subst_vars;rfl):Xd P w base (VO P w) q (k+1) sp:=q.fn.okX (Rr S) len hbody
def DfA.ok(q:DfA K mg x st f fd ps)(N:List Str)(S:Ez N ps (Zb st))(len:∀vs H Q E,sp vs H Q E->vs.f=ps.f)
  (hbody:∀XG A outer s H vs Q E,Room k (A.deeper<|envOfC x (Zb st) (~~~s) f XG)->sp vs H Q E->
   ∃t,PSs (Wx WY P w K mg base N x (Zb st) f XG A outer s H E).nox (ZY st) t/\t {nx:=λ_ H'=>Q .non H',rt:=Q} (start N vs) H):Xd P w base WY q (k+1) sp:=q.fn.ok (Rr S) len hbody
def DfA.okX(q:DfA K mg x st f fd ps)(N:List Str)(S:Ez N ps (Zb st))(len:∀vs H Q E,sp vs H Q E->vs.f=ps.f)
  (hbody:∀XG A outer s H vs Q E,Room k (A.deeper<|envOfC x (Zb st) (~~~s) f XG)->sp vs H Q E->
   ∃t,PSs (Wx (VO P w) P w K mg base N x (Zb st) f XG A outer s H E) (ZY st) t/\t {nx:=λ_ H'=>Q .non H',rt:=Q} (start N vs) H):Xd P w base (VO P w) q (k+1) sp:=q.fn.okX (Rr S) len hbody
end
end L2
namespace My
open PySem L2
def FQ(K:Ad)(mg:Af)(x:Str)(st:Stmt)(ps:List Str):(Prop):=∃f fd,DfA K mg x st f fd ps
def zA{K:Ad}{h:Heap}{mg:Af}{x:Str}{st:Stmt}{ps:List Str}{f:Addr}{oc:Value}{od an:Option Addr}{Tx:Array (Option Value)}{kV doc pm XG ct:Value}(X:K.In h)(G:h.Ns mainGlobals mg)
  (a:PySem.W.nsIn K mainGlobals x=some (some<|.ref f))(l:K.U f=some {oc,od,.func<|PySem.W.fnOf x x (JR st) (ZY st) (Zb st) .none kV doc pm an XG ct,Tx})(c:PySem.W.codeIn K XG x=true)(k:PySem.W.keepIn K ↑f=true)
  (b:∀kV doc pm an XG ct us,us.f=ps.f->bindArgs (PySem.W.fnOf x x (JR st) (ZY st) (Zb st) .none kV doc pm an XG ct) {us,[]}=pure (ps.zip us)):FQ K mg x st ps:=
 {f,_,wG l c k,(wG l c k).binds b,MS X G a}
def zy:(List Str):=["count","cheapest"]
def iL:(List Str):=["tree","row","rank"]
def iK:(List Str):=["number","place","next","share"]
def isN(w:Str):(Bool):=jB w.cps.l
def zx(x0:Str)(r:List Str):(Prop):=(x0∈zy/\r.f+1=1)\/(x0∈iL/\r.f+1=2/\r.all isN=true)\/(x0∈iK/\1<r.f+1/\(r=[("-":Str)]\/r.all isN=true))
instance:Decidable (zx x0 r):=by unfold zx;infer_instance
end My
namespace L2
open PySem PySem.Spec PyProof.Rows
section
variable{X:Cx}{e:Expr}{es:List Expr}{pos:Pos}
def zw:(List Expr->Option (List Str))
 |[]=>some []
 | .Constant (.str x) _ _::r=>(zw r).R (x :: ·)
 |_=>none
def Zs9:∀{es:List Expr}{xs:List Str},zw es=some xs->PA X es (λ_ H Q=>Q (xs.R V.str) H)
 |[],xs,h=>by cases h;show XX
 |e::r,xs,h=>by
  let hc:∃x j p ys,e=.Constant (.str x) j p/\zw r=some ys/\xs=x::ys:=by
   unfold zw at h;split at h
   .cases ‹_::_=[]›
   .rename_i x j p r' q;cases q;let(ys,h1,h2):=dX.H h;exists x,j,p,ys,Z,h1,h2.symm
   .cases h
  let(x,j,p,ys,rfl,h1,rfl):=hc;show XY OH (Zs9 h1)
def IZ(es:List Expr):(TA):=λ_ H Q=>∃xs,zw es=some xs/\Q (xs.R V.str) H
def iJ:PA X es (IZ es):=by intro pos pins s σ H Q I h;let(xs,hx,q):=h;show Zs9 hx pos pins s σ H Q I q
def iI:PE X (.List es pos) (OA (IZ es)):=WB iJ
end
end L2
namespace My
open PySem L2
def top(i:Nat):(Stmt):=PySem.Challenge.pw_spanrow_k42_rows_refused.main.body.S i (.Pass ⟨0,0,0,0⟩)
abbrev sZ8:Stmt:=cV (top 19) 0
abbrev sZv:Stmt:=cV (top 49) 0
abbrev sZT:Stmt:=top 73
set_option genInjectivity false in
structure Adr where
 (aZ0 aZ1 aZ2 aZ3 aZ4 aZ5 aZ6 aZ7 aZ8 aZ9 aZa aZb aZc aZd aZe aZf aZg aZh aZi aZj aZk aZl aZm aZn aZo aZp aZq aZr aZs aZt aZu aZv aZw aZx aZy aZz aZA aZB aZC aZD aZE aZF aZG aZH aZI aZJ aZK aZL aZM aZN aZO aZP aZQ aZR aZS aZT A_Web A_Part A_WebError A_BadSet A_NoTree A_NoTie A_NoSuch A_Parted:Addr)
 (dZ0 dZ1 dZ2 dZ3 dZ4 dZ5 dZ6 dZ7 dZ8 dZ9 dZa dZb dZc dZd dZe dZf dZg dZh dZi dZj dZk dZl dZm dZn dZo dZp dZq dZr dZs dZt dZu dZv dZw dZx dZy dZz dZA dZB dZC dZD dZE dZF dZG dZH dZI dZJ dZK dZL dZM dZN dZO dZP dZQ dZR dZS dZT:FuncData)
structure Txt(K:Ad)(mg:Af)(t:Adr):Prop where
 qZ0:DfA K mg "refuse_not_square" (top 10) t.aZ0 t.dZ0 ["table"]
 qZ1:DfA K mg "row_taken_off" (top 11) t.aZ1 t.dZ1 ["row","pivot","last"]
 qZ2:DfA K mg "first_with_some" (top 12) t.aZ2 t.dZ2 ["rows"]
 qZ3:DfA K mg "determinant" (top 13) t.aZ3 t.dZ3 ["table"]
 qZ4:DfA K mg "row_without" (top 14) t.aZ4 t.dZ4 ["row","number"]
 qZ5:DfA K mg "table_without" (top 15) t.aZ5 t.dZ5 ["table","number"]
 qZ6:DfA K mg "is_tie" (top 21) t.aZ6 t.dZ6 ["web","number"]
 qZ7:DfA K mg "refuse_bad_web" (top 20) t.aZ7 t.dZ7 ["places","ties"]
 fZ8:Fun K "__init__" "Web.__init__" sZ8 t.aZ8 t.dZ8
 bZ8:Binds K t.dZ8 ["self","places","ties"] []
 qZ9:DfA K mg "all_ties" (top 22) t.aZ9 t.dZ9 ["web"]
 qZa:DfA K mg "ties_beside" (top 23) t.aZa t.dZa ["web","ties"]
 qZb:DfA K mg "ties_without" (top 24) t.aZb t.dZb ["ties","left_out"]
 qZc:DfA K mg "is_set" (top 25) t.aZc t.dZc ["web","ties"]
 qZd:DfA K mg "made_set" (top 26) t.aZd t.dZd ["web","ties"]
 qZe:DfA K mg "merged_marks" (top 27) t.aZe t.dZe ["web","marks","ties"]
 qZf:DfA K mg "piece_marks" (top 28) t.aZf t.dZf ["web","ties"]
 qZg:DfA K mg "pieces_of" (top 29) t.aZg t.dZg ["web","ties"]
 qZh:DfA K mg "is_joined" (top 30) t.aZh t.dZh ["web","ties"]
 qZi:DfA K mg "refuse_parted" (top 31) t.aZi t.dZi ["web"]
 qZj:DfA K mg "weighted_table" (top 33) t.aZj t.dZj ["web","weights"]
 qZk:DfA K mg "pull_table" (top 34) t.aZk t.dZk ["web"]
 qZl:DfA K mg "tree_count" (top 35) t.aZl t.dZl ["web"]
 qZm:DfA K mg "part_count" (top 36) t.aZm t.dZm ["web","inside","outside"]
 qZn:DfA K mg "is_tree" (top 38) t.aZn t.dZn ["web","ties"]
 qZo:DfA K mg "refuse_no_tree" (top 39) t.aZo t.dZo ["web","tree"]
 qZp:DfA K mg "grown_tree" (top 40) t.aZp t.dZp ["web","inside","order"]
 qZq:DfA K mg "tree_cut" (top 41) t.aZq t.dZq ["web","tree","tie"]
 qZr:DfA K mg "ring_of" (top 42) t.aZr t.dZr ["web","tree","tie"]
 qZs:DfA K mg "least_in" (top 44) t.aZs t.dZs ["web","inside","outside"]
 qZt:DfA K mg "end_pieces" (top 47) t.aZt t.dZt ["web","marks","tie"]
 qZu:DfA K mg "open_ties" (top 48) t.aZu t.dZu ["web","marks","gone"]
 fZv:Fun K "__init__" "Part.__init__" sZv t.aZv t.dZv
 bZv:Binds K t.dZv ["self","web","kept","shut","lead"] []
 qZw:DfA K mg "whole_part" (top 50) t.aZw t.dZw ["web"]
 qZx:DfA K mg "half_without" (top 51) t.aZx t.dZx ["part"]
 qZy:DfA K mg "half_with" (top 52) t.aZy t.dZy ["part"]
 qZz:DfA K mg "part_size" (top 53) t.aZz t.dZz ["part"]
 qZA:DfA K mg "trees_with_tie" (top 54) t.aZA t.dZA ["part","into"]
 qZB:DfA K mg "undivided_row" (top 55) t.aZB t.dZB ["part"]
 qZC:DfA K mg "trees_between" (top 56) t.aZC t.dZC ["part","size","start","stop"]
 qZD:DfA K mg "number_in" (top 57) t.aZD t.dZD ["part","size","tree"]
 qZE:DfA K mg "refuse_below_nought" (top 45) t.aZE t.dZE ["number"]
 qZF:DfA K mg "row_from" (top 58) t.aZF t.dZF ["web","number","most"]
 qZG:DfA K mg "row_at" (top 59) t.aZG t.dZG ["web","number"]
 qZH:DfA K mg "row_last" (top 60) t.aZH t.dZH ["web"]
 qZI:DfA K mg "row_number" (top 61) t.aZI t.dZI ["web","tree"]
 qZJ:DfA K mg "row_next" (top 62) t.aZJ t.dZJ ["web","tree"]
 qZK:DfA K mg "row_ahead" (top 63) t.aZK t.dZK ["web","tree"]
 qZL:DfA K mg "row_step" (top 64) t.aZL t.dZL ["web","tree"]
 qZM:DfA K mg "_law_at" (top 66) t.aZM t.dZM ["script","k"]
 qZN:DfA K mg "_law_mixed" (top 67) t.aZN t.dZN ["cell","k"]
 qZO:DfA K mg "_law_ties" (top 68) t.aZO t.dZO ["script","count","most"]
 qZP:DfA K mg "_law_trees" (top 69) t.aZP t.dZP ["count","ties"]
 qZQ:DfA K mg "_law_asked" (top 70) t.aZQ t.dZQ ["deed","web","thing"]
 qZR:DfA K mg "_law_told" (top 71) t.aZR t.dZR ["deed","web","thing"]
 qZS:DfA K mg "_law_odd" (top 72) t.aZS t.dZS ["trees","size","m"]
 qZT:DfA K mg "law" sZT t.aZT t.dZT ["script"]
 c_Web:mg "Web"=some (.ref t.A_Web)
 cl_Web:Cls K t.A_Web
 k_Web:Mk K t.A_Web t.aZ8
 n_Web_places:NoAttr K t.A_Web "places"
 n_Web_ties:NoAttr K t.A_Web "ties"
 c_Part:mg "Part"=some (.ref t.A_Part)
 cl_Part:Cls K t.A_Part
 k_Part:Mk K t.A_Part t.aZv
 n_Part_web:NoAttr K t.A_Part "web"
 n_Part_kept:NoAttr K t.A_Part "kept"
 n_Part_shut:NoAttr K t.A_Part "shut"
 n_Part_lead:NoAttr K t.A_Part "lead"
 n_Part_least:NoAttr K t.A_Part "least"
 n_Part_incoming:NoAttr K t.A_Part "incoming"
 n_Part_further:NoAttr K t.A_Part "further"
 c_WebError:mg "WebError"=some (.ref t.A_WebError)
 c_BadSet:mg "BadSet"=some (.ref t.A_BadSet)
 c_NoTree:mg "NoTree"=some (.ref t.A_NoTree)
 c_NoTie:mg "NoTie"=some (.ref t.A_NoTie)
 c_NoSuch:mg "NoSuch"=some (.ref t.A_NoSuch)
 c_Parted:mg "Parted"=some (.ref t.A_Parted)
 x_NoTree:XCls K (t.A_NoTree)
 x_NoSuch:XCls K (t.A_NoSuch)
 x_Parted:XCls K (t.A_Parted)
 ki_NoTree_ValueError:PySem.W.kitOne K (.ref<|t.A_NoTree) (.type "ValueError")=some true
 ki_NoTree_NoSuch:PySem.W.kitOne K (.ref<|t.A_NoTree) (.ref<|t.A_NoSuch)=some false
 ki_NoTree_Parted:PySem.W.kitOne K (.ref<|t.A_NoTree) (.ref<|t.A_Parted)=some false
 ki_NoTree_BadSet:PySem.W.kitOne K (.ref<|t.A_NoTree) (.ref<|t.A_BadSet)=some false
 ki_NoTree_NoTie:PySem.W.kitOne K (.ref<|t.A_NoTree) (.ref<|t.A_NoTie)=some false
 em_NoTree:PySem.W.exmOne K (.ref<|t.A_NoTree) (.ref<|t.A_WebError)=some true
 ki_NoSuch_ValueError:PySem.W.kitOne K (.ref<|t.A_NoSuch) (.type "ValueError")=some true
 ki_NoSuch_NoTree:PySem.W.kitOne K (.ref<|t.A_NoSuch) (.ref<|t.A_NoTree)=some false
 ki_NoSuch_Parted:PySem.W.kitOne K (.ref<|t.A_NoSuch) (.ref<|t.A_Parted)=some false
 ki_NoSuch_BadSet:PySem.W.kitOne K (.ref<|t.A_NoSuch) (.ref<|t.A_BadSet)=some false
 ki_NoSuch_NoTie:PySem.W.kitOne K (.ref<|t.A_NoSuch) (.ref<|t.A_NoTie)=some false
 em_NoSuch:PySem.W.exmOne K (.ref<|t.A_NoSuch) (.ref<|t.A_WebError)=some true
 ki_Parted_ValueError:PySem.W.kitOne K (.ref<|t.A_Parted) (.type "ValueError")=some true
 ki_Parted_NoTree:PySem.W.kitOne K (.ref<|t.A_Parted) (.ref<|t.A_NoTree)=some false
 ki_Parted_NoSuch:PySem.W.kitOne K (.ref<|t.A_Parted) (.ref<|t.A_NoSuch)=some false
 ki_Parted_BadSet:PySem.W.kitOne K (.ref<|t.A_Parted) (.ref<|t.A_BadSet)=some false
 ki_Parted_NoTie:PySem.W.kitOne K (.ref<|t.A_Parted) (.ref<|t.A_NoTie)=some false
 em_Parted:PySem.W.exmOne K (.ref<|t.A_Parted) (.ref<|t.A_WebError)=some true
 g_MOST_PLACES:∃tk,mg "MOST_PLACES"=some (.int 14 tk)
 g_MOST_TIES:∃tk,mg "MOST_TIES"=some (.int 30 tk)
 n_ValueError:mg "ValueError"=none
 n_enumerate:mg "enumerate"=none
 n_int:mg "int"=none
 n_isinstance:mg "isinstance"=none
 n_len:mg "len"=none
 n_list:mg "list"=none
 n_max:mg "max"=none
 n_min:mg "min"=none
 n_range:mg "range"=none
 n_reversed:mg "reversed"=none
 n_set:mg "set"=none
 n_sorted:mg "sorted"=none
 n_tuple:mg "tuple"=none
 n_zip:mg "zip"=none
end My
namespace My
open PySem L2 PyProof.Rows
set_option maxHeartbeats 4000000
section
variable{P:Program}{w:World}{K:Ad}{mg:Af}{base:Heap}{t:Adr}
inductive spZ0(K:Ad)(vs:List V)(H:Hp)(Q:VK)(_:XK):Prop
 |mk (a kd xs L:_) (_:vs=[.ref a]) (_:SqK kd K H a xs) (_:Bears (AF K H) xs L) (_:((∀l∈L,l.f=L.f)->Q .non H)) (_:(¬(∀l∈L,l.f=L.f)->False))
def iH(T:Txt K mg t):Xd P w base WY T.qZ0 1 (spZ0 K):=by
 show T.qZ0.okI ["table","row"] sC λXG A outer s H vs Q E hr h=>?_
 .let⟨a,kd,xs,L,rfl,hS,hB,q,qe⟩:=h;show⟨_,(XH (Sb SV Z (SA K<|pv 0) (Zc 1)
   (XH (Xz (Ze VA (Zd (Zi K) sE T.n_len Boot.«len»<|XY (pv 1) XX) (Zd (Zi K) sE T.n_len Boot.«len»<|XY (pv 0) XX)<|Zn _)
   (XH QF)
   Zp)))),?_⟩
  let Mv:=hB.1;exists _,Z,a,Z,wA (K:=K) (k:=kd) (a:=a) (xs:=xs) (λi σ H2=>∃v1,σ=[some ↑a,v1]/\H2=H/\∀l∈L.M i,l.f=L.f) {none,Z,Z,λl h=>(by cases h)} (λi σ H2 _ zz=>by let(_,_,e,_):=zz;show e▸hS) ?_ ?_
  .rintro i v σ H2 hi ⟨v1,rfl,rfl,UJ⟩;let(l,hl,r,k,rfl,hr):=hB.at hi;show nm ?_;exists _,Z,r,_,Z,hr.or,_,Z,a,xs,Z,hS.or,Z,_,Z,?_;rw[Xr,Zs];show Wv (λe=>?_) (λe=>?_)
   .exists _,Z,Z,λm hm=>?_;rw[WD,hl]at hm;rcases XB.H hm with h|h
    .show UJ m h
    .let JM:m=l:=by simpa using h
     rw[JM];lia
   .show qe λh=>e (by rw[h l (WT hl),Mv])
  .rintro σ H2 ⟨v1,rfl,rfl,UJ⟩;rw[Mv,YR]at UJ;show q UJ
inductive spZ1(K:Ad)(vs:List V)(H:Hp)(Q:VK)(_:XK):Prop
 |mk (r p x y last l q:_) (_:vs=[.ref r,.ref p,.int last]) (_:SqL K H r (IL<|x::l)) (_:SqL K H p (IL<|y::q)) (_:l.f=q.f) (_:l.f<=1000) (_:last≠0) (_:last.natAbs<2^9000) (_:(∀z∈x::l,z.natAbs<2^9000)) (_:(∀z∈y::q,z.natAbs<2^9000)) (_:∀c H',Same H H'->H c=none->H' c=some (.lst<|IL<|NJ y q last<|x::l)->Q ↑c H')
def iG(T:Txt K mg t):Xd P w base WY T.qZ1 1 (spZ1 K):=by
 show T.qZ1.okI ["row","pivot","last"] sC λXG A outer s H vs Q E hr h=>?_
 .let⟨r,p,x,y,last,l,q',rfl,hR,hP,hlq,hl,l0,l1,hx,hy,q⟩:=h;exists _,(XH<|Zj<|Vy Z (sc0:=Zb<|top 11) (N0:=["row","pivot","last"]) (N':=["own","other","pivot","row","last"]) (o:=2) (fr:=[1,0,2]) ⟨Z,sC,sC,sC,Z,sC⟩ (AN K Z T.n_zip<|XY (HN (Hz K) (pv 0) (SG XO) Qz)<|XY (HN (Hz K) (pv 1) (SG XO) Qz) XX) (Qt<|ZW su<|ZW su Qu) (λ_ _ _ _=>(Qp (n:=2) K Z<|Zr (Zc 0)<|Zr (Zc 1) QE)) (λ_ _ _ _=>ML) λ_ _ _ _=>(Zq Jm (Zq Vn (Zq lI (ZJ (Zh K) (pv 2) XO λ_ _=>rfl)<|pv 0)<|Zq lI (ZJ (Zh K) (pv 3) XO λ_ _=>rfl)<|pv 1)<|pv 4)),?_;exists _,Z,_,Z,r,_,Z,hR,λp1 TQ=>?_;rw[aA];let s1:=XZ (o:=.lst<|IL l) TQ
  exists _,Z,_,Z,p,_,Z,s1.seq hP,λp2 VE=>?_;rw[aA];let s2:=XZ (o:=.lst<|IL q') VE
  let Wc:=s1.m s2;let h1:=s2 _ _ (XS (H:=H) (a:=p1) (o:=.lst<|IL l))
  let h2:(upd (upd H p1<|.lst<|IL l) p2<|.lst<|IL q') p2=some (.lst<|IL q'):=XS;generalize upd (upd H p1<|.lst<|IL l) p2 (.lst<|IL q')=H2 at *;show⟨p1,p2,Z,{_,_,SqL.of h1,SqL.of h2},mf (K:=K) (a:=p1) (b:=p2) (xs:=IL l) (ys:=IL q') (λi zs H3=>Same H2 H3/\i<=l.f/\zs=IL ((NJ y q' last<|x::l).M i)) {Same.refl _,Yi _,Z} (by rwa[Xr,Xr]) (Zo<|by rw[Xr];lia)
   (λi zs H3 hi zz=>by let(e,UZ,ez):=zz;show{SqL.of<|e _ _ h1,SqL.of<|e _ _ h2,by rw[ez,Xr,Yl];lia}) ?_ ?_⟩
  .rintro i u v zs H3 pt Uw hu hv ⟨s3,UP,rfl⟩ S Xc;let(own,rfl,ho):=TY hu;let(Hl,rfl,ht):=TY hv;let Xn:=(XA.H ho).1
   let s4:=XZ (o:=.tup [.int own,.int Hl]) Uw;exists pt,_,Z,SqT.of XS,Z,_,_,Z,_,_,Z,Z,?_;let QS:=Wc.m (s3.m s4)
   let a1:=hy y Ye;let a2:=hx own (Yg _<|WT ho)
   let a3:=hx x Ye;let a4:=hy Hl (Yg _<|WT ht)
   exists _,Z,p,_,0,.int y,Z,Z,QS.seq hP,ZG (n:=0) Z Z,_,Z,_,_,Z,Z,⟨a1,a2⟩,_,Z,r,_,0,.int x,Z,Z,QS.seq hR,ZG (n:=0) Z Z,_,Z,_,_,Z,Z,⟨a3,a4⟩,_,_,Z,Z,_,Z,_,_,Z,Z,⟨l0,l1⟩,?_;show Xc _ _ {s3.m s4,Xn,?_};let e:(NJ y q' last<|x::l)[i]?=some ((y*own-x*Hl).fdiv last):=by change(List.zipWith _ l q')[i]?=_;rw[Fx,ho,ht];rfl
   rw[WD,e];show(VJ _ _).symm
  .rintro zs H3 ⟨s3,_,rfl⟩ c hc;rw[Xr,YJ (by rw[aB (by rw[YF,hlq])];lia)];show q c _ (Wc.m<|s3.m<|XZ hc) ((Wc.m s3).free hc) XS
inductive spZ2(K:Ad)(vs:List V)(H:Hp)(Q:VK)(_:XK):Prop
 |mk (a ys R:_) (_:vs=[.ref a]) (_:SqL K H a ys) (_:Bears (Uo H) ys R) (_:(∀l∈R,0<l.f)) (_:(∀H':Hp,Same H H'->(∀i,i<R.f->fnL R i 0=0)->Q .non H')) (_:(∀t H',Same H H'->t<R.f->fnL R t 0≠0->Q (.int t) H'))
def iF(T:Txt K mg t):Xd P w base WY T.qZ2 1 (spZ2 K):=by
 show T.qZ2.okI ["rows","at","row"] sC λXG A outer s H vs Q E hr h=>?_
 .let⟨a,ys,R,rfl,hS,hB,hp,q0,q1⟩:=h;show⟨_,(XM (Sb SV Z (LC K Z T.n_enumerate<|XY (pv 0) XX) (Qp (n:=2) K Z<|Zr (Zc 1)<|Zr (Zc 2) QE)
   (XH (Xz (Ze VA (ZJ (Zh K) (pv 2) XO λ_ _=>rfl) XO<|Zn _)
   (XH<|Zj<|pv 1)
   Zp)))
   (XH<|Zj MN)),?_⟩
  let KZ:=hB.1;exists _,Z,a,Z,{_,hS},Cv (K:=K) (a:=a) (xs:=ys) (λi σ H2=>∃v1 v2,σ=[some ↑a,v1,v2]/\Same H H2/\∀j,j<i->fnL R j 0=0) {none,none,Z,Same.refl _,λj h=>absurd h<|SW _} (λi σ H2 _ zz=>by let(_,_,_,e,_):=zz;show e.seq hS) ?_ ?_
  .rintro i v σ H2 pt Uw hi ⟨v1,v2,rfl,s2,hz⟩;let(l,hl,r,rfl,hr):=hB.at hi;let Nx:=hp l (WT hl)
   obtain⟨x,l',rfl⟩:∃x l',l=x::l':=by
    cases l with
    |nil=>show absurd Nx (QL 0)
    |cons x l'=>exists x,l',Z
   let e0:fnL R i 0=x:=Mt hl rfl;let s3:=s2.m (XZ (o:=.tup [.int i,.ref r]) Uw)
   exists pt,_,Z,SqT.of XS,Z,_,_,Z,_,_,Z,Z,?_;generalize upd H2 pt (.tup [.int i,.ref r])=H3 at *;exists _,Z,r,_,0,.int x,Z,Z,SqL.of<|s3 _ _ hr,ZG (n:=0) Z Z,Z,_,Z,?_;rw[Zs];show Wv (λe=>?_) (λe=>?_)
   .exists _,_,Z,s3,λj hj=>?_;cases c:j=i
    .rw[c,e0,e]
    .show hz j J
   .exists _,Z,q1 i H3 s3 (by have:=(XA.H hl).1;show this)<|by rwa[e0]
  .rintro σ H2 ⟨v1,v2,rfl,s2,hz⟩;show q0 H2 s2 λi hi=>hz i J
inductive spZ3(K:Ad)(vs:List V)(H:Hp)(Q:VK)(_:XK):Prop
 |mk (a kd xs L:_) (_:vs=[.ref a]) (_:SqK kd K H a xs) (_:Bears (AF K H) xs L) (_:L.f<=16) (_:(∀i j,i<L.f->j<L.f->(fnL L i j).natAbs<=2^400)) (_:((∀l∈L,l.f=L.f)->∀H':Hp,Same H H'->Q (.int<|det L.f<|fnL L) H')) (_:(¬(∀l∈L,l.f=L.f)->∀H':Hp,Same H H'->False))
def iE{s rest:TS}{D:Ends}{σ:L2.St}{H:Hp}(P:L2.St->Hp->Prop)(h1:∀σ' H',P σ' H'->rest D σ' H')(h2:∀K:L2.St->Hp->Prop,(∀σ' H',P σ' H'->K σ' H')->s {D with nx:=K} σ H):TF s rest D σ H:=h2 _ h1
def Nw:FnScope ["table","rows","sign","last","at","pivot"] ["table"] (Zb (top 13)):=Rr sC
def iD(T:Txt K mg t):Xd P w base WY T.qZ3 2 (spZ3 K):=by
 show T.qZ3.okI ["table","rows","sign","last","at","pivot"] sC λXG A outer s H vs Q E hr h=>?_
 .let⟨a,kd,xs,L,rfl,hS,hB,zv,Ey,q,qe⟩:=h;show⟨_,(XM (ZU<|Xu (iH T) hr T.qZ0 Zw<|XY (pv 0) XX)
   (XM (LF (i:=1) Z Nw.nd Z Z (sc0:=Zb<|top 13) (N0:=["table","rows","sign","last","at","pivot"]) (N':=["row"]) (o:=1) (fr:=[]) ⟨Z,sC,sC,sC,Z,sC⟩ (SA K<|pv 0) (ZE su) (λ_ _ _ _=>(Zc 0)) (λ_ _ _ _=>ML) λ_ _ _ _=>(Zk (RG K) sE T.n_list Boot.«list»<|XY (pv 0) XX))
   (XM (Zg 2 XO)
   (XM (Ti (i:=3) Nw.nd Z (Or.inr Z) XO)
   (XM (rH SV (Ze QD (Zd (Zi K) sE T.n_len Boot.«len»<|XY (pv 1) XX) XO<|Zn _)
   (XM (Zg 4<|Xu (iF T) hr T.qZ2 Zw<|XY (pv 1) XX)
   (XM (Xz (Ze wN (pv 4) MN<|Zn _)
   (XH<|Zj XO)
   Zp)
   (XM (Xz (Ze Vc (Zq ZL (pv 4) XO) XO<|Zn _)
   (XH<|Zg 2<|LN wO<|pv 2)
   Zp)
   (XM (Ti (i:=5) Nw.nd Z (Or.inr Z)<|Vm K YY dU dW cZ (pv 1)<|XY (pv 4) XX)
   (XM (LF (i:=1) Z Nw.nd Z Z (sc0:=Zb<|top 13) (N0:=["table","rows","sign","last","at","pivot"]) (N':=["row","pivot","last"]) (o:=1) (fr:=[5,3]) ⟨Z,sC,sC,sC,Z,sC⟩ (ZV K<|pv 1) (ZE su) (λ_ _ _ _=>(Zc 0)) (λ_ _ _ _=>ML) λ_ _ _ _=>(Xu (iG T) hr T.qZ1 Zw<|XY (pv 0)<|XY (pv 1)<|XY (pv 2) XX))
   (XH<|Ti (i:=3) Nw.nd Z (Or.inr Z)<|ZJ (Zh K) (pv 5) XO λ_ _=>rfl)))))))
   (XH<|Zj<|Zq lI (pv 2)<|pv 3)))))),?_⟩
  let Mv:=hB.1;exists _,Z,a,kd,xs,L,Z,hS,hB,λNU=>?_,λh=>qe h H<|Same.refl H;let q:=q NU
  obtain⟨n,hn⟩:∃n,n=L.f:={_,Z};rw[<-hn]at q NU Ey zv;exists _,Z,a,Z,wx (K:=K) (k:=kd) (a:=a) (xs:=xs) (λi zs H2=>Same H H2/\i<=xs.f/\Bears (Uo H2) zs (L.M i)) {Same.refl _,Yi _,{Z,λi l e=>by simp at e}} (Zo J) (λi zs H2 hi zz=>by let(e,UZ,ez):=zz;show{hS.Y e,by rw[ez.1,Yl];lia}) ?_ ?_
  .rintro i v zs H2 hi ⟨s2,UP,hZ⟩ S Xc;let(l,hl,r,k,rfl,hr):=hB.at hi;let Xn:=(XA.H hi).1
   show nm ?_;exists _,Z,r,_,Z,(hr.Y s2).or,λc hc=>Xc _ _ {s2.m<|XZ hc,Xn,?_};rw[WD,hl];show(hZ.imp λ_ _ zz=>by let(r',e,h):=zz;exists r',e,XZ hc _ _ h).snoc ⟨c,Z,XS⟩
  rintro zs H2 ⟨s2,_,hZ⟩ rA KD;rw[Mv,YR]at hZ;let s3:=s2.m (XZ (o:=.lst zs) KD)
  exists λm σ H4=>∃A k rA ys R sgn last v4 v5,σ=[some ↑a,some<|.ref rA,some<|.int sgn,some<|.int last,v4,v5]/\Same H H4/\H rA=none/\H4 rA=some (.lst ys)/\Bears (LiV rA H4) ys R/\R.f=m/\(∀l∈R,l.f=m)/\k+m=n/\Rb A k m (fnL R) last/\det n (fnL L)=sgn*det n A/\(∀i j,i<n->j<n->(A i j).natAbs<=2^400)/\(m=0->last=det n A)/\(sgn=1\/sgn=-1)/\last.natAbs<2^9000,{n,fnL L,0,rA,zs,L,1,1,none,none,Z,s3,s2.free KD,XS,?_,hn.symm,NU,J,lS _ _,sD,Ey,λe=>by rw[e];rfl,.inl Z,Nat.one_lt_two_pow su},?_
  .show hZ.imp λv l zz=>by let(r,e,h):=zz;exists r,e,XZ KD _ _ h,Wz h KD
  rintro m σ H4 ⟨A,k,rA,ys,R,sgn,last,v4,v5,rfl,s4,UT,IY,hR,hRm,Pe,uP,KC,Gs,hAb,iC,hsg,hlb⟩;let KZ:=hR.1
  exists _,Z,rA,ys,Z,.inl<|SqL.of IY,_,_,Z,Z,_,Z,?_;show Xl (λLz=>?_) (λLz=>?_)
  .obtain⟨M,rfl⟩:∃M,m=M+1:={m-1,J};exists _,λσ' H' h=>{M,MU M,h},?_;let Cj:∀l∈R,∀z∈l,z.natAbs<2^9000:=λl hl z hz=>by
    let(i,hi):=Yv hl;let(j,hj):=Yv hz;let h1:=(XA.H hi).1
    let h2:=(XA.H hj).1;let h3:=Pe l hl
    have:=lG KC uP zv hAb (i:=i) (j:=j) J J
    rwa[Mt hi hj]at this
   exists _,Z,rA,ys,R,Z,SqL.of IY,hR.imp λ_ _ h=>h.list,λl hl=>by rw[Pe l hl];lia,λH5 s5 h0=>?_,λt H5 s5 ht XJ=>?_
   .exists _,Z,Z,_,Z,?_;show wB (c:=V.non=V.non) Z ?_;let z:det n A=0:=by
     have:=lM KC λi hi=>h0 i J
     rwa[show k+M+1=n by lia]at this
    rw[Gs,z,Rn]at q;show q H5 (s4.m s5)
   exists _,Z,Z,_,Z,?_;show HE (c:=V.int (t:Int)=V.non) (λz=>nomatch z) ?_;show nm ?_;dsimp only;show iE (λσ H6=>∃KA:Int,H6=H5/\σ=[some ↑a,some<|.ref rA,some<|.int KA,some<|.int last,some<|.int t,v5]/\KA=sgn*sg t) ?_ ?_
   .rintro σ H6 ⟨KA,rfl,rfl,zu⟩;let Nv:=s5 _ _ IY
    let hR6:=hR.imp λ_ _ h=>h.Y s5;obtain⟨l,hl⟩:∃l,R[t]?=some l:={_,Xp ht};let KS:=Pe l (WT hl)
    obtain⟨y,p',rfl⟩:∃y p',l=y::p':=by
     cases l with
     |nil=>cases KS
     |cons y p'=>exists y,p',Z
    let UX:p'.f=M:=by rw[YF]at KS;lia
    let(v,hv,pA,rfl,Ex,hpn):=hR6.2 t _ hl;let hy0:y≠0:=by rwa[Mt hl Z]at XJ
    show{_,Z,.inl {Z,_,SqL.of Nv},_,Z,rA,ys,(t:Int),t,.ref pA,Z,Z,Nv,J,J,by rw[og J J,YL],hv,?_};let zt:(upd H6 rA<|.lst<|ys.eraseIdx t) pA=some (.lst<|IL<|y::p'):=by rwa[Za hpn]
    let s7:Same H (upd H6 rA<|.lst<|ys.eraseIdx t):=ZK UT (s4.m s5);let hR7:Bears (LiV rA<|upd H6 rA<|.lst<|ys.eraseIdx t) (ys.eraseIdx t) (R.eraseIdx t):=(hR6.erase t).imp λ_ _ h=>h.mut
    let Gr:(upd H6 rA<|.lst<|ys.eraseIdx t) rA=some (.lst<|ys.eraseIdx t):=XS;generalize upd H6 rA (.lst<|ys.eraseIdx t)=H7 at *;let eRl:(R.eraseIdx t).f=M:=by rw[tL,if_pos ht];lia
    let Gq:∀l∈R.eraseIdx t,l.f=M+1:=λl h=>Pe l (DG h);let hy7:=hR7.1
    exists _,Z,rA,Z,{_,SqL.of Gr},ME (K:=K) (a:=rA) (xs:=ys.eraseIdx t) (λi zs H8=>Same H7 H8/\i<=(ys.eraseIdx t).f/\Bears (Uo H8) zs (((R.eraseIdx t).M i).R (NJ y p' last))) {Same.refl _,Yi _,{Z,λi l e=>by simp at e}} (Zo J) (λi zs H8 hi zz=>by let(e,UZ,ez):=zz;show{SqL.of<|e _ _ Gr,by rw[ez.1,Yb,Yl];lia}) ?_ ?_
    .rintro i v zs H8 hi ⟨s8,UP,uN⟩ S Xc;let(l,Jl,r,rfl,hr,_):=hR7.at hi;let Xn:=(XA.H hi).1
     let Vb:=Gq l (WT Jl);obtain⟨x,l',rfl⟩:∃x l',l=x::l':=by
      cases l with
      |nil=>cases Vb
      |cons x l'=>exists x,l',Z
     let OJ:l'.f=M:=by rw[YF]at Vb;lia
     show nm ?_;exists _,Z,_,Z,_,Z,r,pA,x,y,last,l',p',Z,SqL.of<|s8 _ _ hr,SqL.of<|s8 _ _ zt,J,J,KC.1,hlb,Cj _<|DG<|WT Jl,Cj _<|WT hl,λc H9 s9 zr hc=>Xc _ _ {s8.m s9,Xn,?_};rw[WD,Jl,YQ];show(uN.imp λ_ _ zz=>by let(r',e,h):=zz;exists r',e,s9 _ _ h).snoc ⟨c,Z,hc⟩
    rintro zs H8 ⟨s8,_,uN⟩ cA iz;rw[hy7,YR]at uN;let s9:=XZ (o:=.lst zs) iz
    exists _,Z,pA,_,0,.int y,Z,Z,SqL.of<|s9 _ _<|s8 _ _ zt,ZG (n:=0) Z Z,?_;let vi:Rb (λi=>A<|rotN k t i) k (M+1) (fnL<|(y::p')::R.eraseIdx t) last:=by rw[lE hl];show lN KC J
    let Gz:Rb (λi=>A<|rotN k t i) (k+1) M (fnL<|(R.eraseIdx t).R (NJ y p' last)) y:=lP vi hy0 λi j hi hj=>AG UX eRl Gq hi hj;let hdr:=lY (n:=n) (k:=k) (t:=t) (A:=A) J
    exists λi=>A<|rotN k t i,k+1,cA,zs,(R.eraseIdx t).R (NJ y p' last),KA,y,_,_,Z,s7.m<|s8.m s9,(s7.m s8).free iz,XS,?_,by rw[Yb];show eRl,λl h=>?_,J,Gz,?_,λi j hi hj=>hAb _ _ ?_ hj,λe0=>?_,?_,Cj _ (WT hl) y Ye
    .show uN.imp λv l zz=>by let(r,e,h):=zz;exists r,e,s9 _ _ h,Wz h iz
    .let⟨l0,h0,rfl⟩:=YN.H h;rw[aB (by rw[Gq l0 h0,UX]),UX]
    .rw[hdr,Gs,zu,Ro,<-Ro (sg t),lD,VL]
    .unfold rotN;split
     .grind
     .split
      .lia
      .split<;>lia
    .subst e0
     have:=lK vi
     rwa[show k+1=n by lia]at this
    .rw[zu];let WV:sg t=1\/sg t=-1:=by
      unfold sg;split
      .show .inl rfl
      .show .inr rfl
     rcases hsg with e|e<;>rcases WV with f|f<;>rw[e,f]
     .show .inl rfl
     .show .inr rfl
     .show .inr rfl
     .show .inl rfl
   .intro Kn hK;exists _,Z,_,_,Z,Z,(by change(0:Int)<2;decide),Z,_,Z,?_;rw[Zs];show Xl (λh1=>?_) (λh1=>?_)
    .exists _,Z,_,Z,hK _ _ {-sgn,Z,Z,?_};let e:sg t=-1:=by unfold sg;rw[if_neg J]
     rw[e];lia
    .show hK _ _ {sgn,Z,Z,?_};let e:sg t=1:=by unfold sg;rw[if_pos J]
     rw[e];grind
  .let Pd:m=0:=J;exists _,Z,_,Z,_,_,Z,Z,{?_,hlb},?_
   .rcases hsg with e|e<;>rw[e]<;>show Nat.one_lt_two_pow su
   .rw[iC Pd]at *;rw[Gs]at q;show q H4 s4
inductive spZ4(K:Ad)(vs:List V)(H:Hp)(Q:VK)(_:XK):Prop
 |mk (a:Addr) (l:Ac) (i:Nat) (_:vs=[.ref a,.int i]) (_:SqL K H a (IL l)) (_:l.f<=1000) (_:∀r H',Same H H'->H r=none->H' r=some (.lst<|IL<|cutz l i)->Q ↑r H')
def zq(l:Ac)(z:Int):cutz (IL l) z=IL (cutz l z):=by
 unfold cutz;change(l.R V.int).M _++(l.R V.int).drop _=(l.M _++l.drop _).R V.int
 rw[YQ,List.map_take,List.map_drop]
def iy(T:Txt K mg t):Xd P w base WY T.qZ4 1 (spZ4 K):=by
 show T.qZ4.okI ["row","number"] sC λXG A outer s H vs Q E hr h=>?_
 .let⟨a,l,i,rfl,hA,hl,q⟩:=h;exists _,(XH<|Zj<|Zq CJ (Zk (RG K) sE T.n_list Boot.«list»<|XY (HN (Hz K) (pv 0) Qz<|SG<|pv 1) XX)<|Zk (RG K) sE T.n_list Boot.«list»<|XY (HN (Hz K) (pv 0) (SG<|Zq Uc (pv 1) XO) Qz) XX),?_;exists _,Z,_,Z,(i:Int),Z,a,_,Z,hA,λp1 TQ=>?_;let u1:=XZ (o:=.lst<|Ww (IL l) none<|some (i:Int)) TQ
  exists p1,_,Z,.inl<|SqL.of XS,λp2 VE=>?_;let u2:=XZ (o:=.lst<|Ww (IL l) none<|some (i:Int)) VE
  exists _,Z,_,Z,_,_,Z,Z,_,Z,a,_,Z,(u1.m u2).seq hA,λp3 Jd=>?_;let u3:=XZ (o:=.lst<|Ww (IL l) (some<|(i:Int)+1) none) Jd
  exists p3,_,Z,.inl<|SqL.of XS,λp4 Ew=>?_;let u4:=XZ (o:=.lst<|Ww (IL l) (some<|(i:Int)+1) none) Ew
  let c1:=wK (IL l) none (some (i:Int));let c2:=wK (IL l) (some<|(i:Int)+1) none
  rw[Xr]at c1 c2;exists p2,p4,_,_,Z,Z,(u3.m u4) _ _ XS,XS,MF J,λp5 uM=>?_;let u14:=u1.m (u2.m<|u3.m u4)
  show q p5 _ (u14.m<|XZ uM) (u14.free uM) ?_;rw[XS,mU J,zq]
inductive spZ5(K:Ad)(vs:List V)(H:Hp)(Q:VK)(_:XK):Prop
 |mk (a:Addr) (ys:List V) (L:Ab) (i:Nat) (_:vs=[.ref a,.int i]) (_:SqL K H a ys) (_:Bears (Uo H) ys L) (_:L.f<=1000) (_:(∀l∈L,l.f<=1000)) (_:i<L.f) (_:∀r zs H',Same H H'->H' r=some (.lst zs)->Bears (Uo H') zs ((cutz L i).R λl=>cutz l (i:Int))->Q ↑r H')
def ZA5{α:Type}{l:List α}{i j:Nat}{x:α}(hx:l[j]?=some x):cutz (l.M (j+1)) (i:Int)=cutz (l.M j) (i:Int)++(if j=i then [] else [x]):=by
 let hj:=(XA.H hx).1;let e:l.M (j+1)=l.M j++[x]:=by rw[WD,hx];rfl
 let hl:(l.M j).f=j:=by rw[Yl];grind
 let short:∀m:List α,m.f<=i->cutz m (i:Int)=m:=λm hm=>by unfold cutz;rw[YL,YJ hm,YK J,YB]
 rw[e];cases c:j=i
 .subst c;rw[if_pos Z,YB,short (l.M j) J];unfold cutz;rw[YL,Fz J,YK (by rw[Xy,hl];show XI _),YB,YJ J]
 .rw[if_neg c];cases d:j<i
  .rw[short (l.M j++[x]) (by rwa[Xy,hl]),short (l.M j) J]
  .unfold cutz;rw[YL,Fz sD,El J,Yu]
def iw(T:Txt K mg t):Xd P w base WY T.qZ5 2 (spZ5 K):=by
 show T.qZ5.okI ["table","number"] sC λXG A outer s H vs Q E hr h=>?_
 .let⟨a,ys,L,i,rfl,hA,hB,hL,iu,hi,q⟩:=h;exists _,(XH<|Zj<|Vy Z (sc0:=Zb<|top 15) (N0:=["table","number"]) (N':=["at","row","number"]) (o:=2) (fr:=[1]) ⟨Z,sC,sC,sC,Z,sC⟩ (LC K Z T.n_enumerate<|XY (pv 0) XX) (Qt<|ZW su<|ZW su Qu) (λ_ _ _ _=>(Qp (n:=2) K Z<|Zr (Zc 0)<|Zr (Zc 1) QE)) (λ_ _ _ _=>(Qw<|Ze VA (pv 0) (pv 2)<|Zn _)) λ_ _ _ _=>(Xu (iy T) hr T.qZ4 Zw<|XY (pv 1)<|XY (pv 2) XX)),?_;let KZ:=hB.1
  show⟨_,Z,a,Z,{_,hA},vR (K:=K) (a:=a) (xs:=ys) (λj zs H2=>Same H H2/\j<=ys.f/\Bears (Uo H2) zs ((cutz (L.M j) (i:Int)).R λl=>cutz l (i:Int))) {Same.refl _,Yi _,by rw[show(cutz (L.M 0) (i:Int)).R (λl=>cutz l (i:Int))=[] by unfold cutz;simp];show{Z,λi l e=>by simp at e}} (Zo J) (λj zs H2 hj ⟨e,Pg,ez⟩=>⟨e.seq hA,by
   rw[ez.1,Yb];show Yj (mT _ _) ?_;rw[Yl]
   lia⟩) ?_ ?_⟩
  .rintro j v zs H2 pt Uw hj ⟨s2,UH,hZ⟩ S Xc;let(l,hl,r,rfl,hr):=hB.at hj;let Vs:=(XA.H hj).1
   let s3:=XZ (o:=.tup [.int j,.ref r]) Uw;exists pt,_,Z,SqT.of XS,Z,_,_,Z,_,_,Z,Z,?_;let hZ3:Bears (Uo<|upd H2 pt<|.tup [.int j,.ref r]) zs ((cutz (L.M j) (i:Int)).R λl=>cutz l (i:Int)):=hZ.imp λ_ _ zz=>by let(r',e,h):=zz;exists r',e,s3 _ _ h
   let ir:=s2.m s3;generalize upd H2 pt (.tup [.int j,.ref r])=H3 at *;exists _,Z,_,Z,Z,_,Z,?_;rw[Zs];show Wv (λe=>?_) (λe=>?_)
   .show Xc _ _ {ir,Vs,?_};rwa[ZA5 hl,if_pos J,YB]
   .exists _,Z,_,Z,r,l,i,Z,SqL.of<|ir _ _ hr,iu l<|WT hl,λc H4 s4 _ hc=>Xc _ _ {ir.m s4,Vs,?_};rw[ZA5 hl,if_neg J,YQ];show(hZ3.imp λ_ _ zz=>by let(r',e,h):=zz;exists r',e,s4 _ _ h).snoc ⟨c,Z,hc⟩
  .rintro zs H2 ⟨s2,_,hZ⟩ p hp;rw[KZ,YR]at hZ;show q p zs _ (s2.m<|XZ hp) XS (hZ.imp λ_ _ zz=>by let(r',e,h):=zz;exists r',e,XZ hp _ _ h)
inductive spZ6(C:Addr)(vs:List V)(H:Hp)(Q:VK)(_:XK):Prop
 |mk (w n ps k:_) (_:vs=[.ref w,.int k]) (_:WebAt C H w n ps) (_:Q (.bl<|decide<|0<=k/\k<ps⁻¹) H)
def zp(T:Txt K mg t):Xd P w base WY T.qZ6 1 (spZ6 t.A_Web):=by
 show T.qZ6.okI ["web","number"] sC λXG A outer s H vs Q E hr h=>?_
 .let⟨w,n,ps,k,rfl,⟨dx,tl,xs,h1,h2,h3⟩,q⟩:=h;exists _,(XH<|Zj<|rj OC Ka XO (pv 1)<|Zd (Zi K) sE T.n_len Boot.«len»<|XY (Zm K (pv 0) Z) XX),?_;exists _,Z,_,_,Z,Z,_,Z,?_;show CF (λhc=>?_) (λhc=>?_)
  .exists _,Z,w,_,dx,_,_,Z,h1,T.cl_Web,T.n_Web_ties,Oo _ _,tl,xs,Z,.inl<|SqL.of h2,_,_,Z,Z,?_;let hc:=YG hc
   change Q (.bl<|decide<|k<xs⁻¹) H;rwa[h3.1,show decide (k<ps⁻¹)=decide (0<=k/\k<ps⁻¹) from by simp[hc]]
  .let hc:¬(0<=k):=λz=>hc (Yx z);change Q (.bl false) H
   rwa[show(false:Bool)=decide (0<=k/\k<ps⁻¹) from by simp;lia]
inductive spZ7(K:Ad)(vs:List V)(H:Hp)(Q:VK)(_:XK):Prop
 |mk (n a kd xs ps:_) (_:vs=[.int n,.ref a]) (_:SqK kd K H a xs) (_:PairsV H xs ps) (_:Zx n ps) (_:Q .non H)
def iq(T:Txt K mg t):Xd P w base WY T.qZ7 1 (spZ7 K):=by
 show T.qZ7.okI ["places","ties","ends","end"] sC λXG A outer s H vs Q E hr h=>?_
 .let⟨n,a,kd,xs,ps,rfl,hS,hp,⟨g1,g2,g3,g4⟩,q⟩:=h;show⟨_,(XM (Xz (Ic<|dv OC OC XO (pv 0)<|Ie (v:=V.int 14) Z T.g_MOST_PLACES.choose_spec {_,Z})
   (XH QF)
   Zp)
   (XM (Xz (Ze QD (Zd (Zi K) sE T.n_len Boot.«len»<|XY (pv 1) XX) (Ie (v:=V.int 30) Z T.g_MOST_TIES.choose_spec {_,Z})<|Zn _)
   (XH QF)
   Zp)
   (XH (Sb SV Z (SA K<|pv 1) (Zc 2)
   (XH (Sb SV Z (LD K<|pv 2) (Zc 3)
   (XH (Xz (Ic<|dv OC Ka XO (pv 3)<|pv 0)
   (XH QF)
   Zp)))))))),?_⟩
  exists _,Z,_,_,Z,Z,_,Z,?_;show wB g1 ?_;exists _,_,Z,Z,_,Z,?_;show pE g2 ?_;exists _,Z,a,xs,Z,hS.or,_,_,Z,Z,_,Z,?_;show HE (by rw[hp.1];lia) ?_;exists _,Z,a,Z,wA (k:=kd) (K:=K) (xs:=xs) (λi σ H2=>∃v v2,σ=[some (.int n),some<|.ref a,v,v2]/\H2=H) ⟨none,none,Z,Z⟩ (λi σ H2 _ zz=>by let(_,_,_,e):=zz;show e▸hS) ?_ ?_
  .rintro i x σ H2 hi ⟨v,v2,rfl,rfl⟩;let(p,Ol,tt,rfl,ht):=hp.at hi;let(e1,e2,e3,e4):=g4 p (WT Ol);exists _,Z,tt,Z,{_,SqT.of ht},dz (K:=K) (a:=tt) (xs:=[.int p.1,.int p.2]) (λj σ H3=>∃v v2,σ=[some (.int n),some<|.ref a,v,v2]/\H3=H2) {_,_,Z,Z} (λj σ H3 _ zz=>by let(_,_,_,e):=zz;show e▸SqT.of ht) ?_ ?_
   .rintro j y σ H3 hj ⟨v,v2,rfl,rfl⟩;let hy:∃z:Int,y=.int z/\0<=z/\z<n:=by
     match j,hj with
     |0,hj=>exists p.1,(Yk hj).symm,e1,e2
     |1,hj=>exists p.2,(Yk hj).symm,e3,e4
    let(z,rfl,z1,z2):=hy;exists _,Z,_,_,Z,Z,_,Z,?_;show wB z1 ?_;exists _,Z,_,_,Z,Z,_,Z,?_;show pE z2 ?_;exists _,_,Z,Z
   .rintro σ H3 ⟨v,v2,rfl,rfl⟩;exists _,_,Z,Z
  .rintro σ H2 ⟨v,v2,rfl,rfl⟩;show q
inductive sp_Web_init(K:Ad)(C:Addr)(vs:List V)(H:Hp)(Q:VK)(_:XK):Prop
 |mk (w dx n a kd xs ps:_) (_:vs=[.ref w,.int n,.ref a]) (_:H w=some (.ins C dx [])) (_:(∀o,SqK kd K (upd H w o) a xs)) (_:PairsV H xs ps) (_:Zx n ps) (_:∀H':Hp,WebAt C H' w n ps->(∀b o,H b=some o->b≠w->H' b=some o)->Q .non H')
def ip:FnScope ["self","places","ties"] ["self","places","ties"] (Zb sZ8):=Rr sC
def Gp(T:Txt K mg t):FnOk P w K mg base WY 2 t.aZ8 t.dZ8 ["self","places","ties"] (sp_Web_init K t.A_Web):=by
 show T.fZ8.ok ip (λvs H Q E h=>?_) (λXG A outer s H vs Q E hr h=>?_)
 .let⟨w,dx,n,a,kd,xs,ps,rfl,_⟩:=h;rfl
 .let⟨w,dx,n,a,kd,xs,ps,rfl,hw,hS,hp,g,q⟩:=h;let eH:upd H w (.ins t.A_Web dx [])=H:=by
   funext b
   cases hb:b=w
   .subst hb;rw[XS,hw]
   .rw[Za hb]
  let EU:SqK kd K H a xs:=by let z:=hS (.ins t.A_Web dx []);rwa[eH]at z
  show⟨_,(XM (ZU<|Xu (iq T) hr T.qZ7 Zw<|XY (pv 1)<|XY (pv 2) XX)
   (XM (LL (pv 0) (pv 1) Z)
   (XH<|LL (pv 0) (Vy Z (sc0:=Zb sZ8) (N0:=["self","places","ties"]) (N':=["ends"]) (o:=1) (fr:=[]) ⟨Z,sC,sC,sC,Z,sC⟩ (SA K<|pv 2) (ZE su) (λ_ _ _ _=>(Zc 0)) (λ_ _ _ _=>ML) λ_ _ _ _=>(WC<|XY (ZJ (ZH K) (pv 0) XO λ_ _=>rfl)<|XY (ZJ (ZH K) (pv 0) XO λ_ _=>rfl) XX)) Z))),?_⟩
  exists _,Z,_,Z,n,a,kd,xs,ps,Z,EU,hp,g,?_;exists _,Z,_,Z,w,_,dx,[],Z,hw,T.cl_Web,T.n_Web_places,(by change 0<1000;decide),?_;let TQ:PairsV (upd H w<|.ins t.A_Web dx<|XN "places" (.int n) []) xs ps:={hp.1,λi p e=>by let(v,e1,tt,e2,e3):=hp.2 i p e;show{v,e1,tt,e2,by rwa[Za (OK e3 hw (λz=>nomatch z))]}}
  let sx:xs.f<sizeLine:=Zo (by rw[hp.1];have:=g.2.2.1;lia);show⟨_,Z,a,Z,wx (k:=kd) (K:=K) (xs:=xs) (λi ys H2=>i<=xs.f/\ys.f=i/\Same (upd H w<|.ins t.A_Web dx<|XN "places" (.int n) []) H2/\PairsV H2 ys (ps.M i)) {Yi _,Z,Same.refl _,PairsV.nil} sx
   (λi ys H2 _ zz=>by let(_,hl,s2,_):=zz;exists (hS _).Y s2,xm hl) ?_ ?_⟩
  .rintro i x ys H2 hi ⟨h1,hl,s2,hy⟩ S Xc;let(p,Ol,tt,rfl,ht):=TQ.at hi;let Kz:=s2 _ _ ht
   show cK ?_;exists _,Z,tt,_,0,.int p.1,Z,Z,SqT.of Kz,Z,_,Z,tt,_,1,.int p.2,Z,Z,SqT.of Kz,Z,(by change 2<=sizeLine;decide),λq hq=>?_;let UP:i<xs.f:=(XA.H hi).1
   show Xc _ _ {UP,by rw[Xy,hl];rfl,Zy s2 hq,?_};rw[WD,Ol];show(hy.Y<|XZ hq).snoc ⟨q,Z,XS⟩
  .rintro ys H2 ⟨_,hl,s2,hy⟩ tl Eu;let uL:=s2 w _ XS
   let nwt:w≠tl:=Wz uL Eu;exists _,Z,w,_,dx,_,Z,(by rwa[Za nwt]),T.cl_Web,T.n_Web_ties,(by change 1<1000;decide),?_;show q _ {dx,tl,ys,XS,by rw[Za (Xb nwt),XS],?_} λb ob e hb=>?_
   .let e1:ps.M xs.f=ps:=YJ (by rw[hp.1];show XI _);rw[e1]at hy;exists hy.1,λi p e=>?_;let(v,e2,tt,e3,e4):=hy.2 i p e;exists v,e2,tt,e3,by rwa[Za (OK e4 uL (λz=>nomatch z)),Za (Wz e4 Eu)]
   .let e2:=s2 b ob (by rwa[Za hb]);rwa[Za hb,Za (Wz e2 Eu)]
inductive spZ9(K:Ad)(C:Addr)(vs:List V)(H:Hp)(Q:VK)(_:XK):Prop
 |mk (w n ps:_) (_:vs=[.ref w]) (_:WebAt C H w n ps) (_:ps.f<=1000) (_:∀r H',Same H H'->H r=none->H' r=some (.tup<|IL<|VI ps.f)->Q ↑r H')
def ik(T:Txt K mg t):Xd P w base WY T.qZ9 1 (spZ9 K t.A_Web):=by
 show T.qZ9.okI ["web"] sC λXG A outer s H vs Q E hr h=>?_
 .let⟨w,n,ps,rfl,⟨dx,tl,xs,h1,h2,h3⟩,hl,q⟩:=h;exists _,(XH<|Zj<|Zk (Zu3 Z) sE T.n_tuple Boot.«tuple»<|XY (Zk pQ sE T.n_range Boot.«range»<|XY (Zd (Zi K) sE T.n_len Boot.«len»<|XY (Zm K (pv 0) Z) XX) XX) XX),?_;let hx:=h3.1
  exists _,Z,w,_,dx,_,_,Z,h1,T.cl_Web,T.n_Web_ties,Oo _ _,tl,xs,Z,.inl<|SqL.of h2,_,Z,λr hr=>{r,0,_,Z,XS,⟨su,su,J,J⟩,J,λl hl=>?_};show q l _ (Zy (XZ hr) hl) ((XZ hr).free hl) ?_;rw[XS,hx,nU]
inductive spZa(K:Ad)(C:Addr)(vs:List V)(H:Hp)(Q:VK)(_:XK):Prop
 |mk (w a n ps kd T:_) (_:vs=[.ref w,.ref a]) (_:WebAt C H w n ps) (_:ps.f<=1000) (_:SqK kd K H a (IL T)) (_:∀D,D.E (·<·)->(∀z,z∈D↔(0<=z/\z<ps⁻¹)/\z∉T)->∀r H',Same H H'->H' r=some (.tup<|IL D)->Q ↑r H')
def ij(T:Txt K mg t):Xd P w base WY T.qZa 1 (spZa K t.A_Web):=by
 show T.qZa.okI ["web","ties"] sC λXG A outer s H vs Q E hr h=>?_
 .let⟨w,a,n,ps,kd,T',rfl,hW,hl,hA,q⟩:=h;exists _,(XH<|Zj<|Zk (ZC K) sE T.n_tuple Boot.«tuple»<|XY (Vy Z (sc0:=Zb<|top 23) (N0:=["web","ties"]) (N':=["tie","ties"]) (o:=1) (fr:=[1]) ⟨Z,sC,sC,sC,Z,sC⟩ (wW Z T.n_range<|XY (Zd (Zi K) sE T.n_len Boot.«len»<|XY (Zm K (pv 0) Z) XX) XX) (ZE su) (λ_ _ _ _=>(Zc 0)) (λ_ _ _ _=>(Qw<|Ze (Hx K) (pv 0) (pv 1) Z)) λ_ _ _ _=>(pv 0)) XX),?_;let(dx,tl,xs,h1,h2,h3):=hW;let Pj:=h3.1
  exists _,Z,w,_,dx,_,_,Z,h1,T.cl_Web,T.n_Web_ties,Oo _ _,tl,xs,Z,.inl<|SqL.of h2,_,Z,J,J,cJ (lo:=0) (n:=(xs.f:Int).j) (λj ys H3=>H3=H/\∃D:Ac,ys=IL D/\D.f<=j/\D.E (·<·)/\∀z,z∈D↔(0<=z/\z<(j:Int))/\z∉T') {Z,[],Z,XI _,.nil,λz=>{λh=>(by cases h),λh=>(by lia)}} (Zo J) (λj ys H3 _ zz=>by let(_,D,e,hl,_):=zz;rwa[e,Xr]) ?_ ?_
  .rintro j ys H3 hj ⟨rfl,D,rfl,hDl,hp,hm⟩ S Xc;let lt:∀z∈D,z<(j:Int):=λz hz=>((hm z).H hz).1.2
   show nm ?_;exists _,Z,_,Z,a,_,Z,hA.or,Z,ZT _,_,Z,?_;rw[Ur,Fo];show Wv (λWj=>?_) (λWj=>?_)
   .show Xc _ _ {Z,D,Z,J,hp,λz=>?_};rw[hm z];exists λh=>⟨J,h.2⟩,λh=>{{h.1.1,?_},h.2};cases e:z=(j:Int)
    .show absurd (e▸Wj) h.2
    .lia
   .exists _,Z,Xc _ _ {Z,D++[(j:Int)],?_,by rw[Xy];show Nat.succ_le_succ hDl,?_,λz=>?_}
    .rw[VJ]
    .show YI.X {hp,IM _ _,λa ha b hb=>by rw[XD.H hb];show lt a ha}
    .rw[XB,XD,hm z];constructor
     .rintro(⟨f1,f2⟩|h)
      .exists J,f2
      .rw[h];exists J,Wj
     .rintro⟨f1,f2⟩;cases e:z=(j:Int)
      .show .inr e
      .show .inl ⟨J,f2⟩
  rintro ys H3 ⟨rfl,D,rfl,hDl,hp,hm⟩ la Gn;rw[show(((xs.f:Int).j:Nat):Int)=ps⁻¹ by lia]at hm;exists la,_,Z,.inl {SqL.of XS,λtp Lw=>?_};show q D hp hm tp _ ((XZ Gn).m (XZ Lw)) XS
inductive spZb(K:Ad)(vs:List V)(H:Hp)(Q:VK)(_:XK):Prop
 |mk (a kd ns z:_) (_:vs=[.ref a,.int z]) (_:SqK kd K H a (IL ns)) (_:ns.f<=1000) (_:∀r H',Same H H'->H r=none->H' r=some (.tup<|IL<|wo ns z)->Q ↑r H')
def zm(T:Txt K mg t):Xd P w base WY T.qZb 1 (spZb K):=by
 show T.qZb.okI ["ties","left_out"] sC λXG A outer s H vs Q E hr h=>?_
 .let⟨a,kd,ns,z,rfl,hS,hn,q⟩:=h;exists _,(XH<|Zj<|Zk (ZC K) sE T.n_tuple Boot.«tuple»<|XY (Vy Z (sc0:=Zb<|top 24) (N0:=["ties","left_out"]) (N':=["tie","left_out"]) (o:=1) (fr:=[1]) ⟨Z,sC,sC,sC,Z,sC⟩ (SA K<|pv 0) (ZE su) (λ_ _ _ _=>(Zc 0)) (λ_ _ _ _=>(Qw<|Ze VA (pv 0) (pv 1)<|Zn _)) λ_ _ _ _=>(pv 0)) XX),?_;show⟨_,Z,a,Z,wx (k:=kd) (K:=K) (xs:=IL ns) (λi ys H2=>H2=H/\i<=ns.f/\ys=IL (wo (ns.M i) z)) {Z,Yi _,Z} (Zo<|by rw[Xr];lia)
   (λi ys H2 hi zz=>by let(e,UZ,ey):=zz;show{e▸hS,by rw[ey,Xr];show Yj (BS _ _)<|by rw[Yl];lia}) ?_ ?_⟩
  .rintro i x ys H2 hi ⟨rfl,UP,rfl⟩ S Xc;let(y,rfl,hy):=TY hi;let Xn:i<ns.f:=(XA.H hy).1
   show nm ?_;exists _,Z,_,Z,Z,_,Z,?_;rw[Zs];show Wv (λhe=>?_) (λhe=>?_)
   .show Xc _ _ {Z,Xn,?_};rw[bX hy,if_neg (by simpa using he),YB]
   .exists _,Z,Xc _ _ {Z,Xn,?_};rw[bX hy,if_pos he,VJ]
  .rintro ys H2 ⟨rfl,_,rfl⟩ p hp;rw[Xr,YR];exists p,_,Z,.inl {SqL.of XS,λr hr=>?_};show q r _ (Zy (XZ hp) hr) ((XZ hp).free hr) XS
inductive spZc(K:Ad)(C:Addr)(vs:List V)(H:Hp)(Q:VK)(_:XK):Prop
 |mk (w a n ps kd ns:_) (_:vs=[.ref w,.ref a]) (_:WebAt C H w n ps) (_:SqK kd K H a (IL ns)) (_:∀b:Bool,(b=true↔IsSet ps.f ns)->Q (.bl b) H)
def zk(T:Txt K mg t):Xd P w base WY T.qZc 2 (spZc K t.A_Web):=by
 show T.qZc.okI ["web","ties","last","tie"] sC λXG A outer s H vs Q E hr h=>?_
 .let⟨w,a,n,ps,kd,ns,rfl,hW,hS,q⟩:=h;show⟨_,(XM (Zg 2<|LN wO XO)
   (XM (Sb SV Z (SA K<|pv 1) (Zc 3)
   (XM (Xz (PW.pt<|OG (Ze OC (pv 3) (pv 2)<|Zn _)<|Dx<|Ic<|QG<|Xu (zp T) hr T.qZ6 Zw<|XY (pv 0)<|XY (pv 3) XX)
   (XH<|Zj Kd)
   Zp)
   (XH<|Zg 2<|pv 3)))
   (XH<|Zj Kd))),?_⟩
  exists _,Z,?_;show⟨_,Z,a,Z,wA (k:=kd) (K:=K) (xs:=IL ns) (λi σ H2=>∃l v,σ=[some ↑w,some<|.ref a,some<|.int l,v]/\H2=H/\(i=0->l=-1)/\(i≠0->ns[i-1]?=some l)/\∀j z,j<i->ns[j]?=some z->0<=z/\z<ps⁻¹/\∀y,j≠0->ns[j-1]?=some y->y<z)
   {-1,none,Z,Z,λ_=>rfl,λz=>absurd Z z,λj z hj=>absurd hj<|SW j} (λi σ H2 _ zz=>by let(_,_,_,e,_):=zz;show e▸hS) ?_ ?_⟩
  .rintro i x σ H2 hi ⟨l,v,rfl,rfl,NG,RR,hp⟩;let(z,rfl,hz):=TY hi;exists _,Z,_,Z,_,_,Z,Z,_,Z,?_;show Xl (λhc=>?_) (λhc=>?_)
   .-- tie<=last
    show iteT ?_;show q false {λz=>(nomatch z),λhs=>?_};let(b1,b2,b3):=hs i z hz;cases h0:i=0
    .have:=NG h0;lia
    .have:=b3 l h0 (RR h0);lia
   .exists _,Z,_,Z,w,n,ps,z,Z,hW,_,Z,?_;show Wv (λUR=>?_) (λUR=>?_)
    .exists _,Z,?_;show{z,_,Z,Z,λe=>(nomatch e),λ_=>by simpa using hz,λj y hj ey=>?_};cases hji:j<i
     .show hp j y hji ey
     .let e:j=i:=J;subst e;rw[hz]at ey;cases ey;exists UR.1,UR.2,λy h0 ey=>?_;rw[RR h0]at ey;cases ey;lia
    .show q false {λz=>(nomatch z),λhs=>?_};let(b1,b2,b3):=hs i z hz;show absurd ⟨b1,b2⟩ UR
  .rintro σ H2 ⟨l,v,rfl,rfl,NG,RR,hp⟩;show q true {λ_ i z hz=>?_,λ_=>rfl};let hi:i<(IL ns).f:=by rw[Xr];show(XA.H hz).1
   show hp i z hi hz
inductive spZd(K:Ad)(C:Addr)(vs:List V)(H:Hp)(Q:VK)(_:XK):Prop
 |mk (w a n ps kd ns:_) (_:vs=[.ref w,.ref a]) (_:WebAt C H w n ps) (_:SqK kd K H a (IL ns)) (_:IsSet ps.f ns) (_:∀r H',Same H H'->SqT K H' r (IL ns)->Q ↑r H')
def ig(T:Txt K mg t):Xd P w base WY T.qZd 3 (spZd K t.A_Web):=by
 show T.qZd.okI ["web","ties"] sC λXG A outer s H vs Q E hr h=>?_
 .let⟨w,a,n,ps,kd,ns,rfl,hW,hS,hI,q⟩:=h;show⟨_,(XM (Xz (Ic<|QG<|Xu (zk T) hr T.qZc Zw<|XY (pv 0)<|XY (pv 1) XX)
   (XH QF)
   Zp)
   (XH<|Zj<|Zk (ZC K) sE T.n_tuple Boot.«tuple»<|XY (pv 1) XX)),?_⟩
  exists _,Z,_,Z,w,a,n,ps,kd,ns,Z,hW,hS,λb hb=>{_,Z,?_};show HD (λ_=>?_) (λz=>?_)
  .exists _,Z,a,IL ns,Z,?_;cases kd with
   |false=>show .inl {hS,λl hl=>q l _ (XZ hl)<|SqT.of XS}
   |true=>show .inr {hS,q a H (Same.refl H) hS}
  .rw[hb.X hI]at z;cases z
inductive spZe(K:Ad)(C:Addr)(vs:List V)(H:Hp)(Q:VK)(_:XK):Prop
 |mk (w m a n ps M kd ns:_) (_:vs=[.ref w,.ref m,.ref a]) (_:WebAt C H w n ps) (_:Zx n ps) (_:H m=some (.lst<|IL M)) (_:M.f=n.j) (_:SqK kd K H a (IL ns)) (_:(∀z∈ns,0<=z/\z<ps⁻¹)) (_:∀m' H',Same H H'->(m'=m\/H m'=none)->H' m'=some (.lst<|IL<|MC M<|XT ps ns)->Q ↑m' H')
def Gm:FnScope ["web","marks","ties","tie","ends","low","high"] ["web","marks","ties"] (Zb (top 27)):=Rr sC
def zj(T:Txt K mg t):Xd P w base WY T.qZe 1 (spZe K t.A_Web):=by
 show T.qZe.okI ["web","marks","ties","tie","ends","low","high"] sC λXG A outer s H vs Q E hr h=>?_
 .let⟨w,m0,a,n,ps,M0,kd,ns,rfl,⟨dx,tl,xs,h1,h2,h3⟩,⟨g1,g2,g3,g4⟩,hm,hlM,hS,hI,q⟩:=h;show⟨_,(XM (Sb SV Z (SA K<|pv 2) (Zc 3)
   (XM (Zg 4<|ZJ (Zh K) (Zm K (pv 0) Z) (pv 3) λ_ _=>rfl)
   (XM (Ti (i:=5) Gm.nd Z (Or.inr Z)<|Zd (rf Z) sE T.n_min Boot.«min»<|XY (ZJ (Zh K) (pv 1) (ZJ (ZH K) (pv 4) XO λ_ _=>rfl) λ_ _=>rfl)<|XY (ZJ (Zh K) (pv 1) (ZJ (ZH K) (pv 4) XO λ_ _=>rfl) λ_ _=>rfl) XX)
   (XM (Ti (i:=6) Gm.nd Z (Or.inr Z)<|Zd (rh Z) sE T.n_max Boot.«max»<|XY (ZJ (Zh K) (pv 1) (ZJ (ZH K) (pv 4) XO λ_ _=>rfl) λ_ _=>rfl)<|XY (ZJ (Zh K) (pv 1) (ZJ (ZH K) (pv 4) XO λ_ _=>rfl) λ_ _=>rfl) XX)
   (XH (Xz (Ze Ka (pv 5) (pv 6)<|Zn _)
   (XH<|LF (i:=1) Z Gm.nd Z Z (sc0:=Zb<|top 27) (N0:=["web","marks","ties","tie","ends","low","high"]) (N':=["mark","high","low"]) (o:=1) (fr:=[6,5]) ⟨Z,sC,sC,sC,Z,sC⟩ (ZV K<|pv 1) (ZE su) (λ_ _ _ _=>(Zc 0)) (λ_ _ _ _=>ML) λ_ _ _ _=>(w4 (Ze Vc (pv 0) (pv 1)<|Zn _) (pv 2)<|pv 0))
   Zp))))))
   (XH<|Zj<|pv 1)),?_⟩
  show⟨_,Z,a,Z,wA (k:=kd) (K:=K) (a:=a) (xs:=IL ns) (λi σ H2=>∃m v3 v4 v5 v6,σ=[some ↑w,some<|.ref m,some<|.ref a,v3,v4,v5,v6]/\Same H H2/\(m=m0\/H m=none)/\H2 m=some (.lst<|IL<|MC M0<|XT ps<|ns.M i))
   {m0,none,none,none,none,Z,Same.refl _,.inl Z,hm} (λi σ H2 _ zz=>by let(_,_,_,_,_,_,s2,_):=zz;show hS.Y s2) ?_ ?_⟩
  .rintro i x σ H2 hi ⟨m,v3,v4,v5,v6,rfl,s2,Pd,We⟩;let(z,rfl,hz):=TY hi;let(z0,z1):=hI z (WT hz);obtain⟨p,hp⟩:∃p,ps[z.j]?=some p:={_,Xp J};let(v,hv,tt,rfl,Uh):=h3.2 z.j p hp;let(e1,e2,e3,e4):=g4 p (WT hp);let ed:ps.S z.j (0,0)=p:=ZS hp
   exists _,Z,w,_,dx,_,_,Z,s2 _ _ h1,T.cl_Web,T.n_Web_ties,Oo _ _,_,Z,tl,xs,z,.ref tt,Z,Z,SqL.of<|s2 _ _ h2,ZG (n:=z.j) J hv,?_;let Kz:=s2 _ _ Uh
   let hl:(MC M0<|XT ps<|ns.M i).f=n.j:=(ZP6 _ _).m hlM;generalize hM:MC M0 (XT ps<|ns.M i)=M at *;let ha:M[p.1.j]?=some (mk M p.1.j):=Po sD
   let hb:M[p.2.j]?=some (mk M p.2.j):=Po sD;let iA:VQ (IL M) p.1=some (.int<|mk M p.1.j):=ZG (n:=p.1.j) J (by rw[Yw,ha];rfl)
   let iB:VQ (IL M) p.2=some (.int<|mk M p.2.j):=ZG (n:=p.2.j) J (by rw[Yw,hb];rfl);let t0:VQ ([.int p.1,.int p.2]:List V) 0=some (.int p.1):=rfl
   let t1:VQ ([.int p.1,.int p.2]:List V) 1=some (.int p.2):=rfl;exists _,rfl,_,rfl,tt,_,0,_,rfl,rfl,SqT.of Kz,t0,m,_,p.1,_,rfl,rfl,SqL.of We,iA,_,rfl,_,rfl,tt,_,1,_,rfl,rfl,SqT.of Kz,t1,m,_,p.2,_,rfl,rfl,SqL.of We,iB,_,_,rfl,?_;exists _,rfl,_,rfl,tt,_,0,_,rfl,rfl,SqT.of Kz,t0,m,_,p.1,_,rfl,rfl,SqL.of We,iA,_,rfl,_,rfl,tt,_,1,_,rfl,rfl,SqT.of Kz,t1,m,_,p.2,_,rfl,rfl,SqL.of We,iB,_,_,rfl,?_;let eL:(if mk M p.2.j<mk M p.1.j then mk M p.2.j else mk M p.1.j)=min (mk M p.1.j) (mk M p.2.j):=by rw[Int.min_def];split<;>split<;>lia
   let eH:(if mk M p.2.j>mk M p.1.j then mk M p.2.j else mk M p.1.j)=max (mk M p.1.j) (mk M p.2.j):=by rw[Int.max_def];split<;>split<;>lia
   exists _,Z,_,Z,_,_,Z,Z,_,Z,?_;rw[eL,eH];let step:MC M0 (XT ps<|ns.M<|i+1)=pm M p.1.j p.2.j:=by rw[o6 hz,nV,hM,ed]
   show Xl (λhc=>?_) (λhc=>?_)
   .show⟨_,Z,m,Z,{_,SqL.of We},ME (K:=K) (a:=m) (xs:=IL M) (λj ys H3=>H3=H2/\j<=M.f/\ys=IL ((M.M j).R λk=>if k=max (mk M p.1.j) (mk M p.2.j) then min (mk M p.1.j) (mk M p.2.j) else k)) {Z,Yi _,Z} (Zo<|by rw[Xr];grind)
     (λj ys H3 hj zz=>by let(e,UH,ey):=zz;show{e▸SqL.of We,by rw[ey,Xr,Yb,Yl];lia}) ?_ ?_⟩
    .rintro j y ys H3 hj ⟨rfl,UH,rfl⟩ S Xc;let(k,rfl,hk):=TY hj;show cK ?_;exists _,Z,_,Z,Z,_,Z,?_;let Vs:j<M.f:=(XA.H hk).1
     let app:∀r:Int,r=(if k=max (mk M p.1.j) (mk M p.2.j) then min (mk M p.1.j) (mk M p.2.j) else k)->
       IL ((M.M j).R λk=>if k=max (mk M p.1.j) (mk M p.2.j) then min (mk M p.1.j) (mk M p.2.j) else k)++[.int r]=IL ((M.M<|j+1).R λk=>if k=max (mk M p.1.j) (mk M p.2.j) then min (mk M p.1.j) (mk M p.2.j) else k):=by intro r er;rw[WD,hk,er];simp
     show Xl (λhe=>?_) (λhe=>?_)
     .exists _,Z,Xc _ _ {Z,Vs,app _ ?_};rw[if_pos (V.int.inj he)]
     .exists _,Z,Xc _ _ {Z,Vs,app _ ?_};rw[if_neg λz=>he (QP V.int z)]
    .rintro ys H3 ⟨rfl,_,rfl⟩ p' Gk;exists p',_,_,_,_,Z,Zy s2 Gk,.inr<|s2.free Gk,?_;rw[XS,step,Xr,YR];unfold pm;rw[if_pos hc]
   .exists m,_,_,_,_,Z,s2,Pd,?_;rw[We,step];unfold pm;rw[if_neg hc]
  .rintro σ H2 ⟨m,v3,v4,v5,v6,rfl,s2,Pd,We⟩;rw[Xr,YR]at We;exists _,Z,q m H2 s2 Pd We
inductive spZf(K:Ad)(C:Addr)(vs:List V)(H:Hp)(Q:VK)(_:XK):Prop
 |mk (w a n ps ns:_) (_:vs=[.ref w,.ref a]) (_:WebAt C H w n ps) (_:Zx n ps) (_:SqT K H a (IL ns)) (_:(∀z∈ns,0<=z/\z<ps⁻¹)) (_:∀m H',Same H H'->H m=none->H' m=some (.lst<|IL<|Xv n.j<|XT ps ns)->Q ↑m H')
def PN(T:Txt K mg t):Xd P w base WY T.qZf 2 (spZf K t.A_Web):=by
 show T.qZf.okI ["web","ties"] sC λXG A outer s H vs Q E hr h=>?_
 .let⟨w,a,n,ps,ns,rfl,hW,hG,hS,hI,q⟩:=h;exists _,(XH<|Zj<|Xu (zj T) hr T.qZe Zw<|XY (pv 0)<|XY (Zk (cO Z) sE T.n_list Boot.«list»<|XY (Zk pQ sE T.n_range Boot.«range»<|XY (Zm K (pv 0) Z) XX) XX)<|XY (pv 1) XX),?_;let(dx,tl,xs,h1,h2,h3):=id hW;let(g1,g2,g3,g4):=id hG;exists _,Z,_,Z,w,_,dx,_,_,Z,h1,T.cl_Web,T.n_Web_places,HA _ _,n,Z,λr UT=>{r,0,n,Z,XS,⟨su,su,J,sr⟩,J,λm hm=>?_};let sm:Same H (upd (upd H r<|.rng 0 n) m<|.lst<|(Wr 0 n).R V.int):=Zy (XZ UT) hm
  exists _,Z,w,m,a,n,ps,(List.range n.j).R λ(i:Nat)=>(i:Int),true,ns,Z,hW.Y sm,hG,?_,B,JN sm hS,hI,λm' H' s' hf JM=>?_
  .rw[XS,cE]
  .show q m' H' (sm.m s') ?_ JM;rcases hf with rfl|hf
   .show(XZ UT).free hm
   .show sm.free hf
inductive spZg(K:Ad)(C:Addr)(vs:List V)(H:Hp)(Q:VK)(_:XK):Prop
 |mk (w a n ps kd ns:_) (_:vs=[.ref w,.ref a]) (_:WebAt C H w n ps) (_:Zx n ps) (_:SqK kd K H a (IL ns)) (_:IsSet ps.f ns) (_:∀r as H',Same H H'->H r=none->H' r=some (.lst<|as.R V.ref)->r∉as->GrpAt H H' (Hv<|Xv n.j<|XT ps ns) as->Q ↑r H')
def ie(T:Txt K mg t):Xd P w base WY T.qZg 4 (spZg K t.A_Web):=by
 show T.qZg.okI ["web","ties","pieces","place","mark"] sC λXG A outer s H vs Q E hr h=>?_
 .let⟨w,a,n,ps,kd,ns,rfl,hW,hG,hS,hI,q⟩:=h;show⟨_,(XM (Zg 2 qj)
   (XM (Sb SV Z (LC K Z T.n_enumerate<|XY (Xu (PN T) hr T.qZf Zw<|XY (pv 0)<|XY (Xu (ig T) hr T.qZd Zw<|XY (pv 0)<|XY (pv 1) XX) XX) XX) (Qp (n:=2) K Z<|Zr (Zc 3)<|Zr (Zc 4) QE)
   (XH<|ZU<|Vm K YY Ei Ej CL (Vm K eh eV PySem.F.type_dict_setdefault ZT3 (pv 2)<|XY (pv 4)<|XY (WB XX) XX)<|XY (pv 3) XX))
   (XH<|Zj<|Zk (Zy3 Z) sE T.n_list Boot.«list»<|XY (cH K eh DH PySem.F.type_dict_values Zs8<|pv 2) XX))),?_⟩
  intro d hd;let s0:Same H (upd H d<|.dK []):=XZ hd
  exists _,Z,_,Z,_,Z,w,a,n,ps,kd,ns,Z,hW.Y s0,hS.Y s0,hI,λr H1 s1 Vd=>?_;exists w,r,n,ps,ns,Z,(hW.Y s0).Y s1,hG,Vd,hI.all,λm H2 s2 TX We=>?_;let Mr:Same H H2:=(s0.m s1).m s2
  let hd2:H2 d=some (.dK []):=s2 _ _ (s1 _ _ XS);let hl:(Xv n.j<|XT ps ns).f=n.j:=ZB _ _
  generalize hM:Xv n.j (XT ps ns)=M at *;let Pd:H m=none:=(s0.m s1).free TX
  let n14:M.f<=14:=by have:=hG.2.1;grind
  exists m,Z,{_,SqL.of We},?_;show Cv (K:=K) (a:=m) (xs:=IL M) (λi σ H3=>∃as v3 v4,σ=[some ↑w,some<|.ref a,some<|.ref d,v3,v4]/\i<=M.f/\Same H H3/\H3 m=some (.lst<|IL M)/\H3 d=some (.dK<|Uq (Xs M i) as)/\d∉as/\m∉as/\GrpAt H H3 (Xs M i) as/\as.f<=i)
   {[],none,none,Z,Yi _,Mr,We,hd2,B,B,{Z,List.nodup_nil,λi kv a e=>by simp[Xs]at e,λa ha=>by simp at ha},XI _} (λi σ H3 _ zz=>by let(_,_,_,_,_,_,h,_):=zz;show SqL.of h) ?_ ?_
  .rintro i x σ H3 pt Uw hi ⟨as,v3,v4,rfl,UP,s3,zi,QR,uK,uJ,gA,hal⟩;let(k,rfl,hk):=TY hi;let Uy:mk M i=k:=ZS hk
   let Xn:i<M.f:=(XA.H hk).1;let s4:Same H3 (upd H3 pt<|.tup [.int i,.int k]):=XZ Uw
   exists pt,_,Z,SqT.of XS,Z,_,_,Z,_,_,Z,Z,?_;exists _,Z,.inr<|.inr<|.inl {Z,.inl {_,s4 _ _ QR}},_,Z,(by change 0<=sizeLine;show Yi _),λl NG=>?_;let s5:Same H3 (upd (upd H3 pt<|.tup [.int i,.int k]) l<|.lst []):=Zy s4 NG
   let hd5:=s5 _ _ QR;let Pc:H3 l=none:=s4.free NG
   let ic:d≠l:=Wz QR Pc;let gl:=gA.len
   exists d,Uq (Xs M i) as,Sum.inl k,.ref l,Z,Z,hd5,?_,λv hv=>?_,λhv=>?_
   .rw[Zp7 gl];show Zo sD
   .-- the mark has XW list
    rcases o5 (g:=Xs M i) (as:=as) (k:=k) gl with ⟨h1,_⟩|⟨j,kv,b,e1,e2,e3,e4⟩
    .rw[h1]at hv;cases hv
    .rw[e4]at hv;cases hv;let hb5:=s5 _ _ (gA.at_ j kv b e1 e2)
     let uP:k∈(Xs M i).R (·.1):=YN.X {kv,WT e1,e3};let hlen:kv.2.f<=i:=o8 (WT e1)
     exists .inl {Z,_,SqL.of hb5},_,Z,b,_,.int i,Z,Z,hb5,?_,?_
     .rw[Xr];show Zo sD
     .let Gj:b∈as:=WT e2;let Tz:d≠b:=λz=>uK (z▸Gj)
      let hmb:m≠b:=λz=>uJ (z▸Gj);let KQ:=gA.new b Gj
      let IX:(Xs M<|i+1).R (·.1)=(Xs M i).R (·.1):=by change(RF (Xs M i) (i:Int)<|mk M i).R (·.1)=_;rw[wj,Uy,if_pos uP]
      exists as,_,_,Z,Xn,ZK KQ<|s3.m s5,by rw[Za hmb];show s5 _ _ zi,by rw[Za Tz,hd5,cC IX],uK,uJ,{?_,gA.nd,?_,gA.new},J
      .have:=QP List.f IX
       rw[Yb,Yb]at this;lia
      .intro i2 uH a2 f1 f2;let f1:(RF (Xs M i) (i:Int)<|mk M i)[i2]?=some uH:=f1
       unfold RF at f1;rw[Uy,if_pos uP,Yw]at f1;cases f3:(Xs M i)[i2]? with
       |none=>rw[f3]at f1;cases f1
       |some Et=>
        rw[f3]at f1;let f1:(if Et.1=k then (Et.1,Et.2++[(i:Int)]) else Et)=uH:=Yk f1
        cases hj:i2=j
        .subst hj;rw[e1]at f3;cases f3;rw[e2]at f2;cases f2;rw[if_pos e3]at f1;subst f1;rw[XS];simp
        .let Va:a2≠b:=λz=>by subst z;show hj (EZ gA.nd f2 e2)
         let MA:¬Et.1=k:=λz=>hj (EZ (o9 M i) (by rw[Yw,f3];show QP some z)<|by rw[Yw,e1];show QP some e3);rw[if_neg MA]at f1;subst f1;rw[Za Va];show s5 _ _ (gA.at_ i2 Et a2 f3 f2)
   .-- a new list
    rcases o5 (g:=Xs M i) (as:=as) (k:=k) gl with ⟨h1,EM⟩|⟨j,kv,b,e1,e2,e3,e4⟩
    .let zh:(upd (upd (upd H3 pt<|.tup [.int i,.int k]) l<|.lst []) d<|.dK<|Uq (Xs M i) as++[(Sum.inl k,.ref l)]) l=some (.lst []):=by rw[Za (Xb ic),XS]
     exists .inl {Z,_,SqL.of zh},_,Z,l,[],.int i,Z,Z,zh,(by change 0<sizeLine;decide),?_;let zg:H l=none:=s3.free Pc
     let h8:l∉as:=λz=>by let(_,e):=gA.mem z;rw[Pc]at e;cases e
     let Lu:m≠l:=Wz zi Pc;let hmd:m≠d:=OK zi QR (λz=>nomatch z)
     let h7:Xs M (i+1)=Xs M i++[(k,[(i:Int)])]:=by change RF (Xs M i) (i:Int) (mk M i)=_;unfold RF;rw[Uy,if_neg EM]
     let hdH:H d=none:=hd;exists as++[l],_,_,Z,Xn,ZK zg<|ZK hdH<|s3.m s5,by rw[Za Lu,Za hmd];show s5 _ _ zi,?_,?_,?_,{?_,?_,?_,?_},?_
     .rw[Za ic,XS,h7,cB gl]
     .rw[XB,XD];rintro(z|z)
      .show uK z
      .show ic z
     .rw[XB,XD];rintro(z|z)
      .show uJ z
      .show Lu z
     .rw[h7,Xy,Xy,gl];rfl
     .show cI gA.nd h8
     .intro i2 uH a2 f1 f2;rw[h7]at f1;cases UZ:i2<(Xs M i).f
      .rw[Yr UZ]at f1;rw[Yr J]at f2;let e:=gA.at_ i2 uH a2 f1 f2
       let n1:a2≠l:=Wz e Pc;let n2:a2≠d:=OK e QR (λz=>nomatch z)
       rw[Za n1,Za n2];show s5 _ _ e
      .let h2:i2=(Xs M i).f:=by
        have:=(XA.H f1).1
        rw[Xy,Yt]at this;grind
       subst h2;rw[Yo (XI _),MR]at f1;rw[Yo J,gl,MR]at f2;cases f1;cases f2;rw[XS];rfl
     .intro a2 ha2;rcases XB.H ha2 with z|z
      .show gA.new a2 z
      .rw[XD.H z];show zg
     .rw[Xy,Yt];lia
    .rw[e4]at hv;cases hv
  .rintro σ H3 ⟨as,v3,v4,rfl,UP,s3,zi,QR,uK,uJ,gA,hal⟩;rw[Xr]at QR gA;exists _,Z,.inr<|.inr<|.inl {Z,.inl {_,QR}},d,_,Z,Z,QR,λp hp=>?_;let s6:Same H3 (upd H3 p<|Qq p d):=XZ hp
   exists p,d,_,Z,XS,s6 _ _ QR,λr UT=>?_;let s7:Same H3 (upd (upd H3 p<|Qq p d) r (.lst ((Uq (Xs M M.f) as).R (·.2)))):=Zy s6 UT
   show q r as _ (s3.m s7) ((s3.m s6).free UT) (by rw[XS,cD gA.len]) (λz=>?_) (gA.Y s7);let(_,e):=gA.mem z;rw[s6.free UT]at e;cases e
inductive spZh(K:Ad)(C:Addr)(vs:List V)(H:Hp)(Q:VK)(_:XK):Prop
 |mk (w a n ps kd ns:_) (_:vs=[.ref w,.ref a]) (_:WebAt C H w n ps) (_:Zx n ps) (_:SqK kd K H a (IL ns)) (_:IsSet ps.f ns) (_:∀b H',Same H H'->(b=true↔(Hv<|Xv n.j<|XT ps ns).f=1)->Q (.bl b) H')
def zf(T:Txt K mg t):Xd P w base WY T.qZh 5 (spZh K t.A_Web):=by
 show T.qZh.okI ["web","ties"] sC λXG A outer s H vs Q E hr h=>?_
 .let⟨w,a,n,ps,kd,ns,rfl,hW,hG,hS,hI,q⟩:=h;exists _,(XH<|Zj<|Pr Vc (Zd (Zi K) sE T.n_len Boot.«len»<|XY (Xu (ie T) hr T.qZg Zw<|XY (pv 0)<|XY (pv 1) XX) XX) XO<|Zn _),?_;exists _,Z,_,Z,w,a,n,ps,kd,ns,Z,hW,hG,hS,hI,λr as H' s1 UT Vd hnr gA=>?_;exists r,_,Z,.inl<|SqL.of Vd,Z,?_;rw[Yb,gA.len,Zs];show q _ H' s1 ?_;rw[YX];lia
inductive spZi(K:Ad)(C sj:Addr)(vs:List V)(H:Hp)(Q:VK)(E:XK):Prop
 |mk (w:Addr) (n:Int) (ps:Aa) (_:vs=[.ref w]) (_:WebAt C H w n ps) (_:Zx n ps) (_:(He n ps->∀H':Hp,Same H H'->Q .non H')) (_:(¬He n ps->∀H':Hp,Same H H'->E ↑sj none H'))
def g9(T:Txt K mg t):Xd P w base (VO P w) T.qZi 6 (spZi K t.A_Web t.A_Parted):=by
 show T.qZi.okXI ["web"] sC λXG A outer s H vs Q E hr h=>?_
 .let⟨w,n,ps,rfl,hW,hG,q,qe⟩:=h;show⟨_,(XH (Xz (Ic<|QG<|Xu (zf T) hr T.qZh Zw<|XY (pv 0)<|XY (Xu (ik T) hr T.qZ9 Zw<|XY (pv 0) XX) XX)
   (XH<|vX T.x_Parted T.c_Parted<|XY OH XX)
   Zp)),?_⟩
  show{_,Z,_,Z,w,n,ps,Z,hW,by have:=hG.2.2.1;lia,λr H1 s1 UT Vd=>?_};exists w,r,n,ps,true,VI ps.f,Z,hW.Y s1,hG,SqT.of Vd,EO _,λb H2 s2 hb=>{_,Z,?_};rw[bZ (by have:=hG.1;lia) (ZN hG (EO _).all)]at hb;show HD (λz=>?_) (λz=>?_)
  .show q (hb.H z) H2 (s1.m s2)
  .exists by change 1<=sizeLine;decide,qe (λg=>by rw[hb.X g]at z;cases z) H2<|s1.m s2
inductive spZj(K:Ad)(C:Addr)(vs:List V)(H:Hp)(Q:VK)(_:XK):Prop
 |mk (w b n ps ws:_) (_:vs=[.ref w,.ref b]) (_:WebAt C H w n ps) (_:Zx n ps) (_:SqL K H b (IL ws)) (_:ws.f=ps.f) (_:∀r ys L H',Same H H'->H r=none->TabAt H r n.j H' ys L->(∀i j,i<n.j->j<n.j->fnL L i j=lapE (UY ps ws) i j)->Q ↑r H')
def ZK6(x:V)(k:Nat):(List.replicate k [x]).flatten=List.replicate k x:=by
 induction k with
 |zero=>rfl
 |succ k ih=>rw[RN,Mj,ih,RN];rfl
def g8(n i j:Nat):fnL (List.replicate n (List.replicate n 0)) i j=0:=by
 unfold fnL;cases h:(List.replicate n<|List.replicate n (0:Int))[i]? with
 |none=>
  let e:(List.replicate n<|List.replicate n (0:Int)).S i []=[]:=by rw[Ya,h];rfl
  rw[e];rfl
 |some l=>
  let e:(List.replicate n<|List.replicate n (0:Int)).S i []=l:=by rw[Ya,h];rfl
  rw[e,xS<|WT h,Ya,xR];split<;>rfl
def TabAt.get{H0 H:Hp}{r:Addr}{n:Nat}{ys:List V}{L:Ab}(h:TabAt H0 r n H ys L){i j:Nat}(hi:i<n)(hj:j<n):∃A l x,ys[i]?=some ↑A/\H A=some (.lst (IL l))/\l[j]?=some x/\l.f=n/\x=fnL L i j/\H0 A=none/\∀y:Int,∃L':Ab,TabAt H0 r n (upd H A (.lst ((IL l).set j (.int y)))) ys L'/\∀a b,fnL L' a b=if a=i/\b=j then y else fnL L a b:=by
 let(A,l,y1,z1,hA,hl,hn,hr):=h.at hi;obtain⟨x,hx⟩:∃x,l[j]?=some x:={_,Xp J};exists A,l,x,y1,hA,hx,hl,(Mt z1 hx).symm,hn,λy=>{L.set i<|l.set j y,?_,kQ z1 J};let e:(IL l).set j (.int y)=IL (l.set j y):=(List.map_set ..).symm
 rw[e];show h.put y1 z1 hr (by rwa[MT])
def uG{xs:List V}{i:Int}(h0:0<=i)(h1:i<xs⁻¹):Oz xs.f i=some i.j:=by unfold Oz;rw[if_pos h0,if_pos sr]
def g7:FnScope ["web","weights","table","ends","weight","one","other"] ["web","weights"] (Zb (top 33)):=Rr sC
def g6(T:Txt K mg t):Xd P w base WY T.qZj 1 (spZj K t.A_Web):=by
 show T.qZj.okI ["web","weights","table","ends","weight","one","other"] sC λXG A outer s H vs Q E hr h=>?_
 .let⟨w,b,n,ps,ws,rfl,hW,hG,hS,JT,q⟩:=h;show⟨_,(XM (LF (i:=2) Z g7.nd Z Z (sc0:=Zb<|top 33) (N0:=["web","weights","table","ends","weight","one","other"]) (N':=["place","web"]) (o:=1) (fr:=[0]) ⟨Z,sC,sC,sC,Z,sC⟩ (wW Z T.n_range<|XY (Zm K (pv 0) Z) XX) (ZE su) (λ_ _ _ _=>(Zc 0)) (λ_ _ _ _=>ML) λ_ _ _ _=>(Zq CH (WB<|XY XO XX)<|Zm K (pv 1) Z))
   (XM (Sb SV Z (AN K Z T.n_zip<|XY (Zm K (pv 0) Z)<|XY (pv 1) XX) (Qp (n:=2) K Z<|Zr (Zc 3)<|Zr (Zc 4) QE)
   (XM (Zg 5<|ZJ (ZH K) (pv 3) XO λ_ _=>rfl)
   (XM (Zg 6<|ZJ (ZH K) (pv 3) XO λ_ _=>rfl)
   (XH (Xz (Ze VA (pv 5) (pv 6)<|Zn _)
   (XM (wX (ZJ (Zh K) (pv 2) (pv 5) λ_ _=>rfl) (pv 5) (vn K) (pv 4) Dn Qy)
   (XM (wX (ZJ (Zh K) (pv 2) (pv 6) λ_ _=>rfl) (pv 6) (vn K) (pv 4) Dn Qy)
   (XM (wX (ZJ (Zh K) (pv 2) (pv 5) λ_ _=>rfl) (pv 6) (vn K) (pv 4) Dm Qy)
   (XH<|wX (ZJ (Zh K) (pv 2) (pv 6) λ_ _=>rfl) (pv 5) (vn K) (pv 4) Dm Qy))))
   Zp)))))
   (XH<|Zj<|pv 2))),?_⟩
  let(dx,tl,xs,h1,h2,h3):=id hW;let hl:=h3.1
  let(g1,g2,g3,g4):=id hG;let one:1<=sizeLine:=su
  exists _,Z,w,_,dx,_,_,Z,h1,T.cl_Web,T.n_Web_places,HA _ _,n,Z,J,J,cJ (lo:=0) (n:=n.j) (λi zs H2=>Same H H2/\Bears (Uo H2) zs (List.replicate i<|List.replicate n.j 0)/\zs.Nodup/\∀A,V.ref A∈zs->H A=none/\∃o,H2 A=some o) {Same.refl _,{Z,λi l e=>by simp at e},.nil,λA h=>(by cases h)} (Zo J) (λi zs H2 _ zz=>by let(_,e,_):=zz;rw[e.1,YT];show XI _) ?_ ?_
  .rintro i zs H2 hi ⟨s2,hZ,Ta,Qx⟩ S Xc;show nm ?_;exists one,λp1 TQ=>?_;let u1:=XZ (o:=.lst [.int 0]) TQ
   exists _,Z,w,_,dx,_,_,Z,u1 _ _<|s2 _ _ h1,T.cl_Web,T.n_Web_places,HA _ _,p1,n,_,Z,Z,XS,J,J,MF (by change 1*n.j<=_;lia),λp2 VE=>?_;let e0:(List.replicate n.j [V.int 0]).flatten=IL (List.replicate n.j 0):=by rw[ZK6];change _=(List.replicate n.j 0).R V.int;rw[List.map_replicate]
   rw[e0];let u2:=u1.m (XZ (o:=.lst<|IL<|List.replicate n.j 0) VE)
   let ze:H2 p2=none:=(XZ TQ).free VE;show Xc _ _ {s2.m u2,?_,?_,λA hA=>?_}
   .rw[List.replicate_succ'];show(hZ.imp λ_ _ zz=>by let(r',e,h):=zz;exists r',e,u2 _ _ h).snoc ⟨p2,Z,XS⟩
   .show VS.X {Ta,B,λx hx y hy e=>?_};rw[XD.H hy]at e;let(_,o,ho):=Qx p2 (e▸hx);rw[ze]at ho;cases ho
   .rcases XB.H hA with e|e
    .let⟨a1,o,a2⟩:=Qx A e;exists a1,o,u2 _ _ a2
    .let e':A=p2:=by simpa using e
     rw[e'];exists s2.free ze,_,XS
  rintro zs H2 ⟨s2,hZ,Ta,Qx⟩ tA Gi;let s3:=s2.m (XZ (o:=.lst zs) Gi)
  let gZ:H tA=none:=s2.free Gi;let hT:TabAt H tA n.j (upd H2 tA<|.lst zs) zs (List.replicate n.j<|List.replicate n.j 0):={XS,hZ.imp λ_ _ zz=>by let(r',e,h):=zz;show{r',e,XZ Gi _ _ h,Wz h Gi},YT,λl h=>by rw[xS h];show YT,Ta,λA h=>(Qx A h).1}
  let hzero:∀i j,fnL (List.replicate n.j<|List.replicate n.j 0) i j=0:=λi j=>by
   have:=g8 n.j i j
   show this
  generalize upd H2 tA (.lst zs)=H3 at *;generalize List.replicate n.j (List.replicate n.j (0:Int))=L0 at *;exists _,Z,w,_,dx,_,_,Z,s3 _ _ h1,T.cl_Web,T.n_Web_ties,Oo _ _,_,Z,tl,b,Z,{_,_,SqL.of<|s3 _ _ h2,s3.seq hS},kR (K:=K) (a:=tl) (b:=b) (xs:=xs) (ys:=IL ws) (by rw[Xr];lia) (λi σ H4=>∃L v3 v4 v5 v6,σ=[some ↑w,some<|.ref b,some<|.ref tA,v3,v4,v5,v6]/\Same H H4/\TabAt H tA n.j H4 zs L/\∀x y,x<n.j->y<n.j->fnL L x y=lapE (UY (ps.M i)<|ws.M i) x y) {L0,none,none,none,none,Z,s3,hT,λx y _ _=>hzero x y} (λi σ H4 _ zz=>by let(_,_,_,_,_,_,e,_):=zz;exists SqL.of<|e _ _ h2,e.seq hS) ?_ ?_
  .rintro i v v' σ H4 pt Uw hi Tv ⟨L,v3,v4,v5,v6,rfl,s4,IW,Nu⟩;let(p,hp,tt,rfl,Uh):=h3.at hi;let(wt,rfl,hwt):=TY Tv;let(e1,e2,e3,e4):=g4 p (WT hp);let u1:=XZ (o:=.tup [.ref tt,.int wt]) Uw
   exists pt,_,Z,SqT.of XS,Z,_,_,Z,_,_,Z,Z,?_;let JD:=IW.Y u1
   let s5:=s4.m u1;generalize upd H4 pt (.tup [.ref tt,.int wt])=H5 at *;exists _,Z,tt,_,0,.int p.1,Z,Z,SqT.of<|s5 _ _ Uh,Z,?_;exists _,Z,tt,_,1,.int p.2,Z,Z,SqT.of<|s5 _ _ Uh,Z,?_;exists _,Z,_,Z,Z,_,Z,?_;rw[Zs];let esn:=kP hp hwt
   show Wv (λheq=>?_) (λXJ=>?_)
   .exists L,_,_,_,_,Z,s5,JD,λx y hx hy=>?_;rw[esn,Zf5 (by change p.1.j=p.2.j;rw[heq])];show Nu x y hx hy
   let Om:p.1.j≠p.2.j:=λe=>XJ sD;let(A1,l1,x1,y1,RC,cg,RR,lO,EL,gY):=JD.get (i:=p.1.j) (j:=p.1.j) sD J;exists _,Z,_,Z,tA,zs,p.1,.ref A1,Z,Z,SqL.of JD.tab,ZG (n:=p.1.j) J y1,_,Z,A1,_,p.1,.int x1,Z,Z,SqL.of RC,J,Tw cg,_,Z,_,_,Z,Z,A1,_,p.1,p.1.j,Z,Z,RC,uG J (by rw[Xr];grind),?_;let(L1,uE,uD):=gY (x1+wt);let s6:Same H (upd H5 A1<|.lst<|(IL l1).set p.1.j (.int<|x1+wt)):=ZK EL s5
   generalize upd H5 A1 (.lst<|(IL l1).set p.1.j (.int<|x1+wt))=H6 at *;rw[lO]at uD;let(A2,l2,x2,y2,Td,Ce,Vb,ex2,OB,put2):=uE.get (i:=p.2.j) (j:=p.2.j) sD J;exists _,Z,_,Z,tA,zs,p.2,.ref A2,Z,Z,SqL.of uE.tab,ZG (n:=p.2.j) J y2,_,Z,A2,_,p.2,.int x2,Z,Z,SqL.of Td,J,Tw Ce,_,Z,_,_,Z,Z,A2,_,p.2,p.2.j,Z,Z,Td,uG J (by rw[Xr];grind),?_;let(L2,hT7,Ky):=put2 (x2+wt);let s7:Same H (upd H6 A2<|.lst<|(IL l2).set p.2.j (.int<|x2+wt)):=ZK OB s6
   generalize upd H6 A2 (.lst<|(IL l2).set p.2.j (.int<|x2+wt))=H7 at *;rw[ex2]at Ky;let(A3,l3,x3,y3,Lr,hx3,Pc,ex3,hn3,put3):=hT7.get (i:=p.1.j) (j:=p.2.j) sD sD;exists _,Z,_,Z,tA,zs,p.1,.ref A3,Z,Z,SqL.of hT7.tab,ZG (n:=p.1.j) J y3,_,Z,A3,_,p.2,.int x3,Z,Z,SqL.of Lr,J,Tw hx3,_,Z,_,_,Z,Z,A3,_,p.2,p.2.j,Z,Z,Lr,uG J (by rw[Xr];grind),?_;let(L3,hT8,hf3):=put3 (x3-wt);let s8:Same H (upd H7 A3<|.lst<|(IL l3).set p.2.j (.int<|x3-wt)):=ZK hn3 s7
   generalize upd H7 A3 (.lst<|(IL l3).set p.2.j (.int<|x3-wt))=H8 at *;rw[ex3]at hf3;let(A4,l4,x4,y4,Mq,uC,gX,ex4,gW,gV):=hT8.get (i:=p.2.j) (j:=p.1.j) sD sD;exists _,Z,_,Z,tA,zs,p.2,.ref A4,Z,Z,SqL.of hT8.tab,ZG (n:=p.2.j) J y4,_,Z,A4,_,p.1,.int x4,Z,Z,SqL.of Mq,J,Tw uC,_,Z,_,_,Z,Z,A4,_,p.1,p.1.j,Z,Z,Mq,uG J (by rw[Xr];grind),?_;let(L4,uB,uz):=gV (x4-wt);let s9:Same H (upd H8 A4<|.lst<|(IL l4).set p.1.j (.int<|x4-wt)):=ZK gW s8
   generalize upd H8 A4 (.lst<|(IL l4).set p.1.j (.int<|x4-wt))=H9 at *;rw[ex4]at uz;exists L4,_,_,_,_,Z,s9,uB,λx y hx hy=>?_;rw[esn,lr,<-Nu x y hx hy];show four Om x y uD Ky hf3 uz
  .rintro σ H4 ⟨L,v3,v4,v5,v6,rfl,s4,IW,Nu⟩;rw[hl,YR,<-JT,YR]at Nu;exists _,Z,q tA zs L H4 s4 gZ IW Nu
inductive spZk(K:Ad)(C:Addr)(vs:List V)(H:Hp)(Q:VK)(_:XK):Prop
 |mk (w n ps:_) (_:vs=[.ref w]) (_:WebAt C H w n ps) (_:Zx n ps) (_:∀r ys L H',Same H H'->H r=none->TabAt H r n.j H' ys L->(∀i j,i<n.j->j<n.j->fnL L i j=lapE (UY ps<|List.replicate ps.f 1) i j)->Q ↑r H')
def gU(T:Txt K mg t):Xd P w base WY T.qZk 2 (spZk K t.A_Web):=by
 show T.qZk.okI ["web"] sC λXG A outer s H vs Q E hr h=>?_
 .let⟨w,n,ps,rfl,hW,hG,q⟩:=h;exists _,(XH<|Zj<|Xu (g6 T) hr T.qZj Zw<|XY (pv 0)<|XY (Zq CH (WB<|XY XO XX)<|Zd (Zi K) sE T.n_len Boot.«len»<|XY (Zm K (pv 0) Z) XX) XX),?_;let(dx,tl,xs,h1,h2,h3):=id hW;let hl:=h3.1
  let g3:=hG.2.2.1;exists _,Z,(by change 1<=sizeLine;decide),λp1 TQ=>?_;let u1:=XZ (o:=.lst [.int 1]) TQ
  exists _,Z,w,_,dx,_,_,Z,u1 _ _ h1,T.cl_Web,T.n_Web_ties,Oo _ _,tl,xs,Z,.inl<|SqL.of<|u1 _ _ h2,p1,xs⁻¹,_,Z,Z,XS,J,J,MF (by change 1*_<=_;lia),λp2 VE=>?_;let e0:(List.replicate (xs.f:Int).j [V.int 1]).flatten=IL (List.replicate ps.f 1):=by
   rw[YL,hl,ZK6];change _=(List.replicate ps.f 1).R V.int
   rw[List.map_replicate]
  rw[e0];let u2:=u1.m (XZ (o:=.lst<|IL<|List.replicate ps.f 1) VE)
  exists w,p2,n,ps,List.replicate ps.f 1,Z,hW.Y u2,hG,SqL.of XS,YT,λr ys L H' s hr hT hf=>?_;show q r ys L H' (u2.m s) (u2.free hr) {hT.tab,hT.rows,hT.len,hT.all,hT.nd,λA h=>u2.free<|hT.new A h} hf
inductive spZl(K:Ad)(C:Addr)(vs:List V)(H:Hp)(Q:VK)(_:XK):Prop
 |mk (w n ps:_) (_:vs=[.ref w]) (_:WebAt C H w n ps) (_:Zx n ps) (_:∀c H',TC n ps c->Same H H'->Q (.int c) H')
def ZF9(u v i:Nat):(ind u v i).natAbs<=1:=by unfold ind;split<;>split<;>decide
def Yz9:∀{E:List Ed},(∀e∈E,e.2.2=1)->∀i j,(lapE E i j).natAbs<=E.f
 |[],_,i,j=>XI 0
 |e::E,h,i,j=>by
  let ih:=Yz9 (λf hf=>h f<|Yg _ hf) i j;let h1:=ZF9 e.1 e.2.1 i
  let h2:=ZF9 e.1 e.2.1 j;let h3:(ind e.1 e.2.1 i*ind e.1 e.2.1 j).natAbs<=1:=by rw[Ii];show IE h1 h2
  change(e.2.2*(ind e.1 e.2.1 i*ind e.1 e.2.1 j)+lapE E i j).natAbs<=(e::E).f;rw[h e Ye,VL,YF]
  have:=Int.natAbs_add_le (ind e.1 e.2.1 i*ind e.1 e.2.1 j) (lapE E i j)
  lia
def ZK7{α:Type}{l:List α}{i:Nat}(hi:l.f=i+1):cutz l (i:Int)=l.M i:=by unfold cutz;rw[YL,YK J,YB]
def Kx(T:Txt K mg t):Xd P w base WY T.qZl 3 (spZl K t.A_Web):=by
 show T.qZl.okI ["web"] sC λXG A outer s H vs Q E hr h=>?_
 .let⟨w,n,ps,rfl,hW,hG,q⟩:=h;exists _,(XH<|Zj<|Xu (iD T) hr T.qZ3 Zw<|XY (Xu (iw T) hr T.qZ5 Zw<|XY (Xu (gU T) hr T.qZk Zw<|XY (pv 0) XX)<|XY (Zq Vn (Zm K (pv 0) Z) XO) XX) XX),?_;let(g1,g2,g3,g4):=id hG;exists _,Z,w,n,ps,Z,hW,hG,λr ys L H1 s1 hr hT hf=>?_;let(dx,tl,xs,h1,h2,h3):=id hW;exists _,Z,w,_,dx,_,_,Z,s1 _ _ h1,T.cl_Web,T.n_Web_places,HA _ _,_,_,Z,Z,?_;obtain⟨k,hk⟩:∃k:Nat,n-1=(k:Int):={(n-1).j,sr};let hnk:n.j=k+1:=sD
  let iu:=hT.len;let hTB:Bears (Uo H1) ys L:=hT.rows.imp λ_ _ h=>h.list
  exists r,ys,L,k,?_,SqL.of hT.tab,hTB,sD,λl h=>by rw[hT.all l h];grind,J,λr2 zs H2 s2 Vr hZ=>?_
  .change [V.ref r,V.int (n-1)]=_;rw[hk]
  let w1:∀e∈UY ps (List.replicate ps.f (1:Int)),e.2.2=1:=λe he=>by
   unfold UY at he;let(i,hi):=Yv he;rw[Fx]at hi;cases h1:ps[i]? with
   |none=>rw[h1]at hi;cases hi
   |some p=>
    cases h2:(List.replicate ps.f (1:Int))[i]? with
    |none=>rw[h1,h2]at hi;cases hi
    |some w=>
     rw[h1,h2]at hi;let rfl:=Yk hi;show xS (WT h2)
  let el:(UY ps<|List.replicate ps.f (1:Int)).f<=30:=by unfold UY;rw[Ea,YT];lia
  let hM:(cutz L (k:Int)).R (λl=>cutz l (k:Int))=(L.M k).R λl=>l.M k:=by rw[ZK7 J];show VC λl hl=>ZK7 (by rw[hT.all l (Vq hl)];lia)
  rw[hM]at hZ;let Pb:((L.M k).R λl=>l.M k).f=k:=by rw[Yb,Yl];grind
  let Fh:∀i j,i<k->j<k->fnL ((L.M k).R λl=>l.M k) i j=lapE (UY ps<|List.replicate ps.f 1) i j:=λi j hi hj=>by
   rw[<-hf i j sD sD];obtain⟨l,hl⟩:∃l,L[i]?=some l:={_,Xp sD};let KS:=hT.all l (WT hl)
   obtain⟨x,hx⟩:∃x,l[j]?=some x:={_,Xp sD};rw[Mt hl hx];show Mt (l:=l.M k) (by rw[Yw,OY,if_pos hi,hl];rfl) (by rwa[OY,if_pos hj])
  exists r2,false,zs,(L.M k).R λl=>l.M k,Z,SqL.of Vr,hZ.imp (λ_ _ zz=>by let(r',e,h):=zz;exists r',false,e,SqL.of h),by rw[Pb];lia,λi j hi hj=>?_,λ_ H3 s3=>?_,λh=>absurd (λl hl=>?_) h
  .rw[Pb]at hi hj;rw[Fh i j hi hj];show Yj (Yz9 w1 i j) (Yj el<|Yj (by decide:30<=2^5)<|Ee su su)
  .let hd:det ((L.M k).R λl=>l.M k).f (fnL<|(L.M k).R λl=>l.M k)=det (n-1).j (lapE<|UY ps<|List.replicate ps.f 1):=by rw[Pb,show(n-1).j=k by lia];show Zl λi j hi hj=>Fh i j hi hj
   obtain⟨c,M,a1,a2,a3⟩:∃c,TC n ps c:=by let(M,a1,a2,_):=vo _ (n-1).j (UY ps<|List.replicate ps.f 1) Z (Aw hG _);exists M.f,M,a1,λl=>by rw[a2,ZC9 g1 YT],Z
   rw[hd,kW hG a1 a2,a3];show q c H3 ⟨M,a1,a2,a3⟩ (s1.m<|s2.m s3)
  .let⟨l0,h0,rfl⟩:=YN.H hl;rw[Pb,Yl,hT.all l0 (Vq h0)];grind
inductive spZm(K:Ad)(C:Addr)(vs:List V)(H:Hp)(Q:VK)(_:XK):Prop
 |mk (w a b n ps Is Os:_) (_:vs=[.ref w,.ref a,.ref b]) (_:WebAt C H w n ps) (_:Zx n ps) (_:SqT K H a (IL Is)) (_:SqT K H b (IL Os)) (_:Is.Nodup) (_:(∀z∈Is,0<=z/\z<ps⁻¹)) (_:Os.f<=30) (_:(∀z∈Is,z∉Os)) (_:∀c H',PC n ps Is Os c->Same H H'->Q (.int c) H')
def gT{K:Ad}{H:Hp}{a b:Addr}{l m:Ac}{Q:VK}(ha:SqT K H a (IL l))(hb:SqT K H b (IL m))(hl:l.f+m.f<=1000)(k:∀r H',Same H H'->SqT K H' r (IL (l++m))->Q ↑r H'):Hi K ↑a ↑b H Q:=by
 exists a,b,_,_,Z,Z,ha,hb,by rw[Xr,Xr];show Yj hl su,λe=>?_,λ_ e=>?_,λ_ _ p hp=>?_
 .let el:l=[]:=Eb.H e;rw[el,OU]at k;show k b H (Same.refl _) hb
 .let em:m=[]:=Eb.H e;rw[em,YB]at k;show k a H (Same.refl _) ha
 .show k p _ (XZ hp) (SqT.of ?_);rw[XS,wC]
def Zt7{gone:Ac}(j:Nat):XE (j+1) gone=XE j gone++(if ((j:Int)∈gone) then [] else [(j:Int)]):=by
 unfold XE;rw[aV,QM];congr 1;cases c:(j:Int)∈gone
 .rw[if_pos c,YZ,if_neg (by simp[c])];rfl
 .rw[if_neg c,YZ,if_pos (by simp[c])];rfl
def Kw:FnScope ["web","inside","outside","marks","firsts","numbers","gone","free"] ["web","inside","outside"] (Zb (top 36)):=Rr sC
def gS(T:Txt K mg t):Xd P w base WY T.qZm 4 (spZm K t.A_Web):=by
 show T.qZm.okI ["web","inside","outside","marks","firsts","numbers","gone","free"] sC λXG A outer s H vs Q E hr h=>?_
 .let⟨w,a,b,n,ps,Is,Os,rfl,hW,hG,hA,hB,hIn,WW,hO,Ux,q⟩:=h;show⟨_,(XM (Zg 3<|Xu (PN T) hr T.qZf Zw<|XY (pv 0)<|XY (pv 1) XX)
   (XM (Ti (i:=4) Kw.nd Z (Or.inr Z)<|Zj4 K Z Z T.n_sorted Z T.n_set<|XY (pv 3) XX)
   (XM (Xz (Ze QD (Zq Uc (Zd (Zi K) sE T.n_len Boot.«len»<|XY (pv 4) XX)<|Zd (Zi K) sE T.n_len Boot.«len»<|XY (pv 1) XX) (Zm K (pv 0) Z)<|Zn _)
   (XH<|Zj XO)
   Zp)
   (XM (Ti (i:=5) Kw.nd Z (Or.inr Z)<|Vy Z (sc0:=Zb<|top 36) (N0:=["web","inside","outside","marks","firsts","numbers","gone","free"]) (N':=["mark","firsts"]) (o:=1) (fr:=[4]) ⟨Z,sC,sC,sC,Z,sC⟩ (ZV K<|pv 3) (ZE su) (λ_ _ _ _=>(Zc 0)) (λ_ _ _ _=>ML) λ_ _ _ _=>(Vm K YY eA eD (Zv8 K) (pv 1)<|XY (pv 0) XX))
   (XM (Ti (i:=6) Kw.nd Z (Or.inr Z)<|Zq (Hh K) (pv 1)<|pv 2)
   (XM (LF (i:=7) Z Kw.nd Z Z (sc0:=Zb<|top 36) (N0:=["web","inside","outside","marks","firsts","numbers","gone","free"]) (N':=["tie","ends","gone"]) (o:=2) (fr:=[6]) ⟨Z,sC,sC,sC,Z,sC⟩ (LC K Z T.n_enumerate<|XY (Zm K (pv 0) Z) XX) (Qt<|ZW su<|ZW su Qu) (λ_ _ _ _=>(Qp (n:=2) K Z<|Zr (Zc 0)<|Zr (Zc 1) QE)) (λ_ _ _ _=>(Qw<|Ze (Hx K) (pv 0) (pv 2) Z)) λ_ _ _ _=>(pv 1))
   (XH<|Zj<|Xu (Kx T) hr T.qZl Zw<|XY (QA T.k_Web (Gp T) (hr.mono su) Z T.c_Web T.bZ8 .nil Zw<|XY (Zd (Zi K) sE T.n_len Boot.«len»<|XY (pv 4) XX)<|XY (Vy Z (sc0:=Zb<|top 36) (N0:=["web","inside","outside","marks","firsts","numbers","gone","free"]) (N':=["ends","numbers"]) (o:=1) (fr:=[5]) ⟨Z,sC,sC,sC,Z,sC⟩ (ZV K<|pv 7) (ZE su) (λ_ _ _ _=>(Zc 0)) (λ_ _ _ _=>ML) λ_ _ _ _=>(WC<|XY (ZJ (Zh K) (pv 1) (ZJ (ZH K) (pv 0) XO λ_ _=>rfl) λ_ _=>rfl)<|XY (ZJ (Zh K) (pv 1) (ZJ (ZH K) (pv 0) XO λ_ _=>rfl) λ_ _=>rfl) XX)) XX) XX))))))),?_⟩
  let(g1,g2,g3,g4):=id hG;let(Js,Mp,hJ2):=mP Is;let hJ:IsSet ps.f Js:=XR.X {λz hz=>WW z<|Mp.mem_iff.H hz,(hJ2.and<|Mp.nodup_iff.X hIn).imp λh=>by have:=h.1;have:=h.2;lia}
  let hIl:Is.f<=ps.f:=by rw[<-Mp.length_eq];show hJ.len
  let uZ:∀i j,Conn (XT ps Js) i j↔Conn (XT ps Is) i j:=λi j=>Sx λy=>Mp.mem_iff;let Qn:XE ps.f (Js++Os)=XE ps.f (Is++Os):=DW λz _=>by simp only[XB,Mp.mem_iff]
  let back:∀c,PC n ps Js Os c->PC n ps Is Os c:=λc zz=>by let(L,l1,l2,l3):=zz;exists L,l1,λl=>(l2 l).m {λh=>{h.1,λz hz=>h.2.1 z<|Mp.mem_iff.X hz,h.2.2},λh=>{h.1,λz hz=>h.2.1 z<|Mp.mem_iff.H hz,h.2.2}},l3
  exists _,Z,_,Z,w,a,n,ps,Is,Z,hW,hG,hA,WW,λmA H1 s1 Pd TX=>?_;let UX:=ZB n.j (XT ps Is)
  let Wj:=ZN (ns:=Is) hG WW;let hel:(XT ps Is).f=Is.f:=Yb ..
  show nm ?_;exists _,Z,mA,_,Z,SqL.of TX,sD,λF hF PQ fA hfA=>?_;let s2:=XZ (o:=.lst<|IL F) hfA
  let Ky:(upd H1 fA<|.lst<|IL F) fA=some (.lst<|IL F):=XS;let We:=s2 _ _ TX
  let Mr:=s1.m s2;show nm ?_;dsimp only;generalize upd H1 fA (.lst<|IL F)=H2 at *;let(g,hfg,gR,hgg):=jK Wj hF PQ;let(k1,kn,nk):=Zr4 Wj J hF PQ;let Td:=JN Mr hA
  let Lq:=JN Mr hB;let(dx,tl,xs,h1,h2,h3):=hW.Y Mr;let Pj:=h3.1
  exists _,Z,fA,_,Z,.inl<|SqL.of Ky,_,Z,a,_,Z,.inr Td,_,_,Z,Z,_,Z,w,_,dx,_,_,Z,h1,T.cl_Web,T.n_Web_places,HA _ _,_,_,Z,Z,_,Z,?_;rw[Xr,Xr];show Xl (λhc=>?_) (λhc=>?_)
  .show q 0 H2 (back 0<|jO hG hJ (λi j hi hj=>(hfg i j hi hj).m (uZ i j).symm) gR hgg k1 kn<|by rw[Mp.length_eq];lia) Mr
  exists _,Z,mA,Z,{_,SqL.of We},ME (K:=K) (a:=mA) (xs:=IL<|Xv n.j<|XT ps Is) (λi zs H3=>H3=H2/\i<=n.j/\zs=IL (((Xv n.j<|XT ps Is).M i).R λz=>(Uz F z:Int))) {Z,Yi _,Z} (Zo<|by rw[Xr,UX];grind) (λi zs H3 _ zz=>by let(e,hi,ez):=zz;show{e▸SqL.of We,by rw[ez,Xr,Yb,Yl];lia}) ?_ ?_
  .rintro i v zs H3 hi ⟨rfl,hin3,rfl⟩ S Xc;let(z,rfl,hz):=TY hi;let EG:z∈F:=(PQ z).X (WT hz)
   let Xm:=(XA.H hz).1;show nm ?_;show{_,Z,.inl {Z,_,SqL.of Ky},_,Z,fA,F,z,Uz F z,Z,Z,SqL.of Ky,GH EG,λi hi e=>by have:=EZ (Hk hF) e (GH EG);lia,Xc _ _ {Z,J,?_}};rw[WD,hz,YQ];show(VJ _ _).symm
  rintro zs H3 ⟨rfl,_,rfl⟩ nA hnA;rw[Xr,YR];let s3:=XZ (o:=.lst<|IL<|(Xv n.j<|XT ps Is).R λz=>(Uz F z:Int)) hnA
  let gW:(upd H3 nA<|.lst<|IL<|(Xv n.j<|XT ps Is).R λz=>(Uz F z:Int)) nA=some (.lst<|IL<|(Xv n.j<|XT ps Is).R λz=>(Uz F z:Int)):=XS;let uz:=s3 _ _ Ky
  let Mq:=JN s3 Td;let gQ:=JN s3 Lq
  let Es:=Mr.m s3;generalize upd H3 nA (.lst<|IL<|(Xv n.j<|XT ps Is).R λz=>(Uz F z:Int))=H4 at *;let nAt:∀x:Int,0<=x->x<n->((Xv n.j<|XT ps Is).R λz=>(Uz F z:Int))[x.j]?=some (Uz F (mk (Xv n.j<|XT ps Is) x.j):Int):=λx x0 x1=>by rw[Yw,Xp sD];unfold mk;rw[Ya,Xp sD];rfl
  show nm ?_;exists _,Z,_,Z,gT Mq gQ J λgA H5 s5 hg5=>?_;let zd:=Es.m s5
  let(dx,tl,xs,h1,h2,h3):=hW.Y zd;let Pj:=h3.1
  show nm ?_;exists _,Z,w,_,dx,_,_,Z,h1,T.cl_Web,T.n_Web_ties,Oo _ _,tl,Z,{_,SqL.of h2},vR (K:=K) (a:=tl) (xs:=xs) (λj zs H6=>Same H5 H6/\j<=ps.f/\PairsV H6 zs ((XE j<|Is++Os).R λz=>ps.S z.j (0,0))) {Same.refl _,Yi _,PairsV.nil} (Zo J) (λj zs H6 hj ⟨e,Pg,ez⟩=>{e.seq<|SqL.of h2,by rw[ez.1,Yb];show Yj (YE ..) ?_;rw[ZP];show XI _}) ?_ ?_
  .rintro j v zs H6 pt Uw hj ⟨s6,UH,hZ⟩ S Xc;let(p,hp,tt,rfl,ht):=h3.at hj;let Vs:=(XA.H hp).1
   let s7:=XZ (o:=.tup [.int j,.ref tt]) Uw;exists pt,_,Z,SqT.of XS,Z,_,_,Z,_,_,Z,Z,?_;let zb:=hZ.Y s7
   let IV:=s6.m s7;generalize upd H6 pt (.tup [.int j,.ref tt])=H7 at *;exists _,Z,_,Z,gA,_,Z,.inr<|JN IV hg5,Z,ZT _,_,Z,?_;rw[Ur];show Wv (λGh=>?_) (λGh=>?_)
   .show Xc _ _ {IV,Vs,?_};rwa[Zt7,if_pos Gh,YB]
   .exists _,Z,Xc _ _ {IV,Vs,?_};rw[Zt7,if_neg Gh,YQ];show zb.app ?_;change PairsV H7 [V.ref tt] [ps.S ((j:Nat):Int).j (0,0)]
    rw[YL,ZS hp];show PairsV.nil.snoc {tt,Z,IV _ _ ht}
  rintro zs H6 ⟨s6,_,hZ⟩ rA KD;rw[Pj]at hZ;let s7:=XZ (o:=.lst zs) KD
  let Gr:(upd H6 rA<|.lst zs) rA=some (.lst zs):=XS;let zb:=hZ.Y s7
  let IV:=s6.m s7;generalize upd H6 rA (.lst zs)=H7 at *;let hf7:=IV _ _ (s5 _ _ uz)
  let hn7:=IV _ _ (s5 _ _ gW);let EH:=zb.1
  let Qs:(XE ps.f<|Is++Os).f<=30:=by show Yj (YE ..) ?_;rw[ZP];lia
  rw[Yb]at EH;show nm ?_;show⟨_,Z,fA,_,Z,.inl<|SqL.of hf7,_,Z,rA,Z,{_,SqL.of Gr},ME (K:=K) (a:=rA) (xs:=zs) (λi ws H8=>Same H7 H8/\i<=(XE ps.f<|Is++Os).f/\PairsV H8 ws (((XE ps.f<|Is++Os).M i).R λz=>((Uz F (mk (Xv n.j<|XT ps Is) (Zt ps z).1):Int),(Uz F (mk (Xv n.j<|XT ps Is) (Zt ps z).2):Int)))) {Same.refl _,Yi _,PairsV.nil} (Zo J)
   (λi ws H8 hi zz=>by let(e,UZ,ew):=zz;show{e.seq<|SqL.of Gr,by rw[ew.1,Yb,Yl];lia}) ?_ ?_⟩
  .rintro i v ws H8 hi ⟨s8,UP,uw⟩ S Xc;let(p,hp,tt,rfl,ht):=zb.at hi;rw[Yw]at hp;obtain⟨z,hz,ez⟩:∃z,(XE ps.f<|Is++Os)[i]?=some z/\ps.S z.j (0,0)=p:=by
    cases hq:(XE ps.f<|Is++Os)[i]? with
    |none=>rw[hq]at hp;cases hp
    |some z=>rw[hq]at hp;exists z,Z,Yk hp
   let hz1:=(WN.H<|WT hz).1;obtain⟨p',Gk⟩:∃p,ps[z.j]?=some p:={_,Xp J};let epp:p'=p:=by rw[<-ez,ZS Gk]
   rw[epp]at Gk;let(e1,e2,e3,e4):=g4 p (WT Gk);let ee:Zt ps z=(p.1.j,p.2.j):=by unfold Zt;rw[ZS Gk]
   let ht8:=s8 _ _ ht;let hn8:=s8 _ _ hn7
   show nm ?_;exists _,Z,_,Z,tt,_,0,.int p.1,Z,Z,SqT.of ht8,Z,nA,_,_,_,Z,Z,SqL.of hn8,ZG (n:=p.1.j) J<|Tw<|nAt p.1 e1 e2,?_;exists _,Z,_,Z,tt,_,1,.int p.2,Z,Z,SqT.of ht8,Z,nA,_,_,_,Z,Z,SqL.of hn8,ZG (n:=p.2.j) J<|Tw<|nAt p.2 e3 e4,(by change 2<=sizeLine;decide),λpp hpp=>?_;show Xc _ _ {s8.m<|XZ hpp,by have:=(XA.H hz).1;lia,?_};rw[WD,hz,YQ];show(uw.Y<|XZ hpp).snoc {pp,Z,?_};dsimp only;rw[ee];show XS
  rintro ws H8 ⟨s8,_,uw⟩ la Gn;rw[EH,YR]at uw;let s9:=XZ (o:=.lst ws) Gn
  let Kv:(upd H8 la<|.lst ws) la=some (.lst ws):=XS;let hP9:=uw.Y s9
  let uu:=s8.m s9;generalize upd H8 la (.lst ws)=H9 at *;let hGc:=ZT7 (f:=λi=>Uz F<|mk (Xv n.j<|XT ps Is) i) hG (Is++Os) gR k1 kn
  intro x Gg nx Nt RE;let t1:Same H9 (upd (upd H9 Gg<|.own x) x<|.ins t.A_Web Gg []):=Zy (XZ Nt) (by rwa[Za (Xb RE)])
  exists x,Gg,F⁻¹,la,false,ws,_,by rw[Xr];rfl,XS,λo=>?_,hP9.Y t1,hGc,λIU hV k10=>{Z,?_}
  .show SqL.of (by rwa[Za (Wz Kv nx),Za<|Wz Kv nx,Za (Wz Kv Nt)])
  let za:Same H9 IU:=λb o e=>k10 b o (t1 b o e) (Wz e nx);exists x,_,_,Z,hV,hGc,λc Ku hc Gf=>q c Ku (back c<|jP hG hJ (λz hz=>Ux z<|Mp.mem_iff.H hz) (λi j hi hj=>(hfg i j hi hj).m (uZ i j).symm) gR hgg (by rw[Mp.length_eq];grind)<|by rwa[Qn])<|zd.m<|IV.m<|uu.m<|za.m Gf
inductive spZn(K:Ad)(C:Addr)(vs:List V)(H:Hp)(Q:VK)(_:XK):Prop
 |mk (w a n ps kd ns:_) (_:vs=[.ref w,.ref a]) (_:WebAt C H w n ps) (_:Zx n ps) (_:SqK kd K H a (IL ns)) (_:∀b H',Same H H'->(b=true↔Zf n ps ns)->Q (.bl b) H')
def gP(T:Txt K mg t):Xd P w base WY T.qZn 6 (spZn K t.A_Web):=by
 show T.qZn.okI ["web","ties"] sC λXG A outer s H vs Q E hr h=>?_
 .let⟨w,a,n,ps,kd,ns,rfl,hW,hG,hS,q⟩:=h;exists _,(XH<|Zj<|Ib (Xu (zk T) hr T.qZc Zw<|XY (pv 0)<|XY (pv 1) XX)<|Ib (Pr Vc (Zd (Zi K) sE T.n_len Boot.«len»<|XY (pv 1) XX) (Zq Vn (Zm K (pv 0) Z) XO)<|Zn _)<|Dv<|Xu (zf T) hr T.qZh Zw<|XY (pv 0)<|XY (pv 1) XX),?_;exists _,Z,_,Z,w,a,n,ps,kd,ns,Z,hW,hS,λb hb=>{b,Z,?_};show itb (λe=>?_) (λe=>?_)
  .let hI:=hb.H e;let(dx,tl,xs,h1,h2,h3):=id hW;exists _,Z,a,_,Z,hS.or,_,Z,w,_,dx,_,_,Z,h1,T.cl_Web,T.n_Web_places,HA _ _,_,_,Z,Z,Z,_,Z,?_;rw[Xr,Zs];show Xl (λhl=>?_) (λhl=>?_)
   .exists _,Z,_,Z,w,a,n,ps,kd,ns,Z,hW,hG,hS,hI,λb2 H' s Gz=>q b2 H' s ?_;rw[Gz,bZ (by have:=hG.1;grind) (ZN hG hI.all)];exists λz=>⟨hI,hl,z⟩,λz=>z.2.2
   .show q false H (Same.refl H) {λz=>(nomatch z),λz=>absurd z.2.1 hl}
  .show q false H (Same.refl H) {λz=>(nomatch z),λz=>by rw[hb.X z.1]at e;cases e}
inductive spZo(K:Ad)(C sj:Addr)(vs:List V)(H:Hp)(Q:VK)(E:XK):Prop
 |mk (w a:Addr) (n:Int) (ps:Aa) (kd:Bool) (ns:Ac) (_:vs=[.ref w,.ref a]) (_:WebAt C H w n ps) (_:Zx n ps) (_:SqK kd K H a (IL ns)) (_:(Zf n ps ns->∀H':Hp,Same H H'->Q .non H')) (_:(¬Zf n ps ns->∀H':Hp,Same H H'->E ↑sj none H'))
def y9(T:Txt K mg t):Xd P w base (VO P w) T.qZo 7 (spZo K t.A_Web t.A_NoTree):=by
 show T.qZo.okXI ["web","tree"] sC λXG A outer s H vs Q E hr h=>?_
 .let⟨w,a,n,ps,kd,ns,rfl,hW,hG,hS,q,qe⟩:=h;show⟨_,(XH (Xz (Ic<|QG<|Xu (gP T) hr T.qZn Zw<|XY (pv 0)<|XY (pv 1) XX)
   (XH<|vX T.x_NoTree T.c_NoTree<|XY OH XX)
   Zp)),?_⟩
  exists _,Z,_,Z,w,a,n,ps,kd,ns,Z,hW,hG,hS,λb H' s hb=>{_,Z,?_};show HD (λz=>?_) (λz=>?_)
  .show q (hb.H z) H' s
  .exists by change 1<=sizeLine;decide,qe (λg=>by rw[hb.X g]at z;cases z) H' s
inductive spZp(K:Ad)(C:Addr)(vs:List V)(H:Hp)(Q:VK)(_:XK):Prop
 |mk (w a b n ps ka kb ns os:_) (_:vs=[.ref w,.ref a,.ref b]) (_:WebAt C H w n ps) (_:Zx n ps) (_:SqK ka K H a (IL ns)) (_:SqK kb K H b (IL os)) (_:ns.f<=1000) (_:os.f<=1000) (_:(∀z∈ns++os,0<=z/\z<ps⁻¹)) (_:(((WI n.j ps<|ns++os).M ns.f≠ns\/((WI n.j ps<|ns++os).f:Int)<n-1)->∀H':Hp,Same H H'->Q .non H')) (_:((WI n.j ps<|ns++os).M ns.f=ns->¬((WI n.j ps<|ns++os).f:Int)<n-1->∀r ms H',ms.Perm (WI n.j ps<|ns++os)->ms.E (·<=·)->Same H H'->H r=none->H' r=some (.tup<|IL ms)->Q ↑r H'))
def gO(T:Txt K mg t):Xd P w base WY T.qZp 3 (spZp K t.A_Web):=by
 show T.qZp.okI ["web","inside","order","marks","grown","tie","ends"] sC λXG A outer s H vs Q E hr h=>?_
 .let⟨w,a,b,n,ps,ka,kb,ns,os,rfl,hW,hG,hS,BW,hnl,Pp,hI,q0,q1⟩:=h;show⟨_,(XM (Zg 3<|Xu (PN T) hr T.qZf Zw<|XY (pv 0)<|XY (WC XX) XX)
   (XM (Zg 4<|WB XX)
   (XM (Sb SV Z (ZV K<|Zq CJ (Zk (RG K) sE T.n_list Boot.«list»<|XY (pv 1) XX)<|Zk (RG K) sE T.n_list Boot.«list»<|XY (pv 2) XX) (Zc 5)
   (XM (Zg 6<|ZJ (Zh K) (Zm K (pv 0) Z) (pv 5) λ_ _=>rfl)
   (XH (Xz (Ze VA (ZJ (Zh K) (pv 3) (ZJ (ZH K) (pv 6) XO λ_ _=>rfl) λ_ _=>rfl) (ZJ (Zh K) (pv 3) (ZJ (ZH K) (pv 6) XO λ_ _=>rfl) λ_ _=>rfl)<|Zn _)
   (XM (Zg 3<|Xu (zj T) hr T.qZe Zw<|XY (pv 0)<|XY (pv 3)<|XY (WC<|XY (pv 5) XX) XX)
   (XH<|ZU<|Vm K YY Ei Ej CL (pv 4)<|XY (pv 5) XX))
   Zp))))
   (XM (Xz (PW.pt<|OG (Ze (pq K<|Fc hr) (HN (Hz K) (pv 4) Qz<|SG<|Zd (Zi K) sE T.n_len Boot.«len»<|XY (pv 1) XX) (Zk (RG K) sE T.n_list Boot.«list»<|XY (pv 1) XX)<|Zn _)<|Dx<|Ze Ka (Zd (Zi K) sE T.n_len Boot.«len»<|XY (pv 4) XX) (Zq Vn (Zm K (pv 0) Z) XO)<|Zn _)
   (XH<|Zj MN)
   Zp)
   (XH<|Zj<|Zk (ZC K) sE T.n_tuple Boot.«tuple»<|XY (Zd (vV K) sE T.n_sorted Boot.«sorted»<|XY (pv 4) XX) XX))))),?_⟩
  let(g1,g2,g3,g4):=id hG;let one:1<=sizeLine:=su
  exists _,Z,Yi _,λr0 UT=>?_;let s0:=XZ (o:=.tup []) UT
  exists w,r0,n,ps,[],Z,hW.Y s0,hG,SqT.of XS,λ_ e=>(nomatch e),λm H1 s1 Pd TX=>?_;let s01:=s0.m s1
  let hmf:=s0.free Pd;exists Yi _,λgl gN=>?_;let s2:=XZ (o:=.lst []) gN
  let Mr:=s01.m s2;let hgf:=s01.free gN
  exists _,Z,a,_,Z,(hS.Y Mr).or,λl1 RR=>?_;let s3:=XZ (o:=.lst<|IL ns) RR
  let s03:=Mr.m s3;exists _,Z,b,_,Z,(BW.Y s03).or,λl2 Vb=>?_;let s4:=XZ (o:=.lst<|IL os) Vb
  let Es:=s03.m s4;exists l1,l2,_,_,Z,Z,s4 _ _ XS,XS,MF (by rw[Xr,Xr];lia),λcl Te=>?_;let s5:=XZ (o:=.lst<|IL ns++IL os) Te
  let zd:=Es.m s5;let eI:IL ns++IL os=IL (ns++os):=(wC _ _).symm
  let y8:=s5 _ _ (s4 _ _<|s3 _ _<|XS (H:=H1) (a:=gl) (o:=.lst []));let ur:=s5 _ _ (s4 _ _<|s3 _ _<|s2 _ _ TX)
  let Ge:=XS (H:=upd (upd (upd H1 gl<|.lst []) l1<|.lst<|IL ns) l2<|.lst<|IL os) (a:=cl) (o:=.lst<|IL ns++IL os);let ncg:cl≠gl:=λe=>by rw[e]at Te;show absurd ((s4 _ _<|s3 _ _<|XS (H:=H1) (a:=gl) (o:=.lst [])).symm.m Te) B
  let nmg:m≠gl:=λe=>by rw[e]at TX;show absurd (TX.symm.m gN) B
  rw[eI]at s5 zd y8 ur Ge ⊢;generalize upd (upd (upd (upd H1 gl<|.lst []) l1<|.lst<|IL ns) l2<|.lst<|IL os) cl (.lst<|IL<|ns++os)=H5 at *;show⟨cl,Z,{_,SqL.of Ge},wU (K:=K) (a:=cl) (xs:=IL<|ns++os) (λi σ H2=>∃mc v5 v6,σ=[some ↑w,some<|.ref a,some<|.ref b,some<|.ref mc,some<|.ref gl,v5,v6]/\Same H H2/\mc≠gl/\
    H2 cl=some (.lst<|IL<|ns++os)/\H2 mc=some (.lst<|IL<|Xv n.j<|XT ps<|WI n.j ps<|(ns++os).M i)/\H2 gl=some (.lst<|IL<|WI n.j ps<|(ns++os).M i))
   ⟨m,none,none,Z,zd,nmg,Ge,ur,y8⟩ (λi σ H2 _ zz=>by let(_,_,_,_,_,_,e,_):=zz;show SqL.of e) ?_ ?_⟩
  .rintro i x σ H2 hi ⟨mc,v5,v6,rfl,s2,XJ,UR,We,KJ⟩;let(z,rfl,hz):=TY hi;let(z0,z1):=hI z (WT hz);let hIt:∀y∈(ns++os).M i,0<=y/\y<ps⁻¹:=λy hy=>hI y (Vq hy)
   let est:(ns++os).M (i+1)=(ns++os).M i++[z]:=by rw[WD,hz];rfl
   let eG:WI n.j ps ((ns++os).M (i+1))=RB n.j ps (WI n.j ps<|(ns++os).M i) z:=by rw[est,Lo]
   let Wj:=Ql hG hIt;let y7:=bR hG hIt
   generalize WI n.j ps ((ns++os).M i)=G at *;let(dx,tl,xs,h1,h2,h3):=hW.Y s2;obtain⟨p,hp⟩:∃p,ps[z.j]?=some p:={_,Xp J};let(v,hv,tt,rfl,Uh):=h3.2 z.j p hp;let(e1,e2,e3,e4):=g4 p (WT hp);let ed:Zt ps z=(p.1.j,p.2.j):=by unfold Zt;rw[ZS hp]
   let hl:(Xv n.j<|XT ps G).f=n.j:=ZB _ _;let iA:VQ (IL<|Xv n.j<|XT ps G) p.1=some (.int<|mk (Xv n.j<|XT ps G) p.1.j):=ZG (n:=p.1.j) J (Tw<|Po sD)
   let iB:VQ (IL<|Xv n.j<|XT ps G) p.2=some (.int<|mk (Xv n.j<|XT ps G) p.2.j):=ZG (n:=p.2.j) J (Tw<|Po sD);let t0:VQ ([.int p.1,.int p.2]:List V) 0=some (.int p.1):=rfl
   let t1:VQ ([.int p.1,.int p.2]:List V) 1=some (.int p.2):=rfl;let key:mk (Xv n.j<|XT ps G) p.1.j=mk (Xv n.j<|XT ps G) p.2.j↔mk (WQ n.j<|XT ps G) (Zt ps z).1=mk (WQ n.j<|XT ps G) (Zt ps z).2:=by rw[ed,Qm Wj sD sD,ZX Wj sD sD]
   exists _,Z,w,_,dx,_,_,Z,h1,T.cl_Web,T.n_Web_ties,Oo _ _,_,Z,tl,xs,z,.ref tt,Z,Z,SqL.of h2,ZG (n:=z.j) J hv,?_;exists _,Z,_,Z,tt,_,0,_,Z,Z,SqT.of Uh,t0,mc,_,p.1,_,Z,Z,SqL.of We,iA,_,Z,_,Z,tt,_,1,_,Z,Z,SqT.of Uh,t1,mc,_,p.2,_,Z,Z,SqL.of We,iB,Z,_,Z,?_;rw[Zs];show Wv (λhe=>?_) (λhe=>?_)
   .exists mc,_,_,Z,s2,XJ,UR,?_,?_
    .rw[eG];unfold RB;rwa[if_pos (key.H he)]
    .rw[eG];unfold RB;rwa[if_pos (key.H he)]
   .let eG2:WI n.j ps ((ns++os).M (i+1))=G++[z]:=by rw[eG];unfold RB;rw[if_neg λe=>he (key.X e)]
    exists _,Z,_,Z,_,Z,one,λp2 VE=>?_;let s6:=XZ (o:=.tup [.int z]) VE
    show{w,mc,p2,n,ps,_,true,[z],Z,(hW.Y s2).Y s6,hG,s6 _ _ We,hl,SqT.of XS,λy hy=>by rw[XD.H hy];show⟨z0,z1⟩,λm' H7 s7 hf uq=>?_};let gM:=s6.m s7
    let hg7:=gM _ _ KJ;let hc7:=gM _ _ UR
    let nm':m'≠gl:=by
     rcases hf with rfl|hf
     .show XJ
     .show λe=>absurd ((s6 _ _ KJ).symm.m (e▸hf)) B
    exists _,Z,.inl {Z,_,SqL.of hg7},_,Z,gl,_,_,Z,Z,hg7,Zo (by rw[Xr];lia),?_;exists m',_,_,Z,ZK hgf<|s2.m gM,nm',?_,?_,?_
    .rw[Za ncg];show hc7
    .rw[Za nm',uq,eG2,Sw,pf];rfl
    .rw[XS,eG2,VJ]
  .rintro σ H2 ⟨mc,v5,v6,rfl,s2,XJ,UR,We,KJ⟩;rw[Xr,YR]at KJ;let y7:=bR hG hI
   generalize WI n.j ps (ns++os)=G at *;exists _,Z,_,Z,a,_,Z,(hS.Y s2).or,_,Z,gl,_,Z,SqL.of KJ,λr1 Vd=>?_;let ec:Ww (IL G) none (some ((IL ns).f:Int))=IL (G.M ns.f):=by rw[bS J,YL,Xr,cM]
   rw[ec];let s3:=XZ (o:=.lst<|IL<|G.M ns.f) Vd
   exists _,Z,a,_,Z,(hS.Y<|s2.m s3).or,λr2 Vr=>?_;let s4:=XZ (o:=.lst<|IL ns) Vr
   exists 1,_,r1,r2,Z,Z,su,oY (SqL.of<|s4 _ _ XS)<|SqL.of XS,_,Z,?_;let QQ:=s2.m (s3.m s4)
   show Wv (λhe=>?_) (λhe=>?_)
   .let⟨dx,tl,xs,h1,h2,h3⟩:=hW.Y QQ;let hg4:=s4 _ _ (s3 _ _ KJ)
    exists _,Z,gl,_,Z,.inl<|SqL.of hg4,_,Z,w,_,dx,_,_,Z,h1,T.cl_Web,T.n_Web_places,HA _ _,_,_,Z,Z,_,_,Z,Z,_,Z,?_;rw[Xr];show Xl (λhc=>?_) (λhc=>?_)
    .show q0 (.inr hc) _ QQ
    .exists _,Z,gl,G,Z,SqL.of hg4,J,λms TQ VE l hl=>?_;let s5:=XZ (o:=.lst<|IL ms) hl
     exists l,_,Z,.inl {SqL.of XS,λr hr=>?_};show q1 he hc r ms _ TQ VE ((QQ.m s5).m (XZ hr)) ((QQ.m s5).free hr) XS
   .show iteT ?_;show q0 (.inl he) _ QQ
inductive spZq(K:Ad)(C:Addr)(vs:List V)(H:Hp)(Q:VK)(_:XK):Prop
 |mk (w a n ps kd ns z:_) (_:vs=[.ref w,.ref a,.int z]) (_:WebAt C H w n ps) (_:Zx n ps) (_:SqK kd K H a (IL ns)) (_:IsSet ps.f ns) (_:∀r H',Same H H'->H r=none->H' r=some (.tup<|IL<|unlike (WQ n.j<|XT ps<|wo ns z) ps ps.f)->Q ↑r H')
def gL:FnScope ["web","tree","tie","marks"] ["web","tree","tie"] (Zb (top 41)):=Rr sC
def gK(T:Txt K mg t):Xd P w base WY T.qZq 3 (spZq K t.A_Web):=by
 show T.qZq.okI ["web","tree","tie","marks"] sC λXG A outer s H vs Q E hr h=>?_
 .let⟨w,a,n,ps,kd,ns,z,rfl,hW,hG,hS,hI,q⟩:=h;show⟨_,(XM (Ti (i:=3) gL.nd Z (Or.inr Z)<|Xu (PN T) hr T.qZf Zw<|XY (pv 0)<|XY (Xu (zm T) hr T.qZb Zw<|XY (pv 1)<|XY (pv 2) XX) XX)
   (XH<|Zj<|Zk (ZC K) sE T.n_tuple Boot.«tuple»<|XY (Vy Z (sc0:=Zb<|top 41) (N0:=["web","tree","tie","marks"]) (N':=["number","ends","marks"]) (o:=2) (fr:=[3]) ⟨Z,sC,sC,sC,Z,sC⟩ (LC K Z T.n_enumerate<|XY (Zm K (pv 0) Z) XX) (Qt<|ZW su<|ZW su Qu) (λ_ _ _ _=>(Qp (n:=2) K Z<|Zr (Zc 0)<|Zr (Zc 1) QE)) (λ_ _ _ _=>(Qw<|Ze VA (ZJ (Zh K) (pv 2) (ZJ (ZH K) (pv 1) XO λ_ _=>rfl) λ_ _=>rfl) (ZJ (Zh K) (pv 2) (ZJ (ZH K) (pv 1) XO λ_ _=>rfl) λ_ _=>rfl)<|Zn _)) λ_ _ _ _=>(pv 0)) XX)),?_⟩
  let(g1,g2,g3,g4):=id hG;let hln:=hI.len
  let hb:∀y∈wo ns z,0<=y/\y<ps⁻¹:=λy hy=>hI.all y (Xi.H hy).1;exists _,Z,_,Z,_,Z,a,kd,ns,z,Z,hS,J,λr1 H1 s1 UT Vd=>?_;exists w,r1,n,ps,wo ns z,Z,hW.Y s1,hG,SqT.of Vd,hb,λm H2 s2 Pd We=>?_;let Wj:=ZN hG hb
  let e0:=ZW5 (M:=Xv n.j<|XT ps<|wo ns z) hG (ZB _ _) (wk Wj);let hl:(Xv n.j<|XT ps<|wo ns z).f=n.j:=ZB _ _
  rw[<-e0]at q;generalize Xv n.j (XT ps<|wo ns z)=M at *;let Wc:=s1.m s2
  let(dx,tl,xs,h1,h2,h3):=hW.Y Wc;let Pj:=h3.1
  show⟨_,Z,w,_,dx,_,_,Z,h1,T.cl_Web,T.n_Web_ties,Oo _ _,tl,Z,{_,SqL.of h2},vR (K:=K) (a:=tl) (xs:=xs) (λi ys H3=>Same H2 H3/\i<=xs.f/\ys=IL (unlike M ps i)) {Same.refl _,Yi _,Z} (Zo J)
   (λi ys H3 _ zz=>by let(e,_,ey):=zz;show{SqL.of<|e _ _ h2,by rw[ey,Xr];show Zo6 _ _ _}) ?_ ?_⟩
  .rintro i x ys H3 pt Uw hi ⟨s3,UP,rfl⟩ S Xc;let(p,Ol,tt,rfl,Uh):=h3.at hi;let(e1,e2,e3,e4):=g4 p (WT Ol);let Xn:i<xs.f:=(XA.H hi).1
   let s4:Same H3 (upd H3 pt<|.tup [.int i,.ref tt]):=XZ Uw;let QS:=s3.m s4
   let Nr:=QS _ _ Uh;let y6:=QS _ _ We
   let ed:ps.S i (0,0)=p:=ZS Ol;let t0:VQ ([.int p.1,.int p.2]:List V) 0=some (.int p.1):=rfl
   let t1:VQ ([.int p.1,.int p.2]:List V) 1=some (.int p.2):=rfl;let iA:VQ (IL M) p.1=some (.int<|mk M p.1.j):=ZG (n:=p.1.j) J (Tw<|Po sD)
   let iB:VQ (IL M) p.2=some (.int<|mk M p.2.j):=ZG (n:=p.2.j) J (Tw<|Po sD);exists pt,_,Z,SqT.of XS,Z,_,_,Z,_,_,Z,Z,?_;exists _,Z,_,Z,tt,_,0,_,Z,Z,SqT.of Nr,t0,m,_,p.1,_,Z,Z,SqL.of y6,iA,_,Z,_,Z,tt,_,1,_,Z,Z,SqT.of Nr,t1,m,_,p.2,_,Z,Z,SqL.of y6,iB,Z,_,Z,?_;rw[Zs];show Wv (λhe=>?_) (λhe=>?_)
   .show Xc _ _ {QS,Xn,?_};rw[bY,ed,if_neg (by simpa using he),YB]
   .exists _,Z,Xc _ _ {QS,Xn,?_};rw[bY,ed,if_pos he,VJ]
  .rintro ys H3 ⟨s3,_,rfl⟩ p hp;rw[Pj];exists p,_,Z,.inl {SqL.of XS,λr hr=>?_};show q r _ (Wc.m<|s3.m<|Zy (XZ hp) hr) ((Wc.m<|s3.m<|XZ hp).free hr) XS
inductive spZr(K:Ad)(C:Addr)(vs:List V)(H:Hp)(Q:VK)(_:XK):Prop
 |mk (w a n ps kd ns z:_) (_:vs=[.ref w,.ref a,.int z]) (_:WebAt C H w n ps) (_:Zx n ps) (_:SqK kd K H a (IL ns)) (_:-(10^70)<z) (_:z<10^70) (_:(Zf n ps ns->z∉ns->0<=z->z<ps⁻¹->∀ms,ms.Perm (VN n ps ns z ns++[z])->ms.E (·<=·)->∀r H',Same H H'->H r=none->H' r=some (.tup<|IL ms)->Q ↑r H')) (_:(Zf n ps ns->(z∈ns\/¬(0<=z/\z<ps⁻¹))->∀H':Hp,Same H H'->False)) (_:(¬Zf n ps ns->∀H':Hp,Same H H'->False))
def gJ(T:Txt K mg t):Xd P w base WY T.qZr 8 (spZr K t.A_Web):=by
 show T.qZr.okI ["web","tree","tie"] sC λXG A outer s H vs Q E hr h=>?_
 .let⟨w,a,n,ps,kd,ns,z,rfl,hW,hG,hS,z0,z1,q,q1,q2⟩:=h;show⟨_,(XM (ZU<|Xu (y9 T) hr T.qZo JB<|XY (pv 0)<|XY (pv 1) XX)
   (XM (Xz (PW.pt<|OG (Ze (Hy K) (pv 2) (pv 1) Z)<|Dx<|Ic<|QG<|Xu (zp T) hr T.qZ6 Zw<|XY (pv 0)<|XY (pv 2) XX)
   (XH QF)
   Zp)
   (XH<|Zj<|Zk (ZC K) sE T.n_tuple Boot.«tuple»<|XY (Zd (vV K) sE T.n_sorted Boot.«sorted»<|XY (Zq CJ (Vy Z (sc0:=Zb<|top 42) (N0:=["web","tree","tie"]) (N':=["out","tie","web","tree"]) (o:=1) (fr:=[2,0,1]) ⟨Z,sC,sC,sC,Z,sC⟩ (SA K<|pv 1) (ZE su) (λ_ _ _ _=>(Zc 0)) (λ_ _ _ _=>(Qw<|Ze (Hy K) (pv 1) (Xu (gK T) hr T.qZq Zw<|XY (pv 2)<|XY (pv 3)<|XY (pv 0) XX) Z)) λ_ _ _ _=>(pv 0))<|WB<|XY (pv 2) XX) XX) XX))),?_⟩
  exists _,Z,_,Z,w,a,n,ps,kd,ns,Z,hW,hG,hS,λhT H1 s1=>?_,q2;let one:1<=sizeLine:=su
  let tl:ns.f<=20:=by have:=hT.2.1;have:=hG.2.1;lia
  exists _,Z,_,Z,a,_,Z,(hS.Y s1).or,Z,ZT _,_,Z,?_;rw[Ur];show Xl (λhc=>?_) (λhc=>?_)
  .show iteT (q1 hT (.inl hc) H1 s1)
  .exists _,Z,_,Z,w,n,ps,z,Z,hW.Y s1,_,Z,?_;show Wv (λht=>?_) (λht=>?_)
   .show⟨_,Z,a,Z,wx (k:=kd) (K:=K) (xs:=IL ns) (λi ys H2=>Same H1 H2/\i<=ns.f/\ys=IL (VN n ps ns z<|ns.M i)) {Same.refl _,Yi _,Z} (Zo<|by rw[Xr];lia)
     (λi ys H2 hi zz=>by let(e,UZ,ey):=zz;show{(hS.Y s1).Y e,by rw[ey,Xr];show Yj (ES ..)<|by rw[Yl];lia}) ?_ ?_⟩
    .rintro i x ys H2 hi ⟨s2,UP,rfl⟩ S Xc;let(y,rfl,hy):=TY hi;let Xn:i<ns.f:=(XA.H hy).1
     let Wc:=s1.m s2;show nm ?_;exists _,Z,_,Z,_,Z,_,Z,w,a,n,ps,kd,ns,y,Z,hW.Y Wc,hG,hS.Y Wc,hT.1,λr H3 s3 UT UQ=>?_;exists r,_,Z,.inr<|SqT.of UQ,Z,ZT _,_,Z,?_;rw[Ur];show Xl (λhe=>?_) (λhe=>?_)
     .exists _,Z,Xc _ _ {s2.m s3,Xn,?_};rw[bW hy,if_pos he,VJ]
     .show Xc _ _ {s2.m s3,Xn,?_};rw[bW hy,if_neg he,YB]
    .rintro ys H2 ⟨s2,_,rfl⟩ p hp;rw[Xr,YR];let rl:=ES n ps ns z ns
     exists _,Z,one,λp2 VE=>?_;show oF (l2:=[z]) (by rw[Za (Wz XS VE)];show XS) XS (by simp only[YF,Fs];lia) λp3 Jd=>?_;show{p3,_,Z,SqL.of XS,by simp only[Xy,YF,Fs];lia,λms Tu Lp p4 Ew=>?_};exists p4,IL ms,Z,.inl {SqL.of XS,λr hr=>?_};let s6:=(s1.m s2).m (Zy (Zy (XZ (o:=.lst<|IL<|VN n ps ns z ns) hp) (o:=.lst<|IL [z]) VE) (o:=.lst<|IL<|VN n ps ns z ns++[z]) Jd)
     show q hT hc ht.1 ht.2 ms Tu Lp r _ (s6.m<|Zy (XZ Ew) hr) ((s6.m<|XZ Ew).free hr) XS
   .show q1 hT (.inr ht) H1 s1
inductive spZs(K:Ad)(C:Addr)(vs:List V)(H:Hp)(Q:VK)(_:XK):Prop
 |mk (w a b n ps I O:_) (_:vs=[.ref w,.ref a,.ref b]) (_:WebAt C H w n ps) (_:Zx n ps) (_:SqT K H a (IL I)) (_:SqT K H b (IL O)) (_:I.Nodup) (_:(∀z∈I,0<=z/\z<ps⁻¹)) (_:(∀z∈I,z∉O)) (_:(∀H':Hp,Same H H'->(∀U,¬With n ps I O U)->Q .non H')) (_:(∀r F H',Same H H'->H' r=some (.tup<|IL F)->With n ps I O F->(∀U,With n ps I O U->HT.lexLt U F=false)->Q ↑r H'))
def yZ(T:Txt K mg t):Xd P w base WY T.qZs 4 (spZs K t.A_Web):=by
 show T.qZs.okI ["web","inside","outside"] sC λXG A outer s H vs Q E hr h=>?_
 .let⟨w,a,b,n,ps,I,O,rfl,hW,hG,hA,hB,hIn,WW,hd,q0,q1⟩:=h;exists _,(XH<|Zj<|Xu (gO T) hr T.qZp Zw<|XY (pv 0)<|XY (pv 1)<|XY (Xu (ij T) hr T.qZa Zw<|XY (pv 0)<|XY (pv 2) XX) XX),?_;let g3:=hG.2.2.1
  exists _,Z,_,Z,_,Z,_,Z,w,b,n,ps,true,O,Z,hW,J,hB,λD hDa hD dA H1 s1 hdA=>?_;let hDs:IsSet ps.f D:=XR.X {λz hz=>((hD z).H hz).1,hDa}
  let hb:∀z∈I++D,0<=z/\z<ps⁻¹:=λz hz=>(XB.H hz).elim (WW z) λh=>((hD z).H h).1;let il:I.f<=ps.f:=by
   have:=GS (m:=VI ps.f) hIn λz hz=>Xx.X (WW z hz)
   rwa[ZP]at this
  let dl:=hDs.len;exists w,a,dA,n,ps,true,true,I,D,Z,hW.Y s1,hG,JN s1 hA,SqT.of hdA,J,J,hb,λh H2 s2=>q0 H2 (s1.m s2) λU hU=>?_,λht hl r ms H2 Tu Lp s2 UT hr=>?_
  .have:=mI hG hU.1 hIn hU.2.1 (hU.sub hD) hb
   rcases h with h|h
   .show h this.1
   .show this.2 h
  .let hF:With n ps I O ms:={mJ hG hb hl Tu Lp,λz hz=>Tu.mem_iff.X<|Vq<|ht▸hz,λz hz h=>(XB.H<|(BI _ _ _).subset (Tu.mem_iff.H h)).elim (λh=>hd z h hz) λh=>((hD z).H h).2 hz};show q1 r ms H2 (s1.m s2) hr hF λU hU=>Zm7 hG hU.1 hU.2.1 (hU.sub hD) hb hDa hF.1 Tu hF.2.1
inductive spZt(K:Ad)(C:Addr)(vs:List V)(H:Hp)(Q:VK)(_:XK):Prop
 |mk (w m n ps M z:_) (_:vs=[.ref w,.ref m,.int z]) (_:WebAt C H w n ps) (_:Zx n ps) (_:H m=some (.lst<|IL M)) (_:M.f=n.j) (_:0<=z) (_:z<ps⁻¹) (_:∀r l H',l.Perm [mk M (ps.S z.j (0,0)).1.j,mk M (ps.S z.j (0,0)).2.j]->l.E (·<=·)->Same H H'->H' r=some (.lst<|IL l)->Q ↑r H')
def yY(T:Txt K mg t):Xd P w base WY T.qZt 1 (spZt K t.A_Web):=by
 show T.qZt.okI ["web","marks","tie","ends"] sC λXG A outer s H vs Q E hr h=>?_
 .let⟨w,m,n,ps,M,z,rfl,hW,hG,hM,Pb,z0,z1,q⟩:=h;show⟨_,(XM (Zg 3<|ZJ (Zh K) (Zm K (pv 0) Z) (pv 2) λ_ _=>rfl)
   (XH<|Zj<|Zd (vV K) sE T.n_sorted Boot.«sorted»<|XY (WB<|XY (ZJ (Zh K) (pv 1) (ZJ (ZH K) (pv 3) XO λ_ _=>rfl) λ_ _=>rfl)<|XY (ZJ (Zh K) (pv 1) (ZJ (ZH K) (pv 3) XO λ_ _=>rfl) λ_ _=>rfl) XX) XX)),?_⟩
  let(g1,g2,g3,g4):=id hG;let(dx,tl,xs,h1,h2,h3):=id hW;obtain⟨p,hp⟩:∃p,ps[z.j]?=some p:={_,Xp J};let ep:ps.S z.j (0,0)=p:=ZS hp
  rw[ep]at q;let(v,hv,tt,rfl,Uh):=h3.2 _ p hp;let(e1,e2,e3,e4):=g4 p (WT hp);let t0:VQ ([.int p.1,.int p.2]:List V) 0=some (.int p.1):=rfl
  let t1:VQ ([.int p.1,.int p.2]:List V) 1=some (.int p.2):=rfl;let iA:VQ (IL M) p.1=some (.int<|mk M p.1.j):=ZG (n:=p.1.j) J (Tw<|Po sD)
  let iB:VQ (IL M) p.2=some (.int<|mk M p.2.j):=ZG (n:=p.2.j) J (Tw<|Po sD);exists _,Z,w,_,dx,_,_,Z,h1,T.cl_Web,T.n_Web_ties,Oo _ _,_,Z,tl,_,_,.ref tt,Z,Z,SqL.of h2,ZG (n:=z.j) J hv,?_;show nm ?_;exists _,Z,_,Z,tt,_,0,_,Z,Z,SqT.of Uh,t0,m,_,p.1,_,Z,Z,SqL.of hM,iA,_,Z,_,Z,tt,_,1,_,Z,Z,SqT.of Uh,t1,m,_,p.2,_,Z,Z,SqL.of hM,iB,(by change 2<=sizeLine;decide),λa ha=>?_;let s1:=XZ (o:=.lst<|IL [mk M p.1.j,mk M p.2.j]) ha
  exists a,[mk M p.1.j,mk M p.2.j],Z,SqL.of XS,(by change 2<64;decide),λl hl hs r hr=>?_;show q r l _ hl hs (s1.m<|XZ hr) XS
inductive spZu(K:Ad)(C:Addr)(vs:List V)(H:Hp)(Q:VK)(_:XK):Prop
 |mk (w m a n ps M g:_) (_:vs=[.ref w,.ref m,.ref a]) (_:WebAt C H w n ps) (_:Zx n ps) (_:H m=some (.lst<|IL M)) (_:M.f=n.j) (_:SqT K H a (IL g)) (_:∀r H',Same H H'->H r=none->H' r=some (.lst<|IL<|KI M ps g ps.f)->Q ↑r H')
def yX(T:Txt K mg t):Xd P w base WY T.qZu 1 (spZu K t.A_Web):=by
 show T.qZu.okI ["web","marks","gone"] sC λXG A outer s H vs Q E hr h=>?_
 .let⟨w,m,a,n,ps,M,g,rfl,hW,hG,hM,Pb,hA,q⟩:=h;exists _,(XH<|Zj<|Vy Z (sc0:=Zb<|top 48) (N0:=["web","marks","gone"]) (N':=["tie","ends","gone","marks"]) (o:=2) (fr:=[2,1]) ⟨Z,sC,sC,sC,Z,sC⟩ (LC K Z T.n_enumerate<|XY (Zm K (pv 0) Z) XX) (Qt<|ZW su<|ZW su Qu) (λ_ _ _ _=>(Qp (n:=2) K Z<|Zr (Zc 0)<|Zr (Zc 1) QE)) (λ_ _ _ _=>(Qw<|PW.pt<|Dw (Ze (Hx K) (pv 0) (pv 2) Z)<|dG<|Ze VA (ZJ (Zh K) (pv 3) (ZJ (ZH K) (pv 1) XO λ_ _=>rfl) λ_ _=>rfl) (ZJ (Zh K) (pv 3) (ZJ (ZH K) (pv 1) XO λ_ _=>rfl) λ_ _=>rfl)<|Zn _)) λ_ _ _ _=>(pv 0)),?_;let(g1,g2,g3,g4):=id hG;let(dx,tl,xs,h1,h2,h3):=id hW;let Pj:=h3.1
  show⟨_,Z,w,_,dx,_,_,Z,h1,T.cl_Web,T.n_Web_ties,Oo _ _,tl,Z,{_,SqL.of h2},vR (K:=K) (a:=tl) (xs:=xs) (λi ys H3=>Same H H3/\i<=xs.f/\ys=IL (KI M ps g i)) {Same.refl _,Yi _,Z} (Zo J)
   (λi ys H3 _ h=>by let(e,_,ey):=h;show{SqL.of<|e _ _ h2,by rw[ey,Xr];show i4 _ _ _ _}) ?_ ?_⟩
  .rintro i x ys H3 pt Uw hi ⟨s3,UP,rfl⟩ S Xc;let(p,Ol,tt,rfl,Uh):=h3.at hi;let(e1,e2,e3,e4):=g4 p (WT Ol);let Xn:i<xs.f:=(XA.H hi).1
   let s4:Same H3 (upd H3 pt<|.tup [.int i,.ref tt]):=XZ Uw;let QS:=s3.m s4
   let Nr:=QS _ _ Uh;let y6:=QS _ _ hM
   let Mq:=SqK.Y (k:=true) QS hA;let ed:ps.S i (0,0)=p:=ZS Ol
   let t0:VQ ([.int p.1,.int p.2]:List V) 0=some (.int p.1):=rfl;let t1:VQ ([.int p.1,.int p.2]:List V) 1=some (.int p.2):=rfl
   let iA:VQ (IL M) p.1=some (.int<|mk M p.1.j):=ZG (n:=p.1.j) J (Tw<|Po sD);let iB:VQ (IL M) p.2=some (.int<|mk M p.2.j):=ZG (n:=p.2.j) J (Tw<|Po sD)
   let hs:=i5 M ps g i;rw[ed]at hs;exists pt,_,Z,SqT.of XS,Z,_,_,Z,_,_,Z,Z,?_;exists _,Z,_,Z,a,_,Z,.inr Mq,Z,ZT _,_,Z,?_;rw[Ur];show Wv (λhe=>?_) (λhe=>?_)
   .show Xc _ _ {QS,Xn,?_};rw[hs,if_neg λh=>h.1 he,YB]
   exists _,Z,_,Z,tt,_,0,_,Z,Z,SqT.of Nr,t0,m,_,p.1,_,Z,Z,SqL.of y6,iA,_,Z,_,Z,tt,_,1,_,Z,Z,SqT.of Nr,t1,m,_,p.2,_,Z,Z,SqL.of y6,iB,Z,_,Z,?_;rw[Zs];show Wv (λhx=>?_) (λhx=>?_)
   .show Xc _ _ {QS,Xn,?_};rw[hs,if_neg λh=>h.2 hx,YB]
   .exists _,Z,Xc _ _ {QS,Xn,?_};rw[hs,if_pos ⟨he,hx⟩,VJ]
  .rintro ys H3 ⟨s3,_,rfl⟩ p hp;rw[Pj];show q p _ (s3.m<|XZ hp) (s3.free hp) XS
def yW(st:Stmt):(Pos):=match (ZY st).S 9 (.Pass ⟨0,0,0,0⟩) with
 | .Assign _ (.Call _ _ [k] _) _=>(match k.value with
  | .Lambda _ _ _ p=>p
  |_=>⟨0,0,0,0⟩)
 |_=>⟨0,0,0,0⟩
def gI:(Str):=Str.ofString "Part.__init__"++Str.ofString ".<locals>."++Str.ofString "<lambda>"
abbrev Xt(H:Hp)(Pt:Addr):Prop:=TabH H Pt (yW sZv) gI
inductive sp_Part_init(K:Ad)(CP C Pt:Addr)(vs:List V)(H:Hp)(Q:VK)(_:XK):Prop
 |mk (x dx w a b n ps I O ld:_) (_:vs=[.ref x,.ref w,.ref a,.ref b,Xa ld]) (_:H x=some (.ins CP dx [])) (_:WebAt C H w n ps) (_:Zx n ps) (_:Xt H Pt) (_:SqT K H a (IL I)) (_:SqT K H b (IL O)) (_:I.Nodup) (_:(∀z∈I,0<=z/\z<ps⁻¹)) (_:(∀z∈I,z∉O)) (_:O.f<=30) (_:(∃U,With n ps I O U)) (_:(∀y,ld=some y->0<=y/\y<ps⁻¹)) (_:(ld=none->∀F,With n ps I O F->(∀U,With n ps I O U->HT.lexLt U F=false)->WG n ps I O F=[])) (_:∀F inc fu l i H',With n ps I O F->(∀U,With n ps I O U->HT.lexLt U F=false)->Pf (λz=>PyProof.Rows.b2i<|decide<|ld=some z) (RU n ps I O F ld) inc->(fu=none↔Vf n ps I O F ld=[])->(∀y,fu=some y->y∈Vf n ps I O F ld/\∀z∈Vf n ps I O F ld,y<=z)->H' x=some (.ins CP dx<|uW ↑w ↑a ↑b (Xa ld) ↑l ↑i<|Xa fu)->H' l=some (.tup<|IL F)->H' i=some (.lst<|IL inc)->(∀b o,b≠x->b≠Pt->H b=some o->H' b=some o)->Xt H' Pt->Q .non H')
def Kt:FnScope ["self","web","kept","shut","lead","marks","opened","alike","unlike"] ["self","web","kept","shut","lead"] (Zb sZv):=Rr sC
def Gd{Pt:Addr}(T:Txt K mg t)(hB:VM K mg base t.dZv Pt):FnOk P w K mg base WY 8 t.aZv t.dZv ["self","web","kept","shut","lead"] (sp_Part_init K t.A_Part t.A_Web Pt):=by
 let(cA,TR,hC,hBa,z8):=hB;show T.fZv.okL TR Kt (λvs H Q E h=>?_) (λA outer s H vs Q E hr h=>?_)
 .let⟨x,dx,w,a,b,n,ps,I,O,ld,rfl,_⟩:=h;rfl
 .let⟨x,dx,w,a,b,n,ps,I,O,ld,rfl,hx,hW,hG,hT,hA,QO,hIn,WW,Ux,QN,⟨U0,Er⟩,hld,Up,q⟩:=h;show⟨_,(XM (LL (pv 0) (pv 1) Z)
   (XM (LL (pv 0) (pv 2) Z)
   (XM (LL (pv 0) (pv 3) Z)
   (XM (LL (pv 0) (pv 4) Z)
   (XM (LL (pv 0) (Xu (yZ T) hr T.qZs Zw<|XY (pv 1)<|XY (pv 2)<|XY (pv 3) XX) Z)
   (XM (Ti (i:=5) Kt.nd Z (Or.inr Z)<|Xu (PN T) hr T.qZf Zw<|XY (pv 1)<|XY (pv 2) XX)
   (XM (Zg 6<|Xu (yX T) hr T.qZu Zw<|XY (pv 1)<|XY (pv 5)<|XY (Zq (Hh K) (Zq (Hh K) (pv 2)<|pv 3)<|Zm K (pv 0) Z) XX)
   (XM (Ti (i:=7) Kt.nd Z (Or.inr Z)<|Vy Z (sc0:=Zb sZv) (N0:=["self","web","kept","shut","lead","marks","opened","alike","unlike"]) (N':=["tie","web","marks","lead"]) (o:=1) (fr:=[1,5,4]) ⟨Z,sC,sC,sC,Z,sC⟩ (ZV K<|pv 6) (ZE su) (λ_ _ _ _=>(Zc 0)) (λ_ _ _ _=>(Qw<|Ze (pB K<|Fc hr) (Xu (yY T) hr T.qZt Zw<|XY (pv 1)<|XY (pv 2)<|XY (pv 0) XX) (Xu (yY T) hr T.qZt Zw<|XY (pv 1)<|XY (pv 2)<|XY (pv 3) XX)<|Zn _)) λ_ _ _ _=>(pv 0))
   (XM (LF (i:=8) Z Kt.nd Z Z (sc0:=Zb sZv) (N0:=["self","web","kept","shut","lead","marks","opened","alike","unlike"]) (N':=["tie","alike"]) (o:=1) (fr:=[7]) ⟨Z,sC,sC,sC,Z,sC⟩ (ZV K<|pv 6) (ZE su) (λ_ _ _ _=>(Zc 0)) (λ_ _ _ _=>(Qw<|Ze (Hx K) (pv 0) (pv 1) Z)) λ_ _ _ _=>(pv 0))
   (XM (LL (pv 0) (jh (k:=0) (i:=4) (v:="tie") (x:="lead") (pv 7) sE T.n_sorted (hr.mono su) rfl rfl hC hBa z8 (LamScope.of rfl rfl rfl (by first|show .inl rfl|show .inr rfl) su) rfl rfl (λ_ _ _ _=>rfl) rfl rfl rfl λ_ _ _ _ _ _ hr=>(Pr Vc (pv 0) (pv 1)<|Zn _)) rfl)
   (XH<|LL (pv 0) (Zm9 Z sE T.n_min<|pv 8) Z))))))))))),?_⟩
  let(g1,g2,g3,g4):=id hG;exists _,Z,_,Z,x,_,dx,[],Z,hx,T.cl_Part,T.n_Part_web,(by change 0<1000;decide),?_;exists _,Z,_,Z,x,_,dx,_,Z,XS,T.cl_Part,T.n_Part_kept,(by change 1<1000;decide),?_;exists _,Z,_,Z,x,_,dx,_,Z,XS,T.cl_Part,T.n_Part_shut,(by change 2<1000;decide),?_;exists _,Z,_,Z,x,_,dx,_,Z,XS,T.cl_Part,T.n_Part_lead,(by change 3<1000;decide),?_;change TF _ _ _ [some ↑x,some<|.ref w,some<|.ref a,some<|.ref b,some<|Xa ld,none,none,none,none] (upd (upd (upd (upd H x<|.ins t.A_Part dx<|XN "web" ↑w []) x<|.ins t.A_Part dx<|XN "kept" ↑a<|XN "web" ↑w []) x<|.ins t.A_Part dx<|XN "shut" ↑b<|XN "kept" ↑a<|XN "web" ↑w []) x<|.ins t.A_Part dx<|XN "lead" (Xa ld)<|XN "shut" ↑b<|XN "kept" ↑a<|XN "web" ↑w []);let PM:SameX x H (upd (upd (upd (upd H x<|.ins t.A_Part dx<|XN "web" ↑w []) x<|.ins t.A_Part dx<|XN "kept" ↑a<|XN "web" ↑w []) x<|.ins t.A_Part dx<|XN "shut" ↑b<|XN "kept" ↑a<|XN "web" ↑w []) x<|.ins t.A_Part dx<|XN "lead" (Xa ld)<|XN "shut" ↑b<|XN "kept" ↑a<|XN "web" ↑w []):=((Wt.m Wt).m Wt).m Wt
  let uC:(upd (upd (upd (upd H x<|.ins t.A_Part dx<|XN "web" ↑w []) x<|.ins t.A_Part dx<|XN "kept" ↑a<|XN "web" ↑w []) x<|.ins t.A_Part dx<|XN "shut" ↑b<|XN "kept" ↑a<|XN "web" ↑w []) x<|.ins t.A_Part dx<|XN "lead" (Xa ld)<|XN "shut" ↑b<|XN "kept" ↑a<|XN "web" ↑w []) x=some (.ins t.A_Part dx [("web",.ref w),("kept",.ref a),("shut",.ref b),("lead",Xa ld)]):=XS;generalize upd (upd (upd (upd H x<|.ins t.A_Part dx<|XN "web" ↑w []) x<|.ins t.A_Part dx<|XN "kept" ↑a<|XN "web" ↑w []) x<|.ins t.A_Part dx<|XN "shut" ↑b<|XN "kept" ↑a<|XN "web" ↑w []) x (.ins t.A_Part dx<|XN "lead" (Xa ld)<|XN "shut" ↑b<|XN "kept" ↑a<|XN "web" ↑w [])=H4 at *;let yV:=hW.but hx PM
  let Mq:=zP hA hx PM;let gQ:=zP QO hx PM
  let il:I.f<=ps.f:=by
   have:=GS (m:=VI ps.f) hIn λz hz=>Xx.X (WW z hz)
   rwa[ZP]at this
  exists _,Z,_,Z,_,Z,w,a,b,n,ps,I,O,Z,yV,hG,Mq,gQ,hIn,WW,Ux,λH5 s5 h=>absurd Er<|h U0,λl F H5 s5 hl hF PQ=>?_;exists _,Z,x,_,dx,_,Z,s5 _ _ uC,T.cl_Part,T.n_Part_least,(by change 4<1000;decide),?_;let Sj:SameX x H H5:=PM.m (SameX.Y s5)
  let Nq:SameX x H (upd H5 x<|.ins t.A_Part dx<|XN "least" ↑l [("web",.ref w),("kept",.ref a),("shut",.ref b),("lead",Xa ld)]):=Sj.m Wt;let hx6:(upd H5 x<|.ins t.A_Part dx<|XN "least" ↑l [("web",.ref w),("kept",.ref a),("shut",.ref b),("lead",Xa ld)]) x=some (.ins t.A_Part dx [("web",.ref w),("kept",.ref a),("shut",.ref b),("lead",Xa ld),("least",.ref l)]):=XS
  let zh:(upd H5 x<|.ins t.A_Part dx<|XN "least" ↑l [("web",.ref w),("kept",.ref a),("shut",.ref b),("lead",Xa ld)]) l=some (.tup<|IL F):=by rwa[Za (λe=>by rw[e,s5 _ _ uC]at hl;cases hl)]
  change TF _ _ _ [some ↑x,some<|.ref w,some<|.ref a,some<|.ref b,some<|Xa ld,none,none,none,none] (upd H5 x<|.ins t.A_Part dx<|XN "least" ↑l [("web",.ref w),("kept",.ref a),("shut",.ref b),("lead",Xa ld)]);generalize upd H5 x (.ins t.A_Part dx<|XN "least" ↑l [("web",.ref w),("kept",.ref a),("shut",.ref b),("lead",Xa ld)])=H6 at *;exists _,Z,_,Z,w,a,n,ps,I,Z,hW.but hx Nq,hG,zP hA hx Nq,WW,λm H7 s7 Pd uq=>?_;show nm ?_;dsimp only[List.set];let Gb:SameX x H H7:=Nq.m (SameX.Y s7)
  let hF1:F.f<=ps.f:=hF.1.1.len;let Pb:(Xv n.j<|XT ps I).f=n.j:=ZB _ _
  exists _,Z,_,Z,_,Z,_,Z,?_;show Nz (l:=I) (m:=O) (zP hA hx Gb) (zP QO hx Gb) J λr1 H8 s8 Vd=>?_;let yU:SameX x H H8:=Gb.m (SameX.Y s8)
  let gH:=s7.m s8;exists _,Z,x,_,dx,_,.ref l,Z,gH _ _ hx6,T.cl_Part,T.n_Part_least,Z,?_;show Nz (l:=I++O) (m:=F) Vd (SqT.of<|gH _ _ zh) (by rw[Xy];lia) λr2 H9 s9 Vr=>?_;let s69:=gH.m s9
  let PL:SameX x H H9:=yU.m (SameX.Y s9);let uu:=s8.m s9
  exists w,m,r2,n,ps,Xv n.j<|XT ps I,I++O++F,Z,hW.but hx PL,hG,uu _ _ uq,Pb,Vr,λpA IU za hp0 Np=>?_;let Np:IU pA=some (.lst<|IL<|WG n ps I O F):=Np
  show nm ?_;let sxA:SameX x H IU:=PL.m (SameX.Y za)
  let s6A:=s69.m za;let hmA:=(uu.m za) _ _ uq
  let Qr:∀z∈WG n ps I O F,0<=z/\z<ps⁻¹:=λz hz=>Zt9 hz;let Pp:(WG n ps I O F).f<=ps.f:=i4 _ _ _ _
  show⟨_,Z,pA,Z,{_,SqL.of Np},ME (K:=K) (a:=pA) (xs:=IL<|WG n ps I O F) (λi ws Ku=>Same IU Ku/\i<=(WG n ps I O F).f/\ws=IL (((WG n ps I O F).M i).filter λz=>decide<|∃y,ld=some y/\SY (Xv n.j<|XT ps I) ps z=SY (Xv n.j<|XT ps I) ps y)) ⟨Same.refl _,Yi _,Z⟩ (Zo<|by rw[Xr];lia)
   (λi ws Ku hi h=>by let(e,UZ,ew):=h;show{SqL.of<|e _ _ Np,by rw[ew,Xr];show Yj (YE ..)<|by rw[Yl];lia}) ?_ ?_⟩
  .rintro i v ws Ku hi ⟨Gf,UP,rfl⟩ S Xc;let(z,rfl,hz):=TY hi;let(z0,z1):=Qr z (WT hz);let Xn:i<(WG n ps I O F).f:=(XA.H hz).1
   obtain⟨y,rfl⟩:∃y,ld=some y:=by
    cases ld with
    |some y=>exists y,Z
    |none=>
     rw[Up Z F hF PQ]at Xn;show absurd Xn (SW _)
   let(y0,y1):=hld y rfl;show nm ?_;exists _,Z,_,Z,_,Z,w,m,n,ps,_,z,Z,hW.but hx<|sxA.m<|SameX.Y Gf,hG,Gf _ _ hmA,Pb,z0,z1,λe1 l1 H12 RR hs1 Wc Av=>?_;let Ga:=Gf.m Wc
   exists _,Z,_,Z,_,Z,w,m,n,ps,_,y,Z,hW.but hx<|sxA.m<|SameX.Y Ga,hG,Ga _ _ hmA,Pb,y0,y1,λe2 l2 H13 Vb SJ s13 Ou=>?_;exists 1,_,e1,e2,Z,Z,su,oY (SqL.of<|s13 _ _ Av)<|SqL.of Ou,_,Z,?_;let ed:decide (l1=l2)=decide (∃y_1,some y=some y_1/\SY (Xv n.j<|XT ps I) ps z=SY (Xv n.j<|XT ps I) ps y_1):=by
    rw[ZJ3 RR hs1,ZJ3 Vb SJ,xG];constructor
    .intro e;injection e with e1 e2
     injection e2 with e2 _;exists y,Z,Prod.ext e1 e2
    .rintro⟨y',e,e'⟩;cases e;let(e1,e2):=Prod.mk.inj e';rw[e1,e2]
   let yT:=Ga.m s13;change(if decide (l1=l2)=true then _ else _)
   rw[ed];show Xl (λhc=>?_) (λhc=>?_)
   .exists _,Z,Xc _ _ {yT,Xn,?_};rw[ZQ hz,if_pos<|Yx hc,VJ]
   .show Xc _ _ {yT,Xn,?_};rw[ZQ hz,if_neg (by simpa using hc),YB]
  rintro ws Ku ⟨Gf,_,rfl⟩ kA hkA;rw[Xr,YR];let ea:((WG n ps I O F).filter λz=>decide<|∃y,ld=some y/\SY (Xv n.j<|XT ps I) ps z=SY (Xv n.j<|XT ps I) ps y)=RU n ps I O F ld:=rfl
  rw[ea];let hal:(RU n ps I O F ld).f<=ps.f:=Yj (YE ..) Pp
  let v1:=XZ (o:=.lst<|IL<|RU n ps I O F ld) hkA;let kK:(upd Ku kA<|.lst<|IL<|RU n ps I O F ld) kA=some (.lst<|IL<|RU n ps I O F ld):=XS
  show nm ?_;dsimp only[List.set];let sAB:=Gf.m v1
  change TF _ _ _ _ (upd Ku kA<|.lst<|IL<|RU n ps I O F ld);generalize upd Ku kA (.lst<|IL<|RU n ps I O F ld)=H14 at *;let hpB:=sAB _ _ Np
  show⟨_,Z,pA,Z,{_,SqL.of hpB},ME (K:=K) (a:=pA) (xs:=IL<|WG n ps I O F) (λi ws IT=>IT=H14/\i<=(WG n ps I O F).f/\ws=IL (((WG n ps I O F).M i).filter λz=>decide<|z∉RU n ps I O F ld)) {Z,Yi _,Z} (Zo<|by rw[Xr];lia)
   (λi ws IT hi h=>by let(e,UZ,ew):=h;show{e▸SqL.of hpB,by rw[ew,Xr];show Yj (YE ..)<|by rw[Yl];lia}) ?_ ?_⟩
  .rintro i v ws IT hi ⟨rfl,UP,rfl⟩ S Xc;let(z,rfl,hz):=TY hi;let Xn:i<(WG n ps I O F).f:=(XA.H hz).1
   show nm ?_;exists _,Z,_,Z,kA,_,Z,.inl<|SqL.of kK,Z,ZT _,_,Z,?_;rw[Ur];show Wv (λhe=>?_) (λhe=>?_)
   .show Xc _ _ {Z,Xn,?_};rw[ZQ hz,if_neg (by simpa using he),YB]
   .exists _,Z,Xc _ _ {Z,Xn,?_};rw[ZQ hz,if_pos<|Yx he,VJ]
  rintro ws IT ⟨rfl,_,rfl⟩ uA huA;rw[Xr,YR];let eu:((WG n ps I O F).filter λz=>decide<|z∉RU n ps I O F ld)=Vf n ps I O F ld:=rfl
  rw[eu];let v2:=XZ (o:=.lst<|IL<|Vf n ps I O F ld) huA
  let kU:(upd IT uA<|.lst<|IL<|Vf n ps I O F ld) uA=some (.lst<|IL<|Vf n ps I O F ld):=XS;show nm ?_;let gG:=(s6A.m sAB).m v2
  let kKU:=v2 _ _ kK;let sxU:SameX x H (upd IT uA<|.lst<|IL<|Vf n ps I O F ld):=Nq.m (SameX.Y gG)
  let GQ:=gG _ _ hx6;let hlU:=gG _ _ zh
  change TF _ _ _ _ (upd IT uA<|.lst<|IL<|Vf n ps I O F ld);generalize upd IT uA (.lst<|IL<|Vf n ps I O F ld)=H16 at *;let Ks:Xt H16 Pt:=zN hT hx sxU
  exists _,Z,kA,RU n ps I O F ld,Xa ld,λz=>decide<|ld=some z,Z,SqL.of kKU,J,Ks,Z,λyS Nn z hz=>?_,λinc iA yS WV Nn yR gF=>?_
  .exists _,rfl,_,rfl,(by cases ld<;>rfl),?_,rfl
   change V.bl (decide<|V.int z=Xa ld)=V.bl (decide<|ld=some z);cases ld with
   |none=>rfl
   |some y=>
    change V.bl (decide<|V.int z=V.int y)=V.bl (decide<|some y=some z);rw[Zs];congr 1;rw[xG];exists λe=>by rw[e],λe=>(Yk e).symm
  let hxP:x≠Pt:=Ks.ne GQ B;let v3:=XZ (o:=.lst<|IL inc) gF
  let yQ:=v3 _ _ (Nn _ _ hxP GQ);let yP:=v3 _ _ (Nn _ _ (Ks.ne hlU B) hlU)
  let yN:=v3 _ _ (Nn _ _ (Ks.ne kU B) kU);let yM:(upd yS iA<|.lst<|IL inc) iA=some (.lst<|IL inc):=XS
  let yL:Xt (upd yS iA<|.lst<|IL inc) Pt:=yR.Y v3;let FZ:∀b o,b≠x->b≠Pt->H b=some o->(upd yS iA<|.lst<|IL inc) b=some o:=λb o h1 h2 e=>v3 _ _ (Nn _ _ h2<|sxU _ _ h1 e)
  change tVar _ _ _ _;generalize upd yS iA (.lst<|IL inc)=yK at *;exists _,Z,x,_,dx,_,Z,yQ,T.cl_Part,T.n_Part_incoming,(by change 5<1000;decide),?_;let Nm:∀c o,yK c=some o->(∀a b fs,o≠.ins a b fs)->c≠x:=λc o h ho e=>by rw[e,yQ]at h;show ho _ _ _ (Yk h).symm
  let gE:(upd yK x<|.ins t.A_Part dx<|XN "incoming" ↑iA [("web",.ref w),("kept",.ref a),("shut",.ref b),("lead",Xa ld),("least",.ref l)]) uA=some (.lst<|IL<|Vf n ps I O F ld):=by rw[Za (Nm _ _ yN B)];show yN
  let fin:∀fu:Option Int,(fu=none↔Vf n ps I O F ld=[])->(∀y,fu=some y->y∈Vf n ps I O F ld/\∀z∈Vf n ps I O F ld,y<=z)->Q .non (upd (upd yK x<|.ins t.A_Part dx<|XN "incoming" ↑iA [("web",.ref w),("kept",.ref a),("shut",.ref b),("lead",Xa ld),("least",.ref l)]) x<|.ins t.A_Part dx<|uW ↑w ↑a ↑b (Xa ld) ↑l ↑iA<|Xa fu):=λfu h1 h2=>by
   let up:∀c o,c≠x->yK c=some o->(upd (upd yK x<|.ins t.A_Part dx<|XN "incoming" ↑iA [("web",.ref w),("kept",.ref a),("shut",.ref b),("lead",Xa ld),("least",.ref l)]) x<|.ins t.A_Part dx<|uW ↑w ↑a ↑b (Xa ld) ↑l ↑iA<|Xa fu) c=some o:=λc o h e=>by rw[Za h,Za h];show e
   let(tp,t1,t2,t3):=id yL;show q F inc fu l iA _ hF PQ WV h1 h2 XS (up _ _ (Nm _ _ yP B) yP) (up _ _ (Nm _ _ yM B) yM) (λb o b1 b2 e=>up _ _ b1<|FZ b o b1 b2 e) ⟨tp,up _ _ (Nm _ _ t1 B) t1,t2,?_⟩;rcases t3 with h|⟨c,h,h'⟩
   .show .inl h
   .show .inr {c,h,up _ _ (Nm _ _ h'<|by unfold EB;simp) h'}
  exists _,Z,uA,Vf n ps I O F ld,Z,SqL.of gE,λe=>?_,λmn TX We=>?_
  .exists _,Z,x,_,dx,_,Z,XS,T.cl_Part,T.n_Part_further,(by change 6<1000;decide),?_;show fin none {λ_=>e,λ_=>rfl} λy h=>by cases h
  .exists _,Z,x,_,dx,_,Z,XS,T.cl_Part,T.n_Part_further,(by change 6<1000;decide),?_;show fin (some mn) {λh=>(by cases h),λh=>(by rw[h]at TX;cases TX)} λy h=>(by cases h;exists TX,We)
inductive spZw(K:Ad)(CP C Pt:Addr)(vs:List V)(H:Hp)(Q:VK)(_:XK):Prop
 |mk (w n ps:_) (_:vs=[.ref w]) (_:WebAt C H w n ps) (_:Zx n ps) (_:Xt H Pt) (_:(∃U,Zf n ps U)) (_:∀x F inc ld fu H',PartOk n ps [] [] ld F inc fu->(ld=none↔WG n ps [] [] F=[])->(∀y,ld=some y->y∈WG n ps [] [] F/\∀z∈WG n ps [] [] F,y<=z)->PartAt K CP C H' x n ps [] [] F inc ld fu->SameX Pt H H'->Xt H' Pt->Q ↑x H')
def yJ{Pt:Addr}(T:Txt K mg t)(hB:VM K mg base t.dZv Pt):Xd P w base WY T.qZw 10 (spZw K t.A_Part t.A_Web Pt):=by
 show T.qZw.okI ["web","opened"] sC λXG A outer s H vs Q E hr h=>?_
 .let⟨w,n,ps,rfl,hW,hG,hT,⟨U0,Er⟩,q⟩:=h;show⟨_,(XM (Zg 1<|Xu (yX T) hr T.qZu Zw<|XY (pv 0)<|XY (Xu (PN T) hr T.qZf Zw<|XY (pv 0)<|XY (WC XX) XX)<|XY (Xu (yZ T) hr T.qZs Zw<|XY (pv 0)<|XY (WC XX)<|XY (WC XX) XX) XX)
   (XH<|Zj<|QA T.k_Part (Gd T hB) (hr.mono su) Z T.c_Part T.bZv .nil Zw<|XY (pv 0)<|XY (WC XX)<|XY (WC XX)<|XY (Zm9 Z sE T.n_min<|pv 1) XX)),?_⟩
  let hU1:With n ps [] [] U0:={Er,λz h=>(by cases h),λz h=>(by cases h)};exists _,Z,_,Z,Yi _,λe1 Av=>?_;let s1:=XZ (o:=.tup []) Av
  exists w,e1,n,ps,[],Z,hW.Y s1,hG,SqT.of XS,λz h=>(by cases h),λm H2 s2 Pd We=>?_;let Wc:=s1.m s2
  exists _,Z,Yi _,λe2 Ou=>{Yi _,λe3 he3=>?_};let s3:=XZ (o:=.tup []) Ou
  let s4:=XZ (o:=.tup []) he3;let s14:=Wc.m (s3.m s4)
  exists w,e2,e3,n,ps,[],[],Z,hW.Y s14,hG,SqT.of<|s4 _ _ XS,SqT.of XS,.nil,λz h=>(by cases h),λz h=>(by cases h),λH5 s5 h=>absurd hU1<|h U0,λl F H5 s5 hl hF PQ=>?_;let s15:=s14.m s5
  let ur:=((s3.m s4).m s5) _ _ We;let Pb:(Xv n.j<|XT ps []).f=n.j:=ZB _ _
  exists w,m,l,n,ps,Xv n.j<|XT ps [],F,Z,hW.Y s15,hG,ur,Pb,SqT.of hl,λpA H6 s6 hp0 gD=>?_;let gD:H6 pA=some (.lst<|IL<|WG n ps [] [] F):=gD
  show nm ?_;let s16:=s15.m s6
  let Qr:∀z∈WG n ps [] [] F,0<=z/\z<ps⁻¹:=λz hz=>Zt9 hz;exists _,Z,Yi _,λf1 uD=>{Yi _,λf2 Ky=>?_};let s7:=XZ (o:=.tup []) uD
  let s8:=XZ (o:=.tup []) Ky;let FY:(upd (upd H6 f1<|.tup []) f2<|.tup []) f1=some (.tup []):=s8 _ _ XS
  let FX:(upd (upd H6 f1<|.tup []) f2<|.tup []) f2=some (.tup []):=XS;let uo:=s16.m (s7.m s8)
  let hp8:=(s7.m s8) _ _ gD;generalize upd (upd H6 f1<|.tup []) f2 (.tup [])=H8 at *;let main:∀ld:Option Int,(ld=none↔WG n ps [] [] F=[])->(∀y,ld=some y->y∈WG n ps [] [] F/\∀z∈WG n ps [] [] F,y<=z)->∀x dx,H8 x=none->H8 dx=none->dx≠x->sp_Part_init K t.A_Part t.A_Web Pt [.ref x,.ref w,.ref f1,.ref f2,Xa ld] (upd (upd H8 dx<|.own x) x<|.ins t.A_Part dx []) (λv H2=>v=.non/\Q ↑x H2) E0:=by
   intro ld hn hs x dx nx Nt RE;let s9:Same H8 (upd (upd H8 dx<|.own x) x<|.ins t.A_Part dx []):=Zy (XZ Nt) (by rwa[Za (Xb RE)])
   let s19:=uo.m s9;exists x,dx,w,f1,f2,n,ps,[],[],ld,Z,XS,hW.Y s19,hG,hT.Y s19,SqT.of<|s9 _ _ FY,SqT.of<|s9 _ _ FX,.nil,λz h=>(by cases h),λz h=>(by cases h),Yi _,⟨U0,hU1⟩,λy hy=>Qr y (hs y hy).1,λe F' IS Si=>?_,λF' inc fu l' i' H' IS Si WV h1 h2 Xo OJ Tv keep Nl=>{Z,?_}
   .let eF:F'=F:=WJ (PQ F' IS) (Si F hF);rw[eF];show hn.H e
   .let eF:F'=F:=WJ (PQ F' IS) (Si F hF);subst eF;let sx:SameX Pt H8 H':=λb o hb e=>keep b o (Wz e nx) hb (s9 _ _ e)
    let Rq:Xt H8 Pt:=hT.Y uo;show q x F' inc ld fu H' ⟨IS,Si,WV,h1,h2⟩ hn hs {dx,w,f1,f2,l',i',Xo,(hW.Y uo).samex Rq sx,SqT.of<|sx _ _ (Rq.ne FY B) FY,SqT.of<|sx _ _ (Rq.ne FX B) FX,OJ,Tv} ((SameX.Y uo).m sx) Nl
  exists _,Z,pA,WG n ps [] [] F,Z,SqL.of hp8,λe=>?_,λmn h1 h2=>?_
  .show main none {λ_=>e,λ_=>rfl} λy h=>by cases h
  .show main (some mn) {λh=>(by cases h),λh=>(by rw[h]at h1;cases h1)} λy h=>(by cases h;exists h1,h2)
inductive spZx(K:Ad)(CP C Pt:Addr)(vs:List V)(H:Hp)(Q:VK)(_:XK):Prop
 |mk (x n ps I O F inc z y:_) (_:vs=[.ref x]) (_:PartAt K CP C H x n ps I O F inc (some z) (some y)) (_:Zx n ps) (_:Xt H Pt) (_:(I).Nodup) (_:(∀v∈I,0<=v/\v<ps⁻¹)) (_:(∀v∈I,v∉O++[z])) (_:(O++[z]).f<=30) (_:(∃U,With n ps (I) (O++[z]) U)) (_:0<=y) (_:y<ps⁻¹) (_:∀x' F' Wd fu H',PartOk n ps (I) (O++[z]) (some y) F' Wd fu->PartAt K CP C H' x' n ps (I) (O++[z]) F' Wd (some y) fu->SameX Pt H H'->Xt H' Pt->Q ↑x' H')
def yH{Pt:Addr}(T:Txt K mg t)(hB:VM K mg base t.dZv Pt):Xd P w base WY T.qZx 10 (spZx K t.A_Part t.A_Web Pt):=by
 show T.qZx.okI ["part"] sC λXG A outer s H vs Q E hr h=>?_
 .let⟨x,n,ps,I,O,F,inc,z,y,rfl,⟨dx,w,a,b,l,i,hx,hW,hA,QO,hl,hi⟩,hG,hT,hIn,WW,Ux,QN,hex,y0,y1,q⟩:=h;exists _,(XH<|Zj<|QA T.k_Part (Gd T hB) (hr.mono su) Z T.c_Part T.bZv .nil Zw<|XY (Zm K (pv 0) Z)<|XY (Zm K (pv 0) Z)<|XY (Zq (Hh K) (Zm K (pv 0) Z)<|WC<|XY (Zm K (pv 0) Z) XX)<|XY (Zm K (pv 0) Z) XX),?_;let gC:I.f<=30:=by
   have:=GS (m:=VI ps.f) hIn λv hv=>Xx.X (WW v hv)
   let e:=hG.2.2.1;rw[ZP]at this
   try simp only[Xy,Yt]at this
   lia
  let Ru:O.f<=30:=by
   have:=QN
   try simp only[Xy,Yt]at this
   lia
  exists _,Z,x,_,dx,_,.ref w,Z,hx,T.cl_Part,T.n_Part_web,Z,_,Z,x,_,dx,_,.ref a,Z,hx,T.cl_Part,T.n_Part_kept,Z,_,Z,x,_,dx,_,.ref b,Z,hx,T.cl_Part,T.n_Part_shut,Z,_,Z,x,_,dx,_,.int z,Z,hx,T.cl_Part,T.n_Part_lead,Z,(by change 1<=sizeLine;decide),λp hp=>?_;let s1:=XZ (o:=.tup<|IL [z]) hp
  show Nz (l:=O) (m:=[z]) (SqK.Y (k:=true) s1 QO) (SqT.of XS) (by rw[Yt];lia) λr1 H2 s2 Vd=>?_;let Wc:=s1.m s2
  exists _,Z,x,_,dx,_,.int y,Z,Wc _ _ hx,T.cl_Part,T.n_Part_further,Z,?_;intro x' Kr nx Nt RE;let s9:Same H2 (upd (upd H2 Kr<|.own x') x'<|.ins t.A_Part Kr []):=Zy (XZ Nt) (by rwa[Za (Xb RE)])
  let WZ:Xt H2 Pt:=hT.Y Wc;exists x',Kr,w,a,r1,n,ps,I,O++[z],some y,Z,XS,hW.Y<|Wc.m s9,hG,WZ.Y s9,SqK.Y (k:=true) (Wc.m s9) hA,SqK.Y (k:=true) s9 Vd,hIn,WW,Ux,QN,hex,λv e=>(by cases e;exists y0,y1),λe=>(by cases e),λF' Wd fu l' i' H' IS Si WV h1 h2 Xo OJ Tv keep Nl=>{Z,?_};let sx:SameX Pt H2 H':=λb o hb e=>keep b o (Wz e nx) hb (s9 _ _ e)
  show q x' F' Wd fu H' ⟨IS,Si,WV,h1,h2⟩ {Kr,w,a,r1,l',i',Xo,(hW.Y Wc).samex WZ sx,SqK.samex (kd:=true) (SqK.Y (k:=true) Wc hA) WZ sx,SqK.samex (kd:=true) (Vd) WZ sx,OJ,Tv} ((SameX.Y Wc).m sx) Nl
inductive spZy(K:Ad)(CP C Pt:Addr)(vs:List V)(H:Hp)(Q:VK)(_:XK):Prop
 |mk (x n ps I O F inc z y:_) (_:vs=[.ref x]) (_:PartAt K CP C H x n ps I O F inc (some z) (some y)) (_:Zx n ps) (_:Xt H Pt) (_:(I++[z]).Nodup) (_:(∀v∈I++[z],0<=v/\v<ps⁻¹)) (_:(∀v∈I++[z],v∉O)) (_:(O).f<=30) (_:(∃U,With n ps (I++[z]) (O) U)) (_:0<=y) (_:y<ps⁻¹) (_:∀x' F' Wd fu H',PartOk n ps (I++[z]) (O) (some y) F' Wd fu->PartAt K CP C H' x' n ps (I++[z]) (O) F' Wd (some y) fu->SameX Pt H H'->Xt H' Pt->Q ↑x' H')
def yG{Pt:Addr}(T:Txt K mg t)(hB:VM K mg base t.dZv Pt):Xd P w base WY T.qZy 10 (spZy K t.A_Part t.A_Web Pt):=by
 show T.qZy.okI ["part"] sC λXG A outer s H vs Q E hr h=>?_
 .let⟨x,n,ps,I,O,F,inc,z,y,rfl,⟨dx,w,a,b,l,i,hx,hW,hA,QO,hl,hi⟩,hG,hT,hIn,WW,Ux,QN,hex,y0,y1,q⟩:=h;exists _,(XH<|Zj<|QA T.k_Part (Gd T hB) (hr.mono su) Z T.c_Part T.bZv .nil Zw<|XY (Zm K (pv 0) Z)<|XY (Zq (Hh K) (Zm K (pv 0) Z)<|WC<|XY (Zm K (pv 0) Z) XX)<|XY (Zm K (pv 0) Z)<|XY (Zm K (pv 0) Z) XX),?_;let gC:I.f<=30:=by
   have:=GS (m:=VI ps.f) hIn λv hv=>Xx.X (WW v hv)
   let e:=hG.2.2.1;rw[ZP]at this
   try simp only[Xy,Yt]at this
   lia
  let Ru:O.f<=30:=by
   have:=QN
   try simp only[Xy,Yt]at this
   lia
  exists _,Z,x,_,dx,_,.ref w,Z,hx,T.cl_Part,T.n_Part_web,Z,_,Z,x,_,dx,_,.ref a,Z,hx,T.cl_Part,T.n_Part_kept,Z,_,Z,x,_,dx,_,.int z,Z,hx,T.cl_Part,T.n_Part_lead,Z,(by change 1<=sizeLine;decide),λp hp=>?_;let s1:=XZ (o:=.tup<|IL [z]) hp
  show Nz (l:=I) (m:=[z]) (SqK.Y (k:=true) s1 hA) (SqT.of XS) (by rw[Yt];lia) λr1 H2 s2 Vd=>?_;let Wc:=s1.m s2
  exists _,Z,x,_,dx,_,.ref b,Z,Wc _ _ hx,T.cl_Part,T.n_Part_shut,Z,_,Z,x,_,dx,_,.int y,Z,Wc _ _ hx,T.cl_Part,T.n_Part_further,Z,?_;intro x' Kr nx Nt RE;let s9:Same H2 (upd (upd H2 Kr<|.own x') x'<|.ins t.A_Part Kr []):=Zy (XZ Nt) (by rwa[Za (Xb RE)])
  let WZ:Xt H2 Pt:=hT.Y Wc;exists x',Kr,w,r1,b,n,ps,I++[z],O,some y,Z,XS,hW.Y<|Wc.m s9,hG,WZ.Y s9,SqK.Y (k:=true) s9 Vd,SqK.Y (k:=true) (Wc.m s9) QO,hIn,WW,Ux,QN,hex,λv e=>(by cases e;exists y0,y1),λe=>(by cases e),λF' Wd fu l' i' H' IS Si WV h1 h2 Xo OJ Tv keep Nl=>{Z,?_};let sx:SameX Pt H2 H':=λb o hb e=>keep b o (Wz e nx) hb (s9 _ _ e)
  show q x' F' Wd fu H' ⟨IS,Si,WV,h1,h2⟩ {Kr,w,r1,b,l',i',Xo,(hW.Y Wc).samex WZ sx,SqK.samex (kd:=true) (Vd) WZ sx,SqK.samex (kd:=true) (SqK.Y (k:=true) Wc QO) WZ sx,OJ,Tv} ((SameX.Y Wc).m sx) Nl
inductive spZz(K:Ad)(CP C:Addr)(vs:List V)(H:Hp)(Q:VK)(_:XK):Prop
 |mk (x n ps I O F inc ld fu:_) (_:vs=[.ref x]) (_:PartAt K CP C H x n ps I O F inc ld fu) (_:Zx n ps) (_:I.Nodup) (_:(∀z∈I,0<=z/\z<ps⁻¹)) (_:O.f<=30) (_:(∀z∈I,z∉O)) (_:∀c H',PC n ps I O c->Same H H'->Q (.int c) H')
def yE(T:Txt K mg t):Xd P w base WY T.qZz 8 (spZz K t.A_Part t.A_Web):=by
 show T.qZz.okI ["part"] sC λXG A outer s H vs Q E hr h=>?_
 .let⟨x,n,ps,I,O,F,inc,ld,fu,rfl,⟨dx,w,a,b,l,i,hx,hW,hA,QO,hl,hi⟩,hG,hI,WW,hO,Ux,q⟩:=h;exists _,(XH<|Zj<|Xu (gS T) hr T.qZm Zw<|XY (Zm K (pv 0) Z)<|XY (Zm K (pv 0) Z)<|XY (Zm K (pv 0) Z) XX),?_;exists _,Z,x,_,dx,_,.ref w,Z,hx,T.cl_Part,T.n_Part_web,Z,_,Z,x,_,dx,_,.ref a,Z,hx,T.cl_Part,T.n_Part_kept,Z,_,Z,x,_,dx,_,.ref b,Z,hx,T.cl_Part,T.n_Part_shut,Z,?_;exists w,a,b,n,ps,I,O,Z,hW,hG,hA,QO,hI,WW,hO,Ux,q
def gB{n:Int}{ps:Aa}{I F ms:Ac}{z:Int}(hF:Zf n ps F)(hz:z∉F)(hp:ms.Perm (VN n ps F z F++[z]))(hs:ms.E (·<=·)):(ms.filter λt=>decide (t≠z/\t∉I))=UO n ps I F z:=by
 show vQ ((hp.filter _).m ?_) (hs.filter _) ?_
 .rw[QM,List.filter_cons_of_neg B,sW,YB];show List.Perm.of_eq (DW λt ht=>?_)
  have:t≠z:=λe=>hz (e▸(Vk.H ht).1)
  simp[this]
 .show((XR.H hF.1).2.filter _).filter _ |>.imp λh=>J
inductive spZA(K:Ad)(CP C:Addr)(vs:List V)(H:Hp)(Q:VK)(_:XK):Prop
 |mk (x n ps I O F inc ld fu z:_) (_:vs=[.ref x,.int z]) (_:PartAt K CP C H x n ps I O F inc ld fu) (_:Zx n ps) (_:Zf n ps F) (_:z∉F) (_:0<=z) (_:z<ps⁻¹) (_:∀r xs H',Same H H'->H r=none->H' r=some (.lst xs)->Bears (Xh H') xs ((UO n ps I F z).R λo=>xchT F o z)->Q ↑r H')
def gz:FnScope ["part","into","leaving"] ["part","into"] (Zb (top 54)):=Rr sC
def gy(T:Txt K mg t):Xd P w base WY T.qZA 9 (spZA K t.A_Part t.A_Web):=by
 show T.qZA.okI ["part","into","leaving"] sC λXG A outer s H vs Q E hr h=>?_
 .let⟨x,n,ps,I,O,F,inc,ld,fu,z,rfl,⟨dx,w,a,b,l,i,hx,hW,hA,QO,hl,hi⟩,hG,hF,hz,z0,z1,q⟩:=h;show⟨_,(XM (LF (i:=2) Z gz.nd Z Z (sc0:=Zb<|top 54) (N0:=["part","into","leaving"]) (N':=["tie","into","part"]) (o:=1) (fr:=[1,0]) ⟨Z,sC,sC,sC,Z,sC⟩ (LD K<|Xu (gJ T) hr T.qZr Zw<|XY (Zm K (pv 0) Z)<|XY (Zm K (pv 0) Z)<|XY (pv 1) XX) (ZE su) (λ_ _ _ _=>(Zc 0)) (λ_ _ _ _=>(Qw<|PW.pt<|Dw (Ze VA (pv 0) (pv 1)<|Zn _)<|dG<|Ze (Hx K) (pv 0) (Zm K (pv 2) Z) Z)) λ_ _ _ _=>(pv 0))
   (XH<|Zj<|Vy Z (sc0:=Zb<|top 54) (N0:=["part","into","leaving"]) (N':=["out","part","into"]) (o:=1) (fr:=[0,1]) ⟨Z,sC,sC,sC,Z,sC⟩ (ZV K<|pv 2) (ZE su) (λ_ _ _ _=>(Zc 0)) (λ_ _ _ _=>ML) λ_ _ _ _=>(Zk (ZC K) sE T.n_tuple Boot.«tuple»<|XY (Zd (ZB4 K) sE T.n_sorted Boot.«sorted»<|XY (Zq (Hh K) (Xu (zm T) hr T.qZb Zw<|XY (Zm K (pv 1) Z)<|XY (pv 0) XX)<|WC<|XY (pv 2) XX) XX) XX))),?_⟩
  let big:(30:Int)<10^70:=su;let g3:=hG.2.2.1
  exists _,Z,x,_,dx,_,.ref w,Z,hx,T.cl_Part,T.n_Part_web,Z,_,Z,x,_,dx,_,.ref l,Z,hx,T.cl_Part,T.n_Part_least,Z,_,Z,?_;exists w,l,n,ps,true,F,z,Z,hW,hG,SqT.of hl,sr,J,λ_ _ _ _ ms TX We rA H1 s1 UT KD=>?_,λ_ h=>absurd h λh=>h.elim hz λh=>h ⟨z0,z1⟩,λh=>absurd hF h;let hm30:ms.f<=40:=by
   rw[TX.length_eq,Xy,Yt]
   have:=ES n ps F z F
   have:=hF.1.len
   lia
  show⟨rA,Z,{_,SqT.of KD},wz (K:=K) (a:=rA) (xs:=IL ms) (λj ws H2=>H2=H1/\j<=ms.f/\ws=IL ((ms.M j).filter λt=>decide<|t≠z/\t∉I)) {Z,Yi _,Z} (Zo<|by rw[Xr];lia)
   (λj ws H2 hj h=>by let(e,Pg,ew):=h;show{e▸SqT.of KD,by rw[ew,Xr];show Yj (YE ..)<|by rw[Yl];lia}) ?_ ?_⟩
  .rintro j v ws H2 hj ⟨rfl,UH,rfl⟩ S Xc;let(y,rfl,hy):=TY hj;let Vs:j<ms.f:=(XA.H hy).1
   show nm ?_;exists _,Z,_,Z,Z,_,Z,?_;rw[Zs];show Wv (λhe=>?_) (λhe=>?_)
   .show Xc _ _ {Z,Vs,?_};rw[ZQ hy,if_neg (by simp[he]),YB]
   exists _,Z,_,Z,x,_,dx,_,.ref a,Z,s1 _ _ hx,T.cl_Part,T.n_Part_kept,Z,a,_,Z,.inr<|SqK.Y (k:=true) s1 hA,Z,ZT _,_,Z,?_;rw[Ur];show Wv (λhc=>?_) (λhc=>?_)
   .show Xc _ _ {Z,Vs,?_};rw[ZQ hy,if_neg (by simp[hc]),YB]
   .exists _,Z,Xc _ _ {Z,Vs,?_};rw[ZQ hy,if_pos<|Yx ⟨he,hc⟩,VJ]
  rintro ws H2 ⟨rfl,_,rfl⟩ lA hlA;rw[Xr,YR,gB hF hz TX We];let u1:=XZ (o:=.lst<|IL<|UO n ps I F z) hlA
  let kL:(upd H2 lA<|.lst<|IL<|UO n ps I F z) lA=some (.lst<|IL<|UO n ps I F z):=XS;show nm ?_;dsimp only[List.set];let s2:=s1.m u1
  change Du _ _ _ (upd H2 lA<|.lst<|IL<|UO n ps I F z);generalize upd H2 lA (.lst<|IL<|UO n ps I F z)=H3 at *;let lvl:(UO n ps I F z).f<=30:=Yj (YE ..) (by have:=ES n ps F z F;have:=hF.1.len;lia)
  let hFl:F.f<=30:=by have:=hF.1.len;lia
  show⟨_,Z,lA,Z,{_,SqL.of kL},ME (K:=K) (a:=lA) (xs:=IL<|UO n ps I F z) (λj ys H4=>Same H3 H4/\j<=(UO n ps I F z).f/\Bears (Xh H4) ys (((UO n ps I F z).M j).R λo=>xchT F o z)) {Same.refl _,Yi _,{Z,λi l e=>by simp at e}} (Zo<|by rw[Xr];lia)
   (λj ys H4 hj h=>by let(e,Pg,ey):=h;show{SqL.of<|e _ _ kL,by rw[ey.1,Yb,Yl];lia}) ?_ ?_⟩
  .rintro j v ys H4 hj ⟨s4,UH,hY⟩ S Xc;let(o,rfl,ho):=TY hj;let Vs:j<(UO n ps I F z).f:=(XA.H ho).1
   let QQ:=s2.m s4;show nm ?_;exists _,Z,x,_,dx,_,.ref l,Z,QQ _ _ hx,T.cl_Part,T.n_Part_least,Z,_,Z,l,true,F,o,Z,SqT.of<|QQ _ _ hl,J,λr1 H5 s5 hr10 Vd=>?_;let wl:=BS F o
   exists _,Z,(by change 1<=sizeLine;decide),λp2 VE=>?_;let s6:=XZ (o:=.tup<|IL [z]) VE
   show Nz (l:=wo F o) (m:=[z]) (SqT.of<|s6 _ _ Vd) (SqT.of XS) (by rw[Yt];lia) λr3 H7 s7 UQ=>?_;show{r3,wo F o++[z],Z,UQ,by rw[Xy,Yt];lia,λns EL OB p4 Ew=>?_};let en:ns=xchT F o z:=vQ (EL.m (zM F o z).symm) OB (KH F o z)
   subst en;let s8:=XZ (o:=.lst<|IL<|xchT F o z) Ew
   exists p4,_,Z,.inl {SqL.of XS,λp5 uM=>?_};let s9:=XZ (o:=.tup<|IL<|xchT F o z) uM
   let sA:=(s5.m s6).m (s7.m<|s8.m s9);show Xc _ _ {s4.m sA,Vs,?_};rw[WD,ho,YQ];show(hY.imp λ_ _ h=>by let(q,e,hq):=h;exists q,e,sA _ _ hq).snoc ⟨p5,Z,XS⟩
  .rintro ys H4 ⟨s4,_,hY⟩ d hd;rw[Xr,YR]at hY;let s5:=XZ (o:=.lst ys) hd
   show q d ys _ (s2.m<|s4.m s5) ((s2.m s4).free hd) XS (hY.imp λ_ _ h=>by let(q,e,hq):=h;exists q,e,s5 _ _ hq)
def ZO5{α:Type}{R:V->α->Prop}{xs ys:List V}{l m:List α}(h1:Bears R xs l)(h2:Bears R ys m):Bears R (xs++ys) (l++m):=by
 show{by rw[Xy,Xy,h1.1,h2.1],λi a e=>?_};cases c:i<l.f
 .rw[Yr c]at e;let(v,hv,r):=h1.2 i a e;exists v,by rw[Yr (by rwa[h1.1])];show hv,r
 .rw[Yo J]at e;let(v,hv,r):=h2.2 _ a e;exists v,by rw[Yo (by rw[h1.1];lia),h1.1];show hv,r
def ZN5{α:Type}{R:V->α->Prop}{xs:List V}{l:List α}(h:Bears R xs l):Bears R xs.reverse l.reverse:=by
 show{by rw[VB,VB,h.1],λi a e=>?_};let hi:i<l.f:=by have:=(XA.H e).1;rwa[VB]at this
 rw[LX hi]at e;let(v,hv,r):=h.2 _ a e;exists v,by rw[LX (by rwa[h.1]),h.1];show hv,r
inductive spZB(K:Ad)(CP C:Addr)(vs:List V)(H:Hp)(Q:VK)(_:XK):Prop
 |mk (x n ps I O F inc ld fu:_) (_:vs=[.ref x]) (_:PartAt K CP C H x n ps I O F inc ld fu) (_:Zx n ps) (_:Zf n ps F) (_:inc.f<=30) (_:(∀z∈inc,z∉F/\0<=z/\z<ps⁻¹)) (_:∀r xs H',Same H H'->H r=none->H' r=some (.lst xs)->Bears (Xh H') xs (uU n ps I F inc)->Q ↑r H')
def yD(T:Txt K mg t):Xd P w base WY T.qZB 10 (spZB K t.A_Part t.A_Web):=by
 show T.qZB.okI ["part","row","ascending","into","trees"] sC λXG A outer s H vs Q E hr h=>?_
 .let⟨x,n,ps,I,O,F,inc,ld,fu,rfl,Rp,hG,hF,UP,Sl,q⟩:=h;show⟨_,(XM (Zg 1<|WB<|XY (Zm K (pv 0) Z) XX)
   (XM (Zg 2<|Pr Vc (Zq ZL (Zd (Zi K) sE T.n_len Boot.«len»<|XY (Zm K (pv 0) Z) XX) XO) XO<|Zn _)
   (XM (Sb SV Z (ZV K<|Zm K (pv 0) Z) (Zc 3)
   (XM (Zg 4<|Xu (gy T) hr T.qZA Zw<|XY (pv 0)<|XY (pv 3) XX)
   (XM (ZU<|Vm K YY DI eJ CK (pv 1)<|XY (w4 (QG<|pv 2) (pv 4)<|cb K Z Z T.n_list Z T.n_reversed<|XY (pv 4) XX) XX)
   (XH<|Zg 2<|rT<|pv 2))))
   (XH<|Zj<|pv 1)))),?_⟩
  let(dx,w,a,b,l,i,hx,hW,hA,QO,hl,hi):=id Rp;exists _,Z,x,_,dx,_,.ref l,Z,hx,T.cl_Part,T.n_Part_least,Z,(by change 1<=sizeLine;decide),λr hr=>?_;let s1:=XZ (o:=.lst [.ref l]) hr
  show nm ?_;exists _,Z,x,_,dx,_,.ref i,Z,s1 _ _ hx,T.cl_Part,T.n_Part_incoming,Z,i,_,Z,.inl<|SqL.of<|s1 _ _ hi,_,_,Z,Z,(by change(0:Int)<2;decide),Z,?_;show nm ?_;let ea:decide (V.int ((IL inc).f%2:Int)=V.int 1)=(inc.f%2 == 1):=by rw[Zs,Xr,OS,YX,RL];omega
  change TF _ _ _ [some ↑x,some<|.ref r,some<|.bl<|decide<|V.int ((IL inc).f%2:Int)=V.int 1,none,none] (upd H r<|.lst [.ref l]);rw[ea];generalize Sk:(inc.f%2 == 1)=asc at *;let kr:(upd H r<|.lst [.ref l]) r=some (.lst [.ref l]):=XS
  generalize upd H r (.lst [.ref l])=H1 at *;let mh:=s1 _ _ hi
  let fresh:∀b o,H b=some o->b≠r:=λb o e=>Wz e hr;show⟨_,rfl,x,_,dx,_,.ref i,rfl,s1 _ _ hx,T.cl_Part,T.n_Part_incoming,rfl,i,rfl,{_,SqL.of mh},wU (K:=K) (a:=i) (xs:=IL inc) (λj σ H2=>∃xs v3 v4,σ=[some ↑x,some<|.ref r,some<|.bl<|asc != (j%2 == 1),v3,v4]/\Same H H2/\H2 r=some (.lst xs)/\Bears (Xh H2) xs (F::RS n ps I F (inc.M j) asc)) ⟨[.ref l],none,none,by cases asc<;>rfl,s1,kr,⟨rfl,λj m e=>by
   match j,e with
   |0,e=>show{_,Z,l,Z,by rw[<-Yk e];show s1 _ _ hl}⟩⟩ (λj σ H2 _ h=>by let(_,_,_,_,e,_):=h;show SqL.of<|e _ _ hi) ?_ ?_⟩
  rotate_left
  .rintro σ H2 ⟨xs,v3,v4,rfl,s2,Vr,hX⟩;rw[Xr,YR]at hX;show Vv ?_;exists _,Z,?_;rw[<-Sk]at hX;show q r xs H2 s2 hr Vr hX
  rintro j v σ H2 hj ⟨xs,v3,v4,rfl,s2,Vr,hX⟩;let(z,rfl,hz):=TY hj;let(zF,z0,z1):=Sl z (WT hz);let Og:j<inc.f:=(XA.H hz).1
  show nm ?_;dsimp only[List.set];exists _,Z,_,Z,x,n,ps,I,O,F,inc,ld,fu,z,Z,{dx,w,a,b,l,i,s2 _ _ hx,hW.Y s2,SqK.Y (k:=true) s2 hA,SqK.Y (k:=true) s2 QO,s2 _ _ hl,s2 _ _ hi},hG,hF,zF,z0,z1,λtA ys H3 s3 ht0 Gi hY=>?_;show nm ?_;dsimp only[List.set];let UQ:=s3 _ _ Vr
  let yC:F.f<=30:=by have:=hF.1.len;have:=hG.2.2.1;lia
  let xl:xs.f<=1000:=by
   rw[hX.1,YF];let h1:=Zc9 n ps I F (inc.M j) asc
   let h2:(inc.M j).f*F.f<=30*30:=IE (by rw[Yl];grind) yC;lia
  let yl:ys.f<=30:=by rw[hY.1,Yb];show Yj (YE ..) (Yj (ES n ps F z F) yC)
  let gx:RS n ps I F (inc.M<|j+1) asc=RS n ps I F (inc.M j) asc++RT n ps I F (asc != (j%2 == 1)) z:=by
   let e:inc.M (j+1)=inc.M j++[z]:=by rw[WD,hz];rfl
   let el:(inc.M j).f=j:=by rw[Yl];lia
   rw[e,Zr6,el]
  let flip:(!(asc != (j%2 == 1)))=(asc != ((j+1)%2 == 1)):=by rcases(by grind:j%2=0/\(j+1)%2=1\/j%2=1/\(j+1)%2=0) with ⟨a,b⟩|⟨a,b⟩<;>rw[a,b]<;>cases asc<;>rfl
  let fin:∀zs H4,Same H3 H4->zs.f=ys.f->Bears (Xh H4) zs (RT n ps I F (asc != (j%2 == 1)) z)->Same H (upd H4 r<|.lst<|xs++zs)/\Bears (Xh<|upd H4 r<|.lst<|xs++zs) (xs++zs) (F::RS n ps I F (inc.M<|j+1) asc):=λzs H4 s4 EH hZ=>by
   let IY:=s4 _ _ UQ;exists ZK hr<|(s2.m s3).m s4,?_;rw[gx];let hX4:Bears (Xh H4) xs (F::RS n ps I F (inc.M j) asc):=hX.imp λ_ _ h=>by let(c,e,hc):=h;exists c,e,(s3.m s4) _ _ hc
   show(ZO5 hX4 hZ).imp λ_ _ h=>by let(c,e,hc):=h;exists c,e,by rwa[Za (OK hc IY B)]
  exists _,Z,.inl {Z,_,SqL.of UQ},?_;cases hb:(asc != (j%2 == 1)) with
  |true=>
   rw[hb]at fin flip;exists _,Z,_,Z,?_;show iteT ?_;exists _,Z,?_;let(f1,f2):=fin ys H3 (Same.refl _) Z hY;exists r,tA,xs,ys,Z,Z,UQ,Gi,MF J,?_;exists _,Z,_,Z,?_;exists xs++ys,_,_,by rw[<-flip];rfl,f1,XS,f2
  |false=>
   rw[hb]at fin flip;exists _,Z,_,Z,?_;show iteF ?_;exists _,Z,tA,ys,Z,SqL.of Gi,λd hd=>?_;let s4:=XZ (o:=.lst ys.reverse) hd
   let(f1,f2):=fin ys.reverse _ s4 (VB) (ZN5<|hY.imp λ_ _ h=>by let(c,e,hc):=h;exists c,e,s4 _ _ hc);exists r,d,xs,ys.reverse,Z,Z,s4 _ _ UQ,XS,MF (by rw[VB];lia),?_;exists _,Z,_,Z,?_;exists xs++ys.reverse,_,_,by rw[<-flip];rfl,f1,XS,f2
inductive spZC(K:Ad)(CP C Pt:Addr)(d:Nat)(vs:List V)(H:Hp)(Q:VK)(_:XK):Prop
 |mk (x n ps I O F inc ld fu R size start stop:_) (_:vs=[.ref x,.int size,.int start,.int stop]) (_:PartAt K CP C H x n ps I O F inc ld fu) (_:PartOk n ps I O ld F inc fu) (_:Zx n ps) (_:Xt H Pt) (_:RowR n ps d I O ld R) (_:size=R.f) (_:0<=start) (_:stop<=size) (_:stop-start<=100000) (_:∀r xs H',SameX Pt H H'->Xt H' Pt->H r=none->H' r=some (.lst xs)->Bears (Xh H') xs ((R.drop start.j).M (stop-start).j)->Q ↑r H')
def gu(xs:List V){a b:Nat}(h2:b<=xs.f):Ww xs (some (a:Int)) (some (b:Int))=(xs.drop a).M (b-a):=by
 let e1:HT.UN xs.f 0 (some (a:Int))=min a xs.f:=rfl;let e2:HT.UN xs.f xs.f (some (b:Int))=min b xs.f:=rfl
 unfold Ww;rw[e1,e2,IG h2];rcases Nat.le_total a xs.f with c|c
 .rw[IG c]
 .rw[tD c,tR<|XI _,tR c,DN,DN]
def gr{α:Type}{R:V->α->Prop}{xs:List V}{l:List α}(h:Bears R xs l)(a b:Nat):Bears R ((xs.drop a).M b) ((l.drop a).M b):=by
 show{by rw[Yl,Yl,YS,YS,h.1],λi x e=>?_};rw[OY]at e;cases c:i<b
 .rw[if_pos c,SS]at e;let(v,hv,r):=h.2 _ x e;exists v,by rw[OY,if_pos c,SS];show hv,r
 .rw[if_neg c]at e;cases e
def gq{α:Type}(A sj:List α){a b:Nat}(h:b<=A.f):((A++sj).drop a).M (b-a)=(A.drop a).M (b-a):=by
 rcases Nat.le_total a A.f with c|c
 .rw[El c,Fz (by rw[YS];show Nat.sub_le_sub_right h a)]
 .rw[Nat.sub_eq_zero_of_le (Yj h c),Im,Im]
def ZN7{α:Type}(sj:List α){i k:Nat}(h:i+k<=sj.f):((sj.reverse).drop i).M k=((sj.drop (sj.f-i-k)).M k).reverse:=by rw[List.drop_reverse,List.take_reverse,Yl,IG<|Nat.sub_le _ _,Ik,Nat.sub_sub_self (Nat.le_sub_of_add_le' h)]
def gn{α:Type}(A sj:List α){a b c:Nat}(hc:(a<=A.f/\c=A.f)\/(A.f<=a/\c=a))(gm:c<=b)(hb:b<=A.f+sj.f):((A++sj.reverse).drop a).M (b-a)=A.drop a++((sj.drop (A.f+sj.f-b)).M (b-c)).reverse:=by
 rcases hc with ⟨h,rfl⟩|⟨h,rfl⟩
 .rw[El h,List.take_append,YJ (by rw[YS];show Nat.sub_le_sub_right gm a),YS,Nat.sub_sub_sub_cancel_right h]
  have:=ZN7 sj (i:=0) (k:=b-A.f) sD
  rw[ID]at this;rw[this,show sj.f-0-(b-A.f)=A.f+sj.f-b by grind]
 .rw[xC,tR h,OU,OU,ZN7 sj sD,show sj.f-(c-A.f)-(b-c)=A.f+sj.f-b by grind]
def gk{x y:Int}:∃m,(if x<y then x else y)=m/\m<=x/\m<=y/\(x<y->m=x)/\(¬x<y->m=y):=by
 cases c:x<y
 .exists x,if_pos c,SO _,Iz c,λ_=>rfl,λh=>absurd c h
 .exists y,if_neg c,DJ.H c,SO _,λh=>absurd h c,λ_=>rfl
def ZN3{H H2:Hp}{Pt r:Addr}{pos:Pos}{qual:Str}(t:TabH H2 Pt pos qual)(s:SameX Pt H H2)(h:H2 r=none):H r=none:=by
 cases e:H r with
 |none=>rfl
 |some o=>
  let XJ:r≠Pt:=λe'=>by let(p,h1,_):=t;rw[<-e',h]at h1;cases h1
  rw[s _ _ XJ e]at h;cases h
def gj{Pt:Addr}(T:Txt K mg t)(hB:VM K mg base t.dZv Pt)(d:Nat):Xd P w base WY T.qZC (11+d) (spZC K t.A_Part t.A_Web Pt d):=by
 let key:∀d k sp,Xd P w base WY T.qZC k sp->k<=10+d->(∀e,d=e+1->sp=spZC K t.A_Part t.A_Web Pt e)->Xd P w base WY T.qZC (11+d) (spZC K t.A_Part t.A_Web Pt d):=by
  intro d k sp ih hk Sa;rw[show 11+d=10+d+1 by lia];show T.qZC.ok ["part","size","start","stop","first","middle","trees","turned"] sC (λvs H Q E h=>?_) (λXG A outer s H vs Q E hr h=>?_)
  .let⟨x,n,ps,I,O,F,inc,ld,fu,R,size,start,stop,rfl,_⟩:=h;rfl
  .let⟨x,n,ps,I,O,F,inc,ld,fu,R,size,start,stop,rfl,Rp,Uj,hG,hT,hR,hsz,EV,RZ,Xg,q⟩:=h;show⟨_,(XM (Xz (Ze JZ (pv 2) (pv 3)<|Zn _)
   (XH<|Zj<|WB XX)
   Zp)
   (XM (Xz (Ze wN (Zm K (pv 0) Z) MN<|Zn _)
   (XH<|Zj<|HN (Hz K) (QB (yD T) (hr.mono sr) Z T.qZB.mm T.qZB.fn.kp T.qZB.bi .nil Zw<|XY (pv 0) XX) (SG<|pv 2)<|SG<|pv 3)
   Zp)
   (XM (Zg 4<|QB (yH T hB) (hr.mono sr) Z T.qZx.mm T.qZx.fn.kp T.qZx.bi .nil Zw<|XY (pv 0) XX)
   (XM (Zg 5<|QB (yE T) (hr.mono sr) Z T.qZz.mm T.qZz.fn.kp T.qZz.bi .nil Zw<|XY (pv 4) XX)
   (XM (Zg 6<|QB ih (hr.mono sr) Z T.qZC.mm T.qZC.fn.kp T.qZC.bi .nil Zw<|XY (pv 4)<|XY (pv 5)<|XY (pv 2)<|XY (Zd (rf Z) sE T.n_min Boot.«min»<|XY (pv 3)<|XY (pv 5) XX) XX)
   (XM (Xz (Ze QD (pv 3) (pv 5)<|Zn _)
   (XM (Zg 7<|QB ih (hr.mono sr) Z T.qZC.mm T.qZC.fn.kp T.qZC.bi .nil Zw<|XY (QB (yG T hB) (hr.mono sr) Z T.qZy.mm T.qZy.fn.kp T.qZy.bi .nil Zw<|XY (pv 0) XX)<|XY (Zq Vn (pv 1)<|pv 5)<|XY (Zq Vn (pv 1)<|pv 3)<|XY (Zq Vn (pv 1)<|Zd (rh Z) sE T.n_max Boot.«max»<|XY (pv 2)<|XY (pv 5) XX) XX)
   (XH<|ZU<|Vm K YY DI eJ CK (pv 6)<|XY (cb K Z Z T.n_list Z T.n_reversed<|XY (pv 7) XX) XX))
   Zp)
   (XH<|Zj<|pv 6))))))),?_⟩
   let(dx,w0,a,b,l,i,hx,hW,hA,QO,hl,hi):=id Rp;exists _,Z,_,Z,_,_,Z,Z,_,Z,?_;show Xl (λRf=>?_) (λXm=>?_)
   .exists Yi _,λr hr=>?_;let s1:=XZ (o:=.lst []) hr
    show q r [] _ (SameX.Y s1) (hT.Y s1) hr XS ?_;rw[show(stop-start).j=0 by lia,Im];exists Z,λi l e=>by simp at e
   show Vv ?_;let(a0,rfl):=d7 EV;let(b0,rfl):=d7 (show 0<=stop by lia);let Va:a0<=b0:=J
   let gf:b0<=R.f:=by rw[hsz]at RZ;show Int.ofNat_le.H RZ
   let e0:((b0:Int)-(a0:Int)).j=b0-a0:=Int.toNat_sub _ _;rw[YL,e0]at q;subst hsz;exists _,Z,x,_,dx,_,Xa fu,Z,hx,T.cl_Part,T.n_Part_further,Z,Z,_,Z,?_;cases hR with
   |und VG UP gd=>
    let(rfl,rfl,rfl):=Uj.uniq VG;show iteT ?_;exists _,Z,x,n,ps,I,O,F,inc,ld,none,Z,Rp,hG,Uj.tr.1,UP,gd,λr xs H1 s1 UT Vd hX=>?_;let Mv:=hX.1
    exists _,Z,_,Z,_,Z,_,Z,r,xs,Z,SqL.of Vd,λq1 EK=>?_;rw[gu xs (by rwa[Mv])];let s2:=XZ (o:=.lst<|(xs.drop a0).M (b0-a0)) EK
    let Wc:=s1.m s2;show q q1 _ _ (SameX.Y Wc) (hT.Y Wc) (s1.free EK) XS ?_;show(gr hX _ _).imp λ_ _ h=>by let(c,e,hc):=h;exists c,e,s2 _ _ hc
   |div VG hIn WW Ux QN FW FV y0 y1 gc um uj=>
    rename_i e F' Wd z y A' sj;let(rfl,rfl,rfl):=Uj.uniq VG;let gb:=Sa e rfl
    subst gb;show iteF ?_;show Vv ?_;let Ta:=VS.H hIn
    let Nk:I.Nodup:=Ta.1;let Nj:∀v∈I,0<=v/\v<ps⁻¹:=λv hv=>WW v (Yc _ hv)
    let Ni:∀v∈I,v∉O++[z]:=λv hv h=>(XB.H h).elim (Ux v<|Yc _ hv) λh=>Ta.2.2 v hv z B (XD.H h);let Ru:O.f<=30:=by rw[Xy,Yt]at QN;lia
    rw[Xy,VB]at gf;let Pe:(((A'++sj.reverse).f:Nat):Int)=A'⁻¹+sj.f:=by rw[Xy,VB,Int.natCast_add]
    let(m,em,m1,m2,m3,m4):=gk (x:=A'⁻¹) (y:=(b0:Int));exists _,Z,x,n,ps,I,O,F,inc,z,y,Z,Rp,hG,hT,Nk,Nj,Ni,QN,FV,y0,y1,λx1 F1 Rt Gv H1 KP RC Tp WM=>?_;show nm ?_;exists _,Z,x1,n,ps,I,O++[z],F1,Rt,some y,Gv,Z,RC,hG,Nk,Nj,QN,Ni,λc H2 hc s2=>?_;let ec:=hc.uniq gc
    subst ec;show nm ?_;let TN:SameX Pt H H2:=Tp.m (SameX.Y s2)
    let WZ:=WM.Y s2;exists _,Z,_,Z,_,Z,_,Z,_,Z,_,_,Z,?_;exists x1,n,ps,I,O++[z],F1,Rt,some y,Gv,A',_,_,_,Z,RC.samex WM<|SameX.Y s2,KP,hG,WZ,um,Z,EV,(by rwa[em]),(by rw[em];show Fn (Int.sub_le_sub_right m2 _) Xg),λr xs H3 yB Ug UT UQ hX=>?_;show nm ?_;let PK:=TN.m yB
    let f9:H r=none:=ZN3 WZ TN UT;rw[YL,em]at hX;exists _,Z,_,Z,_,_,Z,Z,_,Z,?_;show Xl (λfZ=>?_) λhle=>?_;rotate_left
    .change(_:Prop);show Vv ?_;exists _,Z,?_;let fX:¬A'⁻¹<(b0:Int):=hle
     rw[m4 fX,e0]at hX;rw[gq A' sj.reverse J]at q;show q r xs H3 PK Ug f9 UQ hX
    let yA:A'⁻¹<(b0:Int):=fZ;rw[m3 yA,Int.toNat_sub,YJ (by rw[YS];show XI _)]at hX;clear m1 m2 m3 m4 em m;exists _,Z,x,n,ps,I,O,F,inc,z,y,Z,Rp.samex hT PK,hG,Ug,hIn,WW,Ux,Ru,FW,y0,y1,λx2 F2 Ny zB H4 Gu Td PM Ws=>?_;exists _,Z,_,Z,_,_,Z,Z,_,Z,_,Z,_,_,Z,Z,_,Z,_,Z,_,Z,_,_,Z,_,_,Z,Z,?_;obtain⟨c0,ec,zr,gm⟩:∃c0:Nat,(if A'⁻¹>(a0:Int) then A'⁻¹ else (a0:Int))=(c0:Int)/\((a0<=A'.f/\c0=A'.f)\/(A'.f<=a0/\c0=a0))/\c0<=b0:=by
     cases c:A'⁻¹>(a0:Int)
     .exists A'.f,if_pos c,.inl {MQ<|Int.ofNat_lt.H c,Z},MQ<|Int.ofNat_lt.H yA
     .exists a0,if_neg c,.inr {Int.ofNat_le.H<|DJ.H c,Z},Va
    rw[gn A' sj zr gm gf]at q;let hAc:A'.f<=c0:=by rcases zr with h|h<;>lia
    let hac:a0<=c0:=by rcases zr with h|h<;>lia
    clear zr;exists x2,n,ps,I++[z],O,F2,Ny,some y,zB,sj,_,_,_,Z,Td,Gu,hG,Ws,uj,(by rw[Pe];lia),(by rw[Pe];lia),(by rw[ec,Pe];lia),(by rw[ec,Pe];lia),λr2 ys H5 Sj Sh hr20 hr5 hY=>?_;show nm ?_;let IY:=PM _ _ (Ug.ne UQ B) UQ
    let yy:=Sj _ _ (Ws.ne IY B) IY;let fW:=(PK.m PM).m Sj
    let e2:(A'⁻¹+sj.f-(b0:Int)).j=A'.f+sj.f-b0:=sD;let e3:(A'⁻¹+sj.f-(c0:Int)-(A'⁻¹+sj.f-(b0:Int))).j=b0-c0:=sD
    rw[ec,Pe,e2,e3]at hY;let Mv:xs.f<=100000:=by rw[hX.1,YS];lia
    let KZ:ys.f<=100000:=by rw[hY.1,Yl];lia
    exists _,Z,.inl {Z,_,SqL.of yy},_,Z,r2,ys,Z,SqL.of hr5,λdA hd=>?_;let s6:=XZ (o:=.lst ys.reverse) hd
    let Nv:=s6 _ _ yy;let z1:1000000<=sizeLine:=su
    exists r,dA,xs,ys.reverse,Z,Z,Nv,XS,(by rw[VB];lia),?_;exists _,Z,?_;show q r (xs++ys.reverse) _ (λb o hb e=>?_) ((Sh.Y s6).put Nv) f9 XS ?_
    .rw[Za (Wz e f9)];show s6 _ _ (fW _ _ hb e)
    .let f1:Bears (Xh<|upd H5 dA<|.lst ys.reverse) xs (A'.drop a0):=hX.imp λ_ _ h=>by
      let(c,e,hc):=h;let hc4:=PM _ _ (Ug.ne hc B) hc
      exists c,e,s6 _ _<|Sj _ _ (Ws.ne hc4 B) hc4
     let f2:Bears (Xh<|upd H5 dA<|.lst ys.reverse) ys.reverse ((sj.drop<|A'.f+sj.f-b0).M (b0-c0)).reverse:=ZN5 (hY.imp λ_ _ h=>by let(c,e,hc):=h;exists c,e,s6 _ _ hc)
     show(ZO5 f1 f2).imp λ_ _ h=>by let(c,e,hc):=h;exists c,e,by rwa[Za (OK hc Nv B)]
 induction d with
 |zero=>show key 0 0 _ ZP9 J λe h=>(by cases h)
 |succ d ih=>show key (d+1) (11+d) _ ih J λe h=>(by cases h;rfl)
inductive spZD(K:Ad)(CP C Pt:Addr)(d:Nat)(vs:List V)(H:Hp)(Q:VK)(_:XK):Prop
 |mk (x a n ps I O F inc T ld fu R size:_) (_:vs=[.ref x,.int size,.ref a]) (_:PartAt K CP C H x n ps I O F inc ld fu) (_:PartOk n ps I O ld F inc fu) (_:Zx n ps) (_:Xt H Pt) (_:RowR n ps d I O ld R) (_:size=R.f) (_:SqT K H a (IL T)) (_:T∈R) (_:∀(j:Nat)(H':Hp),R[j]?=some T->SameX Pt H H'->Xt H' Pt->Q (.int j) H')
def fV{Pt:Addr}(T:Txt K mg t)(hB:VM K mg base t.dZv Pt)(d:Nat):Xd P w base WY T.qZD (11+d) (spZD K t.A_Part t.A_Web Pt d):=by
 let key:∀d k sp,Xd P w base WY T.qZD k sp->k<=10+d->(∀e,d=e+1->sp=spZD K t.A_Part t.A_Web Pt e)->Xd P w base WY T.qZD (11+d) (spZD K t.A_Part t.A_Web Pt d):=by
  intro d k sp ih hk Sa;rw[show 11+d=10+d+1 by lia];show T.qZD.ok ["part","size","tree","first","middle"] sC (λvs H Q E h=>?_) (λXG A outer s H vs Q E hr h=>?_)
  .let⟨x,a,n,ps,I,O,F,inc,U,ld,fu,R,size,rfl,_⟩:=h;rfl
  .let⟨x,ta,n,ps,I,O,F,inc,U,ld,fu,R,size,rfl,Rp,Uj,hG,hT,hR,hsz,EA,hU,q⟩:=h;show⟨_,(XM (Xz (Ze wN (Zm K (pv 0) Z) MN<|Zn _)
   (XH<|Zj<|Vm K YY eA eD (Zu8 K<|Fc hr) (QB (yD T) (hr.mono sr) Z T.qZB.mm T.qZB.fn.kp T.qZB.bi .nil Zw<|XY (pv 0) XX)<|XY (pv 2) XX)
   Zp)
   (XM (Zg 3<|QB (yH T hB) (hr.mono sr) Z T.qZx.mm T.qZx.fn.kp T.qZx.bi .nil Zw<|XY (pv 0) XX)
   (XM (Zg 4<|QB (yE T) (hr.mono sr) Z T.qZz.mm T.qZz.fn.kp T.qZz.bi .nil Zw<|XY (pv 3) XX)
   (XM (Xz (Ze (Hy K) (Zm K (pv 0) Z) (pv 2) Z)
   (XH<|Zj<|Zq Vn (Zq Vn (pv 1) XO)<|QB ih (hr.mono sr) Z T.qZD.mm T.qZD.fn.kp T.qZD.bi .nil Zw<|XY (QB (yG T hB) (hr.mono sr) Z T.qZy.mm T.qZy.fn.kp T.qZy.bi .nil Zw<|XY (pv 0) XX)<|XY (Zq Vn (pv 1)<|pv 4)<|XY (pv 2) XX)
   Zp)
   (XH<|Zj<|QB ih (hr.mono sr) Z T.qZD.mm T.qZD.fn.kp T.qZD.bi .nil Zw<|XY (pv 3)<|XY (pv 4)<|XY (pv 2) XX))))),?_⟩
   let(dx,w0,a,b,l,i,hx,hW,hA,QO,hl,hi):=id Rp;exists _,Z,x,_,dx,_,Xa fu,Z,hx,T.cl_Part,T.n_Part_further,Z,Z,_,Z,?_;let hwith:=iM hG hR
   cases hR with
   |und VG UP gd=>
    let(rfl,rfl,rfl):=Uj.uniq VG;show iteT ?_;exists _,Z,x,n,ps,I,O,F,inc,ld,none,Z,Rp,hG,Uj.tr.1,UP,gd,λr xs H1 s1 UT Vd hX=>?_;let(e,j,c,h1,h2,h3,h4,h5):=Zc8 (K:=K) hX (SqK.Y (k:=true) s1 EA) hU;exists .inl {Z,_,SqL.of Vd},_,Z,1,r,xs,.ref ta,e,j,c,Z,Z,Vd,su,h1,h2,h3,h4,?_;show q j H1 h5 (SameX.Y s1) (hT.Y s1)
   |div VG hIn WW Ux QN FW FV y0 y1 gc um uj=>
    rename_i e F' Wd z y A' sj;let(rfl,rfl,rfl):=Uj.uniq VG;let gb:=Sa e rfl
    subst gb;show iteF ?_;show Vv ?_;let Ta:=VS.H hIn
    let Nk:I.Nodup:=Ta.1;let Nj:∀v∈I,0<=v/\v<ps⁻¹:=λv hv=>WW v (Yc _ hv)
    let Ni:∀v∈I,v∉O++[z]:=λv hv h=>(XB.H h).elim (Ux v<|Yc _ hv) λh=>Ta.2.2 v hv z B (XD.H h);let Ru:O.f<=30:=by rw[Xy,Yt]at QN;lia
    let Pe:size=A'⁻¹+sj.f:=by rw[hsz,Xy,VB];lia
    exists _,Z,x,n,ps,I,O,F,inc,z,y,Z,Rp,hG,hT,Nk,Nj,Ni,QN,FV,y0,y1,λx1 F1 Rt Gv H1 KP RC Tp WM=>?_;show nm ?_;exists _,Z,x1,n,ps,I,O++[z],F1,Rt,some y,Gv,Z,RC,hG,Nk,Nj,QN,Ni,λc H2 hc s2=>?_;let ec:=hc.uniq gc
    subst ec;show nm ?_;let TN:SameX Pt H H2:=Tp.m (SameX.Y s2)
    let WZ:=WM.Y s2;let Ce:=TN _ _ (hT.ne hx B) hx
    let FU:SqT K H2 ta (IL U):=SqK.samex (kd:=true) EA hT TN;exists _,Z,x,_,dx,_,.int z,Z,Ce,T.cl_Part,T.n_Part_lead,Z,_,Z,ta,_,Z,.inr FU,Z,ZT _,_,Z,?_;rw[Ur];show Xl (λhz=>?_) (λhz=>?_)
    .let hUB:U∈sj:=by
      rcases XB.H hU with h|h
      .show absurd hz ((iM hG um U h).2.2 z B)
      .show Wa.H h
     exists _,Z,_,_,Z,Z,_,Z,x,n,ps,I,O,F,inc,z,y,Z,Rp.samex hT TN,hG,WZ,hIn,WW,Ux,Ru,FW,y0,y1,λx2 F2 Ny zB H4 Gu Td PM Ws=>?_;exists _,Z,_,Z,_,_,Z,Z,_,Z,?_;exists x2,ta,n,ps,I++[z],O,F2,Ny,U,some y,zB,sj,_,Z,Td,Gu,hG,Ws,uj,J,SqK.samex (kd:=true) FU WZ PM,hUB,λj H5 hj Sj Sh=>?_;let UH:=(XA.H hj).1
     exists _,_,Z,Z,?_;let e:size-1-(j:Int)=((A'.f+(sj.f-1-j):Nat):Int):=sD
     change Q (.int<|size-1-(j:Int)) H5;rw[e];show q _ H5 ?_ ((TN.m PM).m Sj) Sh;rwa[Yo J,LX J,show sj.f-1-(A'.f+(sj.f-1-j)-A'.f)=j by lia]
    .let hUA:U∈A':=by
      rcases XB.H hU with h|h
      .show h
      .show absurd ((iM hG uj U<|Wa.H h).2.1 z B) hz
     show Vv ?_;exists _,Z,_,Z,_,Z,?_;exists x1,ta,n,ps,I,O++[z],F1,Rt,U,some y,Gv,A',_,Z,RC.samex WM<|SameX.Y s2,KP,hG,WZ,um,Z,FU,hUA,λj H3 hj yB Ug=>?_;show q j H3 ?_ (TN.m yB) Ug;rwa[Yr (XA.H hj).1]
 induction d with
 |zero=>show key 0 0 _ ZP9 J λe h=>(by cases h)
 |succ d ih=>show key (d+1) (11+d) _ ih J λe h=>(by cases h;rfl)
inductive spZE(N:Addr)(vs:List V)(H:Hp)(Q:VK)(E:XK):Prop
 |mk (z:Int) (_:vs=[.int z]) (_:-(10^70)<z) (_:z<10^70) (_:(0<=z->Q .non H)) (_:(z<0->E ↑N none H))
def fU(T:Txt K mg t):Xd P w base (VO P w) T.qZE 1 (spZE t.A_NoSuch):=by
 show T.qZE.okXI ["number"] sC λXG A outer s H vs Q E hr h=>?_
 .let⟨z,rfl,z0,z1,q,qe⟩:=h;show⟨_,(XH (Xz (Ze Ka (pv 0) XO<|Zn _)
   (XH<|vX T.x_NoSuch T.c_NoSuch<|XY (cf<|Ca (pv 0)<|Cb Cc) XX)
   Zp)),?_⟩
  exists _,Z,_,_,Z,Z,_,Z,?_;show Xl (λh=>?_) (λh=>?_)
  .exists _,Z,z,Z,z0,z1,λx=>{by change 1<=sizeLine;decide,qe h}
  .show q J
inductive spZF(K:Ad)(CP C Pt N:Addr)(vs:List V)(H:Hp)(Q:VK)(E:XK):Prop
 |mk (w n ps num most R:_) (_:vs=[.ref w,.int num,.int most]) (_:WebAt C H w n ps) (_:Zx n ps) (_:Xt H Pt) (_:-(10^70)<num) (_:num<10^70) (_:0<=most) (_:most<=100000) (_:((∃U,Zf n ps U)->RowW n ps R)) (_:((∀U,¬Zf n ps U)->R=[])) (_:(0<=num->∀r xs H',SameX Pt H H'->Xt H' Pt->H r=none->H' r=some (.lst xs)->Bears (Xh H') xs ((R.drop num.j).M most.j)->Q ↑r H')) (_:(num<0->E ↑N none H))
def FT{Pt:Addr}(T:Txt K mg t)(hB:VM K mg base t.dZv Pt):Xd P w base (VO P w) T.qZF 44 (spZF K t.A_Part t.A_Web Pt t.A_NoSuch):=by
 show T.qZF.okXI ["web","number","most","size"] sC λXG A outer s H vs Q E hr h=>?_
 .let⟨w,n,ps,num,most,R,rfl,hW,hG,hT,n0,n1,m0,m1,ui,fS,q,qe⟩:=h;show⟨_,(XM (ZU<|Xu (fU T) hr T.qZE RY<|XY (pv 1) XX)
   (XM (Zg 3<|Xu (Kx T) hr T.qZl Zw<|XY (pv 0) XX)
   (XM (Xz (Ze JZ (pv 1) (pv 3)<|Zn _)
   (XH<|Zj<|WB XX)
   Zp)
   (XH<|Zj<|Xu (gj T hB 31) hr T.qZC Zw<|XY (Xu (yJ T hB) hr T.qZw Zw<|XY (pv 0) XX)<|XY (pv 3)<|XY (pv 1)<|XY (Zd (rf Z) sE T.n_min Boot.«min»<|XY (Zq Uc (pv 1)<|pv 2)<|XY (pv 3) XX) XX)))),?_⟩
  exists _,Z,num,Z,n0,n1,λnp=>?_,qe;let q:=q np
  exists _,Z,w,n,ps,Z,hW,hG,λc H1 hc s1=>?_;show nm ?_;let Pe:R.f=c:=by
   cases hex:∃U,Zf n ps U
   .let⟨_,_,_,_,_,_,_,_,h⟩:=ui hex;show h.uniq hc
   .let Up:∀U,¬Zf n ps U:=λU hU=>hex ⟨U,hU⟩;rw[fS Up,(ZQ4 hc).X Up];rfl
  exists _,Z,_,Z,_,_,Z,Z,_,Z,?_;show Xl (λRf=>?_) (λXm=>?_)
  .exists Yi _,λr hr=>?_;let s2:=XZ (o:=.lst []) hr
   let Wc:=s1.m s2;show q r [] _ (SameX.Y Wc) (hT.Y Wc) (s1.free hr) XS ?_;rw[YK J,DN];exists Z,λi l e=>by simp at e
  show Vv ?_;obtain⟨U0,Er⟩:∃U,Zf n ps U:=YD λno=>by
   have:=(ZQ4 hc).X λU hU=>no ⟨U,hU⟩
   lia
  let(ld,F,inc,fu,Uj,hn,hs,fR,_):=ui ⟨U0,Er⟩;let WM:=hT.Y s1
  exists _,Z,w,n,ps,Z,hW.Y s1,hG,WM,⟨U0,Er⟩,λx F' Wd Ja Jc H2 VG SM Wf Rp TN WZ=>?_;let eF:F'=F:=WJ (Uj.least F' VG.tr) (VG.least F Uj.tr)
  subst eF;let el:=Zf7 SM Wf hn hs
  subst el;exists _,rfl,_,rfl,_,rfl,_,rfl,_,_,rfl,rfl,_,rfl,_,_,rfl,?_;exists x,n,ps,[],[],F',Wd,Ja,Jc,R,_,_,_,rfl,Rp,VG,hG,WZ,fR,J,np,(by split<;>lia),(by split<;>lia),λr xs H3 yB Ug UT UQ hX=>?_
  let e1:((R.drop num.j).M ((if (c:Int)<num+most then (c:Int) else num+most)-num).j)=(R.drop num.j).M most.j:=by rw[List.take_eq_take_iff,YS];split<;>lia
  rw[e1]at hX;show q r xs H3 ((SameX.Y s1).m (TN.m yB)) Ug (ZN3 WZ ((SameX.Y s1).m TN) UT) UQ hX
inductive spZG(K:Ad)(CP C Pt N:Addr)(vs:List V)(H:Hp)(Q:VK)(E:XK):Prop
 |mk (w n ps num R:_) (_:vs=[.ref w,.int num]) (_:WebAt C H w n ps) (_:Zx n ps) (_:Xt H Pt) (_:-(10^70)<num) (_:num<10^70) (_:((∃U,Zf n ps U)->RowW n ps R)) (_:((∀U,¬Zf n ps U)->R=[])) (_:(0<=num->num<R.f->∀r T H',R[num.j]?=some T->SameX Pt H H'->Xt H' Pt->H' r=some (.tup<|IL T)->Q ↑r H')) (_:((num<0\/R⁻¹<=num)->∀H':Hp,SameX Pt H H'->Xt H' Pt->E ↑N none H'))
def fQ{R:Ab}{j:Nat}{T:Ac}(h:R[j]?=some T):(R.drop j).M 1=[T]:=by let hj:=(XA.H h);rw[Ki hj.1,hj.2];rfl
def FR{Pt:Addr}(T:Txt K mg t)(hB:VM K mg base t.dZv Pt):Xd P w base (VO P w) T.qZG 45 (spZG K t.A_Part t.A_Web Pt t.A_NoSuch):=by
 show T.qZG.okXI ["web","number","trees"] sC λXG A outer s H vs Q E hr h=>?_
 .let⟨w,n,ps,num,R,rfl,hW,hG,hT,n0,n1,ui,fS,q,qe⟩:=h;show⟨_,(XM (Zg 2<|Xu (FT T hB) hr T.qZF RY<|XY (pv 0)<|XY (pv 1)<|XY XO XX)
   (XM (Xz (Ze Vc (Zd (Zi K) sE T.n_len Boot.«len»<|XY (pv 2) XX) XO<|Zn _)
   (XH<|vX T.x_NoSuch T.c_NoSuch<|XY (cf<|Cb<|Ca (pv 1) Cc) XX)
   Zp)
   (XH<|Zj<|ZJ (Zh K) (pv 2) XO λ_ _=>rfl))),?_⟩
  exists _,Z,_,Z,w,n,ps,num,1,R,Z,hW,hG,hT,n0,n1,su,su,ui,fS,λnp r xs H1 Tp WM UT Vd hX=>?_,λh=>qe (.inl h) H (SameX.Y<|Same.refl _) hT;show nm ?_;exists _,Z,r,xs,Z,.inl<|SqL.of Vd,Z,_,Z,?_;rw[Zs];cases Xm:num<R.f
  .obtain⟨U,hU⟩:∃U,R[num.j]?=some U:={_,Xp J};rw[show(1:Int).j=1 from Z,fQ hU]at hX;let(v,hv,c,rfl,hc):=hX.2 0 U rfl;let hl:xs.f=1:=hX.1
   show Xl (λh0=>J) λ_=>?_;show Vv ?_;exists _,Z,r,xs,0,.ref c,Z,Z,SqL.of Vd,ZG (n:=0) Z hv,q np Xm c U H1 hU Tp WM hc
  .rw[YK J,DN]at hX;let hl:xs.f=0:=hX.1
   show Xl (λ_=>?_) λh0=>J;exists _,Z,num,Z,n0,n1,λx=>{by change 1<=sizeLine;decide,qe (.inr sr) H1 Tp WM}
inductive spZH(K:Ad)(CP C Pt N:Addr)(vs:List V)(H:Hp)(Q:VK)(E:XK):Prop
 |mk (w:Addr) (n:Int) (ps:Aa) (_:vs=[.ref w]) (_:WebAt C H w n ps) (_:Zx n ps) (_:¬He n ps) (_:∀H':Hp,Same H H'->E ↑N none H')
def fP{Pt:Addr}(T:Txt K mg t)(hB:VM K mg base t.dZv Pt):Xd P w base (VO P w) T.qZH 46 (spZH K t.A_Part t.A_Web Pt t.A_Parted):=by
 show T.qZH.okXI ["web"] sC λXG A outer s H vs Q E hr h=>?_
 .let⟨w,n,ps,rfl,hW,hG,hJ,qe⟩:=h;show⟨_,(XM (ZU<|Xu (g9 T) hr T.qZi RY<|XY (pv 0) XX)
   (XH<|Zj<|Xu (FR T hB) hr T.qZG RY<|XY (pv 0)<|XY (Zq Vn (Xu (Kx T) hr T.qZl Zw<|XY (pv 0) XX) XO) XX)),?_⟩
  exists _,Z,w,n,ps,Z,hW,hG,λh=>absurd h hJ,λ_=>qe
inductive spZI(K:Ad)(CP C Pt N:Addr)(vs:List V)(H:Hp)(Q:VK)(E:XK):Prop
 |mk (w a:Addr) (n:Int) (ps:Aa) (U:Ac) (R:Ab) (j:Nat) (_:vs=[.ref w,.ref a]) (_:WebAt C H w n ps) (_:Zx n ps) (_:Xt H Pt) (_:SqT K H a (IL U)) (_:(Zf n ps U->RowW n ps R/\R.Nodup/\R[j]?=some U)) (_:(Zf n ps U->∀H':Hp,SameX Pt H H'->Xt H' Pt->Q (.int j) H')) (_:(¬Zf n ps U->∀H':Hp,Same H H'->E ↑N none H'))
def FP{Pt:Addr}(T:Txt K mg t)(hB:VM K mg base t.dZv Pt):Xd P w base (VO P w) T.qZI 44 (spZI K t.A_Part t.A_Web Pt t.A_NoTree):=by
 show T.qZI.okXI ["web","tree"] sC λXG A outer s H vs Q E hr h=>?_
 .let⟨w,a,n,ps,U,R,j,rfl,hW,hG,hT,hA,SX,q,qe⟩:=h;show⟨_,(XM (ZU<|Xu (y9 T) hr T.qZo RY<|XY (pv 0)<|XY (pv 1) XX)
   (XH<|Zj<|Xu (fV T hB 31) hr T.qZD Zw<|XY (Xu (yJ T hB) hr T.qZw Zw<|XY (pv 0) XX)<|XY (Xu (Kx T) hr T.qZl Zw<|XY (pv 0) XX)<|XY (Zk (ZC K) sE T.n_tuple Boot.«tuple»<|XY (pv 1) XX) XX)),?_⟩
  exists _,Z,_,Z,w,a,n,ps,true,U,Z,hW,hG,hA,λhU H1 s1=>?_,qe;let((ld,F,inc,fu,Uj,hn,hs,fR,yx),hN,hj):=SX hU;let q:=q hU
  let WM:=hT.Y s1;exists _,Z,w,n,ps,Z,hW.Y s1,hG,WM,⟨U,hU⟩,λx F' Wd Ja Jc H2 VG SM Wf Rp TN WZ=>?_;let eF:F'=F:=WJ (Uj.least F' VG.tr) (VG.least F Uj.tr)
  subst eF;let el:=Zf7 SM Wf hn hs
  subst el;let Nh:SameX Pt H H2:=(SameX.Y s1).m TN
  exists _,Z,w,n,ps,Z,hW.samex hT Nh,hG,λc H3 hc s3=>?_;let ec:=hc.uniq yx
  let PK:=Nh.m (SameX.Y s3);let Ug:=WZ.Y s3
  let Lr:SqT K H3 a (IL U):=SqK.samex (kd:=true) hA hT PK;exists _,Z,a,_,Z,.inr {Lr,?_};show{x,a,n,ps,[],[],F',Wd,U,Ja,Jc,R,_,Z,Rp.samex WZ<|SameX.Y s3,VG,hG,Ug,fR,by rw[ec],Lr,WT hj,λi H4 hi PM Ws=>?_};let rfl:i=j:=(tG (XA.H hi).1 hN).H (hi.m hj.symm);show q H4 (PK.m PM) Ws
inductive spZJ(K:Ad)(CP C Pt N:Addr)(vs:List V)(H:Hp)(Q:VK)(E:XK):Prop
 |mk (w a:Addr) (n:Int) (ps:Aa) (U:Ac) (R:Ab) (j:Nat) (_:vs=[.ref w,.ref a]) (_:WebAt C H w n ps) (_:Zx n ps) (_:Xt H Pt) (_:SqT K H a (IL U)) (_:(Zf n ps U->RowW n ps R/\R.Nodup/\R[j]?=some U)) (_:(Zf n ps U->∀(v:V)(H':Hp),mE H' v (R[j+1]?)->SameX Pt H H'->Xt H' Pt->Q v H')) (_:(¬Zf n ps U->∀H':Hp,Same H H'->E ↑N none H'))
def yw{Pt:Addr}(T:Txt K mg t)(hB:VM K mg base t.dZv Pt):Xd P w base (VO P w) T.qZJ 45 (spZJ K t.A_Part t.A_Web Pt t.A_NoTree):=by
 show T.qZJ.okXI ["web","tree","trees"] sC λXG A outer s H vs Q E hr h=>?_
 .let⟨w,a,n,ps,U,R,j,rfl,hW,hG,hT,hA,SX,q,qe⟩:=h;show⟨_,(XM (Zg 2<|Xu (FT T hB) hr T.qZF RY<|XY (pv 0)<|XY (Zq Uc (Xu (FP T hB) hr T.qZI RY<|XY (pv 0)<|XY (pv 1) XX) XO)<|XY XO XX)
   (XH<|Zj<|w4 (Ze Vc (Zd (Zi K) sE T.n_len Boot.«len»<|XY (pv 2) XX) XO<|Zn _) MN<|ZJ (Zh K) (pv 2) XO λ_ _=>rfl)),?_⟩
  exists _,Z,_,Z,_,Z,w,a,n,ps,U,R,j,Z,hW,hG,hT,hA,SX,λhU H1 Tp WM=>{_,_,Z,Z,?_},qe;let q:=q hU
  let(hR,hN,hj):=SX hU;let(ld,F,inc,fu,Uj,_,_,_,yx):=id hR;let c20:=Zu6 hG yx
  let jl:=(XA.H hj).1;show{w,n,ps,_,1,R,Z,hW.samex hT Tp,hG,WM,(by change -(10^70)<(j:Int)+1;lia),(by change(j:Int)+1<10^70;lia),su,su,λ_=>hR,λno=>absurd Uj.tr.1<|no F,λ_ r xs H2 TN WZ UT Vr hX=>?_,λh=>absurd h<|by change ¬(j:Int)+1<0;lia};show nm ?_;rw[show(1:Int).j=1 from Z,show((j:Int)+1).j=j+1 from Z]at hX;let Nh:=Tp.m TN
  exists _,Z,r,xs,Z,.inl<|SqL.of Vr,Z,_,Z,?_;rw[Zs];cases hn:R[j+1]? with
  |none=>
   rw[hn]at q;rw[YK (xT.H hn),DN]at hX;show Xl (λ_=>q .non H2 Z Nh WZ) (λh=>absurd (by rw[hX.1];rfl) h)
  |some U2=>
   rw[hn]at q;let e:(R.drop<|j+1).M 1=[U2]:=by let(h1,h2):=XA.H hn;rw[Ki h1,h2];rfl
   rw[e]at hX;let(v,hv,c,rfl,hc):=hX.2 0 U2 rfl;show Xl (λh=>absurd h<|by rw[hX.1];change ¬(1:Int)=0;decide) λ_=>?_;exists _,Z,r,xs,0,.ref c,Z,Z,SqL.of Vr,ZG (n:=0) Z hv,q ↑c H2 ⟨c,Z,hc⟩ Nh WZ
inductive spZK(K:Ad)(CP C Pt N:Addr)(vs:List V)(H:Hp)(Q:VK)(E:XK):Prop
 |mk (w a:Addr) (n:Int) (ps:Aa) (U:Ac) (R:Ab) (j:Nat) (_:vs=[.ref w,.ref a]) (_:WebAt C H w n ps) (_:Zx n ps) (_:Xt H Pt) (_:SqT K H a (IL U)) (_:(Zf n ps U->RowW n ps R/\R.Nodup/\R[j]?=some U)) (_:(Zf n ps U->∀(v:V)(H':Hp),SameX Pt H H'->Xt H' Pt->Q v H')) (_:(¬Zf n ps U->∀H':Hp,Same H H'->E ↑N none H'))
def fO{Pt:Addr}(T:Txt K mg t)(hB:VM K mg base t.dZv Pt):Xd P w base (VO P w) T.qZK 46 (spZK K t.A_Part t.A_Web Pt t.A_NoTree):=by
 show T.qZK.okXI ["web","tree","number"] sC λXG A outer s H vs Q E hr h=>?_
 .let⟨w,a,n,ps,U,R,j,rfl,hW,hG,hT,hA,SX,q,qe⟩:=h;show⟨_,(XM (Zg 2<|Xu (FP T hB) hr T.qZI RY<|XY (pv 0)<|XY (pv 1) XX)
   (XH<|Zj<|w4 (Ze Vc (pv 2) XO<|Zn _) MN<|Xu (FR T hB) hr T.qZG RY<|XY (pv 0)<|XY (Zq Vn (pv 2) XO) XX)),?_⟩
  exists _,Z,_,Z,w,a,n,ps,U,R,j,Z,hW,hG,hT,hA,SX,λhU H1 Tp WM=>?_,qe;let q:=q hU
  let(hR,hN,hj):=SX hU;let(ld,F,inc,fu,Uj,_,_,_,yx):=id hR;let c20:=Zu6 hG yx
  let jl:=(XA.H hj).1;show nm ?_;exists _,Z,Z,_,Z,?_;rw[Zs];show Xl (λh0=>?_) (λh0=>?_)
  .show q .non H1 Tp WM
  .exists _,Z,_,Z,_,_,Z,Z,w,n,ps,_,R,Z,hW.samex hT Tp,hG,WM,(by change -(10^70)<(j:Int)-1;lia),(by change(j:Int)-1<10^70;lia),λ_=>hR,λno=>absurd Uj.tr.1<|no F,λ_ _ r U2 H2 uh TN WZ Vr=>q ↑r H2 (Tp.m TN) WZ,λh=>absurd h<|by change ¬((j:Int)-1<0\/R⁻¹<=(j:Int)-1);lia
inductive spZL(K:Ad)(CP C Pt N:Addr)(vs:List V)(H:Hp)(Q:VK)(E:XK):Prop
 |mk (w a:Addr) (n:Int) (ps:Aa) (U:Ac) (R:Ab) (j:Nat) (_:vs=[.ref w,.ref a]) (_:WebAt C H w n ps) (_:Zx n ps) (_:Xt H Pt) (_:SqT K H a (IL U)) (_:(Zf n ps U->RowW n ps R/\R.Nodup/\R[j]?=some U)) (_:(∀T∈R,Zf n ps T)) (_:(Zf n ps U->∀(v:V)(H':Hp),SameX Pt H H'->Xt H' Pt->Q v H')) (_:(¬Zf n ps U->∀H':Hp,Same H H'->E ↑N none H'))
def Zd5{n:Int}{ps:Aa}{U V:Ac}(g:Zx n ps)(hU:Zf n ps U)(hV:Zf n ps V)(ne:U≠V):∃z l,(U.filter λy=>decide (y∉V))=z::l/\z∈U/\z∉V:=by
 cases e:U.filter λy=>decide (y∉V) with
 |nil=>
  show absurd (jn g hU hV λz hz=>YD λno=>?_) ne
  have:z∈U.filter λy=>decide (y∉V):=Yn.X {hz,Yx no}
  rw[e]at this;cases this
 |cons z l=>
  have:z∈U.filter λy=>decide (y∉V):=by rw[e];show Ye
  let(h1,h2):=Yn.H this;exists z,l,Z,h1,YG h2
def FO:FnScope ["web","tree","behind","out","into"] ["web","tree"] (Zb (top 64)):=Rr sC
def fN{Pt:Addr}(T:Txt K mg t)(hB:VM K mg base t.dZv Pt):Xd P w base (VO P w) T.qZL 46 (spZL K t.A_Part t.A_Web Pt t.A_NoTree):=by
 show T.qZL.okXI ["web","tree","behind","out","into"] sC λXG A outer s H vs Q E hr h=>?_
 .let⟨w,a,n,ps,U,R,j,rfl,hW,hG,hT,hA,SX,FN,q,qe⟩:=h;show⟨_,(XM (Ti (i:=2) FO.nd Z (Or.inr Z)<|Xu (yw T hB) hr T.qZJ RY<|XY (pv 0)<|XY (pv 1) XX)
   (XM (Xz (Ze wN (pv 2) MN<|Zn _)
   (XH<|Zj MN)
   Zp)
   (XM (LF (i:=3) Z FO.nd Z Z (sc0:=Zb<|top 64) (N0:=["web","tree","behind","out","into"]) (N':=["tie","behind"]) (o:=1) (fr:=[2]) ⟨Z,sC,sC,sC,Z,sC⟩ (LD K<|pv 1) (ZE su) (λ_ _ _ _=>(Zc 0)) (λ_ _ _ _=>(Qw<|Ze (Hx K) (pv 0) (pv 1) Z)) λ_ _ _ _=>(pv 0))
   (XM (LF (i:=4) Z FO.nd Z Z (sc0:=Zb<|top 64) (N0:=["web","tree","behind","out","into"]) (N':=["tie","tree"]) (o:=1) (fr:=[1]) ⟨Z,sC,sC,sC,Z,sC⟩ (LD K<|pv 2) (ZE su) (λ_ _ _ _=>(Zc 0)) (λ_ _ _ _=>(Qw<|Ze (Hx K) (pv 0) (pv 1) Z)) λ_ _ _ _=>(pv 0))
   (XH<|Zj<|WC<|XY (ZJ (Zh K) (pv 3) XO λ_ _=>rfl)<|XY (ZJ (Zh K) (pv 4) XO λ_ _=>rfl) XX))))),?_⟩
  let two:2<=sizeLine:=su;exists _,Z,_,Z,w,a,n,ps,U,R,j,Z,hW,hG,hT,hA,SX,λhU v H1 hv Tp WM=>?_,qe;let q:=q hU
  let(hR,hN,hj):=SX hU;show nm ?_;cases hn:R[j+1]? with
  |none=>
   rw[hn]at hv;let rfl:v=.non:=hv;exists _,Z,Z,_,Z,?_;show iteT (q .non H1 Tp WM)
  |some U2=>
   rw[hn]at hv;let(b,rfl,hb):=(show Xh H1 v U2 from hv);exists _,Z,Z,_,Z,?_;show iteF ?_;show Vv ?_;let uh:=FN U2 (WT hn)
   let ne:U≠U2:=λe=>by
    have:=(tG (XA.H hj).1 hN).H (hj.m<|by rw[e];show hn.symm)
    lia
   let RC:SqT K H1 a (IL U):=SqK.samex (kd:=true) hA hT Tp;let lU:U.f<=20:=by have:=hU.2.1;have:=hG.2.1;lia
   let lV:U2.f<=20:=by have:=uh.2.1;have:=hG.2.1;lia
   show⟨_,Z,a,Z,{_,RC},wz (K:=K) (a:=a) (xs:=IL U) (λi ws H3=>H3=H1/\i<=U.f/\ws=IL ((U.M i).filter λy=>decide<|y∉U2)) {Z,Yi _,Z} (Zo<|by rw[Xr];lia)
    (λi ws H3 hi h=>by let(e,UZ,ew):=h;show{e▸RC,by rw[ew,Xr];show Yj (YE ..)<|by rw[Yl];lia}) ?_ ?_⟩
   .rintro i y ws H3 hi ⟨rfl,UP,rfl⟩ S Xc;let(y,rfl,hy):=TY hi;let Xn:i<U.f:=(XA.H hy).1
    exists _,Z,_,Z,b,_,Z,.inr<|SqT.of hb,Z,ZT _,_,Z,?_;rw[Ur];show Wv (λhc=>?_) (λhc=>?_)
    .show Xc _ _ {Z,Xn,?_};rw[ZQ hy,if_neg (by simpa using hc),YB]
    .exists _,Z,Xc _ _ {Z,Xn,?_};rw[ZQ hy,if_pos<|Yx hc,VJ]
   rintro ws H3 ⟨rfl,_,rfl⟩ oA hoA;rw[Xr,YR];let(o,lo,eo,o1,o2):=Zd5 hG hU uh ne;rw[eo];let u4:=XZ (o:=.lst<|IL<|o::lo) hoA
   let k4:=XS (H:=H3) (a:=oA) (o:=.lst<|IL<|o::lo);generalize upd H3 oA (.lst<|IL<|o::lo)=H4 at *;show nm ?_;let hb4:=u4 _ _ hb
   let Mq:SqT K H4 a (IL U):=SqK.Y (k:=true) u4 RC;show⟨_,Z,b,Z,{_,SqT.of hb4},wz (K:=K) (a:=b) (xs:=IL U2) (λi ws H5=>H5=H4/\i<=U2.f/\ws=IL ((U2.M i).filter λy=>decide<|y∉U)) {Z,Yi _,Z} (Zo<|by rw[Xr];lia)
    (λi ws H5 hi h=>by let(e,UZ,ew):=h;show{e▸SqT.of hb4,by rw[ew,Xr];show Yj (YE ..)<|by rw[Yl];lia}) ?_ ?_⟩
   .rintro i y ws H5 hi ⟨rfl,UP,rfl⟩ S Xc;let(y,rfl,hy):=TY hi;let Xn:i<U2.f:=(XA.H hy).1
    exists _,Z,_,Z,a,_,Z,.inr Mq,Z,ZT _,_,Z,?_;rw[Ur];show Wv (λhc=>?_) (λhc=>?_)
    .show Xc _ _ {Z,Xn,?_};rw[ZQ hy,if_neg (by simpa using hc),YB]
    .exists _,Z,Xc _ _ {Z,Xn,?_};rw[ZQ hy,if_pos<|Yx hc,VJ]
   rintro ws H5 ⟨rfl,_,rfl⟩ iA hiA;rw[Xr,YR];let(z,lz,ez,z1,z2):=Zd5 hG uh hU (Xb ne);rw[ez];let u6:=XZ (o:=.lst<|IL<|z::lz) hiA
   let k6:=XS (H:=H5) (a:=iA) (o:=.lst<|IL<|z::lz);generalize upd H5 iA (.lst<|IL<|z::lz)=H6 at *;show nm ?_;exists _,Z,oA,_,0,.int o,Z,Z,SqL.of<|u6 _ _ k4,ZG (n:=0) Z Z,_,Z,iA,_,0,.int z,Z,Z,SqL.of k6,ZG (n:=0) Z Z,two,λr Nv=>?_;let u7:=XZ (o:=.tup [.int o,.int z]) Nv
   let s17:=u4.m (u6.m u7);show q ↑r _ (Tp.m<|SameX.Y s17) (WM.Y s17)
inductive spZM(K:Ad)(vs:List V)(H:Hp)(Q:VK)(_:XK):Prop
 |mk (a:Addr) (ns:Ac) (k:Int) (_:vs=[.ref a,.int k]) (_:SqL K H a (IL ns)) (_:0<=k) (_:∀r:Int,Q (.int r) H)
def PH(T:Txt K mg t):Xd P w base WY T.qZM 1 (spZM K):=by
 show T.qZM.okI ["script","k"] sC λXG A outer s H vs Q E hr h=>?_
 .let⟨a,ns,k,rfl,hS,hk,q⟩:=h;show⟨_,(XM (Xz (Ze Ka (pv 1) (Zd (Zi K) sE T.n_len Boot.«len»<|XY (pv 0) XX)<|Zn _)
   (XH<|Zj<|ZJ (Zh K) (pv 0) (pv 1) λ_ _=>rfl)
   Zp)
   (XH<|Zj XO)),?_⟩
  exists _,Z,_,Z,a,_,Z,.inl hS,_,_,Z,Z,_,Z,?_;show CF (λhc=>?_) (λ_=>?_)
  .let hc:=YG hc;rw[Xr]at hc;obtain⟨z,hz⟩:∃z,ns[k.j]?=some z:={_,Xp J};exists _,Z,_,Z,a,_,k,.int z,Z,Z,hS,ZG (n:=k.j) J (by rw[Yw,hz];rfl),q z
  .show q 0
inductive spZN(vs:List V)(H:Hp)(Q:VK)(_:XK):Prop
 |mk (c k:Int) (_:vs=[.int c,.int k]) (_:0<=k) (_:k<1000000000) (_:∀r:Int,0<=r->Q (.int r) H)
def Kq(T:Txt K mg t):Xd P w base WY T.qZN 1 spZN:=by
 show T.qZN.okI ["cell","k","big"] sC λXG A outer s H vs Q E hr h=>?_
 .let⟨c,k,rfl,k0,k1,q⟩:=h;show⟨_,(XM (Zg 2<|Zq AW (Zq Uc (Zq ZL (pv 0)<|Zq MM XO XO) XO)<|Zq Uc XO<|Zq AW (Zq AW XO<|pv 1)<|pv 1)
   (XM (Zg 2<|Zq Uc (pv 2)<|Zq AW XO<|pv 1)
   (XH<|Zj<|Zq ZL (Zq AW (pv 2)<|pv 2)<|Zq Uc (Zq MM XO XO) XO))),?_⟩
  let a0:0<=c%10^(60:Int).j:=OT _ su;let a1:c%10^(60:Int).j<10^60:=MY _ su
  let b:=mv (M:=10^20) (N:=10^20) (a:=2*k) (b:=k) J J k0 J;let d:=mv (M:=10^70) (N:=10^70) (a:=c%10^(60:Int).j+3) (b:=16180339887498948482045868343656381177203+2*k*k) J J sD sr
  exists _,Z,_,_,Z,Z,⟨su,su,su⟩,_,_,Z,Z,(by change(0:Int)<10^60;decide),_,_,Z,Z,_,Z,_,_,Z,Z,{⟨su,su⟩,J,J},_,Z,_,_,Z,Z,{⟨J,J⟩,sr,sr},_,_,Z,Z,_,_,Z,Z,{⟨J,J⟩,sr,sr},?_;exists _,Z,_,Z,_,_,Z,Z,{⟨su,su⟩,sr,sr},_,_,Z,Z,?_;exists _,Z,_,Z,_,_,Z,Z,{⟨sr,sr⟩,sr,sr},_,_,Z,Z,⟨su,su,su⟩,_,_,Z,Z,_,_,Z,Z,(by change(0:Int)<10^60+33;decide),?_;show q _ (OT _ su)
inductive spZO(K:Ad)(vs:List V)(H:Hp)(Q:VK)(_:XK):Prop
 |mk (a:Addr) (ns:Ac) (n most:Int) (_:vs=[.ref a,.int n,.int most]) (_:SqL K H a (IL ns)) (_:ns.f<=63) (_:1<=n) (_:n<=1000) (_:1<=most) (_:most<=30) (_:∀(l:Addr)(xs:List V)(ps:Aa)(H':Hp),Same H H'->H l=none->H' l=some (.lst xs)->PairsV H' xs ps->ps⁻¹<=most->(∀p∈ps,0<=p.1/\p.1<n/\0<=p.2/\p.2<n)->Q ↑l H')
def Zl5{ps:Aa}{n x y:Int}(h:∀p∈ps,0<=p.1/\p.1<n/\0<=p.2/\p.2<n)(h0:0<=x)(h1:x<n)(h2:0<=y)(h3:y<n):∀p∈ps++[(x,y)],0<=p.1/\p.1<n/\0<=p.2/\p.2<n:=λp hp=>by
 rcases XB.H hp with e|e
 .show h p e
 .rw[XD.H e];exists h0,h1,h2,h3
def fM{ps:Aa}{n x y:Int}{i:Nat}(h:∀p∈ps,0<=p.1/\p.1<n/\0<=p.2/\p.2<n)(h0:0<=x)(h1:x<n)(h2:0<=y)(h3:y<n):∀p∈ps.set i (x,y),0<=p.1/\p.1<n/\0<=p.2/\p.2<n:=λp hp=>by
 rcases eN hp with e|e
 .show h p e
 .rw[e];exists h0,h1,h2,h3
def PairsV.mutl{H:Hp}{d:Addr}{ys zs xs:List V}{ps:Aa}(hP:PairsV H xs ps)(hl:H d=some (.lst ys)):PairsV (upd H d (.lst zs)) xs ps:={hP.1,λi p e=>by let(v,e1,t,e2,e3):=hP.2 i p e;show{v,e1,t,e2,by rwa[Za (OK e3 hl (λz=>nomatch z))]}}
def fL{s rest:TS}{D:Ends}{σ:L2.St}{H:Hp}(P:L2.St->Hp->Prop)(h1:∀σ' H',P σ' H'->rest D σ' H')(h2:∀K:L2.St->Hp->Prop,(∀σ' H',P σ' H'->K σ' H')->s {D with nx:=K} σ H):TF s rest D σ H:=h2 _ h1
def fK(T:Txt K mg t):Xd P w base WY T.qZO 2 (spZO K):=by
 show T.qZO.okI ["script","count","most","told","rest","amount","k","digit","cell","m","at"] sC λXG A outer s H vs Q E hr h=>?_
 .let⟨a,ns,n,most,rfl,hA,yt,n1,n2,m1,m2,q⟩:=h;show⟨_,(XM (Zg 3<|WB XX)
   (XM (Xz (Ze Vc (Zq ZL (Xu (PH T) hr T.qZM Zw<|XY (pv 0)<|XY XO XX) XO) XO<|Zn _)
   (XM (Zg 4<|Zq ZL (Xu (PH T) hr T.qZM Zw<|XY (pv 0)<|XY XO XX)<|Zq MM XO XO)
   (XM (Zg 5<|Zq ZL (pv 4)<|Zq Uc (pv 2) XO)
   (XM (Zg 4<|Zq Kc (pv 4)<|Zq Uc (pv 2) XO)
   (XM (Sb SV Z (wW Z T.n_range<|XY (pv 5) XX) (Zc 6)
   (XM (Xz (Ze Vc (pv 4) XO<|Zn _)
   (XH<|Zg 4<|Xu (Kq T) hr T.qZN Zw<|XY (Xu (PH T) hr T.qZM Zw<|XY (pv 0)<|XY XO XX)<|XY (pv 6) XX)
   Zp)
   (XM (Zg 7<|Zq ZL (pv 4)<|Zq Uc (Zq wQ (pv 1)<|pv 1) XO)
   (XM (ZU<|Vm K YY Ei Ej CL (pv 3)<|XY (WC<|XY (Zq ZL (pv 7)<|pv 1)<|XY (Zq ZL (Zq Kc (pv 7)<|pv 1)<|pv 1) XX) XX)
   (XH<|Zg 4<|Zq Kc (pv 4)<|Zq Uc (Zq wQ (pv 1)<|pv 1) XO)))))
   (XH<|Zj<|pv 3)))))
   Zp)
   (XM (Sb SV Z (LC K Z T.n_enumerate<|XY (HN (Hz K) (pv 0) (SG XO) Qz) XX) (Qp (n:=2) K Z<|Zr (Zc 6)<|Zr (Zc 8) QE)
   (XM (Zg 9<|Xu (Kq T) hr T.qZN Zw<|XY (pv 8)<|XY (Zq ZL (pv 6) XO) XX)
   (XH (Xz (Ze Ka (pv 6) (pv 2)<|Zn _)
   (XH<|ZU<|Vm K YY Ei Ej CL (pv 3)<|XY (WC<|XY (Zq ZL (Zq Kc (pv 9) XO)<|pv 1)<|XY (Zq ZL (Zq Kc (pv 9) XO)<|pv 1) XX) XX)
   (XM (Zg 10<|Zq ZL (pv 6)<|pv 2)
   (XM (Zg 9<|Xu (Kq T) hr T.qZN Zw<|XY (Zq Uc (Zq Uc (pv 9)<|ZJ (ZH K) (ZJ (Zh K) (pv 3) (pv 10) λ_ _=>rfl) XO λ_ _=>rfl)<|Zq wQ XO<|ZJ (ZH K) (ZJ (Zh K) (pv 3) (pv 10) λ_ _=>rfl) XO λ_ _=>rfl)<|XY XO XX)
   (XH<|Dq (WC<|XY (Zq ZL (Zq Kc (pv 9) XO)<|pv 1)<|XY (Zq ZL (Zq Kc (pv 9) XO)<|pv 1) XX)<|Dr (pv 3) (pv 10) Qy)))))))
   (XH<|Zj<|pv 3)))),?_⟩
  let two:2<=sizeLine:=su;let Sg:(0:Int)<n:=J
  let md:∀z:Int,0<=z%n/\z%n<n:=λz=>{OT _ J,MY _ Sg};exists Yi _,λtd Ep=>?_;let s0:=XZ (o:=.lst []) Ep
  let FL:(upd H td<|.lst []) td=some (.lst []):=XS;let Ey:=s0.seq hA
  generalize upd H td (.lst [])=H0 at *;exists _,Z,a,ns,1,Z,Ey,su,λc1=>{_,_,Z,Z,(by change(0:Int)<2;decide),Z,_,Z,?_};rw[Zs];show Xl (λ_=>?_) (λ_=>?_)
  .exists _,Z,a,ns,2,Z,Ey,su,λc2=>{_,_,Z,Z,⟨su,su,su⟩,_,_,Z,Z,(by change(0:Int)<10^60;decide),?_};exists _,Z,_,Z,_,_,Z,Z,_,_,Z,Z,(by change(0:Int)<most+1;lia),?_;exists _,Z,_,Z,_,_,Z,Z,_,_,Z,Z,{by change(0:Int)<most+1;lia,by change most+1<1073741824;lia},?_;let am0:0<=c2%10^(60:Int).j%(most+1):=OT _ J
   let am1:c2%10^(60:Int).j%(most+1)<most+1:=MY _ J;let nn:=mv (M:=1001) (N:=1001) (a:=n) (b:=n) J J J J
   exists _,Z,_,Z,J,J,dy (lo:=0) (n:=(c2%10^(60:Int).j%(most+1)).j) (λi σ H2=>∃(xs:List V)(ps:Aa)(rs:Int)(v5 v6 v7:Option V),σ=[some ↑a,some<|.int n,some<|.int most,some<|.ref td,some<|.int rs,v5,v6,v7,none,none,none]/\Same H H2/\H2 td=some (.lst xs)/\PairsV H2 xs ps/\ps.f=i/\∀p∈ps,0<=p.1/\p.1<n/\0<=p.2/\p.2<n) {[],[],_,_,_,_,Z,s0,FL,PairsV.nil,Z,λp hp=>(by cases hp)} ?_ ?_
   .rintro i σ H2 hi ⟨xs,ps,rs,v5,v6,v7,rfl,s2,h2,hP,Nx,hg⟩;show nm ?_;dsimp only;show fL (λσ H3=>∃IQ:Int,H3=H2/\σ=[some ↑a,some<|.int n,some<|.int most,some<|.ref td,some<|.int IQ,v5,some<|.int<|0+(i:Int),v7,none,none,none]) ?_ ?_
    .rintro σ H3 ⟨IQ,rfl,rfl⟩;let dp:(0:Int)<n*n+1:=J
     exists _,Z,_,Z,_,Z,_,_,Z,Z,.inl {by change -(2^64)<n;lia,by change n<2^64;lia},_,_,Z,Z,_,_,Z,Z,dp,?_;let(x0,x1):=md (IQ%(n*n+1));let(y0,y1):=md (IQ%(n*n+1)/n);exists _,Z,.inl {Z,_,SqL.of h2},_,Z,_,Z,_,_,Z,Z,Sg,_,Z,_,Z,_,_,Z,Z,{Sg,by change n<1073741824;lia},_,Z,_,_,Z,Z,Sg,two,λtp Lw=>?_;let u1:=XZ (o:=.tup [.int (IQ%(n*n+1)%n),.int (IQ%(n*n+1)/n%n)]) Lw
     let h3:=u1 _ _ h2;exists td,xs,_,Z,Z,h3,Zo (by rw[hP.1];lia),?_;exists _,Z,_,Z,_,Z,_,_,Z,Z,.inl {by change -(2^64)<n;lia,by change n<2^64;lia},_,_,Z,Z,_,_,Z,Z,{dp,by change n*n+1<1073741824;lia},?_;show{_,ps++[(IQ%(n*n+1)%n,IQ%(n*n+1)/n%n)],_,_,_,_,Z,ZK Ep<|s2.m u1,XS,?_,by rw[Xy,Yt,Nx],Zl5 hg x0 x1 y0 y1};show((hP.Y u1).snoc ⟨tp,Z,XS⟩).mutl h3
    .intro Kn hK;exists _,Z,Z,_,Z,?_;rw[Zs];show Xl (λ_=>?_) λ_=>hK _ _ ⟨rs,Z,Z⟩;exists _,Z,a,ns,2,Z,s2.seq hA,su,λc3=>{_,Z,c3,_,Z,J,J,λr3 _=>hK _ _ ⟨r3,Z,Z⟩}
   .rintro σ H2 ⟨xs,ps,rs,v5,v6,v7,rfl,s2,h2,hP,Nx,hg⟩;exists _,Z,q td xs ps H2 s2 Ep h2 hP J hg
  .exists _,Z,_,Z,a,_,Z,Ey,λp1 TQ=>?_;rw[JA];let cl:(Lv ns (some 2) none).f<=63:=by
    have:=wK (IL ns) (some 2) none
    rw[JA,Xr,Xr]at this;lia
   generalize Lv ns (some 2) none=cs at *;let u1:=XZ (o:=.lst<|IL cs) TQ
   let Uw:p1≠td:=λe=>by rw[e,FL]at TQ;cases TQ
   exists p1,Z,{_,SqL.of XS},Cv (K:=K) (a:=p1) (xs:=IL cs) (λi σ H2=>∃(xs:List V)(ps:Aa)(v6 v8 v9 v10:Option V),σ=[some ↑a,some<|.int n,some<|.int most,some<|.ref td,none,none,v6,none,v8,v9,v10]/\Same H H2/\H2 p1=some (.lst<|IL cs)/\H2 td=some (.lst xs)/\PairsV H2 xs ps/\ps⁻¹=(if (i:Int)<most then (i:Int) else most)/\∀p∈ps,0<=p.1/\p.1<n/\0<=p.2/\p.2<n) {[],[],none,none,none,none,Z,s0.m u1,XS,u1 _ _ FL,PairsV.nil,by rw[if_pos J];rfl,λp hp=>(by cases hp)} (λi σ H2 _ zz=>by let(_,_,_,_,_,_,_,_,e,_):=zz;show SqL.of e) ?_ ?_
   .rintro i v σ H2 pt fJ hi ⟨xs,ps,v6,v8,v9,v10,rfl,s2,VE,h2,hP,Nx,hg⟩;let(c,rfl,hc):=TY hi;let hi63:=(XA.H hc).1
    let u2:=XZ (o:=.tup [.int i,.int c]) fJ;exists pt,_,Z,SqT.of XS,Z,_,_,Z,_,_,Z,Z,?_;let Jd:=u2 _ _ VE
    let h3:=u2 _ _ h2;let fI:=hP.Y u2
    let s3:=s2.m u2;generalize upd H2 pt (.tup [.int i,.int c])=H3 at *;exists _,Z,_,Z,_,_,Z,Z,(by change(0:Int)<37;decide),c,_,Z,OT _ su,Int.lt_trans (MY _ su) su,λm m0=>?_;exists _,Z,_,Z,_,_,Z,Z,_,Z,?_;show Xl (λhk=>?_) (λhk=>?_)
    .rw[if_pos hk]at Nx;let(x0,x1):=md (m/8);let(y0,y1):=md (m/800);exists _,Z,.inl {Z,_,SqL.of h3},_,Z,_,_,Z,Z,⟨su,su⟩,_,Z,_,_,Z,Z,Sg,_,Z,_,_,Z,Z,⟨su,su⟩,_,Z,_,_,Z,Z,Sg,two,λtp Lw=>?_;let u3:=XZ (o:=.tup [.int (m/8%n),.int (m/800%n)]) Lw
     let h4:=u3 _ _ h3;exists td,xs,_,rfl,rfl,h4,Zo (by rw[hP.1];lia),?_;show{_,ps++[(m/8%n,m/800%n)],_,_,_,_,rfl,ZK Ep<|s3.m u3,by rw[Za Uw];show u3 _ _ Jd,XS,((fI.Y u3).snoc ⟨tp,rfl,XS⟩).mutl h4,?_,Zl5 hg x0 x1 y0 y1};rw[Xy,Yt];split<;>lia
    .rw[if_neg hk]at Nx;let at0:0<=(i:Int)%most:=OT _ J
     let at1:(i:Int)%most<most:=MY _ J;obtain⟨p,hp⟩:∃p,ps[((i:Int)%most).j]?=some p:={_,Xp J};let(v,hv,tt,rfl,Uh):=fI.2 _ p hp;let hix:VQ xs ((i:Int)%most)=some ↑tt:=ZG (n:=((i:Int)%most).j) J hv
     exists _,Z,_,Z,_,_,Z,Z,(by change(0:Int)<most;lia),?_;exists _,Z,_,Z,_,Z,td,_,(i:Int)%most,.ref tt,Z,Z,SqL.of h3,hix,tt,_,0,.int p.1,Z,Z,SqT.of Uh,Z,_,_,Z,Z,_,Z,_,Z,td,_,(i:Int)%most,.ref tt,Z,Z,SqL.of h3,hix,tt,_,1,.int p.2,Z,Z,SqT.of Uh,Z,_,_,Z,Z,.inl ⟨su,su⟩,_,_,Z,Z,_,5,Z,su,su,λm' m0'=>?_;let(x0,x1):=md (m'/8);let(y0,y1):=md (m'/800);exists _,Z,_,_,Z,Z,⟨su,su⟩,_,Z,_,_,Z,Z,Sg,_,Z,_,_,Z,Z,⟨su,su⟩,_,Z,_,_,Z,Z,Sg,two,λtp Lw=>?_;let u3:=XZ (o:=.tup [.int (m'/8%n),.int (m'/800%n)]) Lw
     let h4:=u3 _ _ h3;exists _,Z,_,Z,td,xs,_,((i:Int)%most).j,Z,Z,h4,?_,?_
     .have:=hP.1
      unfold Oz;rw[if_pos J,if_pos J]
     show{_,ps.set ((i:Int)%most).j (m'/8%n,m'/800%n),_,_,_,_,rfl,ZK Ep<|s3.m u3,by rw[Za Uw];show u3 _ _ Jd,XS,((fI.Y u3).set _ ⟨tp,rfl,XS⟩).mutl h4,?_,fM hg x0 x1 y0 y1};rw[MT];split<;>lia
   .rintro σ H2 ⟨xs,ps,v6,v8,v9,v10,rfl,s2,VE,h2,hP,Nx,hg⟩;exists _,rfl,q td xs ps H2 s2 Ep h2 hP ?_ hg;split at Nx<;>lia
inductive spZP(K:Ad)(vs:List V)(H:Hp)(Q:VK)(_:XK):Prop
 |mk (n:Int) (a:Addr) (xs:List V) (ps:Aa) (_:vs=[.int n,.ref a]) (_:SqL K H a xs) (_:PairsV H xs ps) (_:Zx n ps) (_:ps.f<=10) (_:∀(r:Addr)(ys:List V)(L:Ab)(H':Hp),Same H H'->H' r=some (.lst ys)->TupsV H' ys L->L.f<=1024->(∀l,l∈L↔Zf n ps l)->L.E Qg->Q ↑r H')
def fH{ps:Aa}{z:Nat}{p:Int×Int}(h:ps[z]?=some p):Zt ps (z:Int)=(p.1.j,p.2.j):=by unfold Zt;rw[YL,ZS h]
def yr:FnScope ["count","ties","told","tie","pair","more","row","marks","low","high"] ["count","ties"] (Zb (top 69)):=Rr sC
def fG(T:Txt K mg t):Xd P w base WY T.qZP 1 (spZP K):=by
 show T.qZP.okI ["count","ties","told","tie","pair","more","row","marks","low","high"] sC λXG A outer s H vs Q E hr h=>?_
 .let⟨n,a,xs,ps,rfl,hA,hP,hG,p10,q⟩:=h;show⟨_,(XM (Zg 2<|WB<|XY (WC<|XY (WC XX)<|XY (Zk (cO Z) sE T.n_list Boot.«list»<|XY (Zk pQ sE T.n_range Boot.«range»<|XY (pv 0) XX) XX) XX) XX)
   (XM (Sb SV Z (LC K Z T.n_enumerate<|XY (pv 1) XX) (Qp (n:=2) K Z<|Zr (Zc 3)<|Zr (Zc 4) QE)
   (XM (Zg 5<|WB XX)
   (XM (Sb SV Z (ZV K<|pv 2) (Qp (n:=2) K Z<|Zr (Zc 6)<|Zr (Zc 7) QE)
   (XM (Ti (i:=8) yr.nd Z (Or.inr Z)<|ZJ (Zh K) (pv 7) (ZJ (ZH K) (pv 4) XO λ_ _=>rfl) λ_ _=>rfl)
   (XM (Ti (i:=9) yr.nd Z (Or.inr Z)<|ZJ (Zh K) (pv 7) (ZJ (ZH K) (pv 4) XO λ_ _=>rfl) λ_ _=>rfl)
   (XH (Xz (Ze VA (pv 8) (pv 9)<|Zn _)
   (XH<|ZU<|Vm K YY Ei Ej CL (pv 5)<|XY (WC<|XY (Zq (mR K) (pv 6)<|WC<|XY (pv 3) XX)<|XY (Vy Z (sc0:=Zb<|top 69) (N0:=["count","ties","told","tie","pair","more","row","marks","low","high"]) (N':=["mark","low","high"]) (o:=1) (fr:=[8,9]) ⟨Z,sC,sC,sC,Z,sC⟩ (ZV K<|pv 7) (ZE su) (λ_ _ _ _=>(Zc 0)) (λ_ _ _ _=>ML) λ_ _ _ _=>(ZJ (Zh K) (WB<|XY (pv 0)<|XY (pv 1) XX) (Zk rd sE T.n_int Boot.«int»<|XY (Pr Vc (pv 0) (pv 2)<|Zn _) XX) λ_ _=>rfl)) XX) XX)
   Zp)))))
   (XH<|Zg 2<|Zq CJ (pv 2)<|pv 5))))
   (XH<|Zj<|Zd (m6 K) sE T.n_sorted Boot.«sorted»<|XY (Vy Z (sc0:=Zb<|top 69) (N0:=["count","ties","told","tie","pair","more","row","marks","low","high"]) (N':=["row","marks","count"]) (o:=2) (fr:=[0]) ⟨Z,sC,sC,sC,Z,sC⟩ (ZV K<|pv 2) (Qt<|ZW su<|ZW su Qu) (λ_ _ _ _=>(Qp (n:=2) K Z<|Zr (Zc 0)<|Zr (Zc 1) QE)) (λ_ _ _ _=>(Qw<|Ze Vc (Zd (Zi K) sE T.n_len Boot.«len»<|XY (pv 0) XX) (Zq Vn (pv 2) XO)<|Zn _)) λ_ _ _ _=>(pv 0)) XX))),?_⟩
  let(g1,g2,g3,g4):=id hG;let Pj:=hP.1
  let one:1<=sizeLine:=su;let two:2<=sizeLine:=su
  exists Yi _,λt0 ht0=>?_;let s0:=XZ (o:=.tup []) ht0
  exists _,Z,n,Z,λrg hrg=>{rg,0,n,Z,XS,⟨su,su,J,J⟩,J,λh0 hh0=>?_};let s1:=Zy (o:=.lst<|(Wr 0 n).R V.int) (XZ (o:=.rng 0 n) hrg) hh0
  exists two,λpr hpr=>{one,λd0 hd0=>?_};let s2:=XZ (o:=.tup [.ref t0,.ref h0]) hpr
  let s3:=XZ (o:=.lst [.ref pr]) hd0;let e0:(Wr 0 n).R V.int=IL (WQ n.j<|XT ps []):=by rw[cE];rfl
  let f1:=(s2.m s3) _ _ (XS (a:=h0) (o:=.lst<|(Wr 0 n).R V.int));let bh0:∀(R:V->Ac->Prop),Bears R [] []:=λR=>{Z,λi l e=>by simp at e}
  let hB0:Bears (PhL n.j ps<|upd (upd (upd (upd (upd H t0<|.tup []) rg<|.rng 0 n) h0<|.lst<|(Wr 0 n).R V.int) pr<|.tup [.ref t0,.ref h0]) d0<|.lst [.ref pr]) [.ref pr] (UA n.j ps 0):=
   (bh0 _).snoc {pr,t0,h0,Z,s3 _ _ XS,(s1.m<|s2.m s3) _ _ XS,by rwa[<-e0]}
  let sA:=(s0.m<|s1.m<|s2.m s3).seq hA;show⟨_,Z,a,Z,{_,sA},Cv (K:=K) (a:=a) (xs:=xs) (λi σ H2=>∃(d:Addr)(ys:List V)(v3 v4 v5 v6 v7 v8 v9:Option V),σ=[some (.int n),some<|.ref a,some<|.ref d,v3,v4,v5,v6,v7,v8,v9]/\Same H H2/\H2 d=some (.lst ys)/\Bears (PhL n.j ps H2) ys (UA n.j ps i))
   {d0,[.ref pr],none,none,none,none,none,none,none,Z,s0.m<|s1.m<|s2.m s3,XS,hB0} (λi σ H2 _ zz=>by let(_,_,_,_,_,_,_,_,_,_,e,_):=zz;show e.seq hA) ?_ ?_⟩
  .rintro i v σ H2 pt Uw hi ⟨d,ys,v3,v4,v5,v6,v7,v8,v9,rfl,s2,hd,hB⟩;let(p,hp,tz,rfl,htz):=hP.at hi;let hi10:i<10:=by have:=(XA.H hp).1;lia
   let(b1,b2,b3,b4):=g4 p (WT hp);let w1:=XZ (o:=.tup [.int i,.ref tz]) Uw
   exists pt,_,Z,SqT.of XS,Z,_,_,Z,_,_,Z,Z,?_;let QR:=w1 _ _ hd
   let Jz:=hB.imp λ_ _ h=>h.Y w1;let s3:=s2.m w1
   generalize upd H2 pt (.tup [.int i,.ref tz])=H3 at *;exists Yi _,λe he=>?_;let w2:=XZ (o:=.lst []) he
   let yl:=AO n.j ps (i:=i) J;let KZ:=Jz.1
   show⟨_,Z,d,Z,{_,SqL.of<|w2 _ _ QR},wU (K:=K) (a:=d) (xs:=ys) (λj σ H4=>∃(zs:List V)(v6 v7 v8 v9:Option V),σ=[some (.int n),some<|.ref a,some<|.ref d,some<|.int i,some<|.ref tz,some<|.ref e,v6,v7,v8,v9]/\Same H3 H4/\H4 e=some (.lst zs)/\Bears (PhM n.j ps e H4) zs ((((UA n.j ps i).M j).R (·++[(i:Int)])).filter (Fr n.j ps)))
    {[],_,_,_,_,Z,w2,XS,bh0 _} (λj σ H4 _ zz=>by let(_,_,_,_,_,_,e,_):=zz;show SqL.of<|e _ _ QR) ?_ ?_⟩
   .rintro j v σ H4 hj ⟨zs,v6,v7,v8,v9,rfl,s4,Eo,hZ⟩;let(l,hl,tt,pA,yq,rfl,Uh,Ex,hhA):=Jz.at hj;let hFr:=(Wn.H<|WT hl).2
    let KS:=(Wn.H<|WT hl).1.len;exists tt,_,Z,SqT.of<|s4 _ _ Uh,Z,_,_,Z,_,_,Z,Z,?_;let fF:=s4 _ _ Ex
    let FK:=s4 _ _ hhA;let yp:=(s3.m s4) _ _ htz
    let lL:(WQ n.j<|XT ps l).f=n.j:=ZI _ _;let eo:=fH hp
    let lsn:WQ n.j (XT ps<|l++[(i:Int)])=lm (WQ n.j<|XT ps l) p.1.j p.2.j:=by rw[Sw,eo,LB]
    let frz:=Rc (n:=n.j) (ps:=ps) (l:=l) (z:=(i:Int));rw[eo]at frz;let lst:(((UA n.j ps i).M (j+1)).R (·++[(i:Int)])).filter (Fr n.j ps)=(((UA n.j ps i).M j).R (·++[(i:Int)])).filter (Fr n.j ps)++(if Fr n.j ps (l++[(i:Int)])=true then [l++[(i:Int)]] else []):=by
     rw[WD,hl,YQ,QM];show QP _ ?_;change List.filter _ [l++[(i:Int)]]=_
     rw[YZ];rfl
    let zl:zs.f<=1024:=by rw[hZ.1];show Yj (YE ..) ?_;rw[Yb,Yl];lia
    generalize WQ n.j (XT ps l)=M at *;let iA:VQ (IL M) p.1=some (.int<|mk M p.1.j):=ZG (n:=p.1.j) J (Tw<|Po J)
    let iB:VQ (IL M) p.2=some (.int<|mk M p.2.j):=ZG (n:=p.2.j) J (Tw<|Po J);exists _,Z,_,Z,tz,_,0,.int p.1,Z,Z,SqT.of yp,Z,yq,_,p.1,_,Z,Z,SqL.of FK,iA,?_;exists _,Z,_,Z,tz,_,1,.int p.2,Z,Z,SqT.of yp,Z,yq,_,p.2,_,Z,Z,SqL.of FK,iB,?_;exists _,Z,_,Z,Z,_,Z,?_;rw[Zs];show Wv (λheq=>?_) (λXJ=>?_)
    .exists zs,_,_,_,_,Z,s4,Eo,?_;rwa[lst,if_neg λh=>(frz.H h).2 heq,YB]
    let hFz:Fr n.j ps (l++[(i:Int)])=true:=frz.X ⟨hFr,XJ⟩;exists _,Z,.inl {Z,_,SqL.of Eo},_,Z,_,Z,one,λp2 VE=>?_;let x1:=XZ (o:=.tup [.int i]) VE
    exists pA,p2,_,_,Z,Z,x1 _ _ fF,XS,MF (by rw[Xr];change _+1<=_;lia),λr3 H5 x2 UQ=>?_;let fE:=x1.m x2
    let yn:=fE _ _ FK;show⟨_,Z,yq,Z,{_,SqL.of yn},ME (K:=K) (a:=yq) (xs:=IL M) (λw us H6=>Same H5 H6/\w<=M.f/\us=IL ((M.M w).R λk=>if k=mk M p.2.j then mk M p.1.j else k)) {Same.refl _,Yi _,Z} (Zo<|by rw[Xr];lia)
     (λw us H6 hw zz=>by let(e,uL,ey):=zz;show{SqL.of<|e _ _ yn,by rw[ey,Xr,Yb,Yl];lia}) ?_ ?_⟩
    .rintro w v us H6 hw ⟨x3,JT,rfl⟩ S Xc;let(y,rfl,hy):=TY hw;let ym:=(XA.H hy).1
     show nm ?_;exists _,Z,_,Z,two,λlp Nx=>?_;let x4:=XZ (o:=.lst [.int y,.int (mk M p.1.j)]) Nx
     exists _,Z,_,Z,Z,.inr {_,Z,?_};rw[Zs];let app:∀v:Int,v=(if y=mk M p.2.j then mk M p.1.j else y)->IL ((M.M w).R λk=>if k=mk M p.2.j then mk M p.1.j else k)++[.int v]=IL ((M.M<|w+1).R λk=>if k=mk M p.2.j then mk M p.1.j else k):=λv hv=>by rw[WD,hy,YQ,hv];show(VJ _ _).symm
     cases hc:y=mk M p.2.j
     .rw[Yx hc];exists lp,_,1,.int<|mk M p.1.j,Z,Z,SqL.of XS,Z,Xc _ _ {x3.m x4,ym,app _<|by rw[if_pos hc]}
     .rw[Se hc];exists lp,_,0,.int y,Z,Z,SqL.of XS,Z,Xc _ _ {x3.m x4,ym,app _<|by rw[if_neg hc]}
    rintro us H6 ⟨x3,_,rfl⟩ la Gn;rw[Xr,YR];let elm:(M.R λk=>if k=mk M p.2.j then mk M p.1.j else k)=WQ n.j (XT ps<|l++[(i:Int)]):=by rw[lsn];unfold lm;rw[if_pos XJ]
    let x5:=XZ (o:=.lst<|IL<|M.R λk=>if k=mk M p.2.j then mk M p.1.j else k) Gn;exists two,λtn fD=>?_;let x6:=XZ (o:=.tup [.ref r3,.ref la]) fD
    let fC:=fE.m (x3.m<|x5.m x6);let he7:=fC _ _ Eo
    let hle:la≠e:=λz=>by rw[z,(fE.m x3) _ _ Eo]at Gn;cases Gn
    exists e,zs,_,Z,Z,he7,Zo J,?_;exists zs++[.ref tn],_,_,_,_,Z,ZK he<|s4.m fC,XS,?_;rw[lst,if_pos hFz];let hn:PhM n.j ps e (upd (upd H6 la<|.lst<|IL<|M.R λk=>if k=mk M p.2.j then mk M p.1.j else k) tn<|.tup [.ref r3,.ref la]) ↑tn (l++[(i:Int)]):={tn,r3,la,Z,XS,by rw[(x3.m<|x5.m x6) _ _ UQ,VJ],by rw[<-elm];show x6 _ _ XS,hle}
    show((hZ.imp λ_ _ h=>h.Y fC).snoc hn).imp λ_ _ h=>h.mut he7
   .rintro σ H4 ⟨zs,v6,v7,v8,v9,rfl,s4,Eo,hZ⟩;rw[Jz.1,YR]at hZ;let zl:zs.f<=1024:=by rw[hZ.1];show Yj (YE ..) ?_;rw[Yb];lia
    exists _,Z,_,Z,d,e,_,_,Z,Z,s4 _ _ QR,Eo,MF J,λdn hdn=>?_;let x1:=XZ (o:=.lst<|ys++zs) hdn
    exists dn,ys++zs,_,_,_,_,_,_,_,Z,s3.m<|s4.m x1,XS,?_;show((Jz.imp λ_ _ h=>h.Y s4).app (hZ.imp λ_ _ h=>h.low)).imp λ_ _ h=>h.Y x1
  .rintro σ H2 ⟨d,ys,v3,v4,v5,v6,v7,v8,v9,rfl,s2,hd,hB⟩;rw[Pj]at hB;let yl:=AO n.j ps p10
   let KZ:=hB.1;show⟨_,Z,d,Z,{_,SqL.of hd},ME (K:=K) (a:=d) (xs:=ys) (λi ws H3=>H3=H2/\i<=ys.f/\TupsV H2 ws (((UA n.j ps ps.f).M i).filter λl=>decide<|l⁻¹=n-1)) {Z,Yi _,TupsV.nil} (Zo J)
    (λi ws H3 hi zz=>by let(e,UZ,ey):=zz;show{e▸SqL.of hd,by rw[ey.1];show Yj (YE ..)<|by rw[Yl];lia}) ?_ ?_⟩
   .rintro i v ws H3 hi ⟨rfl,UP,hW⟩ S Xc;let(l,hl,tt,pA,yq,rfl,Uh,Ex,hhA):=hB.at hi;let Xn:i<ys.f:=(XA.H hi).1
    exists tt,_,Z,SqT.of Uh,Z,_,_,Z,_,_,Z,Z,?_;let tk:((UA n.j ps ps.f).M (i+1)).filter (λl=>decide<|l⁻¹=n-1)=((UA n.j ps ps.f).M i).filter (λl=>decide<|l⁻¹=n-1)++(if l⁻¹=n-1 then [l] else []):=by
     rw[WD,hl,QM];show QP _ ?_;change List.filter _ [l]=_
     rw[YZ];cases h:l⁻¹=n-1
     .rw[if_pos h,if_pos (Yx h)];rfl
     .rw[if_neg h,if_neg (by simp;show h)];rfl
    exists _,Z,pA,_,Z,.inr<|SqT.of Ex,_,Z,_,_,Z,Z,Z,_,Z,?_;rw[Xr,Zs];show Xl (λh=>?_) (λh=>?_)
    .exists _,Z,Xc _ _ {Z,Xn,?_};rw[tk,if_pos h];show hW.snoc ⟨pA,Z,Ex⟩
    .show Xc _ _ {Z,Xn,?_};rwa[tk,if_neg h,YB]
   .rintro ws H3 ⟨rfl,_,hW⟩ p hp;rw[KZ,YR]at hW;let hm:∀l,l∈(UA n.j ps ps.f).filter (λl=>decide<|l⁻¹=n-1)↔Zf n ps l:=λl=>by rw[Yn,YX];show mw hG
    let Ta:((UA n.j ps ps.f).filter λl=>decide<|l⁻¹=n-1).Nodup:=LW Iq (mx n.j ps ps.f);let KS:((UA n.j ps ps.f).filter λl=>decide<|l⁻¹=n-1).f<=1024:=Yj (YE ..) yl
    generalize (UA n.j ps ps.f).filter (λl=>decide<|l⁻¹=n-1)=W at *;let s4:=XZ (o:=.lst ws) hp
    let yV:=hW.Y s4;let JT:=hW.1
    exists p,ws,W,Xh<|upd H3 p<|.lst ws,Z,SqL.of XS,yV,λv l zz=>by let(a,e,h):=zz;show{a,e,SqT.of h},?_,J,λzs M hZ Ng hMs r hr=>?_
    .cases h1:n=1
     .show .inl ?_;rw[JT]
      match W,Ta,hm with
      |[],_,_=>show Nat.zero_lt_two
      |[_],_,_=>show Nat.one_lt_two
      |x::y::W,Ta,hm=>
       let ex:x=[]:=YW.H (by have:=((hm x).H B).2.1;lia);let ey:y=[]:=YW.H (by have:=((hm y).H B).2.1;lia)
       show absurd (ex.m ey.symm) ((Wb.H Ta).1 y B)
     .show .inr λl hl e=>?_
      have:=((hm l).H hl).2.1
      rw[e]at this;simp at this;lia
    .let s5:=XZ (o:=.lst zs) hr;show q r zs M _ (s2.m<|s4.m s5) XS (TupsV.Y s5 hZ) (by rwa[Ng.length_eq]) (λl=>by rw[Ng.mem_iff];show hm l) (AY hMs<|Ng.nodup_iff.X Ta)
def Xe(d:Int)(g:Bool):(Nat):=if d<4 then (if g=true then 3 else 0) else if d=4 then 1 else 2
def ug(K:Ad)(H:Hp)(d:Int)(v:V)(n:Int)(ps:Aa)(g:Bool):(Prop):=(d<4->∃a U,v=.ref a/\SqT K H a (IL U)/\(g=true↔Zf n ps U))/\(4<=d->¬He n ps)/\(d=4->∃z,v=.int z/\-(10^70)<z/\z<10^70)
def ZX2{n:Int}{ps:Aa}{T:Ac}(h:Zf n ps T):He n ps:=λi j hi hj=>(h.2.2 i j hi hj).mono (ZR λz hz=>Xx.X<|h.1.all z hz)
inductive spZQ(K:Ad)(C Pt N S Pa:Addr)(vs:List V)(H:Hp)(Q:VK)(E:XK):Prop
 |mk (w:Addr) (n:Int) (ps:Aa) (d:Int) (v:V) (g:Bool) (_:vs=[.int d,.ref w,v]) (_:WebAt C H w n ps) (_:Zx n ps) (_:Xt H Pt) (_:0<=d) (_:d<=5) (_:ug K H d v n ps g) (_:(Xe d g=3->∀(u:V)(H':Hp),SameX Pt H H'->Xt H' Pt->Q u H')) (_:(Xe d g=0->∀H':Hp,Same H H'->E ↑N none H')) (_:(Xe d g=1->∀H':Hp,SameX Pt H H'->Xt H' Pt->E ↑S none H')) (_:(Xe d g=2->∀H':Hp,Same H H'->E ↑Pa none H'))
def fB{Pt:Addr}(T:Txt K mg t)(hB:VM K mg base t.dZv Pt):Xd P w base (VO P w) T.qZQ 47 (spZQ K t.A_Web Pt t.A_NoTree t.A_NoSuch t.A_Parted):=by
 show T.qZQ.okXI ["deed","web","thing"] sC λXG A outer s H vs Q E hr h=>?_
 .let⟨w,n,ps,d,v,g,rfl,hW,hG,hT,d0,d5,⟨hv,Up,hz⟩,q3,q0,q1,q2⟩:=h;show⟨_,(XM (Xz (Ze Vc (pv 0) XO<|Zn _)
   (XH<|Zj<|Xu (FP T hB) hr T.qZI RY<|XY (pv 1)<|XY (pv 2) XX)
   Zp)
   (XM (Xz (Ze Vc (pv 0) XO<|Zn _)
   (XH<|Zj<|Xu (yw T hB) hr T.qZJ RY<|XY (pv 1)<|XY (pv 2) XX)
   Zp)
   (XM (Xz (Ze Vc (pv 0) XO<|Zn _)
   (XH<|Zj<|Xu (fO T hB) hr T.qZK RY<|XY (pv 1)<|XY (pv 2) XX)
   Zp)
   (XM (Xz (Ze Vc (pv 0) XO<|Zn _)
   (XH<|Zj<|Xu (fN T hB) hr T.qZL RY<|XY (pv 1)<|XY (pv 2) XX)
   Zp)
   (XM (Xz (Ze Vc (pv 0) XO<|Zn _)
   (XH<|Zj<|Xu (FR T hB) hr T.qZG RY<|XY (pv 1)<|XY (pv 2) XX)
   Zp)
   (XH<|Zj<|Xu (fP T hB) hr T.qZH RY<|XY (pv 1) XX)))))),?_⟩
  obtain⟨R,hR,fw⟩:∃R:Ab,((∃U,Zf n ps U)->RowW n ps R/\R.Nodup/\∀U,U∈R↔Zf n ps U)/\((∀U,¬Zf n ps U)->R=[]):=by
   cases h:∃U,Zf n ps U
   .let⟨R,h1,h2,h3⟩:=iO hG h;exists R,λ_=>⟨h1,h2,h3⟩,λno=>absurd h.choose_spec<|no _
   .exists [],λq=>absurd q h,λ_=>rfl
  let FN:∀U∈R,Zf n ps U:=λU hU=>by
   cases h:∃U,Zf n ps U
   .show((hR h).2.2 U).H hU
   .rw[fw λU hU=>h ⟨U,hU⟩]at hU;cases hU
  let key:d<4->∃a U j,v=.ref a/\SqT K H a (IL U)/\(Zf n ps U->RowW n ps R/\R.Nodup/\R[j]?=some U)/\(Zf n ps U->∀(u:V)(H':Hp),SameX Pt H H'->Xt H' Pt->Q u H')/\(¬Zf n ps U->∀H':Hp,Same H H'->E (.ref t.A_NoTree) none H'):=λh=>by
   let(a,U,e,ha,hg):=hv h;obtain⟨j,hj⟩:∃j:Nat,Zf n ps U->R[j]?=some U:=by
    cases c:Zf n ps U
    .let⟨j,hj⟩:=Yv (((hR ⟨U,c⟩).2.2 U).X c);exists j,λ_=>hj
    .exists 0,λz=>absurd z c
   exists a,U,j,e,ha,λc=>{(hR ⟨U,c⟩).1,(hR ⟨U,c⟩).2.1,hj c},λc=>q3 ?_,λc=>q0 ?_
   .unfold Xe;rw[if_pos h,if_pos (hg.X c)]
   .unfold Xe;rw[if_pos h,if_neg λz=>c (hg.H z)]
  clear hv;exists _,Z,Z,_,Z,?_;rw[Zs];show Xl (λe=>?_) (λn0=>?_)
  .let⟨a,U,j,rfl,ha,SX,k1,k2⟩:=key J;exists _,Z,_,Z,w,a,n,ps,U,R,j,Z,hW,hG,hT,ha,SX,λc H1=>k1 c _ H1,k2
  change(_:Prop);show Vv ?_;exists _,Z,Z,_,Z,?_;rw[Zs];show Xl (λe=>?_) (λn1=>?_)
  .let⟨a,U,j,rfl,ha,SX,k1,k2⟩:=key J;exists _,Z,_,Z,w,a,n,ps,U,R,j,Z,hW,hG,hT,ha,SX,λc v H1 _=>k1 c v H1,k2
  change(_:Prop);show Vv ?_;exists _,Z,Z,_,Z,?_;rw[Zs];show Xl (λe=>?_) (λn2=>?_)
  .let⟨a,U,j,rfl,ha,SX,k1,k2⟩:=key J;exists _,Z,_,Z,w,a,n,ps,U,R,j,Z,hW,hG,hT,ha,SX,k1,k2
  change(_:Prop);show Vv ?_;exists _,Z,Z,_,Z,?_;rw[Zs];show Xl (λe=>?_) (λn3=>?_)
  .let⟨a,U,j,rfl,ha,SX,k1,k2⟩:=key J;exists _,Z,_,Z,w,a,n,ps,U,R,j,Z,hW,hG,hT,ha,SX,FN,k1,k2
  change(_:Prop);show Vv ?_;clear key;let hJ:=Up J
  let Up:∀U,¬Zf n ps U:=λU hU=>hJ (ZX2 hU);let rfl:=fw Up;exists _,Z,Z,_,Z,?_;rw[Zs];show Xl (λe=>?_) (λn4=>?_)
  .let⟨z,rfl,z0,z1⟩:=hz e;exists _,Z,_,Z,w,n,ps,z,[],Z,hW,hG,hT,z0,z1,λh=>(hR h).1,fw,λa b=>absurd b (by change ¬z<0;lia),λ_=>q1 ?_;unfold Xe;rw[if_neg J,if_pos e]
  change(_:Prop);show Vv ?_;exists _,Z,w,n,ps,Z,hW,hG,hJ,q2 ?_;unfold Xe;rw[if_neg J,if_neg n4]
def En:(Nat->Str)
 |0=>"tree"
 |1=>"such"
 |2=>"parted"
 |_=>"told"
def fv(d:Int)(g:Bool):Xe d g<=3:=by
 unfold Xe
 repeat' split
 all_goals decide
def Kp:(List Str):=["tree","such","parted"]
def FJ(m:Nat):(List Bool):=[true,decide<|m=0,decide<|m=1,decide<|m=2,false,false]
inductive spZR(K:Ad)(C Pt:Addr)(vs:List V)(H:Hp)(Q:VK)(_:XK):Prop
 |mk (w:Addr) (n:Int) (ps:Aa) (d:Int) (v:V) (g:Bool) (_:vs=[.int d,.ref w,v]) (_:WebAt C H w n ps) (_:Zx n ps) (_:Xt H Pt) (_:0<=d) (_:d<=5) (_:ug K H d v n ps g) (_:∀H':Hp,SameX Pt H H'->Xt H' Pt->Q (.str<|En<|Xe d g) H')
def Ko:FnScope ["deed","web","thing","kinds","e","k","word"] ["deed","web","thing"] (Zb (top 71)):=Rr sC
def Nf{Pt:Addr}(T:Txt K mg t)(hB:VM K mg base t.dZv Pt):Xd P w base WY T.qZR 48 (spZR K t.A_Web Pt):=by
 show T.qZR.okI ["deed","web","thing","kinds","e","k","word"] sC λXG A outer s H vs Q E hr h=>?_
 .let⟨w,n,ps,d,v,g,rfl,hW,hG,hT,d0,d5,hV,q⟩:=h;show⟨_,(@XM _ _ _ _ _ (@Ti _ _ 3 _ _ _ _ Ko.nd Z (Or.inl Z) (WB XX) Z<|.inl Z)
   (@XM _ _ _ _ _ (oP (i:=4) Z Z Z Ko.nd Z Z T.c_WebError Z (λR _=>(@XH _ _ _<|ZU<|oQ (fB T hB) (hr.mono su) Z T.qZQ.mm T.qZQ.fn.kp T.qZQ.bi .nil pxT<|XY (pv 0)<|XY (pv 1)<|XY (pv 2) XX)) (λe C oe _ Tf=>(@XM _ _ _ _ _ (@Ti _ _ 3 _ _ _ _ Ko.nd Z (Or.inl Z) (WB<|XY (Zd (EW K (Yd _<|XD.X Z) Tf) sE T.n_isinstance Boot.«isinstance»<|XY (pv 4)<|XY (rZ (v:=V.ty "ValueError") Z T.n_ValueError Boot.«ValueError» Z) XX)<|XY (Zd (EW K (Yd _<|XD.X Z) Tf) sE T.n_isinstance Boot.«isinstance»<|XY (pv 4)<|XY (Ie (v:=V.ref t.A_NoTree) Z T.c_NoTree Z) XX)<|XY (Zd (EW K (Yd _<|XD.X Z) Tf) sE T.n_isinstance Boot.«isinstance»<|XY (pv 4)<|XY (Ie (v:=V.ref t.A_NoSuch) Z T.c_NoSuch Z) XX)<|XY (Zd (EW K (Yd _<|XD.X Z) Tf) sE T.n_isinstance Boot.«isinstance»<|XY (pv 4)<|XY (Ie (v:=V.ref t.A_Parted) Z T.c_Parted Z) XX) XX) Z<|.inl Z)
   (@XH _ _ _<|@Ti _ _ 3 _ _ _ _ Ko.nd Z (Or.inl Z) (@Zq _ _ _ _ _ _ _ _ (mC K) (pv 3)<|@jC _ _ _ _ _ _ (Zd (EW K (Yd _<|XD.X Z) Tf) sE T.n_isinstance Boot.«isinstance»<|XY (pv 4)<|XY (Ie (v:=V.ref t.A_BadSet) Z T.c_BadSet Z) XX) (Zd (EW K (Yd _<|XD.X Z) Tf) sE T.n_isinstance Boot.«isinstance»<|XY (pv 4)<|XY (Ie (v:=V.ref t.A_NoTie) Z T.c_NoTie Z) XX) Z Z) Z<|.inl Z))))
   (@XM _ _ _ _ _ (Sb SV Z (LC K Z T.n_enumerate<|XY iI XX) (Qp (n:=2) K Z<|Zr (Zc 5)<|Zr (Zc 6) QE)
   (@XH _ _ _ (@Xz _ _ _ _ _ _ _ _ (Ze (pB K<|Fc hr) (pv 3) (WB<|XY Kd<|XY (Pr Vc (pv 5) XO<|Zn _)<|XY (Pr Vc (pv 5) XO<|Zn _)<|XY (Pr Vc (pv 5) XO<|Zn _)<|XY Kd<|XY Kd XX)<|Zn _)
   (@XH _ _ _<|@Zj _ _ _ _<|pv 6)
   Zp)))
   (@XH _ _ _<|@Zj _ _ _ _<|@ZJ _ _ _ _ _ _ _ (Zh K) (@jC _ _ _ _ _ _ OH OH Z Z) (Zk rd sE T.n_int Boot.«int»<|XY (Pr QD (Zd (Zi K) sE T.n_len Boot.«len»<|XY (pv 3) XX) XO<|Zn _) XX) λ_ _=>rfl)))),?_⟩
  exists Yi _,λkl jj=>?_;let s0:=XZ (o:=.lst []) jj
  let kk0:=XS (H:=H) (a:=kl) (o:=.lst []);let JO:=hT.Y s0
  show nm ?_;dsimp only[List.set];generalize upd H kl (.lst [])=H0 at *;show QW (λσ H1=>∃(ka:Addr)(v4:Option V)(bs:List Bool),σ=[some (.int d),some<|.ref w,some v,some<|.ref ka,v4,none,none]/\SameX Pt H H1/\Xt H1 Pt/\H1 ka=some (.lst<|bs.R V.bl)/\bs=(if Xe d g=3 then [] else FJ (Xe d g))) ?_ ?_;rotate_left
  .intro Kn hK;show jH (λσ' C H1=>σ'=[some (.int d),some<|.ref w,some v,some<|.ref kl,none,none,none]/\SameX Pt H0 H1/\Xt H1 Pt/\PySem.W.exmOne K ↑C (.ref t.A_WebError)=some true/\XCls K C/\PySem.W.kitOne K ↑C (.type "ValueError")=some true/\Xe d g≠3/\PySem.W.kitOne K ↑C (.ref t.A_NoTree)=some (decide<|Xe d g=0)/\PySem.W.kitOne K ↑C (.ref t.A_NoSuch)=some (decide<|Xe d g=1)/\PySem.W.kitOne K ↑C (.ref t.A_Parted)=some (decide<|Xe d g=2)/\PySem.W.kitOne K ↑C (.ref t.A_BadSet)=some false/\PySem.W.kitOne K ↑C (.ref t.A_NoTie)=some false) ?_ ?_
   .rintro σ' C H1 ⟨rfl,s1,WM,em,hX,kv,ne,k0,k1,k2,k3,k4⟩;exists em,λe he=>?_;exists _,Z,_,_,_,Z,λz h=>h,hX,kv,_,Z,_,_,_,Z,λz h=>h,hX,k0,_,Z,_,_,_,Z,λz h=>h,hX,k1,_,Z,_,_,_,Z,λz h=>h,hX,k2,(by change 4<=sizeLine;decide),λkk MA=>?_;let u2:=XZ (o:=.lst [.bl true,.bl<|decide<|Xe d g=0,.bl<|decide<|Xe d g=1,.bl (decide<|Xe d g=2)]) MA
    let c2:=XS (H:=H1) (a:=kk) (o:=.lst [.bl true,.bl<|decide<|Xe d g=0,.bl<|decide<|Xe d g=1,.bl (decide<|Xe d g=2)]);exists _,Z,_,Z,_,_,_,Z,λz h=>h,hX,k3,_,Z,_,_,_,Z,λz h=>h,hX,k4,(by change 2<=sizeLine;decide),λk5 hk5=>?_;let u3:=XZ (o:=.lst [.bl false,.bl false]) hk5
    exists kk,k5,_,_,Z,Z,SqL.of<|u3 _ _ c2,SqL.of XS,(by change 6<=_;decide),λp hp=>?_;let u4:=u2.m (u3.m<|XZ (o:=.lst<|(FJ<|Xe d g).R V.bl) hp)
    show hK _ _ {p,none,_,Z,((SameX.Y s0).m s1).m (SameX.Y u4),WM.Y u4,XS,by rw[if_neg ne]}
   .intro R hR;let hV0:ug K H0 d v n ps g:={λh=>by let(a,U,e,ha,hg):=hV.1 h;show{a,U,e,SqK.Y (k:=true) s0 ha,hg},hV.2}
    exists _,Z,_,Z,_,Z,w,n,ps,d,v,g,Z,hW.Y s0,hG,JO,d0,d5,hV0,λe u H1 sx tab=>?_,λe H1 s1=>?_,λe H1 s1 WM=>?_,λe H1 s1=>?_
    .show hK _ _ {kl,none,[],Z,(SameX.Y s0).m sx,tab,sx _ _ (JO.ne kk0 B) kk0,by rw[if_pos e]}
    .show hR _ _ _ {Z,SameX.Y s1,JO.Y s1,T.em_NoTree,T.x_NoTree,T.ki_NoTree_ValueError,by rw[e];decide,by rw[e];show o7,by rw[e];show T.ki_NoTree_NoSuch,by rw[e];show T.ki_NoTree_Parted,T.ki_NoTree_BadSet,T.ki_NoTree_NoTie}
    .show hR _ _ _ {Z,s1,WM,T.em_NoSuch,T.x_NoSuch,T.ki_NoSuch_ValueError,by rw[e];decide,by rw[e];show T.ki_NoSuch_NoTree,by rw[e];show o7,by rw[e];show T.ki_NoSuch_Parted,T.ki_NoSuch_BadSet,T.ki_NoSuch_NoTie}
    .show hR _ _ _ {Z,SameX.Y s1,JO.Y s1,T.em_Parted,T.x_Parted,T.ki_Parted_ValueError,by rw[e];decide,by rw[e];show T.ki_Parted_NoTree,by rw[e];show T.ki_Parted_NoSuch,by rw[e];show o7,T.ki_Parted_BadSet,T.ki_Parted_NoTie}
  rintro σ H1 ⟨ka,v4,bs,rfl,Tp,WM,hk1,yk⟩;let hle:=fv d g
  generalize Xe d g=m at *;exists Kp,Z,(by change 3<=sizeLine;decide),λna Ld=>?_;let u2:=XZ (o:=.lst<|TL Kp) Ld
  let k2:=XS (H:=H1) (a:=na) (o:=.lst<|TL Kp);let WZ:=WM.Y u2
  let TN:=Tp.m (SameX.Y u2);let hk2:=u2 _ _ hk1
  exists na,Z,{_,SqL.of k2},Cv (K:=K) (a:=na) (xs:=TL Kp) (λi σ H3=>∃(v5 v6:Option V),σ=[some (.int d),some<|.ref w,some v,some<|.ref ka,v4,v5,v6]/\Same (upd H1 na<|.lst<|TL Kp) H3/\(m=3\/i<=m)) {none,none,Z,Same.refl _,.inr<|Yi _} (λi σ H3 _ h=>by let(_,_,_,e,_):=h;show SqL.of<|e _ _ k2) ?_ ?_
  .rintro i x σ H3 pt Uw hx ⟨v5,v6,rfl,s3,him⟩;obtain⟨wd,rfl,uf⟩:∃wd:Str,x=.str wd/\Kp[i]?=some wd:=by rw[show TL Kp=Kp.R V.str from Z,Yw]at hx;let(a,h1,h2):=dX.H hx;exists a,h2.symm,h1
   let i3:i<3:=(XA.H uf).1;let u4:=XZ (o:=.tup [.int i,.str wd]) Uw
   exists pt,_,Z,SqT.of XS,Z,_,_,Z,_,_,Z,Z,?_;let QQ:=s3.m u4
   generalize upd H3 pt (.tup [.int i,.str wd])=H4 at *;dsimp only[List.set];exists _,Z,_,Z,Z,_,Z,Z,_,Z,Z,(by change 6<=sizeLine;decide),λca hca=>?_;let el:[V.bl true,.bl<|decide<|V.int i=.int 0,.bl<|decide<|V.int i=.int 1,.bl<|decide<|V.int i=.int 2,.bl false,.bl false]=(FJ i).R V.bl:=by simp[FJ,V.int.injEq];omega
   rw[el];let u5:=XZ (o:=.lst<|(FJ i).R V.bl) hca
   let ue:=QQ.m u5;exists 1,_,ka,ca,Z,Z,su,oX (bs:=bs) (cs:=FJ i) (SqL.of<|ue _ _ hk2)<|SqL.of XS,_,Z,?_;show Xl (λe=>?_) (λne=>?_)
   .let hm:m=i:=by
     cases c:m=3
     .rw[yk,if_pos c]at e;cases e
     .rw[yk,if_neg c]at e;let e1:=QP (λl:List Bool=>l[i+1]?) e
      rcases(by lia:i=0\/i=1\/i=2) with rfl|rfl|rfl<;>simpa[FJ] using e1
    subst hm;exists _,Z,?_
    have:wd=En m:=by rcases(by lia:m=0\/m=1\/m=2) with rfl|rfl|rfl<;>show(Yk uf).symm
    rw[this];show q _ (TN.m<|SameX.Y ue) (WZ.Y ue)
   .exists _,_,Z,ue,?_;cases c:m=3
    .show .inl c
    .show .inr ?_
     have:m≠i:=λe=>ne (by rw[yk,if_neg c,e])
     lia
  .rintro σ H3 ⟨v5,v6,rfl,s3,him⟩;let rfl:m=3:=by
    have:(TL Kp).f=3:=rfl
    lia
   rw[if_pos Z]at yk;subst yk;exists (by change 2<=sizeLine;decide),λta EA=>?_;let u4:=XZ (o:=.lst [.str "told",.str "other"]) EA
   let QQ:=s3.m u4;exists _,Z,ka,_,Z,.inl<|SqL.of<|QQ _ _ hk2,_,_,Z,Z,.inr {false,Z,ta,_,0,.str "told",Z,Z,SqL.of XS,Z,?_};show q _ (TN.m<|SameX.Y QQ) (WZ.Y QQ)
inductive spZS(K:Ad)(vs:List V)(H:Hp)(Q:VK)(_:XK):Prop
 |mk (tA:Addr) (zs:List V) (L:Ab) (sz m:Int) (_:vs=[.ref tA,.int sz,.int m]) (_:H tA=some (.lst zs)) (_:TupsV H zs L) (_:0<L.f) (_:(∀U∈L,U.f<=20)) (_:0<=sz) (_:sz<=30) (_:0<=m) (_:∀(r:Addr)(od:Ac)(H':Hp),Same H H'->H' r=some (.lst<|IL od)->od.f<=21->Q ↑r H')
def Yz7:∀(l:Ac)(k:Nat),(IL l).eraseIdx k=IL (l.eraseIdx k)
 |[],_=>rfl
 |_::_,0=>rfl
 |x::l,k+1=>QP (V.int x :: ·) (Yz7 l k)
def ft(T:Txt K mg t):Xd P w base WY T.qZS 8 (spZS K):=by
 show T.qZS.okI ["trees","size","m","told","more","way"] sC λXG A outer s H vs Q E hr h=>?_
 .let⟨tA,zs,L,sz,m,rfl,hA,hZ,hL,fq,z0,z1,m0,q⟩:=h;show⟨_,(XM (Zg 3<|Zk (RG K) sE T.n_list Boot.«list»<|XY (ZJ (Zh K) (pv 0) (Zq ZL (Zq Jm (pv 2) XO)<|Zd (Zi K) sE T.n_len Boot.«len»<|XY (pv 0) XX) λ_ _=>rfl) XX)
   (XM (Zg 4<|ZJ (Zh K) (Zn9 (pv 1) (LN wO XO) (Zq Uc (pv 1) XO)<|Zq ZL (Zq Jm (pv 2)<|Zq MM XO XO)<|Zd (rh Z) sE T.n_max Boot.«max»<|XY XO<|XY (pv 1) XX) (Zq ZL (Zq Jm (pv 2)<|Zq MM XO XO) XO) λ_ _=>rfl)
   (XM (Zg 5<|Zq ZL (pv 2) XO)
   (XM (Xz (PW.pt<|OG (Ze Ka (pv 5) XO<|Zn _)<|Dx<|Ze Vc (Zd (Zi K) sE T.n_len Boot.«len»<|XY (pv 3) XX) XO<|Zn _)
   (XH<|Zg 3<|Zd (vV K) sE T.n_sorted Boot.«sorted»<|XY (Zq CJ (pv 3)<|jD<|pv 4) XX)
   (XH (Xz (Ze Vc (pv 5) XO<|Zn _)
   (XH<|ZU<|Vm K YY dU dW cZ (pv 3)<|XY (Zq ZL (Zq Jm (pv 2)<|Zq MM XO XO)<|Zd (Zi K) sE T.n_len Boot.«len»<|XY (pv 3) XX) XX)
   (XH (Xz (Ze Vc (pv 5) XO<|Zn _)
   (XH<|ZU<|Vm K YY eE PySem.F.type_list_insert Zt8 (pv 3)<|XY (Zq ZL (Zq Jm (pv 2)<|Zq MM XO XO)<|Zd (Zi K) sE T.n_len Boot.«len»<|XY (pv 3) XX)<|XY (ZJ (Zh K) (pv 3) (Zq ZL (Zq Jm (pv 2)<|Zq MM XO XO)<|Zd (Zi K) sE T.n_len Boot.«len»<|XY (pv 3) XX) λ_ _=>rfl) XX)
   (XH (Xz (Ze Vc (pv 5) XO<|Zn _)
   (XH<|Dq (pv 4)<|Dr (pv 3) (Zq ZL (Zq Jm (pv 2)<|Zq MM XO XO)<|Zd (Zi K) sE T.n_len Boot.«len»<|XY (pv 3) XX) Qy)
   (XH<|ZU<|cH K YY PySem.F.slot_list_reverse PySem.F.type_list_reverse ZY6<|pv 3))))))))
   (XH<|Zj<|pv 3))))),?_⟩
  let EH:=hZ.1;let ml:∀(x y:Int),0<y->0<=x%y/\x%y<y:=λx y h=>{OT _ J,MY _ h}
  let Jj:∀(i j:Int),j≠0->j.natAbs<2^100->AK i j:=λi j h h2=>{h,Yq h2<|Ee su su};let ud:∀j:Int,0<=j->j<=1000000->Dh 10 j:=λj h h2=>⟨h,h2,su⟩
  exists _,Z,_,Z,_,_,Z,Z,Jj _ _ su su,_,Z,tA,zs,Z,.inl<|SqL.of hA,_,_,Z,Z,(by change(0:Int)<zs.f;lia),?_;let(b0,b1):=ml (m.fdiv 8) zs.f J;dsimp only;generalize m.fdiv 8%zs⁻¹=b at *;obtain⟨U,hU⟩:∃U,L[b.j]?=some U:={_,Xp J};let(v,hv,c,rfl,hc):=hZ.2 b.j U hU;let lU:=fq U (WT hU)
  exists tA,zs,b,.ref c,Z,Z,SqL.of hA,ZG (n:=b.j) J hv,c,_,Z,.inr<|SqT.of hc,λtl Eu=>?_;let s1:=XZ (o:=.lst<|IL U) Eu
  let k1:=XS (H:=H) (a:=tl) (o:=.lst<|IL U);show nm ?_;generalize upd H tl (.lst<|IL U)=H1 at *;exists _,Z,_,Z,_,Z,_,_,Z,Z,_,Z,_,_,Z,Z,ud _ su su,_,_,Z,Z,Jj _ _ su su,_,Z,_,_,Z,_,_,Z,Z,?_,(by change 4<=sizeLine;decide),λq4 uc=>?_
  .change(0:Int)<if sz>1 then sz else 1
   split<;>lia
  exists _,Z,_,_,Z,Z,ud _ su su,_,_,Z,Z,Jj _ _ su su,_,_,Z,Z,(by change(0:Int)<4;decide),?_;let(e0,e1):=ml (m.fdiv<|10^(8:Int).j) 4 su;dsimp only;generalize m.fdiv (10^(8:Int).j)%4=e at *;generalize m.fdiv (10^(10:Int).j)%(if sz>1 then sz else 1)=f at *;obtain⟨z,hz⟩:∃z:Int,VQ [V.int sz,.int (-1),.int<|sz+3,.int f] e=some (.int z):=by
   rcases(by lia:e=0\/e=1\/e=2\/e=3) with rfl|rfl|rfl|rfl
   .exists sz,Z
   .exists -1,Z
   .exists sz+3,Z
   .exists f,Z
  let s2:=s1.m (XZ (o:=.lst [V.int sz,.int (-1),.int<|sz+3,.int f]) uc);let k2:=XZ (o:=.lst [V.int sz,.int (-1),.int<|sz+3,.int f]) uc _ _ k1
  exists q4,_,_,.int z,Z,Z,SqL.of XS,hz,?_;show nm ?_
  try dsimp only[List.set]
  generalize upd H1 q4 (.lst [V.int sz,.int (-1),.int<|sz+3,.int f])=H2 at *;exists _,Z,_,_,Z,Z,(by change(0:Int)<6;decide),?_;show nm ?_
  try dsimp only[List.set]
  generalize m%6=wy at *;let mutd:∀(xs:List V)(o:Addr)(x:HO),H o=some x->upd H2 tl (.lst xs) o=some x:=λxs o x h=>by rw[Za (Wz h Eu)];show s2 _ _ h
  show QW (λσ H3=>∃(r:Addr)(od:Ac),σ=[some ↑tA,some<|.int sz,some<|.int m,some<|.ref r,some<|.int z,some (.int wy)]/\Same H H3/\H3 r=some (.lst<|IL od)/\od.f<=21) ?_ λKn hK=>?_
  .rintro σ H3 ⟨r,od,rfl,s3,UQ,hod⟩;exists _,Z,q r od H3 s3 UQ hod
  show ifT (λb=>b=false->0<U.f) (λ_=>?_) (λhb=>?_) (λQ2 k3 k4=>?_)
  .exists _,Z,_,Z,(by change 1<=sizeLine;decide),λp1 TQ=>?_;let u1:=XZ (o:=.lst [.int z]) TQ
   exists tl,p1,_,_,Z,Z,u1 _ _ k2,XS,MF (by rw[Xr];change _+1<=_;lia),λp2 VE=>?_;let u2:=XZ (o:=.lst<|IL U++[.int z]) VE
   exists p2,U++[z],Z,?_,by rw[Xy];change _+1<64;lia,λms hm _ l hl=>?_
   .rw[YQ];show SqL.of XS
   let u3:=XZ (o:=.lst<|IL ms) hl;show hK _ _ {l,ms,Z,s2.m<|u1.m<|u2.m u3,XS,by rw[hm.length_eq,Xy];change _+1<=_;lia}
  .let up:=hb rfl;let ul:=Xr U
   let ix:∀x:Int,∃(i:Nat)(y:Int),x%((IL U).f:Int)=(i:Int)/\i<U.f/\U[i]?=some y:=λx=>by let(x0,x1):=ml x (IL U).f J;exists (x%((IL U).f:Int)).j,U[(x%((IL U).f:Int)).j]'(by lia),J,J,Xp _
   let Km:(0:Int)<((IL U).f:Int):=J;let ty:wH K "list" ↑tl H2:=.inl {Z,_,SqL.of k2}
   let lst:=SqL.of (K:=K) k2;let(i,y,hi,il,hy):=ix (m.fdiv<|10^(20:Int).j);let(j,x,hj,jl,hx):=ix (m.fdiv<|10^(25:Int).j);let FI:=Jj m (10^(20:Int).j) su su
   let fo:=Jj m (10^(25:Int).j) su su;let FH:=ud 20 su su
   let fk:=ud 25 su su;exists _,Z,Z,_,Z,?_;rw[Zs];show Xl (λ_=>?_) (λ_=>?_)
   .let sq:seqIndex? (m.fdiv (10^(20:Int).j)%((IL U).f:Int)) (IL U).f=some i:=by rw[hi];unfold seqIndex?;dsimp only;rw[if_neg (show ¬(i:Int)<0 by lia),if_pos (by rw[Xr];simp;lia)];rfl
    exists _,Z,ty,_,Z,_,_,Z,Z,FH,_,_,Z,Z,FI,_,Z,tl,_,Z,.inl lst,_,_,Z,Z,Km,tl,_,_,i,.int y,Z,Z,k2,J,J,sq,Tw hy,?_;show hK _ _ {tl,U.eraseIdx i,Z,λo x h=>mutd _ o x h,by rw[<-Yz7];show XS,by rw[t8 il];lia}
   exists _,Z,Z,_,Z,?_;rw[Zs];show Xl (λ_=>?_) (λ_=>?_)
   .let ixe:VQ (IL U) (m.fdiv (10^(25:Int).j)%((IL U).f:Int))=some (.int x):=ZG (n:=j) hj (Tw hx);exists _,Z,ty,_,Z,_,_,Z,Z,FH,_,_,Z,Z,FI,_,Z,tl,_,Z,.inl lst,_,_,Z,Z,Km,_,Z,_,Z,_,_,Z,Z,fk,_,_,Z,Z,fo,_,Z,tl,_,Z,.inl lst,_,_,Z,Z,Km,tl,_,_,.int x,Z,Z,lst,ixe,tl,_,_,_,Z,Z,k2,J,J,Zo J,?_;show hK _ _ {tl,U.M i++x::U.drop i,Z,λo x h=>mutd _ o x h,?_,by simp;lia};rw[XS,show(m.fdiv (10^(20:Int).j)%((IL U).f:Int)).j=i by lia];simp[IL]
   exists _,Z,Z,_,Z,?_;rw[Zs];show Xl (λ_=>?_) (λ_=>?_)
   .let ixn:Oz (IL U).f (m.fdiv (10^(20:Int).j)%((IL U).f:Int))=some i:=by rw[hi];unfold Oz;rw[if_pos J,if_pos J];rfl
    exists _,Z,_,Z,_,Z,_,_,Z,Z,FH,_,_,Z,Z,FI,_,Z,tl,_,Z,.inl lst,_,_,Z,Z,Km,tl,_,_,i,Z,Z,k2,ixn,?_;show hK _ _ {tl,U.set i z,Z,λo x h=>mutd _ o x h,?_,by rw[MT];lia};rw[XS];simp[IL]
   .exists _,Z,ty,tl,_,Z,Z,k2,?_;show hK _ _ {tl,U.reverse,Z,λo x h=>mutd _ o x h,?_,by rw[VB];lia};rw[XS];simp[IL]
  .exists _,Z,_,_,Z,Z,_,Z,?_;show Xl (λ_=>k3 λh=>by cases h) λ_=>?_;exists _,Z,tl,_,Z,.inl<|SqL.of k2,Z,_,Z,?_;rw[Zs,Xr];cases c0:U⁻¹=0
   .rw[Yx c0];show k3 λh=>by cases h
   .rw[Se c0];show k4 λ_=>J
inductive spZT(K:Ad)(Pt:Addr)(vs:List V)(H:Hp)(Q:VK)(_:XK):Prop
 |mk (a:Addr) (ns:Ac) (_:vs=[.ref a]) (_:SqL K H a (IL ns)) (_:ns.f<=63) (_:Xt H Pt) (_:∀H',Q (.bl true) H')
def fj{Pt:Addr}(T:Txt K mg t)(hB:VM K mg base t.dZv Pt):Xd P w base WY T.qZT 49 (spZT K Pt):=by
 show T.qZT.okI ["script","count","ties","web","trees","lone","turn","m","odd","due"] sC λXG A outer s H vs Q E hr h=>?_
 .let⟨a,ns,rfl,hS,yt,hTb,k⟩:=h;show⟨_,(XM (Zg 1<|Zq Uc XO<|Zq ZL (Xu (PH T) hr T.qZM Zw<|XY (pv 0)<|XY XO XX) XO)
   (XM (Zg 2<|Xu (fK T) hr T.qZO Zw<|XY (pv 0)<|XY (pv 1)<|XY XO XX)
   (XM (Zg 3<|QA T.k_Web (Gp T) (hr.mono su) Z T.c_Web T.bZ8 .nil Zw<|XY (pv 1)<|XY (pv 2) XX)
   (XM (Zg 4<|Xu (fG T) hr T.qZP Zw<|XY (pv 1)<|XY (pv 2) XX)
   (XM (Zg 5<|QA T.k_Web (Gp T) (hr.mono su) Z T.c_Web T.bZ8 .nil Zw<|XY (Zq Uc (pv 1) XO)<|XY (pv 2) XX)
   (XM (Sb SV Z (wW Z T.n_range<|XY XO XX) (Zc 6)
   (XM (Zg 7<|Xu (Kq T) hr T.qZN Zw<|XY (Zq Uc (Xu (PH T) hr T.qZM Zw<|XY (pv 0)<|XY XO XX)<|Zq wQ XO<|Xu (PH T) hr T.qZM Zw<|XY (pv 0)<|XY XO XX)<|XY (Zq Uc XO<|pv 6) XX)
   (XM (Xz (Ze QD (Zd (Zi K) sE T.n_len Boot.«len»<|XY (pv 4) XX) XO<|Zn _)
   (XM (Zg 8<|Xu (ft T) hr T.qZS Zw<|XY (pv 4)<|XY (Zd (Zi K) sE T.n_len Boot.«len»<|XY (pv 2) XX)<|XY (pv 7) XX)
   (XM (Zg 9<|ZJ (Zh K) (jC OH OH) (Zk rd sE T.n_int Boot.«int»<|XY (Pr (n5 K<|Fc hr) (Zk (ZC K) sE T.n_tuple Boot.«tuple»<|XY (pv 8) XX) (pv 4) Z) XX) λ_ _=>rfl)
   (XM (Xz (Ze VA (Xu (Nf T hB) hr T.qZR Zw<|XY (Zq ZL (pv 6) XO)<|XY (pv 3)<|XY (Zk (ZC K) sE T.n_tuple Boot.«tuple»<|XY (pv 8) XX) XX) (pv 9)<|Zn _)
   (XH<|Zj Kd)
   Zp)
   (XH (Xz (Ze VA (Xu (Nf T hB) hr T.qZR Zw<|XY (Zq ZL (Zq Uc (pv 6) XO) XO)<|XY (pv 5)<|XY (ZJ (Zh K) (pv 4) (Zq ZL (Zq Kc (pv 7) XO)<|Zd (Zi K) sE T.n_len Boot.«len»<|XY (pv 4) XX) λ_ _=>rfl) XX) OH<|Zn _)
   (XH<|Zj Kd)
   Zp)))))
   Zp)
   (XH (Xz (PW.pt<|OG (Ze VA (Xu (Nf T hB) hr T.qZR Zw<|XY XO<|XY (pv 5)<|XY (ZJ (Zh K) (Zn9 XO XO (LN wO XO)<|Zq ZL (pv 7)<|Zq MM XO XO) (Zq ZL (pv 6) XO) λ_ _=>rfl) XX) OH<|Zn _)<|Dx<|Ze VA (Xu (Nf T hB) hr T.qZR Zw<|XY (Zq ZL (pv 6) XO)<|XY (pv 5)<|XY (WC XX) XX) OH<|Zn _)
   (XH<|Zj Kd)
   Zp)))))
   (XH<|Zj<|Ib (Pr Vc (Xu (Nf T hB) hr T.qZR Zw<|XY XO<|XY (pv 5)<|XY MN XX) OH<|Zn _)<|Dv<|Pr (pB K<|Fc hr) (Xu (FT T hB) hr T.qZF JB<|XY (pv 5)<|XY XO<|XY XO XX) (WB XX)<|Zn _))))))),?_⟩
  exists _,Z,a,ns,0,Z,hS,su,λhd=>{_,_,Z,Z,(by change(0:Int)<6;decide),_,_,Z,Z,?_};let c0:0<=hd%6:=OT _ su
  let c1:hd%6<6:=MY _ su;obtain⟨n,hn⟩:∃n:Int,1+hd%6=n:={_,Z};show nm ?_;dsimp only;rw[hn];exists _,Z,_,Z,a,ns,n,10,Z,hS,yt,J,J,su,su,λl xs ps H1 s1 NG RR hP UX fi=>?_;let hG:Zx n ps:=⟨J,J,J,fi⟩
  let Pj:=hP.1;exists _,Z,_,Z,λx dx nx Nt RE=>?_;let t1:Same H1 (upd (upd H1 dx<|.own x) x<|.ins t.A_Web dx []):=Zy (XZ Nt) (by rwa[Za (Xb RE)])
  exists x,dx,n,l,false,xs,ps,Z,XS,λo=>?_,hP.Y t1,hG,λH2 hW k3=>{Z,?_}
  .show SqL.of (by rwa[Za (Wz RR nx),Za<|Wz RR nx,Za (Wz RR Nt)])
  let s2:Same H1 H2:=λb o e=>k3 b o (t1 b o e) (Wz e nx);let Vb:=s2 _ _ RR
  show nm ?_;exists _,Z,_,Z,n,l,xs,ps,Z,SqL.of Vb,hP.Y s2,hG,J,λTA ys L H3 s3 hT3 hTL iu hmem Sk=>?_;show nm ?_;dsimp only[List.set];exists _,Z,_,_,Z,Z,_,Z,λx2 Gg t9 yj fh=>?_;let Em:Zx (n+1) ps:={J,J,hG.2.2.1,λp hp=>by have:=fi p hp;lia}
  let hJ:¬He (n+1) ps:=λh=>by
   let c:=PY.H h 0 n.j J J
   have:=ZR7 (φ:=λj=>j<n.j) (λe he=>by
    let(p,hp,rfl):=YN.H he
    have:=fi p hp
    show iff_of_true (by change p.1.j<n.j;lia)<|by change p.2.j<n.j;lia) c
   show absurd (this.H J) (QL _)
  let Up:∀U,¬Zf (n+1) ps U:=λU hU=>hJ (ZX2 hU);let Pc:=s3 _ _ Vb
  let t2:Same H3 (upd (upd H3 Gg<|.own x2) x2<|.ins t.A_Web Gg []):=Zy (XZ yj) (by rwa[Za (Xb fh)]);exists x2,Gg,n+1,l,false,xs,ps,Z,XS,λo=>?_,(hP.Y<|s2.m s3).Y t2,Em,λH4 yi k4=>{Z,?_}
  .show SqL.of (by rwa[Za (Wz Pc t9),Za<|Wz Pc t9,Za (Wz Pc yj)])
  let s4:Same H3 H4:=λb o e=>k4 b o (t2 b o e) (Wz e t9);show nm ?_;dsimp only[List.set];let gX:=s4 _ _ Pc
  let IW:=s4 _ _ hT3;let yh:=hTL.Y s4
  let yV:=hW.Y (s3.m s4);let Es:=s1.m (s2.m<|s3.m s4)
  let kB:=Es.seq hS;let Ws:=hTb.Y Es
  let KZ:=hTL.1;clear t1 t2 k3 k4;exists 6,Z,su,su,dy (lo:=0) (n:=(6:Int).j) (λi σ H5=>∃(v6 v7 v8 v9:Option V),σ=[some ↑a,some<|.int n,some<|.ref l,some<|.ref x,some<|.ref TA,some<|.ref x2,v6,v7,v8,v9]/\SameX Pt H4 H5/\Xt H5 Pt) {none,none,none,none,Z,SameX.Y<|Same.refl _,Ws} ?_ ?_
  .rintro i σ H5 hi ⟨v6,v7,v8,v9,rfl,Sj,Sh⟩;obtain⟨tn,fD⟩:∃tn:Int,(0:Int)+(i:Int)=tn:={_,Z};let hi6:i<6:=hi
   show nm ?_;dsimp only[List.set];rw[fD];let hS5:SqL K H5 a (IL ns):=SqK.samex (kd:=false) kB Ws Sj
   exists _,Z,a,ns,3,Z,hS5,su,λy3=>{_,Z,a,ns,4,Z,hS5,su,λy4=>{_,_,Z,Z,.inl su,_,_,Z,Z,_,Z,_,_,Z,Z,_,_,Z,J,J,λm hm=>?_}};show nm ?_;dsimp only[List.set];let m4:∀y:Int,0<=y%4/\y%4<4:=λy=>{OT _ su,MY _ su}
   let yg:∀(d:Int)(c:Addr)(U:Ac)(H':Hp),d<4->SqT K H' c (IL U)->ug K H' d ↑c (n+1) ps false:=λd c U H' hd hc=>{λ_=>{c,U,Z,hc,{λh=>absurd h su,λh=>absurd h<|Up U}},λh=>J,λh=>J};let FG:∀d:Int,d<4->En (Xe d false)="tree":=λd hd=>by unfold Xe;rw[if_pos hd];rfl
   show QW (λσ H6=>∃(v8 v9:Option V),σ=[some ↑a,some<|.int n,some<|.ref l,some<|.ref x,some<|.ref TA,some<|.ref x2,some<|.int tn,some<|.int m,v8,v9]/\SameX Pt H4 H6/\Xt H6 Pt) ?_ λKn hK=>?_;rotate_left
   .let JD:=Sj _ _ (Ws.ne IW B) IW;let hl5:=Sj _ _ (Ws.ne gX B) gX
    let FF:∀{H':Hp},SameX Pt H4 H'->TupsV H' ys L:=λ{H'} sx=>{yh.1,λi p h=>by let(v,hv,d,e,hd):=yh.2 i p h;exists v,hv,d,e,sx _ _ (Ws.ne hd B) hd};exists _,Z,TA,ys,Z,.inl<|SqL.of JD,_,_,Z,Z,_,Z,?_;show Xl (λh=>?_) λh=>hK _ _ ⟨v8,v9,Z,Sj,Sh⟩;let hLp:0<L.f:=J
    let fq:∀U∈L,U.f<=20:=λU hU=>by have:=((hmem U).H hU).2.1;lia
    exists _,Z,_,Z,l,xs,Z,.inl<|SqL.of hl5,_,Z,TA,ys,L,_,m,Z,JD,FF Sj,hLp,fq,J,J,hm,λr od H6 s6 Nv hod=>?_;show nm ?_;dsimp only[List.set];let Nq:=Sj.m (SameX.Y s6)
    let Nd:=Sh.Y s6;let uE:=s6 _ _ JD
    obtain⟨g,hg⟩:∃g:Bool,decide (od∈L)=g:={_,Z};let fZ:g=true↔Zf n ps od:=by rw[<-hg,YX,hmem]
    exists (by change 2<=sizeLine;decide),λw1 hw1=>?_;let u1:=XZ (o:=.lst [.str "tree",.str "told"]) hw1
    let kw:=XS (H:=H6) (a:=w1) (o:=.lst [.str "tree",.str "told"]);generalize upd H6 w1 (.lst [.str "tree",.str "told"])=H7 at *;exists _,Z,r,_,Z,.inl {SqL.of<|u1 _ _ Nv,λt1 ER=>{_,Z,mY (z:=od) ⟨t1,Z,XS⟩ (SqL.of<|XZ ER _ _<|u1 _ _ uE) ((FF<|Nq.m<|SameX.Y u1).Y (XZ ER))<|.inr {_,Z,?_}}};rw[hg];let u2:=XZ (o:=.tup<|IL od) ER
    let kw2:=u2 _ _ kw;generalize upd H7 t1 (.tup<|IL od)=H8 at *;obtain⟨wd,uf,hwe⟩:∃wd:Str,VQ [V.str "tree",.str "told"] (if g=true then 1 else 0)=some (.str wd)/\∀d:Int,d<4->En (Xe d g)=wd:=by
     cases g with
     |true=>exists "told",Z,λd hd=>by unfold Xe;rw[if_pos hd];rfl
     |false=>exists "tree",Z,FG
    exists w1,_,_,.str wd,Z,Z,SqL.of kw2,uf,?_;show nm ?_;dsimp only[List.set];let fg:=u1.m u2
    let yU:=Nq.m (SameX.Y fg);let Rq:=Nd.Y fg
    show QW (λσ H9=>σ=[some ↑a,some<|.int n,some<|.ref l,some<|.ref x,some<|.ref TA,some<|.ref x2,some<|.int tn,some<|.int m,some<|.ref r,some (.str wd)]/\SameX Pt H4 H9/\Xt H9 Pt) ?_ λKn2 hK2=>?_;rotate_left
    .exists _,Z,_,_,Z,Z,(by change(0:Int)<4;decide),_,Z,_,Z,r,_,Z,.inl {SqL.of<|fg _ _ Nv,λt2 Kz=>?_};let u3:=XZ (o:=.tup<|IL od) Kz
     let PL:=yU.m (SameX.Y u3);let FE:=Rq.Y u3
     show{x,n,ps,tn%4,.ref t2,g,Z,yV.samex Ws PL,hG,FE,(m4 tn).1,by have:=(m4 tn).2;lia,{λ_=>{t2,od,Z,SqT.of XS,fZ},λh=>by have:=(m4 tn).2;lia,λh=>by have:=(m4 tn).2;lia},λIU Nc Sf=>{_,Z,Z,_,Z,?_}};rw[hwe _ (m4 tn).2,Yx Z];show iteF (hK2 _ _ {Z,PL.m Nc,Sf})
    rintro σ H9 ⟨rfl,PL,FE⟩;let uB:=PL _ _ (Ws.ne IW B) IW
    let b0:0<=m/8%ys⁻¹:=OT _ J;let b1:m/8%ys⁻¹<ys.f:=MY _ J
    obtain⟨U,hU⟩:∃U,L[(m/8%ys⁻¹).j]?=some U:={_,Xp J};let(v,hv,c,rfl,hc):=(FF PL).2 _ U hU;show{_,Z,_,_,Z,Z,_,_,Z,Z,(by change(0:Int)<4;decide),_,Z,_,Z,_,Z,_,_,Z,Z,⟨su,su⟩,_,Z,TA,ys,Z,.inl<|SqL.of uB,_,_,Z,Z,(by change(0:Int)<ys.f;lia),TA,ys,_,.ref c,Z,Z,SqL.of uB,ZG (n:=(m/8%ys⁻¹).j) (by change m/8%ys⁻¹=_;lia) hv,x2,n+1,ps,(tn+1)%4,.ref c,false,Z,yi.samex Ws PL,Em,FE,(m4 _).1,by have:=(m4<|tn+1).2;lia,yg _ c U _ (m4 _).2 (SqT.of hc),λIU Nc Sf=>{Z,_,Z,?_}};rw[FG _ (m4 _).2,Yx Z];show iteF (hK _ _ {_,_,Z,PL.m Nc,Sf})
   rintro σ H6 ⟨v8,v9,rfl,Nq,Nd⟩;exists _,Z,_,Z,_,Z,_,_,Z,Z,⟨su,su,su⟩,_,_,Z,Z,(by change(0:Int)<10^(59:Int).j;decide),(by change 4<=sizeLine;decide),λq4 uc=>?_;let f0:0<=m%10^(59:Int).j:=OT _ su
   let f1:m%10^(59:Int).j<10^(59:Int).j:=MY _ su;dsimp only;let f2:m%10^(59:Int).j<10^70:=Int.lt_trans f1 su
   generalize m%10^(59:Int).j=f at *;obtain⟨z,hz,z0,z1⟩:∃z:Int,VQ [V.int 0,.int 1,.int (-1),.int f] (tn%4)=some (.int z)/\-(10^70)<z/\z<10^70:=by
    let(e0,e1):=m4 tn;generalize tn%4=e at *;rcases(by lia:e=0\/e=1\/e=2\/e=3) with rfl|rfl|rfl|rfl
    .exists 0,Z,su,su
    .exists 1,Z,su,su
    .exists -1,Z,su,su
    .exists f,Z,Int.lt_of_lt_of_le su f0,f2
   let u1:=XZ (o:=.lst [.int 0,.int 1,.int (-1),.int f]) uc;let Gb:=Nq.m (SameX.Y u1)
   let yf:=Nd.Y u1;exists _,Z,_,_,Z,Z,(by change(0:Int)<4;decide),q4,_,_,.int z,Z,Z,SqL.of XS,hz,x2,n+1,ps,4,.int z,false,Z,yi.samex Ws Gb,Em,yf,su,su,{λh=>absurd h su,λ_=>hJ,λ_=>⟨z,Z,z0,z1⟩},λH8 yU Rq=>{Z,_,Z,?_};rw[show En (Xe 4 false)="such" from Z,Yx Z];show iteF ?_;let fc:=Gb.m yU
   exists _,Z,_,_,Z,Z,(by change(0:Int)<4;decide),_,Z,Yi _,λe he=>?_;let u2:=XZ (o:=.tup []) he
   let PL:=fc.m (SameX.Y u2);show{x2,n+1,ps,tn%4,.ref e,false,Z,yi.samex Ws PL,Em,Rq.Y u2,(m4 _).1,by have:=(m4 tn).2;lia,yg _ e [] _ (m4 _).2 (SqT.of XS),λIU Nc Sf=>{Z,_,Z,?_}};rw[FG _ (m4 _).2,Yx Z];show iteF {_,_,_,_,Z,PL.m Nc,Sf}
  .rintro σ H5 ⟨v6,v7,v8,v9,rfl,Sj,Sh⟩;exists _,Z,x2,n+1,ps,5,.non,false,Z,yi.samex Ws Sj,Em,Sh,su,su,{λh=>absurd h su,λ_=>hJ,λh=>absurd h su},λH6 Nq Nd=>{Z,_,Z,?_};rw[show En (Xe 5 false)="parted" from Z,Yx Z];show iteT ?_;let fb:=Sj.m Nq
   exists _,Z,x2,n+1,ps,0,5,[],Z,yi.samex Ws fb,Em,Nd,su,su,su,su,λh=>absurd h.choose_spec<|Up _,λ_=>rfl,λ_ r ws H7 Gb yf UT Gr hX=>?_,λh=>absurd h su;let rfl:ws=[]:=List.eq_nil_of_length_eq_zero hX.1;exists Yi _,λe he=>?_;exists 1,_,r,e,Z,Z,su,oY (ns:=[]) (ms:=[]) (SqL.of<|XZ he _ _ Gr)<|SqL.of XS,?_;show k _
end
end My
namespace My
open PySem L2
def PF{K:Ad}{f:Addr}{fd:FuncData}(F:Fun K "law" "law" sZT f fd)(s:Shared)(u:Value):BindsTo s fd {[u],[]} [("script",u)]:=by let(oc,od,kV,doc,pm,an,XG,ct,Tx,rfl,lk,Tj):=F.ex;show .of_eq rfl
end My
end
open PySem PySem.W PyProof.Rows
set_option maxRecDepth 100000 in
set_option maxHeartbeats 0 in
theorem PySem.Challenge.cw_spanrow_k42_rows_refused_holds : PySem.Challenge.rw_spanrow_k42_rows_refused.Holds := by
 w_on;o_law;k_head;(case hw=>w_witness2)
 k_fill
 refine L2.NB (l:=PySem.Challenge.rw_spanrow_k42_rows_refused) (n:=63) (k:=49) (x:="script") (CX:=L2.WY) (sp:=λK=>My.spZT K 334) (c:=336) (Pt:=334) rfl (by decide) rfl ⟨rfl,by decide,by decide⟩ (λw h Y=>⟨PySem.W.km_in_of Y,PySem.W.km_tabs_of Y 334 (XD.mpr rfl)⟩) ?C ?P ?F (λ_ H a ns hl hO hS=>⟨a,ns,rfl,hS,hl,⟨#[],hO.1,trivial,.inl rfl⟩,λ_=>rfl⟩) (λ_ _ _ _ z=>z)
 case C=>intro w;kernel_rfl
 case P=>intro w;kernel_rfl
 case F =>
  intro w mg fa h KX G CG
  let f x n:=My.FQ (L2.VF KX) mg x (My.top n)
  obtain⟨⟨aZ0,dZ0,qZ0⟩,⟨aZ1,dZ1,qZ1⟩,⟨aZ2,dZ2,qZ2⟩,⟨aZ3,dZ3,qZ3⟩,⟨aZ4,dZ4,qZ4⟩,⟨aZ5,dZ5,qZ5⟩,⟨aZ6,dZ6,qZ6⟩,⟨aZ7,dZ7,qZ7⟩,⟨aZ9,dZ9,qZ9⟩,⟨aZa,dZa,qZa⟩,⟨aZb,dZb,qZb⟩,⟨aZc,dZc,qZc⟩,⟨aZd,dZd,qZd⟩,⟨aZe,dZe,qZe⟩,⟨aZf,dZf,qZf⟩,⟨aZg,dZg,qZg⟩,⟨aZh,dZh,qZh⟩,⟨aZi,dZi,qZi⟩,⟨aZj,dZj,qZj⟩,⟨aZk,dZk,qZk⟩,⟨aZl,dZl,qZl⟩,⟨aZm,dZm,qZm⟩,⟨aZn,dZn,qZn⟩,⟨aZo,dZo,qZo⟩,⟨aZp,dZp,qZp⟩,⟨aZq,dZq,qZq⟩,⟨aZr,dZr,qZr⟩,⟨aZs,dZs,qZs⟩,⟨aZt,dZt,qZt⟩,⟨aZu,dZu,qZu⟩,⟨aZw,dZw,qZw⟩,⟨aZx,dZx,qZx⟩,⟨aZy,dZy,qZy⟩,⟨aZz,dZz,qZz⟩,⟨aZA,dZA,qZA⟩,⟨aZB,dZB,qZB⟩,⟨aZC,dZC,qZC⟩,⟨aZD,dZD,qZD⟩,⟨aZE,dZE,qZE⟩,⟨aZF,dZF,qZF⟩,⟨aZG,dZG,qZG⟩,⟨aZH,dZH,qZH⟩,⟨aZI,dZI,qZI⟩,⟨aZJ,dZJ,qZJ⟩,⟨aZK,dZK,qZK⟩,⟨aZL,dZL,qZL⟩,⟨aZM,dZM,qZM⟩,⟨aZN,dZN,qZN⟩,⟨aZO,dZO,qZO⟩,⟨aZP,dZP,qZP⟩,⟨aZQ,dZQ,qZQ⟩,⟨aZR,dZR,qZR⟩,⟨aZS,dZS,qZS⟩,⟨aZT,dZT,qZT⟩⟩:f "refuse_not_square" 10 ["table"]/\f "row_taken_off" 11 ["row","pivot","last"]/\f "first_with_some" 12 ["rows"]/\f "determinant" 13 ["table"]/\f "row_without" 14 ["row","number"]/\f "table_without" 15 ["table","number"]/\f "is_tie" 21 ["web","number"]/\f "refuse_bad_web" 20 ["places","ties"]/\f "all_ties" 22 ["web"]/\f "ties_beside" 23 ["web","ties"]/\f "ties_without" 24 ["ties","left_out"]/\f "is_set" 25 ["web","ties"]/\f "made_set" 26 ["web","ties"]/\f "merged_marks" 27 ["web","marks","ties"]/\f "piece_marks" 28 ["web","ties"]/\f "pieces_of" 29 ["web","ties"]/\f "is_joined" 30 ["web","ties"]/\f "refuse_parted" 31 ["web"]/\f "weighted_table" 33 ["web","weights"]/\f "pull_table" 34 ["web"]/\f "tree_count" 35 ["web"]/\f "part_count" 36 ["web","inside","outside"]/\f "is_tree" 38 ["web","ties"]/\f "refuse_no_tree" 39 ["web","tree"]/\f "grown_tree" 40 ["web","inside","order"]/\f "tree_cut" 41 ["web","tree","tie"]/\f "ring_of" 42 ["web","tree","tie"]/\f "least_in" 44 ["web","inside","outside"]/\f "end_pieces" 47 ["web","marks","tie"]/\f "open_ties" 48 ["web","marks","gone"]/\f "whole_part" 50 ["web"]/\f "half_without" 51 ["part"]/\f "half_with" 52 ["part"]/\f "part_size" 53 ["part"]/\f "trees_with_tie" 54 ["part","into"]/\f "undivided_row" 55 ["part"]/\f "trees_between" 56 ["part","size","start","stop"]/\f "number_in" 57 ["part","size","tree"]/\f "refuse_below_nought" 45 ["number"]/\f "row_from" 58 ["web","number","most"]/\f "row_at" 59 ["web","number"]/\f "row_last" 60 ["web"]/\f "row_number" 61 ["web","tree"]/\f "row_next" 62 ["web","tree"]/\f "row_ahead" 63 ["web","tree"]/\f "row_step" 64 ["web","tree"]/\f "_law_at" 66 ["script","k"]/\f "_law_mixed" 67 ["cell","k"]/\f "_law_ties" 68 ["script","count","most"]/\f "_law_trees" 69 ["count","ties"]/\f "_law_asked" 70 ["deed","web","thing"]/\f "_law_told" 71 ["deed","web","thing"]/\f "_law_odd" 72 ["trees","size","m"]/\My.FQ (L2.VF KX) mg "law" My.sZT ["script"]:=by
   dsimp only [L2.VF,f]
   and_intros
   all_goals (refine' My.zA KX G ?a ?l ?c ?k ?b;(case a | l | c | k=>k_is);(case b=>first | exact λ_ _ _ _ _ _=>My.un1 λ_=>rfl | exact λ_ _ _ _ _ _=>My.qb λ_ _=>rfl | exact λ_ _ _ _ _ _=>My.un3 λ_ _ _=>rfl | exact λ_ _ _ _ _ _=>My.un4 λ_ _ _ _=>rfl))
  have ye:My.cL (L2.VF KX) mg "Web" "Web.__init__" My.sZ8 ["places","ties"]:=by
   dsimp only [L2.VF];refine' My.Cw KX G ?aC ?a ?i ?l ?c ?k ?pg ?hd ?po ?sa ?mk ?kc ?na
   (case aC | a | i | l | c | k | pg | hd | po | sa | mk | kc=>k_is)
   (case na=>(intro f hf;simp only [Yf,tw,or_false]at hf;rcases hf with rfl | rfl <;> k_is))
  have FC:My.zQ (L2.VF KX) mg "Part" "Part.__init__" My.sZv ["web","kept","shut","lead","least","incoming","further"] 334:=by
   dsimp only [L2.VF];refine' My.Gy KX G ?aC ?a ?i ?l ?c ?k ?pg ?hd ?po ?sa ?mk ?kc ?na ?z
   (case aC | a | i | l | c | k | pg | hd | po | sa | mk | kc=>k_is)
   (case na=>(intro f hf;simp only [Yf,tw,or_false]at hf;rcases hf with rfl | rfl | rfl | rfl | rfl | rfl | rfl <;> k_is))
   (case z=>kernel_rfl)
  have hX:∃ A_WebError A_BadSet A_NoTree A_NoTie A_NoSuch A_Parted:Addr,mg "WebError"=some (.ref A_WebError)/\mg "BadSet"=some (.ref A_BadSet)/\mg "NoTree"=some (.ref A_NoTree)/\mg "NoTie"=some (.ref A_NoTie)/\mg "NoSuch"=some (.ref A_NoSuch)/\mg "Parted"=some (.ref A_Parted)/\L2.XCls (L2.VF KX) (A_NoTree)/\L2.XCls (L2.VF KX) (A_NoSuch)/\L2.XCls (L2.VF KX) (A_Parted)/\PySem.W.kitOne (L2.VF KX) (.ref (A_NoTree)) (.type "ValueError")=some true/\PySem.W.kitOne (L2.VF KX) (.ref (A_NoTree)) (.ref (A_NoSuch))=some false/\PySem.W.kitOne (L2.VF KX) (.ref (A_NoTree)) (.ref (A_Parted))=some false/\PySem.W.kitOne (L2.VF KX) (.ref (A_NoTree)) (.ref (A_BadSet))=some false/\PySem.W.kitOne (L2.VF KX) (.ref (A_NoTree)) (.ref (A_NoTie))=some false/\PySem.W.exmOne (L2.VF KX) (.ref (A_NoTree)) (.ref (A_WebError))=some true/\PySem.W.kitOne (L2.VF KX) (.ref (A_NoSuch)) (.type "ValueError")=some true/\PySem.W.kitOne (L2.VF KX) (.ref (A_NoSuch)) (.ref (A_NoTree))=some false/\PySem.W.kitOne (L2.VF KX) (.ref (A_NoSuch)) (.ref (A_Parted))=some false/\PySem.W.kitOne (L2.VF KX) (.ref (A_NoSuch)) (.ref (A_BadSet))=some false/\PySem.W.kitOne (L2.VF KX) (.ref (A_NoSuch)) (.ref (A_NoTie))=some false/\PySem.W.exmOne (L2.VF KX) (.ref (A_NoSuch)) (.ref (A_WebError))=some true/\PySem.W.kitOne (L2.VF KX) (.ref (A_Parted)) (.type "ValueError")=some true/\PySem.W.kitOne (L2.VF KX) (.ref (A_Parted)) (.ref (A_NoTree))=some false/\PySem.W.kitOne (L2.VF KX) (.ref (A_Parted)) (.ref (A_NoSuch))=some false/\PySem.W.kitOne (L2.VF KX) (.ref (A_Parted)) (.ref (A_BadSet))=some false/\PySem.W.kitOne (L2.VF KX) (.ref (A_Parted)) (.ref (A_NoTie))=some false/\PySem.W.exmOne (L2.VF KX) (.ref (A_Parted)) (.ref (A_WebError))=some true:=by
   dsimp only [L2.VF];refine' My.xI (My.xI (My.xI (My.xI (My.xI (My.xI (⟨MS KX G ?m_WebError,MS KX G ?m_BadSet,MS KX G ?m_NoTree,MS KX G ?m_NoTie,MS KX G ?m_NoSuch,MS KX G ?m_Parted,⟨?x_NoTree_ex,?x_NoTree_ga,?x_NoTree_gh,?x_NoTree_cl,?x_NoTree_ob,?x_NoTree_bx⟩,⟨?x_NoSuch_ex,?x_NoSuch_ga,?x_NoSuch_gh,?x_NoSuch_cl,?x_NoSuch_ob,?x_NoSuch_bx⟩,⟨?x_Parted_ex,?x_Parted_ga,?x_Parted_gh,?x_Parted_cl,?x_Parted_ob,?x_Parted_bx⟩,?ki_NoTree_ValueError,?ki_NoTree_NoSuch,?ki_NoTree_Parted,?ki_NoTree_BadSet,?ki_NoTree_NoTie,?em_NoTree,?ki_NoSuch_ValueError,?ki_NoSuch_NoTree,?ki_NoSuch_Parted,?ki_NoSuch_BadSet,?ki_NoSuch_NoTie,?em_NoSuch,?ki_Parted_ValueError,?ki_Parted_NoTree,?ki_Parted_NoSuch,?ki_Parted_BadSet,?ki_Parted_NoTie,?em_Parted⟩))))))
   (case m_WebError=>k_is)
   (case m_BadSet=>k_is)
   (case m_NoTree=>k_is)
   (case m_NoTie=>k_is)
   (case m_NoSuch=>k_is)
   (case m_Parted=>k_is)
   (case x_NoTree_ex=>k_exc);(case x_NoTree_ga=>k_is);(case x_NoTree_gh=>k_is);(case x_NoTree_cl=>k_is);(case x_NoTree_ob=>k_is);(case x_NoTree_bx=>k_is)
   (case x_NoSuch_ex=>k_exc);(case x_NoSuch_ga=>k_is);(case x_NoSuch_gh=>k_is);(case x_NoSuch_cl=>k_is);(case x_NoSuch_ob=>k_is);(case x_NoSuch_bx=>k_is)
   (case x_Parted_ex=>k_exc);(case x_Parted_ga=>k_is);(case x_Parted_gh=>k_is);(case x_Parted_cl=>k_is);(case x_Parted_ob=>k_is);(case x_Parted_bx=>k_is)
   (case ki_NoTree_ValueError=>kit_is)
   (case ki_NoTree_NoSuch=>kit_is)
   (case ki_NoTree_Parted=>kit_is)
   (case ki_NoTree_BadSet=>kit_is)
   (case ki_NoTree_NoTie=>kit_is)
   (case em_NoTree=>kts_exm)
   (case ki_NoSuch_ValueError=>kit_is)
   (case ki_NoSuch_NoTree=>kit_is)
   (case ki_NoSuch_Parted=>kit_is)
   (case ki_NoSuch_BadSet=>kit_is)
   (case ki_NoSuch_NoTie=>kit_is)
   (case em_NoSuch=>kts_exm)
   (case ki_Parted_ValueError=>kit_is)
   (case ki_Parted_NoTree=>kit_is)
   (case ki_Parted_NoSuch=>kit_is)
   (case ki_Parted_BadSet=>kit_is)
   (case ki_Parted_NoTie=>kit_is)
   (case em_Parted=>kts_exm)
  have h_MOST_PLACES:∃ tk,mg "MOST_PLACES"=some (.int 14 tk):=by
   refine' My.SD KX G ?a ?b
   (case a=>k_is);(case b=>exact⟨_,rfl⟩)
  have h_MOST_TIES:∃ tk,mg "MOST_TIES"=some (.int 30 tk):=by
   refine' My.SD KX G ?a ?b
   (case a=>k_is);(case b=>exact⟨_,rfl⟩)
  obtain⟨h_ValueError,h_enumerate,yd,h_isinstance,x9,FA,x8,xZ,Kl,h_reversed,xY,Nb,Kk,xX⟩:mg "ValueError"=none/\mg "enumerate"=none/\mg "int"=none/\mg "isinstance"=none/\mg "len"=none/\mg "list"=none/\mg "max"=none/\mg "min"=none/\mg "range"=none/\mg "reversed"=none/\mg "set"=none/\mg "sorted"=none/\mg "tuple"=none/\mg "zip"=none:=by and_intros <;> refine' PySem.W.mg_none_of KX G ?_ <;> k_is
  obtain⟨A_Web,aZ8,dZ8,c_Web,fZ8,cl_Web,k_Web,Na⟩:=ye;obtain⟨A_Part,aZv,dZv,xW,c_Part,fZv,cl_Part,k_Part,Wl,xV,xU⟩:=FC;obtain⟨A_WebError,A_BadSet,A_NoTree,A_NoTie,A_NoSuch,A_Parted,c_WebError,c_BadSet,c_NoTree,c_NoTie,c_NoSuch,c_Parted,x_NoTree,x_NoSuch,x_Parted,ki_NoTree_ValueError,ki_NoTree_NoSuch,ki_NoTree_Parted,ki_NoTree_BadSet,ki_NoTree_NoTie,em_NoTree,ki_NoSuch_ValueError,ki_NoSuch_NoTree,ki_NoSuch_Parted,ki_NoSuch_BadSet,ki_NoSuch_NoTie,em_NoSuch,ki_Parted_ValueError,ki_Parted_NoTree,ki_Parted_NoSuch,ki_Parted_BadSet,ki_Parted_NoTie,em_Parted⟩:=hX;have T:My.Txt (L2.VF KX) mg ⟨aZ0,aZ1,aZ2,aZ3,aZ4,aZ5,aZ6,aZ7,aZ8,aZ9,aZa,aZb,aZc,aZd,aZe,aZf,aZg,aZh,aZi,aZj,aZk,aZl,aZm,aZn,aZo,aZp,aZq,aZr,aZs,aZt,aZu,aZv,aZw,aZx,aZy,aZz,aZA,aZB,aZC,aZD,aZE,aZF,aZG,aZH,aZI,aZJ,aZK,aZL,aZM,aZN,aZO,aZP,aZQ,aZR,aZS,aZT,A_Web,A_Part,A_WebError,A_BadSet,A_NoTree,A_NoTie,A_NoSuch,A_Parted,dZ0,dZ1,dZ2,dZ3,dZ4,dZ5,dZ6,dZ7,dZ8,dZ9,dZa,dZb,dZc,dZd,dZe,dZf,dZg,dZh,dZi,dZj,dZk,dZl,dZm,dZn,dZo,dZp,dZq,dZr,dZs,dZt,dZu,dZv,dZw,dZx,dZy,dZz,dZA,dZB,dZC,dZD,dZE,dZF,dZG,dZH,dZI,dZJ,dZK,dZL,dZM,dZN,dZO,dZP,dZQ,dZR,dZS,dZT⟩:=⟨qZ0,qZ1,qZ2,qZ3,qZ4,qZ5,qZ6,qZ7,fZ8,fZ8.binds (λ_ _ _ _ _ _=>My.un3 λ_ _ _=>rfl),qZ9,qZa,qZb,qZc,qZd,qZe,qZf,qZg,qZh,qZi,qZj,qZk,qZl,qZm,qZn,qZo,qZp,qZq,qZr,qZs,qZt,qZu,fZv,fZv.binds (λ_ _ _ _ _ _=>My.un5 λ_ _ _ _ _=>rfl),qZw,qZx,qZy,qZz,qZA,qZB,qZC,qZD,qZE,qZF,qZG,qZH,qZI,qZJ,qZK,qZL,qZM,qZN,qZO,qZP,qZQ,qZR,qZS,qZT,c_Web,cl_Web,k_Web,Na _ (by simp),Na _ (by simp),c_Part,cl_Part,k_Part,Wl _ (by simp),Wl _ (by simp),Wl _ (by simp),Wl _ (by simp),Wl _ (by simp),Wl _ (by simp),Wl _ (by simp),c_WebError,c_BadSet,c_NoTree,c_NoTie,c_NoSuch,c_Parted,x_NoTree,x_NoSuch,x_Parted,ki_NoTree_ValueError,ki_NoTree_NoSuch,ki_NoTree_Parted,ki_NoTree_BadSet,ki_NoTree_NoTie,em_NoTree,ki_NoSuch_ValueError,ki_NoSuch_NoTree,ki_NoSuch_Parted,ki_NoSuch_BadSet,ki_NoSuch_NoTie,em_NoSuch,ki_Parted_ValueError,ki_Parted_NoTree,ki_Parted_NoSuch,ki_Parted_BadSet,ki_Parted_NoTie,em_Parted,h_MOST_PLACES,h_MOST_TIES,h_ValueError,h_enumerate,yd,h_isinstance,x9,FA,x8,xZ,Kl,h_reversed,xY,Nb,Kk,xX⟩
  have e0:=CG.symm.trans qZT.mm;cases e0;exact⟨dZT,λs u=>My.PF qZT.fn s u,λbase _ _ HB=>My.fj T ⟨xW,xV,xU,HB,by decide⟩⟩
#print axioms PySem.Challenge.cw_spanrow_k42_rows_refused_holds
