import PyProof.Rows.All
import Wide.All
import OpenK.AllK
import Wide.FinOn
import Lean
import PyProof.EqAt
import PyProof.EqKinds
import PyProof.TupleCall
import PySem.Challenge.RW_spanrow_k89_reports
set_option Elab.async false
set_option linter.all false
set_option bootstrap.genMatcherCode false
set_option genSizeOf false
set_option compiler.extract_closed false
set_option compiler.reuse false
set_option maxRecDepth 100000
section
def zN(t:Bool)(k:Lean.Name)(a:Array Lean.Syntax):(Lean.Syntax):=.node .none ((if t then `Lean.Parser.Tactic else `Lean.Parser.Term)++k) a
def zU(a:Array Lean.Syntax):(Lean.Syntax):=.node .none `null a
def zC:(Nat→Lean.Syntax→Lean.Syntax)
|0,s=>s
|n+1,s=>zN true `rcasesPatMed #[zU #[if s.isIdent then zN true `rcasesPat.one #[s] else if s[1].isMissing then zN true `rcasesPat.ignore #[s[0]] else zN true `rcasesPat.tuple #[s[0],zU ((if s.isOfKind `Lean.Parser.Term.tuple then #[s[1][0],s[1][1]]++s[1][2].getArgs else s[1].getArgs).map λx=>if x.isAtom then x else zN true `rcasesPatLo #[zC n x,zU #[]]),s[2]]]]
def zL(s:Lean.Syntax):(Lean.MacroM Lean.Syntax):=
 let d:=s[2][0]
 let p:=if d[0].isOfKind `Lean.Parser.Term.letId then d[0][0] else d[0]
 if d[1].getNumArgs != 0 then Lean.Macro.throwUnsupported else if p.isIdent&&p.getId != `rfl then pure (zN true `tacticHave__ #[s[0],s[1],s[2]]) else pure (zN true `obtain #[s[0],zU #[zC 9 p],zU d[2][0].getArgs,zU #[d[3],zU #[d[4]]]])
local macro_rules(kind:=Lean.Parser.Tactic.tacticLet__)|s=>zL s
local macro_rules(kind:=Lean.Parser.Tactic.show)|s=>pure (zN true `refine #[s[0],s[1]])
local macro_rules(kind:=Lean.Parser.Tactic.«tacticExists_,,»)|s=>pure (zN true `refine #[s[0],zN false `anonymousCtor #[s[0],s[1],s[0]]])
local macro_rules(kind:=Lean.Parser.Tactic.cases)|s=>if s[3].getNumArgs==0&&s[1][0][0].getNumArgs==2 then pure (.node .none `«tacticBy_cases_:_» #[s[0],zU #[s[1][0][0][0][0],s[1][0][0][1]],s[1][0][1]]) else Lean.Macro.throwUnsupported
local macro_rules(kind:=«term~~~_»)|s=>pure (zN false `proj #[s[1],s[0],Lean.mkIdent `heap.objs.size])
local macro_rules(kind:=coeNotation)|s=>pure (zN false `app #[zN false `dotIdent #[s[0],Lean.mkIdent `ref],zU #[s[1]]])
local macro_rules
|`($x⁻¹)=>`((($x).length:Int))
def zG:List (String×String):=[("f","length"),("i","toNat"),("j","toList"),("l","size"),("m","trans"),("o","heap"),("t","toArray"),("C","Pairwise"),("E","get?"),("G","take"),("H","extract"),("L","map"),("M","env"),("Q","Frag"),("R","lookup"),("S","mp"),("U","ofString"),("X","mpr"),("Y","replicate")]
def zF(s:String):(Option String):=zG.lookup s
def zJ:Lean.Name→Lean.Name
|.str p s=>.str (zJ p) ((zF s).getD s)
|n=>n
def zI:Lean.Name→Lean.Name
|.str p s=>if p.isAnonymous then .str p s else .str (zI p) ((zF s).getD s)
|n=>n
def zR:Nat→Lean.Syntax→Option Lean.Syntax
|_,.ident i r n p=>if n.hasMacroScopes then none else let m:=zI n;if m==n then none else some (.ident i r m p)
|e+1,.node i k a=>if k== `Lean.Parser.Term.app then (zR e a[0]!).map λx=>.node i k (a.set! 0 x) else if k== `Lean.Parser.Term.proj then let f:Option Lean.Syntax:=if a[2]!.isIdent then let n:=a[2]!.getId;let m:=zJ n;if m==n then none else some (Lean.mkIdent m) else none
 match zR e a[0]!,f with
 |none,none=>none
 |x,f=>some (.node i k #[x.getD a[0]!,a[1]!,f.getD a[2]!])
 else none
|_,_=>none
def zS(s:Lean.Syntax):Lean.MacroM Lean.Syntax:=(zR 20 s).elim Lean.Macro.throwUnsupported pure
local macro_rules(kind:=ident)|s=>zS s
local macro_rules(kind:=Lean.Parser.Term.proj)|s=>zS s
local macro_rules(kind:=Lean.Parser.Term.app)|s=>zS s
local macro_rules(kind:=«term{_}»)|s=>pure (zN false `anonymousCtor #[s[0],s[1],s[2]])
def zE(s:Lean.Syntax)(x:List Char):Lean.Syntax:=s.setArg 1 (s[1].setArg 1 (s[1][1].setArg 0 (Lean.mkIdent (.mkSimple ("tw"++(x.foldl (λn c=>n*57+c.toNat-if c<'a' then 48 else 54) 0).repr)))))
def zK(s:Lean.Syntax):Nat→List Char→Array Lean.Syntax→Array Lean.Syntax
|0,_,a=>a
|n+1,l,a=>zK s n (l.drop 11) (if l.isEmpty then a else a.push (zE s (l.take 11)))
def zH(s:Lean.Syntax)(k:Lean.Name):Bool:=s.isOfKind (`Lean.Parser.Command++k)
def zB(s:Lean.Syntax):Option Lean.Syntax:=
 let d:=s[1]
 if s.getPos?.isNone||zH d `theorem then none else
 let t:=d[2][1][0][1]
 let q:=zH d `definition
 let s:=if q&&!(t.isMissing||t.isOfKind `Lean.Parser.Term.paren) then s.setArg 1 (.node .none `Lean.Parser.Command.theorem #[d[0],d[1],.node .none `Lean.Parser.Command.declSig #[d[2][0],d[2][1][0]],d[3]]) else if q||zH d `abbrev||zH d `instance then s.setArg 0 (s[0].setArg 4 (zU #[.node .none `Lean.Parser.Command.noncomputable #[s[0]]])) else s
 let s:=s.rewriteBottomUp (·.setInfo .none)
 some (if d[1][0].getId==`twz then zU (zK s 999 (d[3][1].isStrLit?.getD "").toList #[]) else s)
def zD(s:Lean.Syntax):Lean.MacroM Lean.Syntax:=(zB s).elim Lean.Macro.throwUnsupported pure
local macro_rules(kind:=Lean.Parser.Command.declaration)|s=>zD s
namespace PySem.W.Fast
def twz:="RdMJTUeH7nlZWSARXURDmH;:>ONjN9S4BX3?lnS?Sg59U3V?59fKLlBhV7f?ZW3I400ieI>48SIgD69<f3h0PWeB89=K6cgMJY0QBkGbOOB=XQVZdPa;gn5C0<Z>6DTLKC95G:KQO?OFXEe9WPhXIh:U4EYM5?RYJFO@;7nIJgKdFcGbML>ISMPcS4K3JHeHJV853IWdDUYl0@Q7cBB;ZKZ3CSKPO96NYbnRNh:RL?<C>d4OhOUAg19YR?>DnV@9Km42fEnZgE0UIF4;CMj8T<;YXjANcXAQHhmK3H>a0W9KHE<6m>Y:g2mm2hmDnm>ENiCUiDM1Sg<U>OCGc3>SU1F<>a=KH?;6SYRTN4;885;AZ@:3MecUZ9NT;OXZlgO3e6SCFYK2ROB<5<?fQlIiS1kW4C?J<ElnY2d0K3d6@naciZF<K=7=VMnacY9?NcWZEPMPMB=3:DXYX<@jbC?840=XBZ1cCkPbZVWd6kZLe5?;B4B5=cgZVDhZ3H9kRVZeZk8X1C>;OE3gDZkl3gc=i?HBAHU63;2k@OMddO5J74jYPnOkF6d6SY?HH0UO89PW?SI9fKRcQe1Wf@k4SK<6UN8Y@8iQLg5EYk<C1SI3LfnIBj?;1YJ1K5mPHBChIhTOAcLM;6kZeNVkbST0a?5@@UA4B0jAn?c5Hi6OXEB2eGG;SfbXZ6LGj@hK8g1APdGJS<ZILSSmN1T;=<@2<NN4j4Ic>:FnbQ<PC7J2DAfQ10CE7VPAX7OKH1J5b74ZdPVHWC=ASMUkTG56AdK0@d6<AnH2<IbL5JSAPGL>96<iHdFYCjEbf:lT7NQ7XZW8bW5BZJDHSKl>gL<;ARBbM27jL8JWIVFRZ;HKQ8Kc41TSA749lBcDf@d4Zeg=0Fl4KBZPWaFf>aW44YQ3e:61?g<2Y<nIi4GOP:5T69JeWMVf:Ua:X?@C;<50ILBRAPSmX5ndEHlPSQWIJ1@QT@j<mAWciFY7SfG4O42gnjj;A<27Q=k=3e3KRG6XG2c1Z9cX1LKVg@c;Sb<a2W23c=0GYV7D;WdI64XkibEBEZIDhDLCSfc6Ui>9IBZh?S676fFiKdhGQh:LSFHbdcNYHlV67EPj2NPgQlhZRHA1IHb0NOdi=MOZgYQh8@?kFE7ZDVfg1mXRDL8=:WDiTM7E:4J3f:fBDFbCEH976I8P4?H8X:7h@HBOFCg4XV=C6g923M;U:aa6DCgSL5CYK=U1iEef7UFIhD5e>01OamT1?@lFn00nV5EjUWB3ha2PDBjgMC21Qma:V>DQb2afJNhL2Dh53nd<1S2=7K>IbDfbCJIQJ;:4RBMm1?43OYJXBY83lDcjBi4Lak1QXW97h4GhZ:@R;g=WAmjA8ccnd?OcBA;5dJgH83fUaPnB3LfQIbJ1F<P?HPOPMc=I4SLinTSXCkdL2Ld=GfY1619TbC4M<J5dQ2f=1=n>dRDD<YbZBTi=3EV;HC7SZnMc3lRMNa0kNJmKeM9LUlc0h;n@i7i;T@fU6VbFYINO;JZTO<0jU0W5IElE:AC9S3XLH>;O8JjAHD9GFTNjGCJiQJ5MH8HV3PiLHhPaXKHW:4=00HaGUig8PVDMVB3X<8>EIg7E71cO=>AFRdVAQi5Gk7WIZ9bA7?kP1eaIZE5T;eeee:?3mW2C9fbDQT4MSHW?Y8lmFW6I1d=GL67<2EYFK@gFnbReHnHM;UlI7Jf7<PRl:PYUA8fJgh;kFD44niOMgWHBi9fbHMm<lS1i3YUA?hDij858>mba4Af7fN<FifRVBF38kmfKABGc:;S>2d=JfW;JPIchel;S1ZG@A9b26nlifGAO6eZ05M8ORe8PPE3eT6S9CW370P<1ZJ@?NgKMMC;h@jLJ3laNb3Ud=@=bPPihWbXmfXieJ9McE3eNOSMN70RQFOFMnKXE0TUm1LgCOVIC4nA;3SBXV7DO<71RYJDS6Lbd5<JQ4BSLd;0dEmPVegm?SnRQZENfWN8YCXVi9dGMQdR;HkVkVdB72FBcK<WJ==mJCaJ3PTnBSPJDAeS@86C@JNkW?TTanW9=1PkaTBX4UJJn<FLeLW<X;>L9=U9;QRn0SLgWKnAkCg379?MahPK>fhUL260m;I9gc2ZcZlTl<:JT=cUe2C:GbGKii:R:GLbZ<EL=W@eDQVL;b=Z5Bl1gIG8LfmTNYWeC4ChPEVTZ=M78GUdJLSVMN;FdPkOI<cm:gF1cWB6M;C4?jWO=7fcI4G=V5;d8X1cF>79FY69W5>P;alJ><CER9LRL6:9S17I4;BPYY3iD=ffUH7G8040M0FOj0@5KBHC0b88kAWb<NSE7TQVBNK:O3EGLMSJSJQ6W75@NF4aV2YQ=i@ThASAjYl0?bb=@lTRe4QU0TC:6d<=?=fj88Q67jdW0F7ECkGWGfRQXQJm<OQWY=Bc8=?3EWfUTTPhXnffU?l1n53OhGYRB4K3gVY0g>CGQnf@K1?j63mSCDGjQBJkGkLi=WffiGEFnF=XR0?D06:N4BcY4YLJZP3FF:A4e;9C=4faI31>Ce8R4WCfNV<WJmTaPNG4U;BVJSX@J0OJi1EbT9Rk;aP<SJ5?k<XAWSLbBDVWI@;jVccPl@4Fg79=O?@0?7jaXR9MZ1U9kCH2:fYf8=Aj>4M5>f6DmWU5DZ<LU0bLWJfhHdaC8Fe:Xa4FI6e0iO1KUkPMESQeQ:kgkV8RkAK;2U:dY1S5ik:EjO0dH=e?bS8NSZGZIM0cNfi:B<8NKj>VeFfF2Y@hOQGVWh=@mEhWG1PPEckGj4QGlM@TbMHN8lHTTP@RAXTBCc0HBOOR8aVO6K5U22;=OSJGEXQ7XcN0157ON5LDkM9V@JZSKXQbZDHUUU8c>CgUTB061WhR0B=i>MGLgR0JWP5;KVSKlg4GXGiJGjg:gi4nDc0S5cVKBdMaFAJa43H9ck;NUh=3YY=PDkHbPQSQb?W?DC?OQ1e4THF5Y6lO19j<8Z=nWWX8YCGe1DL6=e7aC2B5YbfTOS;Lf80XjcKQQD=KEJaUBhLPTN5W9fl3lGMWMJI@adQLg336L<ECi0S=J7Kl5NX:EX5G0SUOmLEm>QCihhQgf:GjLBGeYiZS35=L<X?53ThWNYT6Thc=ViP5@A0ObCnLE0T=SS>Le9Ie2LPAd3jh@JVU7?eH:JG@7k>;VeDRJ1dmVTbIW6J@0Qn0SEa65ID=JR4cbAab79VV;d=dYkaA2QVmQZ10IIa507>UXXJR@AHD=3NjSTg8gmemSaRP2T7DNPn8V?nU@02>dCijgj6TTRm9Gcd?R@BNJ2K7S6af67LQS5LEjBDKd"
end PySem.W.Fast
def Z{α:Sort _}{a:α}:a=a:=rfl
def J{p:Prop}(h:p:=by lia):p:=h
def XT{p:Prop}(h:p:=by decide +kernel):p:=h
def XU{p:Prop}(h:p:=by decide):p:=h
def D{p:Prop}(h:p:=by simp):p:=h
def B{p:Prop}(h:p:=by omega):p:=h
def XS{p:Prop}(h:p:=by grind):p:=h
def XR{p:Prop}(h:p:=by rfl):p:=h
def XQ{p:Prop}(h:p:=by kernel_rfl):p:=h
def Yy0:=@List.getElem?_eq_getElem
def Yy1:=@List.getElem?_eq_some_iff
def Yy2:=@List.mem_singleton
def Yy3:=@List.length_append
def Yy4:=@PySem.wpAny_bind
def Yy5:=@List.getD_eq_getElem?_getD
def Yy6:=@PySem.Heap.get?_push_of_some
def Yy7:=@List.length_map
def Yy8:=@Nat.le_refl
def Yy9:=@List.mem_of_getElem?
def Ya:=@List.size_toArray
def Yb:=@List.mem_append
def Yc:=@List.getElem?_map
def Yd:=@List.mem_cons_of_mem
def Ye:=@List.mem_cons_self
def Yf:=@List.mem_cons
def Yg:=@PySem.Heap.lt_size
def Yh:=@List.length_take
def Yi:=@PySem.wpAny_pure
def Yj:=@List.getElem?_append_right
def Yk:=@Nat.zero_le
def Yl:=@Option.some.inj
def Ym:=@List.mem_filter
def Yn:=@List.map_append
def Yo:=@PySem.Heap.get?_push_size
def Yp:=@List.getElem?_append_left
def Yq:=@PyProof.Rows.wpS_bind
def Yr:=@Nat.lt_of_lt_of_le
def Ys:=@Bool.false_ne_true
def Yt:=@Nat.ne_of_lt
def Yu:=@List.length_cons
def Yv:=@Nat.le_trans
def Yw:=@List.append_assoc
def Yx:=@List.mem_map
def Yy:=@List.mem_append_right
def Yz:=@List.pairwise_append
def YA:=@List.mem_append_left
def YB:=@Int.toNat_natCast
def YC:=@List.getElem?_of_mem
def YD:=@Array.length_toList
def YE:=@List.getElem?_eq_none
def YF:=@List.take_of_length_le
def YG:=@PyProof.Rows.wpS_pure
def YH:=@List.drop_eq_nil_of_le
def YI:=@congrArg
def YJ:=@Array.getElem?_toList
def YK:=@Classical.byContradiction
def YL:=@List.length_replicate
def YM:=@List.append_nil
def YN:=@List.take_succ
def YO:=@List.mem_range
def QP:=@PySem.PassesOwn.never
def YQ:=@decide_eq_true_iff
def YR:=@List.take_length
def YS:=@of_decide_eq_true
def YT:=@PySem.F.plainAttrs_list
def YU:=@List.length_range
def YV:=@List.length_drop
def YW:=@List.map_congr_left
def YX:=@List.length_singleton
def YY:=@decide_eq_true
def YZ:=@Array.getElem?_eq_getElem
def Yy00:=@List.mem_of_mem_take
def Yy01:=@List.map_cons
def Yy02:=@Array.toList_append
def Yy03:=@PyProof.Rows.KeyOrd.kle_trans
def Yy04:=@List.pairwise_iff_getElem
def Yy05:=@Int.mul_assoc
def Yy06:=@Int.emod_nonneg
def Yy07:=@List.length_eq_zero_iff
def Yy08:=@List.ext_getElem?
def Yy09:=@Array.toList_push
def Y0a:=@Int.emod_lt_of_pos
def Y0b:=@PyProof.Rows.callWith_type1
def Y0c:=@Array.getD_eq_getD_getElem?
def Y0d:=@PySem.F.type_list_append
def Y0e:=@PySem.F.slot_list_append
def Y0f:=@Ne.symm
def Y0g:=@decide_eq_false
def Y0h:=@Nat.not_lt_zero
def Y0i:=@List.pairwise_cons
def Y0j:=@List.Perm.append_left
def Y0k:=@PySem.Obj.data_mapFields
def Y0l:=@List.mem_of_mem_drop
def Y0m:=@getElem?_pos
def Y0n:=@Nat.zero_add
def Y0o:=@List.take_append_drop
def Y0p:=@PyProof.Rows.KeyOrd.kle_of_klt
def Y0q:=@PySem.Heap.get?_update_self
def Y0r:=@PySem.Heap.SameBut.update
def Y0s:=@List.drop_eq_getElem_cons
def Y0t:=@Bool.false_eq_true
def Y0u:=@List.mem_reverse
def Y0v:=@List.getElem?_range
def Y0w:=@List.filter_cons
def Y0x:=@List.all_eq_true
def Y0y:=@Int.mul_zero
def Y0z:=@Int.mul_comm
def Y0A:=@PyProof.Rows.wpS_forRange
def Y0B:=@PySem.wpAny_call_entry
def Y0C:=@PySem.F.called_set
def Y0D:=@List.getElem?_take
def Y0E:=@List.filter_append
def Y0F:=@PySem.wpAny_newObj_type
def Y0G:=@PySem.W.kia_one
def Y0H:=@List.range_succ
def Y0I:=@List.nodup_cons
def Y0J:=@List.length_set
def Y0K:=@Array.perm_iff_toList_perm
def Y0L:=@PySem.wpAny_callSpecial?_slot
def Y0M:=@Nat.lt_succ_self
def Y0N:=@PyProof.Rows.KeyOrd.kle_refl
def Y0O:=@PySem.wpAny_Call_Name_kw
def Y0P:=@List.extract_eq_take_drop
def Y0Q:=@List.take_sublist
def Y0R:=@List.getElem?_set
def Y0S:=@List.flatten_cons
def Y0T:=@List.length_filter_le
def Y0U:=@List.take_append_of_le_length
def Y0V:=@Bool.eq_iff_iff
def Y0W:=@List.getElem?_drop
def Y0X:=@Int.one_mul
def Y0Y:=@List.getElem_mem
def Y0Z:=@Int.add_zero
def Yy10:=@Bool.and_eq_true
def Yy11:=@List.pairwise_singleton
def Yy12:=@PySem.strLen_append
def Yy13:=@PySem.codeAny_builtin
def Yy14:=@Nat.lt_succ_of_lt
def Yy15:=@Nat.le_succ
def Yy16:=@PySem.wpAny_mono
def Yy17:=@List.sum_cons
def Yy18:=@List.replicate_succ
def Yy19:=@Nat.sub_self
def Y1a:=@List.perm_ext_iff_of_nodup
def Y1b:=@List.nil_append
def Y1c:=@List.getElem?_zipWith
def Y1d:=@List.lookup_cons
def Y1e:=@Int.le_refl
def Y1f:=@PySem.Heap.size_push
def Y1g:=@PySem.Heap.get?_update_other
def Y1h:=@Nat.lt_irrefl
def Y1i:=@Int.zero_add
def Y1j:=@Int.mul_fdiv_cancel_left
def Y1k:=@Array.toList_extract
def Y1l:=@PySem.sizeLine_eq
def Y1m:=@List.pairwise_map
def Y1n:=@List.nodup_append
def Y1o:=@List.length_nil
def Y1p:=@PySem.wpAny_holding
def Y1q:=@PySem.mem_of_lookup
def Y1r:=@List.pairwise_lt_range
def Y1s:=@List.Perm.append_right
def Y1t:=@Nat.mul_le_mul
def Y1u:=@List.perm_append_comm
def Y1v:=@PySem.codeAny_mono
def Y1w:=@PySem.wpAny_setField
def Y1x:=@Nat.le_of_lt
def Y1y:=@List.mem_of_getLast?
def Y1z:=@PySem.Obj.isFreed_of_fields
def Y1A:=@PySem.wpAny_passesOwn
def Y1B:=@beq_iff_eq
def Y1C:=@beq_eq_false_iff_ne
def Y1D:=@List.length_zipWith
def Y1E:=@List.filterMap_cons
def Y1F:=@List.eq_of_mem_replicate
def Y1G:=@List.drop_zero
def Y1H:=@List.any_eq_true
def Y1I:=@PySem.F.slot_tuple_iterator_next
def Y1J:=@PySem.wpAny_setState_of
def Y1K:=@List.getElem?_replicate
def Y1L:=@Nat.lt_of_le_of_lt
def Y1M:=@List.map_map
def Y1N:=@Int.mul_one
def Y1O:=@Option.map_some
def Y1P:=@PySem.wpAny_setEntries_of
def Y1Q:=@PySem.wpAny_rule
def Y1R:=@PySem.wpAny_askSetting
def Y1S:=@List.length_pos_of_mem
def Y1T:=@List.getElem?_set_self
def Y1U:=@PyProof.Rows.callWith_builtin1
def Y1V:=@List.foldl_append
def Y1W:=@List.drop_sublist
def Y1X:=@Bool.not_eq_true'
def Y1Y:=@List.pairwise_reverse
def Y1Z:=@PySem.wpAny_pyIter_tuple
def Yy20:=@PySem.wpAny_of_eq
def Yy21:=@List.drop_append_of_le_length
def Yy22:=@Int.natAbs_mul
def Yy23:=@PySem.Code.quiet_builtin
def Yy24:=@Nat.succ.inj
def Yy25:=@Nat.pow_le_pow_right
def Yy26:=@Nat.le_of_not_lt
def Yy27:=@List.getElem?_set_ne
def Yy28:=@List.cons_append
def Yy29:=@Int.pow_zero
def Y2a:=@PyProof.Rows.wpS_modify
def Y2b:=@PySem.wpAny_truthy_bool
def Y2c:=@PySem.wpAny_pyIter_enum
def Y2d:=@PySem.builtinLookup_eq_fast
def Y2e:=@PySem.W.mg_of
def Y2f:=@Nat.mul_le_mul_left
def Y2g:=@List.flatten_append
def Y2h:=@List.filter_eq_self
def Y2i:=@List.foldl_cons
def Y2j:=@Int.fdiv_eq_ediv_of_nonneg
def Y2k:=@PyProof.Rows.wpS_mono
def Y2l:=@PySem.codeAny_call_builtin
def Y2m:=@List.mem_filterMap
def Y2n:=@List.getElem?_eq_none_iff
def Y2o:=@Int.natCast_nonneg
def Y2p:=@Int.mul_add
def Y2q:=@PySem.F.args_tuple_add_2
def Y2r:=@Option.isSome_iff_exists
def Y2s:=@Nat.ne_of_gt
def Y2t:=@Nat.gcd_comm
def Y2u:=@List.length_erase_of_mem
def Y2v:=@List.drop_drop
def Y2w:=@Int.le_trans
def Y2x:=@PySem.wpAny_attempt
def Y2y:=@List.reverse_perm
def Y2z:=@Int.natAbs_add_le
def Y2A:=@Int.mul_left_comm
def Y2B:=@PySem.wpAny_execs_nil
def Y2C:=@PySem.F.entry_tuple_add
def Y2D:=@Nat.add_sub_cancel_left
def Y2E:=@List.filter_cons_of_pos
def Y2F:=@List.filter_cons_of_neg
def Y2G:=@PySem.Calls.Name_function_global
def Y2H:=@if_false
def Y2I:=@beq_self_eq_true
def Y2J:=@PySem.SeqAt.EqAt.of_refs
def Y2K:=@PySem.F.slot_tuple_add
def Y2L:=@List.getElem?_eraseIdx
def Y2M:=@List.flatten_nil
def Y2N:=@List.any_cons
def Y2O:=@Array.getElem?_eq_none
def Y2P:=@List.set_append_right
def Y2Q:=@PySem.AutoSeq1.wpAny_loadPart'
def Y2R:=@PySem.Obj.cls_mapFields
def Y2S:=@List.find?_cons
def Y2T:=@Int.min_eq_left
def Y2U:=@PySem.W.hideAll_none
def Y2V:=@Nat.sub_zero
def Y2W:=@Nat.mul_comm
def Y2X:=@List.mem_iff_getElem
def Y2Y:=@List.mem_erase_of_ne
def Y2Z:=@List.length_eraseIdx
def Yy30:=@Int.zero_mul
def Yy31:=@Int.pow_succ
def Yy32:=@Array.toList_reverse
def Yy33:=@PySem.wpAny_newList
def Yy34:=@PySem.wpAny_isInstance
def Yy35:=@PySem.call_meets
def Yy36:=@PySem.W.callWith_K
def Yy37:=@Nat.add_sub_cancel
def Yy38:=@List.map_singleton
def Yy39:=@Int.natAbs_natCast
def Y3a:=@Bool.not_eq_false'
def Y3b:=@PySem.typeLookup_type
def Y3c:=@PySem.SeqAt.EqAt.same
def Y3d:=@decide_eq_true_eq
def Y3e:=@List.filter_congr
def Y3f:=@PySem.Around.under_plainId
def Y3g:=@PyProof.Rows.F.plain_set_update_loop
def Y3h:=@PySem.wpAny_seqItems
def Y3i:=@PySem.wpAny_runValue
def Y3j:=@PySem.wpAny_fieldsOf
def Y3k:=@PySem.F.slot_dict_setdefault
def Y3l:=@Nat.succ_ne_self
def Y3m:=@Nat.succ_mul
def Y3n:=@Nat.le_of_eq
def Y3o:=@List.drop_append
def Y3p:=@List.dropLast_concat_getLast
def Y3q:=@Int.sub_zero
def Y3r:=@Int.not_lt
def Y3s:=@Int.min_eq_right
def Y3t:=@Int.le_of_lt
def Y3u:=@Int.dvd_mul_left
def Y3v:=@PyProof.Rows.wpS_get
def Y3w:=@PyProof.Rows.listUpdate_at
def Y3x:=@PyProof.Rows.firstMet_succ
def Y3y:=@PySem.wpAny_field
def Y3z:=@PySem.SeqAt.EqAt.int_int
def Y3A:=@PySem.F.excBase_ValueError
def Y3B:=@Nat.min_eq_left
def Y3C:=@Nat.le_antisymm
def Y3D:=@List.of_mem_zip
def Y3E:=@List.length_eraseIdx_of_lt
def Y3F:=@Int.neg_mul_neg
def Y3G:=@Int.eq_of_mul_eq_mul_right
def Y3H:=@PySem.Calls.spliced_cons
def Y3I:=@Array.toList_setIfInBounds
def Y3J:=@Array.getElem?_eq_some_iff
def Y3K:=@Array.Perm.refl
def Y3L:=@Int.neg_mul
def Y3M:=@Int.lt_of_mul_lt_mul_left
def Y3N:=@Int.eq_of_mul_eq_mul_left
def Y3O:=@Int.add_mul
def Y3P:=@PySem.wpAny_pyIter_list
def Y3Q:=@PySem.F.type_list_extend
def Y3R:=@PySem.F.slot_list_extend
def Y3S:=@PySem.F.slot_dict_values
def Y3T:=@List.take_take
def Y3U:=@List.mem_of_mem_eraseIdx
def Y3V:=@List.getElem?_take_of_lt
def Y3W:=@List.Pairwise.imp_of_mem
def Y3X:=@PySem.Calls.spliced_nil
def Y3Y:=@PySem.F.plainAttrs_dict
def Y3Z:=@PySem.F.attr_ValueError
def Yy40:=@PySem.wpAny_call
def Yy41:=@PySem.noFill_tuple_add
def Yy42:=@PySem.Str.append_assoc
def Yy43:=@PySem.W.funFrames_hide
def Yy44:=@PySem.W.cellsFrom_some
def Yy45:=@PySem.F.plainAttrs_str
def Yy46:=@Nat.mod_lt
def Yy47:=@List.length_eq_one_iff
def Yy48:=@PySem.F.args_tuple_iterator_next_1
def Yy49:=@PySem.F.type_str_join
def Y4a:=@PySem.F.slot_str_join
def Y4b:=@List.getElem?_toArray
def Y4c:=@List.Pairwise.sublist
def Y4d:=@PyProof.Rows.IntsAre.int_at
def Y4e:=@Int.natAbs_dvd_natAbs
def Y4f:=@PySem.F.entry_tuple_iterator_next
def Y4g:=@Classical.choose_spec
def Y4h:=@Bool.beq_eq_decide_eq
/-! THE HAND LAYER,for ints,bools,texts,own classes,LISTS and tuples (index,slices,in,append,pop ..),calls,loops. Paste it whole ahead of your own text;what your proof does not reach may be deleted. -/
namespace L2
open PySem PySem.Spec PyProof.Rows
abbrev Key:=Sum Int Str
def Zv11:(Key->Value->Bool)
 | .inl k,v=>Value.isInt k v
 | .inr x,v=>Value.isStrOf x v
def keyH(w:World):(Key->Int)
 | .inl k=>hashInt k
 | .inr x=>hashStr w x
def ZF:∀{k:Key}{v:Value},Zv11 k v=true->(∃i t,k=Sum.inl i/\v=Value.int i t)\/(∃x t,k=Sum.inr x/\v=Value.str x t)
 | .inl i,v,h=>by let(t,e):=Value.isInt_shape (k:=i) (v:=v) h;show .inl ⟨i,t,Z,e⟩
 | .inr x,v,h=>by let(t,e):=Value.isStrOf_shape (x:=x) (v:=v) h;show .inr ⟨x,t,Z,e⟩
def Zz18(i:Int)(t:Tok):Zv11 (.inl i) (.int i t)=true:=by simp[Zv11,Value.isInt]
def Zz08(x:Str)(t:Tok):Zv11 (.inr x) (.str x t)=true:=by simp[Zv11,Value.isStrOf]
def Zg14(a b:Int):decide ((Sum.inl a:Key)=Sum.inl b)=(a == b):=by
 cases e:a=b
 ·subst e;simp
 ·have h:¬(Sum.inl a:Key)=Sum.inl b:=λq=>e (Sum.inl.inj q);rw[Y0g h];show(Y1C.X e).symm
def Zd14(a b:Str):decide ((Sum.inr a:Key)=Sum.inr b)=decide (a=b):=by
 cases e:a=b
 ·subst e;simp
 ·have h:¬(Sum.inr a:Key)=Sum.inr b:=λq=>e (Sum.inr.inj q);rw[Y0g h,Y0g e]
def Zf14(a:Int)(b:Str):decide ((Sum.inl a:Key)=Sum.inr b)=false:=Y0g (λq=>nomatch q)
def Ze14(a:Str)(b:Int):decide ((Sum.inr a:Key)=Sum.inl b)=false:=Y0g (λq=>nomatch q)
def Zf1(prog:Program)(w:World):(PySem.KeyKind prog w Key) where
 is:=Zv11
 hash:=keyH w
 inj:=λv a b ha hb=>by
  rcases ZF ha with ⟨i,t,rfl,rfl⟩|⟨x,t,rfl,rfl⟩
  ·rcases ZF hb with ⟨j,u,rfl,e⟩|⟨y,u,rfl,e⟩
   ·injection e with e1 _;rw[e1]
   ·show nomatch e
  ·rcases ZF hb with ⟨j,u,rfl,e⟩|⟨y,u,rfl,e⟩
   ·show nomatch e
   ·injection e with e1 _;rw[e1]
 byValue:=λk v h=>by rcases ZF h with ⟨i,t,rfl,rfl⟩|⟨x,t,rfl,rfl⟩<;>rfl
 pyHash:=λhv h=>by
  rcases ZF hv with ⟨i,t,rfl,rfl⟩|⟨x,t,rfl,rfl⟩
  ·show wpAny_pyHash_int h
  ·show wpAny_pyHash_str h
 eqBool:=λhu hv h=>by
  rcases ZF hu with ⟨i,t,rfl,rfl⟩|⟨x,t,rfl,rfl⟩
  ·rcases ZF hv with ⟨j,u,rfl,rfl⟩|⟨y,u,rfl,rfl⟩
   ·rw[Zg14]at h;show wpAny_eqBool_int h
   ·rw[Zf14]at h;show SeqAt.EqAt.int_str i t y u _ _ _ _ h
  ·rcases ZF hv with ⟨j,u,rfl,rfl⟩|⟨y,u,rfl,rfl⟩
   ·rw[Ze14]at h;show SeqAt.EqAt.str_int x t j u _ _ _ _ h
   ·rw[Zd14]at h;show wpAny_eqBool_str h
 «strs»:=λk x t v h=>by
  rcases ZF h with ⟨i,u,rfl,e⟩|⟨y,u,rfl,e⟩
  ·show nomatch e
  ·injection e with e1 _;subst e1;cases v<;>rfl
def ZG5(prog:Program)(w:World)(i:Int)(t:Tok):(Zf1 prog w).is (.inl i) (.int i t)=true:=Zz18 i t
def ZF5(prog:Program)(w:World)(x:Str)(t:Tok):(Zf1 prog w).is (.inr x) (.str x t)=true:=Zz08 x t
inductive V where
 |non|bl (b:Bool)|int (i:Int)|str (x:Str)|byt (b:Array UInt8)|flt (b:UInt64)|ref (a:Addr)|ty (n:String)
 deriving DecidableEq
def RelV:(V->Value->Prop)
 | .non,u=>u=Value.none
 | .bl b,u=>u=Value.bool b
 | .int i,u=>∃t,u=Value.int i t
 | .str x,u=>∃t,u=Value.str x t
 | .byt b,u=>∃t,u=Value.bytes b t
 | .flt b,u=>∃t,u=Value.float b t
 | .ref a,u=>u=Value.ref a
 | .ty n,u=>u=Value.type n
abbrev Vals:List V->List Value->Prop:=Paired RelV
def Vals.length{xs:List V}{us:List Value}(r:Vals xs us):xs.f=us.f:=Paired.f r
def Vals.get{xs:List V}{us:List Value}{i:Nat}{x:V}(h:Vals xs us)(e:xs[i]?=some x):∃u,us[i]?=some u/\RelV x u:=by
 induction h generalizing i with
 |nil=>simp at e
 |cons r t ih=>
  cases i with
  |zero=>simp at e;subst e;exists _,Z,r
  |succ i=>
   let(u,h1,h2):=ih (i:=i) (by simpa using e);exists u,by simpa using h1,h2
def Vals.set(r:RelV x u){xs:List V}{us:List Value}(i:Nat)(h:Vals xs us):Vals (xs.set i x) (us.set i u):=by
 induction h generalizing i with
 |nil=>show .nil
 |cons q t ih=>
  cases i with
  |zero=>show .cons r t
  |succ i=>show .cons q (ih i)
def Vals.append{xs ys:List V}{us ws:List Value}(h:Vals xs us)(s:Vals ys ws):Vals (xs++ys) (us++ws):=by
 induction h with
 |nil=>show s
 |cons r t ih=>show .cons r ih
def Vals.take{xs:List V}{us:List Value}(n:Nat)(h:Vals xs us):Vals (xs.G n) (us.G n):=by
 induction h generalizing n with
 |nil=>cases n<;>show .nil
 |cons r t ih=>
  cases n with
  |zero=>show .nil
  |succ n=>show .cons r (ih n)
def Vals.drop{xs:List V}{us:List Value}(n:Nat)(h:Vals xs us):Vals (xs.drop n) (us.drop n):=by
 induction h generalizing n with
 |nil=>cases n<;>show .nil
 |cons r t ih=>
  cases n with
  |zero=>show .cons r t
  |succ n=>show ih n
def RelO:(Option V->Option Value->Prop)
 |some v,some u=>RelV v u
 |none,none=>True
 |_,_=>False
def KV{κ:Type}:(List (κ×V)->List (κ×Value)->Prop):=Paired λ(p:κ×V) (q:κ×Value)=>p.1=q.1/\RelV p.2 q.2
def kV:(Key->V)
 | .inl i=>.int i
 | .inr x=>.str x
inductive HO where
 |lst (xs:List V)
 |tup (xs:List V)
 |dK (kvs:List (Key×V))|dT (kvs:List (List Key×V))
 |set (S:Int->Bool) (n:Nat)
 |ins (C dx:Addr) (fs:List (Str×V))
 |own (x:Addr)
 |xd (fs:List (Str×V))
 |met (f x:Addr)
 |rng (lo hi:Int)
 |frz (o:Obj) (u:HO)
 |tbl (ps:Array Value)
 |ext (φ:Heap->Prop)
abbrev Hp:=Addr->Option HO
def upd(H:Hp)(a:Addr)(o:HO):(Hp):=λb=>if b=a then some o else H b
def Zz1:upd H a o a=some o:=by unfold upd;rw[if_pos Z]
def Ze(h:b≠a):upd H a o b=H b:=by unfold upd;rw[if_neg h]
def Zq10{H:Hp}{a b:Addr}{o u:HO}(h:H a=some o)(h':H b=some u)(d:o≠u):a≠b:=by intro e;subst e;rw[h]at h';show d (Yl h')
def Za{H:Hp}{a b:Addr}{o:HO}(h:H a=some o)(h':H b=none):a≠b:=by intro e;subst e;rw[h]at h';cases h'
section
variable(P:Program)(w:World)
def ObjOk(H:Hp)(h:Heap)(a:Addr):(HO->Prop)
 | .lst xs=>xs.f<=sizeLine/\∃(its:List Value)(n:Nat),Vals xs its/\h.E a=some {cls:=.type "list",data:=.seq its.t n}
 | .tup xs=>xs.f<=sizeLine/\∃its:List Value,Vals xs its/\IsTup h a its.t
 | .dK kvs=>kvs.f<=sizeLine/\(a == sysModules)=false/\∃vs,KV kvs vs/\h.DictOf (Zf1 P w) a vs
 | .dT kvs=>kvs.f<=sizeLine/\(a == sysModules)=false/\∃xs:List (List Key×Addr×Value),
   Paired (λ(p:List Key×V) (q:List Key×Addr×Value)=>p.1=q.1/\H q.2.1=some (.tup<|p.1.L kV)/\RelV p.2 q.2.2) kvs xs/\
   ∃o es ep,h.E a=some o/\o.ExactDict/\o.data=.dict es ep/\es.j=xs.L (entryOfKey<|tupleKind<|Zf1 P w)/\(xs.L (·.1)).Nodup
 | .set S n=>h.SetOf (intKind P w) a S n
 | .ins C dx fs=>H dx=some (.own a)/\fs.f<=1000/\dx≠a/\h.E a=some (PySem.W.instObj C dx)/\
   ∃mA,h.Ns1 dx mA/\(∀f,RelO (fs.R f)<|mA f)/\PySem.Within mA (fs.L (·.1))
 | .own _=>∃o,h.E a=some o
 | .xd fs=>∃mA,h.Ns1 a mA/\∀f,RelO (fs.R f) (mA f)
 | .rng lo hi=>∃t u v,h.E a=some {cls:=.type "range",data:=.fields #[.int lo t,.int hi u,.int 1 v]}
 | .frz o u=>h.E a=some o/\ObjOk H h a u
 | .tbl ps=>h.E a=some {cls:=.none,data:=.fields ps}
 | .met f x=>h.E a=some (PySem.W.methodObj ↑f<|.ref x)
 | .ext φ=>φ h/\(∃o,h.E a=some o)/\∀h1 h2:Heap,φ h1->(∀o,h1.E a=some o->h2.E a=some o)->φ h2
def HOk(H:Hp)(h:Heap):(Prop):=∀a o,H a=some o->ObjOk P w H h a o
end
section
variable{P:Program}{w:World}{H H':Hp}{h h':Heap}{a:Addr}{o:HO}
def ObjOk.lt(x:ObjOk P w H h a o):a<h.objs.l:=by
 cases o with
 |lst xs=>let(_,_,_,_,e):=x;show Yg e
 |tup xs=>let(_,_,_,p):=x;show p.lt
 |dK kvs=>let(_,_,_,_,o,_,_,e,_):=x;show Yg e
 |dT kvs=>let(_,_,_,_,o,_,_,e,_):=x;show Yg e
 |set S n=>let(o,_,_,_,e,_):=x;show Yg e
 |ins C dx fs=>let(_,_,_,e,_):=x;show Yg e
 |own y=>let(_,e):=x;show Yg e
 |xd fs=>let(_,(_,_,_,e,_),_):=x;show Yg e
 |rng lo hi=>let(_,_,_,e):=x;show Yg e
 |frz ob u=>let(e,_):=x;show Yg e
 |tbl ps=>show Yg (show h.E a=some _ from x)
 |met f y=>show Yg (show h.E a=some _ from x)
 |ext φ=>let(_,(_,e),_):=x;show Yg e
def Paired.mapP{α β:Type}{F G:α->β->Prop}{l₁:List α}{l₂:List β}(h:Paired F l₁ l₂)(f:∀a b,F a b->G a b):Paired G l₁ l₂:=by
 induction h with
 |nil=>show .nil
 |cons r t ih=>show .cons (f _ _ r) ih
def ObjOk.stay(x:ObjOk P w H h a o)(k:∀b u,(b=a\/H b=some (.own a))->h.E b=some u->h'.E b=some u)
  (ho:∀b,H b=some (.own a)->H' b=some (.own a))(ht:∀b xs,H b=some (.tup xs)->H' b=some (.tup xs)):ObjOk P w H' h' a o:=by
 induction o with
 |lst xs=>let(z,its,n,r,e):=x;exists z,its,n,r,k _ _ (.inl Z) e
 |tup xs=>let(z,its,r,ob,e,c):=x;exists z,its,r,ob,k _ _ (.inl Z) e,c
 |dK kvs=>let(z,y,vs,r,ob,es,ep,e,c):=x;exists z,y,vs,r,ob,es,ep,k _ _ (.inl Z) e,c
 |dT kvs=>
  let(z,y,xs,r,ob,es,ep,e,c):=x;exists z,y,xs,Paired.mapP r λp q z=>{z.1,ht _ _ z.2.1,z.2.2},ob,es,ep,k _ _ (.inl Z) e,c
 |set S n=>let(ob,es,ep,t,e,c):=x;exists ob,es,ep,t,k _ _ (.inl Z) e,c
 |ins C dx fs=>
  let(d,z,ne,e,mA,(od,es,ep,e2,c),r):=x;exists ho _ d,z,ne,k _ _ (.inl Z) e,mA,{od,es,ep,k _ _ (.inr d) e2,c},r
 |own y=>let(ob,e):=x;exists ob,k _ _ (.inl Z) e
 |xd fs=>let(mA,(od,es,ep,e,c),r):=x;exists mA,{od,es,ep,k _ _ (.inl Z) e,c},r
 |rng lo hi=>let(t,u,v,e):=x;exists t,u,v,k _ _ (.inl Z) e
 |frz ob u ih=>let(e,q):=x;exists k _ _ (.inl Z) e,ih q
 |tbl ps=>
  let e:h.E a=some {cls:=.none,data:=.fields ps}:=x;change h'.E a=some {cls:=.none,data:=.fields ps}
  show k a _ (.inl Z) e
 |met f y=>
  let e:h.E a=some (PySem.W.methodObj ↑f<|.ref y):=x;change h'.E a=some (PySem.W.methodObj ↑f<|.ref y)
  show k a _ (.inl Z) e
 |ext φ=>let(p,(o,e),st):=x;exists st _ _ p λo q=>k _ _ (.inl Z) q,{o,k _ _ (.inl Z) e},st
def HOk.lt(x:HOk P w H h)(e:H a=some o):a<h.objs.l:=(x a o e).lt
def HOk.fresh(x:HOk P w H h)(e:h.objs.l<=a):H a=none:=by
 cases q:H a with
 |none=>rfl
 |some u=>show absurd (Yr (x.lt q) e) (Y1h _)
def HOk.kept(x:HOk P w H h)(k:∀b u,h.E b=some u->h'.E b=some u):HOk P w H h':=λa o e=>
 (x a o e).stay (λb u _ q=>k b u q) (λ_ q=>q) λ_ _ q=>q
def HOk.laid(x:HOk P w H h)(k:∀b u,h.E b=some u->h'.E b=some u)(hp:h.objs.l<=a)(new:ObjOk P w (upd H a o) h' a o):HOk P w (upd H a o) h':=λb u e=>by
 let hn:=x.fresh hp;cases hb:b=a
 ·subst hb;rw[Zz1]at e;cases e;show new
 ·rw[Ze hb]at e;show(x b u e).stay (λc v _ q=>k c v q) (λc q=>by rwa[Ze (Za q hn)]) λc xs q=>by rwa[Ze (Za q hn)]
end
def Rd(H:Hp)(a:Addr)(u:HO):(Prop):=H a=some u\/∃o,H a=some (.frz o u)
def Rd.ok(r:Rd H a u)(x:HOk P w H h):ObjOk P w H h a u:=by
 rcases r with r|⟨o,r⟩
 ·show x a u r
 ·let(_,q):=x a _ r;show q
def Mut:(Option HO->Prop)
 |some (.lst _)=>True
 |some (.dK _)=>True
 |some (.dT _)=>True
 |some (.set _ _)=>True
 |some (.ins _ _ _)=>True
 |some (.ext _)=>True
 |_=>False
section
variable{P:Program}{w:World}{H:Hp}{h h':Heap}{x e:Addr}{o':HO}
def HOk.write(ok:HOk P w H h)(mu:Mut (H x))(he:e=x\/H e=some (.own x))(k:∀b u,b≠e->h.E b=some u->h'.E b=some u)(heo:∃u,h'.E e=some u)
  (new:ObjOk P w (upd H x o') h' x o'):HOk P w (upd H x o') h':=λb u q=>by
 let nown:∀c y,H c=some (.own y)->c≠x:=λc y r z=>by subst z;rwa[r]at mu
 let ntup:∀c xs,H c=some (.tup xs)->c≠x:=λc xs r z=>by subst z;rwa[r]at mu
 cases hb:b=x
 ·subst hb;rw[Zz1]at q;cases q;show new
 ·rw[Ze hb]at q;cases hbe:b=e
  ·have q':H b=some (.own x):=by
    rcases he with z|z
    ·show absurd (hbe.m z) hb
    ·rwa[hbe]
   rw[q]at q';cases q';let(v,hv):=heo;exists v,by rwa[hbe]
  ·show(ok b u q).stay (λc v hc r=>k c v ?_ r) (λc r=>by rwa[Ze (nown c b r)]) λc xs r=>by rwa[Ze (ntup c xs r)]
   rcases hc with rfl|hc
   ·show hbe
   ·rintro rfl;rcases he with z|z
    ·show nown c b hc z
    ·rw[hc]at z;cases z;show hb rfl
end
structure Un(fs ex:List Addr)(H H':Hp)(h h':Heap):Prop where
 keep:∀b o,h.E b=some o->H b=none->b∉fs->b∉ex->h'.E b=some o
 slot:∀b o,h.E b=some o->H b=none->b∈fs->b∉ex->∃sl,h'.E b=some {o with slots:=sl}
 free:∀b o,h.E b=some o->H b=none->b∉ex->H' b=none
 there:∀b o,h.E b=some o->b∉ex->∃o',h'.E b=some o'
 tups:∀b xs,H b=some (.tup xs)->H' b=some (.tup xs)
 frzs:∀b o u,H b=some (.frz o u)->H' b=some (.frz o u)
 tbls:∀b ps,H b=some (.tbl ps)->∃more,H' b=some (.tbl<|ps++more)
section
variable{fs ex:List Addr}{H H1:Hp}{h h1 h':Heap}{a x e:Addr}{o:HO}
def Un.any(u:Un fs ex H H1 h h1){ob:Obj}(q:h.E b=some ob)(n:H b=none)(hx:b∉ex):∃sl,h1.E b=some {ob with slots:=sl}:=by
 cases hb:b∈fs
 ·show u.slot b ob q n hb hx
 ·exists ob.slots,u.keep b ob q n hb hx
def Un.kept(k:∀b u,h.E b=some u->h'.E b=some u):Un fs ex H H h h':=
 {λb ob q _ _ _=>k b ob q,λb ob q _ _ _=>{ob.slots,k b ob q},λ_ _ _ n _=>n,λb ob q _=>{ob,k b ob q},λ_ _ q=>q,λ_ _ _ q=>q,λ_ ps q=>{#[],by rw[q];simp}}
def Un.refl:Un fs ex H H h h:=Un.kept λ_ _ q=>q
def Un.laid(k:∀b u,h.E b=some u->h'.E b=some u)(hp:h.objs.l<=a)(hn:H a=none):Un fs ex H (upd H a o) h h' where
 keep:=λb u q _ _ _=>k b u q
 slot:=λb u q _ _ _=>{u.slots,k b u q}
 free:=λb u q n _=>by rwa[Ze (Yt<|Yr (Yg q) hp)]
 there:=λb u q _=>{u,k b u q}
 tups:=λb xs q=>by rwa[Ze (Za q hn)]
 frzs:=λb u xs q=>by rwa[Ze (Za q hn)]
 tbls:=λb ps q=>{#[],by rw[Ze (Za q hn),q];simp}
def Un.write(mu:Mut (H x))(he:e=x\/H e=some (.own x))(k:∀b u,b≠e->h.E b=some u->h'.E b=some u)(heo:∃u,h'.E e=some u):Un fs ex H (upd H x o) h h':=by
 let hx:∀b,H b=none->b≠x:=λb n z=>by subst z;rwa[n]at mu
 let hb:∀b,H b=none->b≠e:=λb n z=>by
  subst z;rcases he with r|r
  ·show hx b n r
  ·rw[n]at r;cases r
 let hm:∀b u,H b=some u->¬Mut (some u)->b≠x:=λb u q nm z=>by subst z;rw[q]at mu;show nm mu
 show⟨λb u q n _ _=>k b u (hb b n) q,λb u q n _ _=>{u.slots,k b u (hb b n) q},λb u q n _=>by rw[Ze (hx b n)];show n,λb u q _=>?_,
  λb xs q=>by rw[Ze (hm b _ q λz=>z)];show q,λb u xs q=>by rw[Ze (hm b _ q λz=>z)];show q,λb ps q=>{#[],by rw[Ze (hm b _ q λz=>z),q];simp}⟩
 cases hbe:b=e
 ·subst hbe;show heo
 ·exists u,k b u hbe q
end
def trk(h:Heap)(H:Hp):(List Addr):=(List.range h.objs.l).filter λa=>(H a).isSome
def hidT(h:Heap)(H:Hp):(Heap):=PySem.W.hideAll h (trk h H)
def Zz78(h:Heap)(H:Hp):(hidT h H).objs.l=h.objs.l:=PySem.W.hideAll_size _ _
def ZP10{b:Addr}{o:Obj}(e:h.E b=some o)(n:H b=none):(hidT h H).E b=some o:=
 PySem.W.hideAll_get _ e λhm=>by let q:(H b).isSome=true:=(Ym.S hm).2;rw[n]at q;simp at q
def Zf12{b:Addr}{o:Obj}(e:(hidT h H).E b=some o):h.E b=some o/\H b=none:=by
 let e':h.E b=some o:=PySem.W.of_hideAll (trk h H) e;exists e',?_;cases q:H b with
 |none=>rfl
 |some x=>
  let hm:b∈trk h H:=Ym.X {YO.X<|Yg e',by simp[q]};let z:(hidT h H).E b=none:=Y2U (trk h H) hm
  rw[z]at e;cases e
def Ze13(g h:Heap)(L:Addr):(List (Addr×Obj)):=(List.range h.objs.l).filterMap λa=>if a=L\/(g.E a).isSome=true then none else (h.E a).L λo=>(a,o)
def rest(g h:Heap)(L d:Addr):(List (Addr×Obj)):=(Ze13 g h L).filter λp=>decide (p.1≠d)
structure Mod(K:PySem.W.Q)(mg:Str->Option Value)(base:Heap):Prop where
 kin:K.In base
 glob:base.Ns mainGlobals mg
 blt:∃mb,base.Ns builtinsNs mb/\∀x:Str,x≠"__name__"->mb x=bootBuiltins x
 nolimit:base.NoLimit
structure Cx where
 prog:Program
 w:World
 K:PySem.W.Q
 mg:Str->Option Value
 base:Heap
 A:Around
 N:List Str
 s₀:Shared
 H₀:Hp
 env:Env
 outer:List Env
 stack:List Env
 ex:List Addr
 fn:Str->Bool
 calm:Bool
 pn:List (Addr×Obj)
 xe:Value->Shared->Prop
def frs(l:List Env):(List Addr):=l.filterMap (·.frame)
abbrev Cx.fs(X:Cx):List Addr:=frs X.outer
def Vis(sc:Scope)(x:Str):(Prop):=sc.names.R x=some .local\/sc.names.R x=some .cell\/sc.names.R x=some .free
def Loc(sc:Scope)(x:Str):(Prop):=sc.names.R x=some .local\/sc.names.R x=some .cell
def Look(env:Env)(h:Heap)(m:Str->Option Value)(x:Str)(u:Value):(Prop):=
 (env.kindOf x=some .local/\m x=some u)\/((env.kindOf x=some .cell\/env.kindOf x=some .free)/\∃c,env.cells.R x=some c/\h.IsCell c (some u))
structure Cx.Ok(X:Cx):Prop where
 mod:Mod X.K X.mg X.base
 kind:X.M.scope.kind=.function
 glob:X.M.globals=mainGlobals
 blt:X.M.builtins=builtinsNs
 above:(~~~X.s₀)<=X.M.locals
 inj:∀x y c,X.M.cells.R x=some c->X.M.cells.R y=some c->x=y
 has:∀x,(X.M.kindOf x=some .cell\/X.M.kindOf x=some .free)->∃c,X.M.cells.R x=some c
 cab:∀x c,X.fn x=true->X.M.cells.R x=some c->(~~~X.s₀)<=c
 hd:X.calm=true->X.A.handled=none
 frames:X.A.frames=some X.stack
 stk:X.stack=X.outer\/(X.stack=X.M::X.outer/\X.M.frame=some X.M.locals)
 exf:∀b∈X.ex,b≠X.M.locals/\∀x c,X.M.cells.R x=some c->c≠b
 bs:∀b o,X.base.E b=some o->X.s₀.o.E b=some o/\X.H₀ b=none
 bsz:X.base.objs.l<=(~~~X.s₀)
 noex:∀b o,X.base.E b=some o->b∉X.ex
 exfs:∀b∈X.ex,b∉X.fs
 funs:X.s₀.o.FunFrames X.base X.outer
 frf:∀b∈X.fs,X.H₀ b=none
structure Inv(X:Cx)(pins:List (Addr×Obj))(σ:List (Option V))(H:Hp)(s:Shared):Prop where
 ok:X.Ok
 os:s.os=X.s₀.os
 bare:AllBare s.gens
 base:Un X.fs X.ex X.H₀ H X.s₀.o s.o
 loc:∃m,s.o.Ns X.M.locals m/\∀(i:Nat)(x:Str)(v:V),X.N[i]?=some x->σ[i]?=some (some v)->Vis X.M.scope x->∃u,RelV v u/\Look X.M s.o m x u
 cell:∀x c,X.M.cells.R x=some c->∃v,s.o.IsCell c v
 free:H X.M.locals=none
 freeC:∀x c,X.M.cells.R x=some c->H c=none
 pin:∀p∈X.pn++pins,s.o.E p.1=some p.2/\H p.1=none/\p.1≠X.M.locals/\p.1∉X.fs/\∀v,p.2.data≠.cell v
 hok:HOk X.prog X.w H s.o
 len:σ.f=X.N.f
section
variable{X:Cx}{pins:List (Addr×Obj)}{σ:List (Option V)}{H H':Hp}{s:Shared}{h':Heap}
def Cx.Ok.nofr(ok:X.Ok){b:Addr}{o:Obj}(e:X.base.E b=some o):b∉X.fs:=λhb=>by
 have:=(ok.funs.mem hb).1
 rw[e]at this;cases this
def Inv.bs(I:Inv X pins σ H s):∀b o,X.base.E b=some o->s.o.E b=some o/\H b=none:=λb o e=>
 {I.base.keep b o (I.ok.bs b o e).1 (I.ok.bs b o e).2 (I.ok.nofr e) (I.ok.noex b o e),I.base.free b o (I.ok.bs b o e).1 (I.ok.bs b o e).2 (I.ok.noex b o e)}
def Inv.bk(I:Inv X pins σ H s):∀b o,X.base.E b=some o->s.o.E b=some o:=λb o e=>(I.bs b o e).1
def Inv.mod(I:Inv X pins σ H s):Mod X.K X.mg X.base:=I.ok.mod
def Inv.kIn(I:Inv X pins σ H s):X.K.In s.o:=I.ok.mod.kin.keeps I.bk
def Inv.lt(I:Inv X pins σ H s):X.M.locals<(~~~s):=by let(_,hn,_):=I.loc;show hn.lt
def Inv.sz(I:Inv X pins σ H s):(~~~X.s₀)<=(~~~s):=Yv I.ok.above (Y1x I.lt)
def Inv.nofs(I:Inv X pins σ H s){a:Addr}(h:(~~~s)<=a):a∉X.fs:=λhb=>by let(_,o,ho,_):=I.ok.funs.mem hb;show absurd (Yr (Yg ho)<|Yv I.sz h) (Y1h _)
def Inv.cne(I:Inv X pins σ H s):∀x c,X.M.cells.R x=some c->c≠X.M.locals:=λx c e z=>by let(v,o,ho,hd):=I.cell x c e;let(m,(o',es,ep,ho',hd',_),_):=I.loc;rw[z,ho']at ho;cases ho;rw[hd']at hd;cases hd
def Inv.funs(I:Inv X pins σ H s):s.o.FunFrames X.base X.outer:=by
 let all:∀(l:List Env),(∀b∈frs l,b∈X.fs)->X.s₀.o.FunFrames X.base l->s.o.FunFrames X.base l:=by
  intro l
  induction l with
  |nil=>intro _ _;trivial
  |cons env r ih=>
   intro hs hl;let(hk,(L,o,hf,hn,ho,hd),hr):=hl;let hL:L∈X.fs:=hs L (by unfold frs;rw[Y1E,hf];show Ye)
   let(sl,e):=I.base.slot L o ho (I.ok.frf L hL) hL λz=>I.ok.exfs L z hL;exists hk,{L,_,hf,hn,e,hd},ih (λb hb=>hs b<|by unfold frs;rw[Y1E,hf];show Yd _ hb) hr
 show all X.outer (λ_ hb=>hb) I.ok.funs
def Inv.stack(I:Inv X pins σ H s):s.o.FunFrames X.base X.stack:=by
 rcases I.ok.stk with e|⟨e,hf⟩
 ·rw[e];show I.funs
 ·rw[e];let(m,hn,_):=I.loc;show .cons (by rw[I.ok.kind];decide) hf hn ?_ I.funs;show Heap.get?_none_of_le (Yv I.ok.bsz I.ok.above)
def Inv.stkSub(I:Inv X pins σ H s):∀b∈frs X.stack,b∈X.M.locals::X.fs:=λb hb=>by
 rcases I.ok.stk with e|⟨e,hf⟩
 ·rw[e]at hb;show Yd _ hb
 ·rw[e]at hb;unfold frs at hb;rwa[Y1E,hf]at hb
def Inv.stkFree(I:Inv X pins σ H s):∀b∈frs X.stack,H b=none:=λb hb=>by
 rcases Yf.S (I.stkSub b hb) with e|hb
 ·rw[e];show I.free
 ·let(_,o,ho,_):=I.ok.funs.mem hb;show I.base.free b o ho (I.ok.frf b hb) λz=>I.ok.exfs b z hb
def Inv.step{g':Array GenState}{t':Nat}{d':Drawn}{ch:List Addr}(I:Inv X pins σ H s)
  (hch:∀b∈ch,(b∈X.ex\/(~~~X.s₀)<=b)/\b≠X.M.locals/\(∀x c,X.M.cells.R x=some c->c≠b)/\∀p∈X.pn++pins,p.1≠b)
  (keep:∀b o,b≠X.M.locals->b∉X.fs->b∉ch->s.o.E b=some o->H b=none->h'.E b=some o)
  (slot:∀b o,b≠X.M.locals->b∈X.fs->b∉ch->s.o.E b=some o->H b=none->∃sl,h'.E b=some {o with slots:=sl})(free:∀b o,b∉ch->s.o.E b=some o->H b=none->H' b=none)
  (there:∀b o,b∉ch->s.o.E b=some o->∃o',h'.E b=some o')
  (tups:∀b xs,H b=some (.tup xs)->H' b=some (.tup xs))(frzs:∀b o u,H b=some (.frz o u)->H' b=some (.frz o u))(tbls:∀b ps,H b=some (.tbl ps)->∃more,H' b=some (.tbl<|ps++more))
  (ns:∀m,s.o.Ns X.M.locals m->h'.Ns X.M.locals m)(hok:HOk X.prog X.w H' h')(hg:AllBare g'):
  Inv X pins σ H' {s with heap:=h',gens:=g',drawn:=d',toks:=t'}:=by
 let neL:∀b o,X.s₀.o.E b=some o->b≠X.M.locals:=λb o e=>Yt (Yr (Yg e) I.ok.above);let neC:∀b o,X.s₀.o.E b=some o->b∉X.ex->b∉ch:=λb o e hx hb=>by
  rcases(hch b hb).1 with z|z
  ·show hx z
  ·show absurd (Yr (Yg e) z) (Y1h _)
 let cellK:∀x c,X.M.cells.R x=some c->∀v,s.o.IsCell c v->h'.IsCell c v:=λx c e v ⟨o,ho,hd⟩=>by
  let nch:c∉ch:=λz=>(hch c z).2.2.1 x c e rfl;cases hc:c∈X.fs
  ·let(sl,q):=slot c o (I.cne x c e) hc nch ho (I.freeC x c e);exists _,q,hd
  ·exists o,keep c o (I.cne x c e) hc nch ho<|I.freeC x c e,hd
 exists I.ok,I.os,hg,{λb o e n hb hx=>?_,λb o e n hb hx=>?_,λb o e n hx=>?_,λb o e hx=>?_,λb xs e=>tups b xs<|I.base.tups b xs e,λb o xs e=>frzs b o xs<|I.base.frzs b o xs e,λb ps e=>?_},?_,λx c e=>?_,?_,λx c e=>?_,λp hp=>?_,hok,I.len
 ·show keep b o (neL b o e) hb (neC b o e hx) (I.base.keep b o e n hb hx) (I.base.free b o e n hx)
 ·let(sl,e1):=I.base.slot b o e n hb hx;let(sl',e2):=slot b _ (neL b o e) hb (neC b o e hx) e1 (I.base.free b o e n hx);exists sl',e2
 ·let(o',e1):=I.base.there b o e hx;show free b o' (neC b o e hx) e1 (I.base.free b o e n hx)
 ·let(o',e1):=I.base.there b o e hx;show there b o' (neC b o e hx) e1
 ·let(m1,e1):=I.base.tbls b ps e;let(m2,e2):=tbls b _ e1;exists m1++m2,by rw[e2,Array.append_assoc]
 ·let(m,hn,hl):=I.loc;exists m,ns m hn,λi x v e1 e2 e3=>?_;let(u,r,l):=hl i x v e1 e2 e3;exists u,r,?_;rcases l with l|⟨k,c,e,z⟩
  ·show .inl l
  ·show .inr {k,c,e,cellK x c e _ z}
 ·let(v,z):=I.cell x c e;exists v,cellK x c e v z
 ·let(m,(o,_,_,ho,_),_):=I.loc;show free _ o (λz=>(hch _ z).2.1 Z) ho I.free
 ·let(v,o,ho,hd):=I.cell x c e;show free c o (λz=>(hch c z).2.2.1 x c e Z) ho (I.freeC x c e)
 ·let(e,n,ne,nf,d):=I.pin p hp;let nch:p.1∉ch:=λz=>(hch p.1 z).2.2.2 p hp rfl
  exists keep p.1 p.2 ne nf nch e n,free p.1 p.2 nch e n,ne,nf,d
def Inv.un{t':Nat}(I:Inv X pins σ H s)(u:Un X.fs [] H H' s.o h')(hok:HOk X.prog X.w H' h'):Inv X pins σ H' {s with heap:=h',toks:=t'}:=by
 let(m,(o,es,ep,ho,r),_):=id I.loc;let(sl,hL):=u.any ho I.free D;show I.step (g':=s.gens) (d':=s.drawn) (ch:=[]) (λ_ z=>nomatch z) (λb o _ hb _ e n=>u.keep b o e n hb D) (λb o _ hb _ e n=>u.slot b o e n hb D) (λb o _ e n=>u.free b o e n D) (λb o _ e=>u.there b o e D) u.tups u.frzs u.tbls (λm' hm=>by let(o',es',ep',ho',r'):=hm;rw[ho]at ho';cases ho';exists _,es',ep',hL,r') hok I.bare
def Inv.call{t':Nat}{d':Drawn}(I:Inv X pins σ H s)(u:Un (frs X.stack) ch H H' s.o h')(hok:HOk X.prog X.w H' h')(hg:AllBare g')
  (hch:∀b∈ch,(b∈X.ex\/(~~~X.s₀)<=b)/\b≠X.M.locals/\(∀x c,X.M.cells.R x=some c->c≠b)/\∀p∈X.pn++pins,p.1≠b):
  Inv X pins σ H' {s with heap:=h',gens:=g',drawn:=d',toks:=t'}:=by
 let(m,(o,es,ep,ho,r),_):=id I.loc;let(sl,hL):=u.any ho I.free λz=>(hch _ z).2.1 rfl;show I.step (ch:=ch) hch (λb o hL hb hc e n=>u.keep b o e n (λz=>(Yf.S<|I.stkSub b z).elim hL hb) hc) (λb o _ _ hc e n=>u.any e n hc) (λb o hc e n=>u.free b o e n hc) (λb o hc e=>u.there b o e hc) u.tups u.frzs u.tbls (λm' hm=>by let(o',es',ep',ho',r'):=hm;rw[ho]at ho';cases ho';exists _,es',ep',hL,r') hok hg
def Inv.turned{t':Nat}(I:Inv X pins σ H s)(k:∀b o,b≠it->s.o.E b=some o->h'.E b=some o)(hn:H it=none)(hL:it≠X.M.locals)
  (h1:it∈X.ex\/(~~~X.s₀)<=it)(h2:∀x c,X.M.cells.R x=some c->c≠it)(h3:∀p∈X.pn++pins,p.1≠it):Inv X pins σ H {s with heap:=h',toks:=t'}:=by
 let nit:∀b u,H b=some u->b≠it:=λb u e z=>by rw[z,hn]at e;cases e
 show I.step (g':=s.gens) (d':=s.drawn) (ch:=[it]) (λb hb=>?_) (λb o _ _ hc e _=>k b o (λz=>hc<|by simp[z]) e) (λb o _ _ hc e _=>{o.slots,k b o (λz=>hc<|by simp[z]) e}) (λ_ _ _ _ n=>n)
  (λb o hc e=>{o,k b o (λz=>hc<|by simp[z]) e}) (λ_ _ e=>e) (λ_ _ _ e=>e) (λb ps e=>{#[],by rw[e];simp}) (λm hm=>?_) (λb u e=>?_) I.bare
 ·have e:b=it:=by simpa using hb
  subst e;exists h1,hL,h2,h3
 ·let(o,es,ep,ho,r):=hm;exists o,es,ep,k _ o (Y0f hL) ho,r
 ·show(I.hok b u e).stay (λc v hc q=>k c v ?_ q) (λ_ q=>q) λ_ _ q=>q;rcases hc with z|z
  ·rw[z];show nit b u e
  ·show nit c _ z
def Inv.tok(I:Inv X pins σ H s)(t:Nat):Inv X pins σ H {s with toks:=t}:=I.un (h':=s.o) (t':=t) Un.refl I.hok
def Inv.kept{t':Nat}(I:Inv X pins σ H s)(k:∀b u,s.o.E b=some u->h'.E b=some u):Inv X pins σ H {s with heap:=h',toks:=t'}:=I.un (Un.kept k) (I.hok.kept k)
def Inv.laid{t':Nat}(I:Inv X pins σ H s)(k:∀b u,s.o.E b=some u->h'.E b=some u)(hp:(~~~s)<=a)(new:ObjOk X.prog X.w (upd H a o) h' a o):
  Inv X pins σ (upd H a o) {s with heap:=h',toks:=t'}:=I.un (Un.laid k hp<|I.hok.fresh hp) (I.hok.laid k hp new)
def Inv.write{t':Nat}(I:Inv X pins σ H s)(mu:Mut (H x))(he:e=x\/H e=some (.own x))(k:∀b u,b≠e->s.o.E b=some u->h'.E b=some u)(heo:∃u,h'.E e=some u)
  (new:ObjOk X.prog X.w (upd H x o) h' x o):Inv X pins σ (upd H x o) {s with heap:=h',toks:=t'}:=I.un (Un.write mu he k heo) (I.hok.write mu he k heo new)
def Inv.weak(I:Inv X pins σ H s)(hl:σ'.f=σ.f)(w:∀(i:Nat) v,σ'[i]?=some (some v)->σ[i]?=some (some v)):Inv X pins σ' H s:=
 {I.ok,I.os,I.bare,I.base,by let(m,hn,hl'):=I.loc;show{m,hn,λi x v e1 e2 e3=>hl' i x v e1 (w i v e2) e3},I.cell,I.free,I.freeC,I.pin,I.hok,hl.m I.len}
def Inv.pins_of(I:Inv X pins σ H s)(h:∀p∈pins',s.o.E p.1=some p.2/\H p.1=none/\p.1≠X.M.locals/\p.1∉X.fs/\∀v,p.2.data≠.cell v):Inv X pins' σ H s:=
 {I.ok,I.os,I.bare,I.base,I.loc,I.cell,I.free,I.freeC,λp hp=>(Yb.S hp).elim (λz=>I.pin p<|YA _ z) (h p),I.hok,I.len}
def Zz54{N:List Str}(hN:N.Nodup){i j:Nat}{x:Str}(a:N[i]?=some x)(b:N[j]?=some x):i=j:=by let(h1,e1):=Yy1.S a;let(h2,e2):=Yy1.S b;show(List.getElem_inj hN).S (e1.m e2.symm)
def ZB4{E:Value->Shared->Prop}{i:Nat}{x:Str}{Q:Unit->Shared->Prop}(I:Inv X pins σ H s)(hN:X.N.Nodup)(hi:X.N[i]?=some x)(hx:Loc X.M.scope x)(r:RelV v u)
  (h:∀s',Inv X pins (σ.set i<|some v) H s'->(∃a,Heap.SameBut a s.o s'.o/\(a=X.M.locals\/X.M.cells.R x=some a))->Q () s')(hf:X.fn x=true\/X.M.scope.names.R x=some .local:=by first|show .inl rfl|show .inr rfl|assumption):wpAny M A (storeName X.M x u) Q E s:=by
 let(m,hn,hl):=id I.loc;let hcls:(X.M.scope.kind == .class||(X.M.scope.kind == .module&&X.M.locals != X.M.globals))=false:=by rw[I.ok.kind];rfl
 let hiσ:i<σ.f:=by rw[I.len];show(Yy1.S hi).1
 let cne:=I.cne;let tracked:∀{a:Addr}{h':Heap},(∃o,s.o.E a=some o/\H a=none)->Heap.SameBut a s.o h'->HOk X.prog X.w H h':=λ{a h'} ha hs b ob e=>by
  let(_,_,hfree):=ha;show(I.hok b ob e).stay (λc w' hc q=>(hs.2 c ?_).m q) (λ_ q=>q) λ_ _ q=>q;rintro rfl;rcases hc with rfl|hc
  ·rw[hfree]at e;cases e
  ·rw[hfree]at hc;cases hc
 rcases hx with hk|hk
 ·show wpAny_storeName_local hk hn (λh' hn' hs=>?_) hcls;let(oL,_,_,hoL,_):=id hn;show h _ {I.ok,I.os,I.bare,{λb o e n hb hx=>?_,λb o e n hb hx=>?_,I.base.free,λb o e hx=>?_,I.base.tups,I.base.frzs,I.base.tbls},{_,hn',λj y v' e1 e2 e3=>?_},λy c e=>?_,I.free,I.freeC,λp hp=>?_,tracked ⟨oL,hoL,I.free⟩ hs,by simpa using I.len} {_,hs,.inl Z}
  ·show(hs.2 b<|Yt<|Yr (Yg e) I.ok.above).m (I.base.keep b o e n hb hx)
  ·let(sl,e1):=I.base.slot b o e n hb hx;exists sl,(hs.2 b<|Yt<|Yr (Yg e) I.ok.above).m e1
  ·let(o',e1):=I.base.there b o e hx;exists o',(hs.2 b<|Yt<|Yr (Yg e) I.ok.above).m e1
  ·by_cases hj:j=i
   ·subst hj;rw[hi]at e1;cases e1;rw[Y1T hiσ]at e2;cases e2;exists u,r,.inl ⟨hk,D⟩
   ·rw[Yy27 (Y0f hj)]at e2;let(u',r',q):=hl j y v' e1 e2 e3;exists u',r',?_;rcases q with ⟨k,e⟩|⟨k,c,e,z⟩
    ·show .inl {k,?_}
     have:y≠x:=λe=>hj (Zz54 hN e1<|e▸hi)
     simp[this,e]
    ·show .inr {k,c,e,z.sameBut hs<|cne y c e}
  ·let(w',z):=I.cell y c e;exists w',z.sameBut hs<|cne y c e
  ·let(e,n,ne,nf,d):=I.pin p hp;exists (hs.2 p.1 ne).m e,n,ne,nf,d
 ·have hfn:X.fn x=true:=by
   rcases hf with z|z
   ·show z
   ·rw[z]at hk;cases hk
  let(c,hc):=I.ok.has x (.inl hk);let(w',z):=I.cell x c hc;show wpAny_storeName_cell I.ok.kind hk hc z λh' hc' hs=>?_;let(oc,hoc,hocd):=id z;show h {s with heap:=h'} {I.ok,I.os,I.bare,{λb o e n hb hx=>?_,λb o e n hb hx=>?_,I.base.free,λb o e hx=>?_,I.base.tups,I.base.frzs,I.base.tbls},{m,hn.sameBut hs<|Y0f<|cne x c hc,λj y v' e1 e2 e3=>?_},λy c' e=>?_,I.free,I.freeC,λp hp=>?_,tracked {oc,hoc,I.freeC x c hc} hs,by simpa using I.len} {c,hs,.inr hc}
  ·show(hs.2 b<|Yt<|Yr (Yg e)<|I.ok.cab x c hfn hc).m (I.base.keep b o e n hb hx)
  ·let(sl,e1):=I.base.slot b o e n hb hx;exists sl,(hs.2 b<|Yt<|Yr (Yg e)<|I.ok.cab x c hfn hc).m e1
  ·let(o',e1):=I.base.there b o e hx;exists o',(hs.2 b<|Yt<|Yr (Yg e)<|I.ok.cab x c hfn hc).m e1
  ·by_cases hj:j=i
   ·subst hj;rw[hi]at e1;cases e1;rw[Y1T hiσ]at e2;cases e2;exists u,r,.inr {.inl hk,c,hc,hc'}
   ·rw[Yy27 (Y0f hj)]at e2;let(u',r',q):=hl j y v' e1 e2 e3;exists u',r',?_;rcases q with q|⟨k,c',e,z'⟩
    ·show .inl q
    ·show .inr {k,c',e,z'.sameBut hs ?_};rintro rfl;show hj (Zz54 hN e1<|I.ok.inj _ _ _ e hc▸hi)
  ·by_cases hcc:c'=c
   ·subst hcc;exists _,hc'
   ·let(w2,z2):=I.cell y c' e;exists w2,z2.sameBut hs hcc
  ·let(e,n,ne,nf,d):=I.pin p hp;exists (hs.2 p.1 ?_).m e,n,ne,nf,d;intro q;rw[q,hoc]at e;let q':oc=p.2:=Yl e
   show d w' (by rwa[<-q'])
def ZR3{E:Value->Shared->Prop}{i:Nat}{x:Str}{Q:Unit->Shared->Prop}(I:Inv X pins σ H s)(hN:X.N.Nodup)(hi:X.N[i]?=some x)(hx:Loc X.M.scope x)(r:RelV v u)
  (h:∀s',Inv X pins (σ.set i<|some v) H s'->Q () s')(hf:X.fn x=true\/X.M.scope.names.R x=some .local:=by first|show .inl rfl|show .inr rfl|assumption):wpAny M A (storeName X.M x u) Q E s:=
 ZB4 I hN hi hx r (λs' I' _=>h s' I') hf
def Inv.call'(I:Inv X pins σ H s)(ho:s'.os=s.os)(u:Un (frs X.stack) ch H H' s.o s'.o)(hok:HOk X.prog X.w H' s'.o)(hg:AllBare s'.gens)
  (hch:∀b∈ch,(b∈X.ex\/(~~~X.s₀)<=b)/\b≠X.M.locals/\(∀x c,X.M.cells.R x=some c->c≠b)/\∀p∈X.pn++pins,p.1≠b):Inv X pins σ H' s':=by
 let(h',g',d',t',o'):=s';let e:o'=s.os:=ho
 subst e;show I.call (g':=g') (t':=t') (d':=d') u hok hg hch
end
abbrev XK:=Value->Option Addr->Hp->Prop
abbrev St:=List (Option V)
abbrev VK:=V->Hp->Prop
abbrev TE:=St->Hp->VK->Prop
abbrev TT:=St->Hp->(Bool->Hp->Prop)->Prop
abbrev TA:=St->Hp->(List V->Hp->Prop)->Prop
structure Ends where
 nx:St->Hp->Prop
 rt:VK
 bk:St->Hp->Prop:=λ_ _=>False
 ct:St->Hp->Prop:=λ_ _=>False
abbrev TS:=Ends->St->Hp->Prop
def EP(X:Cx)(pins:List (Addr×Obj))(σ:St)(Q:VK)(u:Value)(s':Shared):(Prop):=∃v H',Inv X pins σ H' s'/\RelV v u/\Q v H'
def TP(X:Cx)(pins:List (Addr×Obj))(σ:St)(Q:Bool->Hp->Prop)(b:Bool)(s':Shared):(Prop):=∃H',Inv X pins σ H' s'/\Q b H'
def AP(X:Cx)(pins:List (Addr×Obj))(σ:St)(Q:List V->Hp->Prop)(us:List Value)(s':Shared):(Prop):=∃vs H',Inv X pins σ H' s'/\Vals vs us/\Q vs H'
def SP(X:Cx)(pins:List (Addr×Obj))(XW:Ends)(f:Flow)(s':Shared):(Prop):=
 match f with
 | .next=>∃σ' H',Inv X pins σ' H' s'/\XW.nx σ' H'
 | .brk=>∃σ' H',Inv X pins σ' H' s'/\XW.bk σ' H'
 | .cont=>∃σ' H',Inv X pins σ' H' s'/\XW.ct σ' H'
 | .ret u=>∃v σ' H',Inv X pins σ' H' s'/\RelV v u/\XW.rt v H'
def PE(X:Cx)(e:Expr)(t:TE):(Prop):=
 ∀(pins:List (Addr×Obj))(s:Shared)(σ:St)(H:Hp)(Q:VK),Inv X pins σ H s->t σ H Q->wpAny (model X.prog X.w) X.A (eval e X.M) (EP X pins σ Q) X.xe s
def PT(X:Cx)(e:Expr)(t:TT):(Prop):=
 ∀(pins:List (Addr×Obj))(s:Shared)(σ:St)(H:Hp)(Q:Bool->Hp->Prop),Inv X pins σ H s->t σ H Q->wpAny (model X.prog X.w) X.A (isTrue e X.M<|eval e X.M) (TP X pins σ Q) X.xe s
def PW(X:Cx)(e:Expr)(t:TT):(Prop):=
 ∀(whole:Sem Value)(pins:List (Addr×Obj))(s:Shared)(σ:St)(H:Hp)(Q:Bool->Hp->Prop),Inv X pins σ H s->t σ H Q->wpAny (model X.prog X.w) X.A (isTrue e X.M whole) (TP X pins σ Q) X.xe s
def PW.pt(h:PW X e t):PT X e t:=h _
def PA(X:Cx)(es:List Expr)(t:TA):(Prop):=
 ∀(pos:Pos)(pins:List (Addr×Obj))(s:Shared)(σ:St)(H:Hp)(Q:List V->Hp->Prop),Inv X pins σ H s->t σ H Q->wpAny (model X.prog X.w) X.A (spliced<|backTo pos<|starEach es X.M) (AP X pins σ Q) X.xe s
def PS(X:Cx)(st:Stmt)(t:TS):(Prop):=
 ∀(pins:List (Addr×Obj))(s:Shared)(σ:St)(H:Hp)(XW:Ends),Inv X pins σ H s->t XW σ H->wpAny (model X.prog X.w) X.A (exec st X.M) (SP X pins XW) X.xe s
def PSs(X:Cx)(st:List Stmt)(t:TS):(Prop):=
 ∀(pins:List (Addr×Obj))(s:Shared)(σ:St)(H:Hp)(XW:Ends),Inv X pins σ H s->t XW σ H->wpAny (model X.prog X.w) X.A (execs st X.M) (SP X pins XW) X.xe s
def thn{α:Type}{t:Sem α}{Q Q':α->Shared->Prop}{M:Model}{A:Around}{E:Value->Shared->Prop}{s:Shared}(h:wpAny M A t Q E s)(hQ:∀a s,Q a s->Q' a s):wpAny M A t Q' E s:=Yy16 h hQ λ_ _ x=>x
section
variable{X:Cx}
inductive isB(x:V)(H:Hp)(Q:Bool->Hp->Prop):Prop
 |mk (k:Bool) (_:x=.bl k) (_:Q k H)
inductive tVar(i:Nat)(σ:St)(H:Hp)(Q:VK):Prop
 |mk (v:_) (_:σ[i]?=some (some v)) (_:Q v H)
def tC(v:V):(TE):=λ_ H Q=>Q v H
def ZW13{x:Str}{pos:Pos}(hN:X.N[i]?=some x)(hv:Vis X.M.scope x)(hd:(x == ("__debug__":Str))=false:=by decide)(hcd:(x == ("__classdict__":Str))=false:=by decide):PE X (.Name x pos) (tVar i):=by
 intro pins s σ H Q I h;let(v,e,h):=h;let(m,hn,hl):=I.loc;let(u,r,l):=hl i x v hN e hv;let fin:EP X pins σ Q u s:=⟨v,H,I,r,h⟩
 rcases l with ⟨hk,hm⟩|⟨hk,c,hc,hcell⟩
 ·show wpAny_Name (wpAny_loadName_local I.ok.kind hk hn hm fin) hd
 ·rcases hk with hk|hk
  ·show wpAny_Name (wpAny_loadName_cell I.ok.kind hk hc hcell fin) hd
  ·show wpAny_Name (wpAny_loadName_free I.ok.kind hk hc hcell fin hcd) hd
def Zz8{i j pos}:PE X (.Constant (.int i) j pos) (tC (.int i)):=λ_ _ _ H _ I h=>wpAny_Constant_int {.int i,H,I.tok _,{_,Z},h}
def Zu11{b j pos}:PE X (.Constant (.bool b) j pos) (tC (.bl b)):=λ_ _ _ H _ I h=>Constant_bool {.bl b,H,I,Z,h}
def Zh10{j pos}:PE X (.Constant .none j pos) (tC .non):=λ_ _ _ H _ I h=>Constant_none ⟨.non,H,I,Z,h⟩
def ZL1{x j pos}:PE X (.Constant (.str x) j pos) (tC (.str x)):=λ_ _ _ H _ I h=>Calls.Constant_str {.str x,H,I.tok _,{_,Z},h}
def Gl(X:Cx)(x:Str):(Prop):=X.M.kindOf x=some .globalImplicit
def Zw3{E:Value->Shared->Prop}{u:Value}{pos:Pos}{Q:Value->Shared->Prop}(I:Inv X pins σ H s)(hg:Gl X x)(hm:X.mg x=some u)(h:Q u s)
  (hd:(x == ("__debug__":Str))=false:=by decide):wpAny (model X.prog X.w) X.A (eval (.Name x pos) X.M) Q E s:=
 Y2G I.ok.kind hg (Calls.loadGlobal_global (by rw[I.ok.glob];show I.mod.glob.keeps I.bk) hm h) hd
def Zz82{E:Value->Shared->Prop}{u:Value}{pos:Pos}{Q:Value->Shared->Prop}(I:Inv X pins σ H s)(hg:Gl X x)(hm:X.mg x=none)(hv:bootBuiltins x=some u)(h:Q u s)
  (hn:x≠"__name__":=by decide)(hd:(x == ("__debug__":Str))=false:=by decide):wpAny (model X.prog X.w) X.A (eval (.Name x pos) X.M) Q E s:=by let(mb,h1,h2):=I.mod.blt;show Y2G I.ok.kind hg (Calls.loadGlobal_builtin (by rw[I.ok.glob];show I.mod.glob.keeps I.bk) hm (by rw[I.ok.blt];show h1.keeps I.bk) ((h2 x hn).m hv) h) hd
def ZM4{u:Value}{pos:Pos}(hg:Gl X x)(hm:X.mg x=some u)(r:RelV v u)(hd:(x == ("__debug__":Str))=false:=by decide):PE X (.Name x pos) (tC v):=
 λ_ _ _ H _ I h=>Zw3 I hg hm ⟨v,H,I,r,h⟩ hd
def ZO8{u:Value}{pos:Pos}(hg:Gl X x)(hm:X.mg x=none)(hv:bootBuiltins x=some u)(r:RelV v u)(hn:x≠"__name__":=by decide)(hd:(x == ("__debug__":Str))=false:=by decide):PE X (.Name x pos) (tC v):=
 λ_ _ _ H _ I h=>Zz82 I hg hm hv ⟨v,H,I,r,h⟩ hn hd
variable{a b:Expr}{ta tb:TE}{pos:Pos}
def PC(X:Cx)(op:CmpOp)(a b:Expr)(t:TE):(Prop):=
 ∀(pins:List (Addr×Obj))(s:Shared)(σ:St)(H:Hp)(Q:VK),Inv X pins σ H s->t σ H Q->
  wpAny (model X.prog X.w) X.A (eval a X.M) (λv s₁=>wpAny (model X.prog X.w) X.A (eval b X.M) (λu s₂=>wpAny (model X.prog X.w) X.A (compareOp op v u) (EP X pins σ Q) X.xe s₂) X.xe s₁) X.xe s
def tB(t:TE):(TT):=λσ H Q=>t σ H λx H1=>isB x H1 Q
def Zg6{e:Expr}{t:TE}(h:PE X e t)(he:∀whole,isTrue e X.M whole=(do let v <-whole;standAt e.pos;holding [v] (truthy v)):=by intro _;rfl):PT X e (tB t):=by intro pins s σ H Q I hw;show isTrue_plain (thn (h pins s σ H _ I hw) λv s1 zz=>?_) (he _);let(x,H1,I1,r1,q1):=zz;let(d,rfl,q):=q1;cases r1;show Y2b ⟨H1,I1,q⟩
variable{tA tB':TT}{rest:List Expr}
def tAnd(t u:TT):(TT):=λσ H Q=>t σ H λc H1=>if c=true then u σ H1 Q else Q false H1
def tOr(t u:TT):(TT):=λσ H Q=>t σ H λc H1=>if c=true then Q true H1 else u σ H1 Q
def tNot(t:TT):(TT):=λσ H Q=>t σ H λc H1=>Q (!c) H1
def ZJ8(ha:PT X a tA):PW X (.BoolOp .And [a] pos) tA:=by
 intro wh pins s σ H Q I h;show isTrue_and (thn (ha pins s σ H Q I h) λc s1 e=>?_);cases c with
 |true=>show isTrue_and_nil e
 |false=>show e
def Zz810(ha:PT X a tA):PW X (.BoolOp .Or [a] pos) tA:=by
 intro wh pins s σ H Q I h;show isTrue_or (thn (ha pins s σ H Q I h) λc s1 e=>?_);cases c with
 |false=>show isTrue_or_nil e
 |true=>show e
def Zz512(ha:PT X a tA)(hb:PW X (.BoolOp .And (b::rest) pos) tB'):PW X (.BoolOp .And (a::b::rest) pos) (tAnd tA tB'):=by
 intro wh pins s σ H Q I h;show isTrue_and (thn (ha pins s σ H _ I h) λc s1 hz0=>?_);let(H1,I1,q1):=hz0;cases c with
 |true=>show hb wh pins s1 σ H1 Q I1 q1
 |false=>exists H1,I1,q1
def Zj13(ha:PT X a tA)(hb:PW X (.BoolOp .Or (b::rest) pos) tB'):PW X (.BoolOp .Or (a::b::rest) pos) (tOr tA tB'):=by
 intro wh pins s σ H Q I h;show isTrue_or (thn (ha pins s σ H _ I h) λc s1 hz0=>?_);let(H1,I1,q1):=hz0;cases c with
 |true=>exists H1,I1,q1
 |false=>show hb wh pins s1 σ H1 Q I1 q1
def ZD5(ha:PT X a tA):PT X (.UnaryOp .Not a pos) (tNot tA):=by intro pins s σ H Q I h;show isTrue_not (ha pins s σ H (λc H1=>Q (!c) H1) I h)
def tIf(t:TT)(ta tb:TE):(TE):=λσ H Q=>t σ H λc H1=>if c=true then ta σ H1 Q else tb σ H1 Q
def ZZ3{c:Expr}(hc:PT X c tA)(ha:PE X a ta)(hb:PE X b tb):PE X (.IfExp c a b pos) (tIf tA ta tb):=by
 intro pins s σ H Q I h;show wpAny_IfExp (thn (hc pins s σ H _ I h) λd s1 hz0=>?_);let(H1,I1,q1):=hz0;cases d with
 |true=>show ha pins s1 σ H1 Q I1 q1
 |false=>show hb pins s1 σ H1 Q I1 q1
end
def SqL(K:PySem.W.Q)(H:Hp)(a:Addr)(xs:List V):(Prop):=
 Rd H a (.lst xs)\/
  ∃(o:Obj)(its:Array Value)(n:Nat),K.R a=some o/\o.cls=.type "list"/\o.dict=none/\o.data=.seq its n/\its.l<=sizeLine/\Vals xs its.j
def SqT(K:PySem.W.Q)(H:Hp)(a:Addr)(xs:List V):(Prop):=
 Rd H a (.tup xs)\/
  ∃(o:Obj)(its:Array Value)(n:Nat),K.R a=some o/\o.cls=.type "tuple"/\o.data=.seq its n/\its.l<=sizeLine/\Vals xs its.j
def absV:(Value->Option V)
 | .none=>some .non
 | .bool b=>some (.bl b)
 | .int i _=>some (.int i)
 | .str x _=>some (.str x)
 | .bytes b _=>some (.byt b)
 | .float b _=>some (.flt b)
 | .ref a=>some ↑a
 | .type n=>some (.ty n)
 |_=>none
def RelV.abs(r:RelV x u):absV u=some x:=by
 cases x with
 |non=>cases r;rfl
 |bl _=>cases r;rfl
 |int _=>let(t,rfl):=r;rfl
 |str _=>let(t,rfl):=r;rfl
 |byt _=>let(t,rfl):=r;rfl
 |flt _=>let(t,rfl):=r;rfl
 |ref _=>cases r;rfl
 |ty _=>cases r;rfl
def RelV.inj(r:RelV x u)(q:RelV y u):x=y:=Yl (r.abs.symm.m q.abs)
def Vals.inj{xs ys:List V}{us:List Value}(h:Vals xs us)(h':Vals ys us):xs=ys:=by
 induction h generalizing ys with
 |nil=>cases h';rfl
 |cons r t ih=>cases h' with
  |cons r' t'=>rw[r.inj r',ih t']
section
variable{X:Cx}{pins:List (Addr×Obj)}{σ:St}{H:Hp}{s:Shared}{a:Addr}{xs ys:List V}
def SqL.of{K:PySem.W.Q}(h:H a=some (.lst xs)):SqL K H a xs:=.inl (.inl h)
def SqT.of{K:PySem.W.Q}(h:H a=some (.tup xs)):SqT K H a xs:=.inl (.inl h)
def Inv.list(I:Inv X pins σ H s)(h:SqL X.K H a xs):∃its:List Value,Vals xs its/\PlainL s.o a its.t/\xs.f<=sizeLine:=by
 rcases h with h|⟨o,its,n,hk,hc,hd,hs,hz,r⟩
 ·let(z,its,n,r,e):=h.ok I.hok;exists its,r,{_,n,e,Z,Z,Z},z
 ·exists its.j,r,{o,n,I.kIn a o hk,hc,hd,by simpa using hs},?_;let e:=r.f
  simp only[YD]at e;lia
def Inv.tuple(I:Inv X pins σ H s)(h:SqT X.K H a xs):∃its:List Value,Vals xs its/\IsTup s.o a its.t/\xs.f<=sizeLine:=by
 rcases h with h|⟨o,its,n,hk,hc,hs,hz,r⟩
 ·let(z,its,r,p):=h.ok I.hok;exists its,r,p,z
 ·exists its.j,r,{o,I.kIn a o hk,hc,n,by simpa using hs},?_;let e:=r.f
  simp only[YD]at e;omega
def Inv.list_inj(I:Inv X pins σ H s)(h:SqL X.K H a xs)(h':SqL X.K H a ys):xs=ys:=by
 let(its,r,(o,n,e,_,_,d),_):=I.list h;let(its',r',(o',n',e',_,_,d'),_):=I.list h';rw[e]at e';cases e';rw[d]at d';injection d' with d1 _
 have:its=its':=by simpa using YI Array.toList d1
 subst this;show r.inj r'
def Inv.tuple_inj(I:Inv X pins σ H s)(h:SqT X.K H a xs)(h':SqT X.K H a ys):xs=ys:=by
 let(its,r,(o,e,_,n,d),_):=I.tuple h;let(its',r',(o',e',_,n',d'),_):=I.tuple h';rw[e]at e';cases e';rw[d]at d';injection d' with d1 _
 have:its=its':=by simpa using YI Array.toList d1
 subst this;show r.inj r'
end
abbrev Cx.wish(X:Cx)(E:Value->Shared->Prop):Cx:={X with xe:=E}
abbrev Cx.nox(X:Cx):Cx:=X.wish λ_ _=>False
def Cx.Ok.wish{X:Cx}(ok:X.Ok)(E:Value->Shared->Prop):(X.wish E).Ok:=
 ⟨ok.mod,ok.kind,ok.glob,ok.blt,ok.above,ok.inj,ok.has,ok.cab,ok.hd,ok.frames,ok.stk,ok.exf,ok.bs,ok.bsz,ok.noex,ok.exfs,ok.funs,ok.frf⟩
def Cx.Ok.unwish{X:Cx}{E:Value->Shared->Prop}(ok:(X.wish E).Ok):X.Ok:=
 ⟨ok.mod,ok.kind,ok.glob,ok.blt,ok.above,ok.inj,ok.has,ok.cab,ok.hd,ok.frames,ok.stk,ok.exf,ok.bs,ok.bsz,ok.noex,ok.exfs,ok.funs,ok.frf⟩
section
variable{X:Cx}{pins:List (Addr×Obj)}{σ:St}{H:Hp}{s:Shared}{E:Value->Shared->Prop}
def Inv.wish(I:Inv X pins σ H s)(E:Value->Shared->Prop):Inv (X.wish E) pins σ H s:={I.ok.wish E,I.os,I.bare,I.base,I.loc,I.cell,I.free,I.freeC,I.pin,I.hok,I.len}
def Inv.unwish(I:Inv (X.wish E) pins σ H s):Inv X pins σ H s:=⟨I.ok.unwish,I.os,I.bare,I.base,I.loc,I.cell,I.free,I.freeC,I.pin,I.hok,I.len⟩
def SP.unwish(h:SP (X.wish E) pins XW f s'):SP X pins XW f s':=by
 cases f with
 |next=>let(σ',H',I,q):=h;exists σ',H',I.unwish,q
 |brk=>let(σ',H',I,q):=h;exists σ',H',I.unwish,q
 |cont=>let(σ',H',I,q):=h;exists σ',H',I.unwish,q
 |ret u=>let(v,σ',H',I,r,q):=h;exists v,σ',H',I.unwish,r,q
def PSs.nox{st:List Stmt}{t:TS}(h:PSs X.nox st t):PSs X st t:=λpins s σ H XW I hw=>
 Yy16 (h pins s σ H XW (I.wish _) hw) (λ_ _ q=>q.unwish) λ_ _ z=>False.elim z
end
section
variable{X:Cx}{st:Stmt}{rest:List Stmt}{t u:TS}{e:Expr}{te:TE}{pos:Pos}
def ZO14:(TS):=λXW σ H=>XW.nx σ H
def tSeq(t u:TS):(TS):=λXW σ H=>t {XW with nx:=u XW} σ H
def Zv:PSs X [] ZO14:=λ_ _ σ H _ I h=>Y2B ⟨σ,H,I,h⟩
def Zz2(h1:PS X st t)(h2:PSs X rest u):PSs X (st::rest) (tSeq t u):=by
 intro pins s σ H XW I h;show wpAny_execs_cons (thn (h1 pins s σ H {XW with nx:=u XW} I h) λf s1 q=>?_);cases f with
 |next=>
  let(σ',H',I',q):=q;show h2 pins s1 σ' H' XW I' q
 |ret v=>show q
 |brk=>show q
 |cont=>show q
def Zz7(h1:PS X st t):PSs X [st] t:=by
 intro pins s σ H XW I h;show wpAny_execs_cons (thn (h1 pins s σ H XW I h) λf s1 q=>?_);cases f with
 |next=>show Y2B q
 |ret v=>show q
 |brk=>show q
 |cont=>show q
def Inv.quiet(I:Inv X pins σ H s):interactive X.M=false:=by simp[interactive,I.ok.kind]
def ZQ14(te:TE):(TS):=λXW σ H=>te σ H λ_ H1=>XW.nx σ H1
def ZK(he:PE X e te)(hs:swapsWith e none pos.line X.M=pure false:=by rfl):PS X (.Expr e pos) (ZQ14 te):=by intro pins s σ H XW I h;show wpAny_Expr_any (thn (he pins s σ H _ I h) λv s1 zz=>by let(x,H1,I1,r1,q1):=zz;exists σ,H1,I1,q1) I.quiet hs
def tRet(te:TE):(TS):=λXW σ H=>te σ H XW.rt
def Zq(he:PE X e te):PS X (.Return (some e) pos) (tRet te):=by intro pins s σ H XW I h;show wpAny_Return_some (thn (he pins s σ H _ I h) λv s1 zz=>by let(x,H1,I1,r1,q1):=zz;exists x,σ,H1,I1,r1,q1)
def tIfS(c:TT)(t u:TS):(TS):=λXW σ H=>c σ H λb H1=>if b=true then t XW σ H1 else u XW σ H1
def ZJ1{c:Expr}{a b:List Stmt}{tc:TT}(hc:PT X c tc)(ha:PSs X a t)(hb:PSs X b u):PS X (.If c a b pos) (tIfS tc t u):=by
 intro pins s σ H XW I h;show wpAny_If (thn (hc pins s σ H _ I h) λd s1 hz0=>?_);let(H1,I1,q1):=hz0;cases d with
 |true=>show ha pins s1 σ H1 XW I1 q1
 |false=>show hb pins s1 σ H1 XW I1 q1
def ZB13:(TS):=λ_ _ _=>False
def ZT1:PS X st ZB13:=λ_ _ _ _ _ _ h=>h.elim
end
abbrev TG:=V->St->Hp->(St->Hp->Prop)->Prop
abbrev TGs:=List V->St->Hp->(St->Hp->Prop)->Prop
def PG(X:Cx)(target:Expr)(t:TG):(Prop):=
 ∀(pins:List (Addr×Obj))(s:Shared)(σ:St)(H:Hp)(v:V)(u:Value)(Q:St->Hp->Prop),Inv X pins σ H s->RelV v u->t v σ H Q->
  wpAny (model X.prog X.w) X.A (assign target X.M u) (λ_ s'=>∃σ' H',Inv X pins σ' H' s'/\Q σ' H') X.xe s
def PGs(X:Cx)(ts:List Expr)(t:TGs):(Prop):=
 ∀(pins:List (Addr×Obj))(s:Shared)(σ:St)(H:Hp)(vs:List V)(us:List Value)(Q:St->Hp->Prop),Inv X pins σ H s->Vals vs us->t vs σ H Q->
  wpAny (model X.prog X.w) X.A (assignInOrder ((assignEach ts X.M).L (·.2)) us) (λ_ s'=>∃σ' H',Inv X pins σ' H' s'/\Q σ' H') X.xe s
abbrev TSet:=V->V->V->Hp->(Hp->Prop)->Prop
def PSet(X:Cx)(t:TSet):(Prop):=
 ∀(pins:List (Addr×Obj))(s:Shared)(σ:St)(H:Hp)(o i v:V)(ov iv u:Value)(Q:Hp->Prop),Inv X pins σ H s->RelV o ov->RelV i iv->RelV v u->t o i v H Q->
  wpAny (model X.prog X.w) X.A (setItem ov iv u) (λ_ s'=>∃H',Inv X pins σ H' s'/\Q H') X.xe s
abbrev TIp:=V->V->Hp->VK->Prop
def PIp(X:Cx)(op:Operator)(t:TIp):(Prop):=
 ∀(pins:List (Addr×Obj))(s:Shared)(σ:St)(H:Hp)(x y:V)(v u:Value)(Q:VK),Inv X pins σ H s->RelV x v->RelV y u->t x y H Q->
  wpAny (model X.prog X.w) X.A (inplaceOp op v u) (EP X pins σ Q) X.xe s
section
variable{X:Cx}{pos:Pos}
def Ze8(i:Nat):(TG):=λv σ H Q=>Q (σ.set i<|some v) H
def ZL4{x:Str}(hN:X.N.Nodup)(hi:X.N[i]?=some x)(hx:Loc X.M.scope x)(hf:X.fn x=true\/X.M.scope.names.R x=some .local:=by first|show .inl rfl|show .inr rfl|assumption):PG X (.Name x pos) (Ze8 i):=by intro pins s σ H v u Q I r h;show wpAny_assign_Name (ZR3 I hN hi hx r (λs' I'=>{_,H,I',h}) hf)
def Zc(i:Nat){x:Str}(hN:decide X.N.Nodup=true:=by kernel_rfl)(hi:X.N[i]?=some x:=by rfl)(hx:Loc X.M.scope x:=by show .inl rfl)(hf:X.fn x=true\/X.M.scope.names.R x=some .local:=by first|show .inl rfl|show .inr rfl|assumption):PG X (.Name x pos) (Ze8 i):=ZL4 (YS hN) hi hx hf
inductive gNil(vs:List V)(σ:St)(H:Hp)(Q:St->Hp->Prop):Prop
 |mk  (_:vs=[]) (_:Q σ H)
inductive gCons(t:TG)(u:TGs)(vs:List V)(σ:St)(H:Hp)(Q:St->Hp->Prop):Prop
 |mk (v r:_) (_:vs=v::r) (_:t v σ H λσ' H'=>u r σ' H' Q)
def ZD1:PGs X [] gNil:=by intro pins s σ H vs us Q I r h;let(e,h):=h;subst e;cases r;show assignInOrder_nil ⟨σ,H,I,h⟩
def Zx{e:Expr}{es:List Expr}{t:TG}{u:TGs}(h1:PG X e t)(h2:PGs X es u)
  (hs:(assignEach (e::es) X.M).L (·.2)=assign e X.M::(assignEach es X.M).L (·.2):=by rfl):PGs X (e::es) (gCons t u):=by
 intro pins s σ H vs us Q I r h;let(v,vr,e1,h):=h;subst e1;cases r with
 |cons r rr=>
  rw[hs];show assignInOrder_cons (thn (h1 pins s σ H _ _ _ I r h) λ_ s1 hz0=>?_);let(σ1,H1,I1,q1):=hz0;show h2 pins s1 σ1 H1 _ _ Q I1 rr q1
inductive gTup(K:PySem.W.Q)(n:Nat)(t:TGs)(v:V)(σ:St)(H:Hp)(Q:St->Hp->Prop):Prop
 |mk (a xs:_) (_:v=.ref a) (_:SqT K H a xs) (_:xs.f=n) (_:t xs σ H Q)
def ZV13{k:Nat}(hc:X.calm=true)(h:PGs X es t)
  (hn:(assignEach es X.M).f=n:=by rfl)(hst:(assignEach es X.M).findIdx? (·.1)=none:=by rfl):PG X (.Tuple es k pos) (gTup X.K n t):=by
 intro pins s σ H v u Q I r hw;let(a,xs,e1,hq,hl,hw):=hw;subst e1;cases r;let(its,rv,ht,hz):=I.tuple hq;show assign_Tuple_tuple (I.ok.hd hc) ht (by simp[hn,<-hl,rv.length]) hst λh' hx=>?_;let I1:Inv X pins σ H {s with heap:=h'}:=I.kept (t':=s.toks) λb o e=>hx b o (Yt<|Yg e) e
 show h pins _ σ H xs _ Q I1 (by simpa using rv) hw
def gSub(to ti:TE)(t:TSet):(TG):=λv σ H Q=>to σ H λo H1=>ti σ H1 λi H2=>t o i v H2 λH3=>Q σ H3
def ZQ7{o i:Expr}{to ti:TE}{t:TSet}(ho:PE X o to)(hi:PE X i ti)(hs:PSet X t)
  (ha:∀v,assign (.Subscript o i pos) X.M v=(do
   let ov <-holding [v] (eval o X.M)
   let iv <-holding [v,ov] (eval i X.M)
   standAt pos
   holding [v,ov,iv] (setItem ov iv v)
   release [v,ov,iv] []):=by intro _;rfl):PG X (.Subscript o i pos) (gSub to ti t):=by intro pins s σ H v u Q I r h;rw[ha];show Yy4 (Y1p<|thn (ho pins s σ H _ I h) λov s1 hz0=>?_);let(x,H1,I1,r1,q1):=hz0;show Yy4 (Y1p<|thn (hi pins s1 σ H1 _ I1 q1) λiv s2 hz0=>?_);let(y,H2,I2,r2,q2):=hz0;show Yy4 (wpAny_standAt<|Yy4<|Y1p<|thn (hs pins s2 σ H2 x y v ov iv u _ I2 r1 r2 r q2) λ_ s3 hz0=>?_);let(H3,I3,q3):=hz0;show wpAny_release ⟨σ,H3,I3,q3⟩
def tAsg(te:TE)(g:TG):(TS):=λXW σ H=>te σ H λx H1=>g x σ H1 XW.nx
def ZE5{tg e:Expr}{te:TE}{g:TG}(he:PE X e te)(hg:PG X tg g)(hs:swapsWithSole [tg] e pos.line X.M=pure false:=by rfl)(hw:swappedStores [tg] e X.M=pure none:=by rfl)
  (h1:(assignEach [tg] X.M).L (·.2)=[assign tg X.M]:=by rfl):PS X (.Assign [tg] e pos) (tAsg te g):=by intro pins s σ H XW I h;show wpAny_Assign_stores (thn (he pins s σ H _ I h) λv s1 hz0=>?_) hs hw;let(x,H1,I1,r1,q1):=hz0;rw[h1];show thn (hg pins s1 σ H1 x v _ I1 r1 q1) λ_ s2 q=>q
def ZN2{i:Nat}{x:Str}{e:Expr}{te:TE}{pos':Pos}(hN:X.N.Nodup)(hi:X.N[i]?=some x)(hx:Loc X.M.scope x)(he:PE X e te)(hs:swapsWith e (some (.Name x pos')) pos.line X.M=pure false:=by rfl)(hf:X.fn x=true\/X.M.scope.names.R x=some .local:=by first|show .inl rfl|show .inr rfl|assumption):
  PS X (.Assign [.Name x pos'] e pos) (tAsg te<|Ze8 i):=by intro pins s σ H XW I h;show wpAny_Assign_Name (thn (he pins s σ H _ I h) λv s1 hz0=>?_) hs;let(y,H1,I1,r1,q1):=hz0;show ZR3 I1 hN hi hx r1 (λs2 I2=>{_,H1,I2,q1}) hf
def Zd(i:Nat){x:Str}{e:Expr}{te:TE}{pos':Pos}(he:PE X e te)(hN:decide X.N.Nodup=true:=by kernel_rfl)(hi:X.N[i]?=some x:=by rfl)(hx:Loc X.M.scope x:=by show .inl rfl)(hs:swapsWith e (some<|.Name x pos') pos.line X.M=pure false:=by rfl)(hf:X.fn x=true\/X.M.scope.names.R x=some .local:=by first|show .inl rfl|show .inr rfl|assumption):PS X (.Assign [.Name x pos'] e pos) (tAsg te<|Ze8 i):=ZN2 (YS hN) hi hx he hs hf
def ZS14(to ti te:TE)(tget:V->V->Hp->VK->Prop)(tip:TIp)(tset:TSet):(TS):=λXW σ H=>to σ H λo H1=>ti σ H1 λi H2=>tget o i H2 λx H3=>te σ H3 λy H4=>tip x y H4 λz H5=>tset o i z H5 λH6=>XW.nx σ H6
def PGet(X:Cx)(t:V->V->Hp->VK->Prop):(Prop):=
 ∀(pins:List (Addr×Obj))(s:Shared)(σ:St)(H:Hp)(o i:V)(ov iv:Value)(Q:VK),Inv X pins σ H s->RelV o ov->RelV i iv->t o i H Q->
  wpAny (model X.prog X.w) X.A (getItem ov iv) (EP X pins σ Q) X.xe s
def ZI4{o i e:Expr}{to ti te:TE}{tget:V->V->Hp->VK->Prop}{tip:TIp}{tset:TSet}{op:Operator}{tpos:Pos}(ho:PE X o to)(hi:PE X i ti)(hg:PGet X tget)(he:PE X e te)(hp:PIp X op tip)(hs:PSet X tset)
  (ha:∀ov iv new,augStore i ov iv new=(do holding [new,ov,iv] (setItem ov iv new);release [new,ov,iv] [];pure .next):=by intros;rfl):PS X (.AugAssign (.Subscript o i tpos) op e pos) (ZS14 to ti te tget tip tset):=by intro pins s σ H XW I h;show wpAny_AugAssign_SubscriptAny (thn (ho pins s σ H _ I h) λov s1 hz0=>?_) ha;let(x1,H1,I1,r1,q1):=hz0;show thn (hi pins s1 σ H1 _ I1 q1) λiv s2 hz0=>?_;let(x2,H2,I2,r2,q2):=hz0;show thn (hg pins s2 σ H2 x1 x2 ov iv _ I2 r1 r2 q2) λold s3 hz0=>?_;let(x3,H3,I3,r3,q3):=hz0;show thn (he pins s3 σ H3 _ I3 q3) λv s4 hz0=>?_;let(x4,H4,I4,r4,q4):=hz0;show thn (hp pins s4 σ H4 x3 x4 old v _ I4 r3 r4 q4) λnew s5 hz0=>?_;let(x5,H5,I5,r5,q5):=hz0;show thn (hs pins s5 σ H5 x1 x2 x5 ov iv new _ I5 r1 r2 r5 q5) λ_ s6 zz=>by let(H6,I6,q6):=zz;exists σ,H6,I6,q6
def ipI(f:Int->Int->Int):(TIp):=λx y H Q=>∃i j,x=.int i/\y=.int j/\Q (.int<|f i j) H
def ZF12:PIp X .Add (ipI λi j=>i+j):=by intro pins s σ H x y v u Q I r1 r2 h;let(i,j,e1,e2,q):=h;subst e1;subst e2;let(t,rfl):=r1;let(t',rfl):=r2;show iadd_int {.int _,H,I.tok _,{_,Z},q}
def ZE12:PIp X .Sub (ipI λi j=>i-j):=by intro pins s σ H x y v u Q I r1 r2 h;let(i,j,e1,e2,q):=h;subst e1;subst e2;let(t,rfl):=r1;let(t',rfl):=r2;show isub_int {.int _,H,I.tok _,{_,Z},q}
def Yz13(c:TT)(tb:TS):(TS):=λXW σ H=>∃W:Nat->St->Hp->Prop,(∃m,W m σ H)/\∀m σ H,W m σ H->
 c σ H λb H1=>if b=true then ∃N:St->Hp->Prop,(∀σ' H',N σ' H'->∃m',m'<m/\W m' σ' H')/\tb {XW with nx:=N,ct:=N,bk:=XW.nx} σ H1 else XW.nx σ H1
def ZV3{c:Expr}{body:List Stmt}{tc:TT}{tb:TS}(hp:PassesOwn (model X.prog X.w) X.A X.M X.xe)(hc:PT X c tc)(hb:PSs X body tb):PS X (.While c body [] pos) (Yz13 tc tb):=by
 intro pins s σ H XW I h;let(W,(m0,w0),turn):=h;show wpAny_While (codeAny_whileLoop (λn s'=>∃σ' H',Inv X pins σ' H' s'/\W n σ' H') ?_ m0 ⟨σ,H,I,w0⟩);rintro n s1 ⟨σ1,H1,I1,w1⟩;show Y1A hp (thn (hc pins s1 σ1 H1 _ I1<|turn n σ1 H1 w1) λb s2 hz0=>?_);let(H2,I2,q2):=hz0;cases b with
 |true=>
  let(N,hN,q2):=q2;rw[if_pos Z];show Y1A hp (thn (hb pins s2 σ1 H2 _ I2 q2) λf s3 q3=>?_);cases f with
  |next=>
   let(σ3,H3,I3,n3):=q3;let(m',hm,w3):=hN σ3 H3 n3;exists m',hm,σ3,H3,I3,w3
  |cont=>
   let(σ3,H3,I3,n3):=q3;let(m',hm,w3):=hN σ3 H3 n3;exists m',hm,σ3,H3,I3,w3
  |brk=>show q3
  |ret v=>show q3
 |false=>
  rw[if_neg Ys];show Y2B ⟨σ1,H2,I2,q2⟩
end
structure It where
 go:Nat->Hp->Prop
 yld:Nat->Hp->V->Hp->Prop
 stop:Nat->Hp->Prop
def FpOk(X:Cx)(pins:List (Addr×Obj))(H:Hp)(b:Addr):(Prop):=
 H b=none/\b≠X.M.locals/\b∉X.fs/\(b∈X.ex\/(~~~X.s₀)<=b)/\(∀x c,X.M.cells.R x=some c->c≠b)/\∀p∈X.pn++pins,p.1≠b
def Inv.fpOk{b:Addr}(I:Inv X pins σ H s)(hb:(~~~s)<=b)(hn:H' b=none):FpOk X pins H' b:=by
 exists hn,Y2s<|Yr I.lt hb,I.nofs hb,.inr<|Yv I.sz hb,λx c e z=>?_,λp hp z=>?_
 ·let(v,q):=I.cell x c e;show absurd (Yr q.lt<|by rwa[z]) (Y1h _)
 ·show absurd (Yr (Yg (I.pin p hp).1)<|by rwa[z]) (Y1h _)
structure Turn(P:Program)(w:World)(K:PySem.W.Q)(tg:Expr)(XY:It)(fp:List Addr)(it:Addr)(tn:Nat->Heap->Prop):Prop where
 mem:it∈fp
 obj:∀i h,tn i h->∀b∈fp,∃o,h.E b=some o/\∀v,o.data≠.cell v
 keep:∀i h h',tn i h->(∀b∈fp,∀o,h.E b=some o->h'.E b=some o)->tn i h'
 item:∀(X:Cx),X.prog=P->X.w=w->X.K=K->X.calm=true->∀(i:Nat)(pins:List (Addr×Obj))(s:Shared)(σ:St)(H:Hp)(E:Value->Shared->Prop),Inv X pins σ H s->(∀b∈fp,FpOk X pins H b)->tn i s.o->XY.go i H->
  wpAny (model P w) X.A (pyNext<|.ref it) (λr s1=>∃u,r=some u/\
   wpAny (model P w) X.A (letOwnedTupleGo tg ↑it u) (λ_ s2=>∃x H',Inv X pins σ H' s2/\RelV x u/\XY.yld i H x H'/\tn (i+1) s2.o/\∀b∈fp,H' b=none) E s1) E s
 done:∀(X:Cx),X.prog=P->X.w=w->X.K=K->X.calm=true->∀(i:Nat)(pins:List (Addr×Obj))(s:Shared)(σ:St)(H:Hp)(E:Value->Shared->Prop),Inv X pins σ H s->(∀b∈fp,FpOk X pins H b)->tn i s.o->XY.stop i H->
  wpAny (model P w) X.A (pyNext<|.ref it) (λr s1=>r=none/\Inv X pins σ H s1) E s
 self:∀(A:Around)(i:Nat)(s:Shared)(Q:Value->Shared->Prop)(E:Value->Shared->Prop),tn i s.o->Q ↑it s->wpAny (model P w) A (pyIter<|.ref it) Q E s
abbrev TI:=St->Hp->(It->Hp->Prop)->Prop
def PIE(X:Cx)(pins:List (Addr×Obj))(σ:St)(tg:Expr)(R:It->Hp->Prop)(itv:Value)(s2:Shared):(Prop):=
 ∃(it:Addr)(fp:List Addr)(tn:Nat->Heap->Prop)(XY:It)(H':Hp),itv=.ref it/\Inv X pins σ H' s2/\Turn X.prog X.w X.K tg XY fp it tn/\tn 0 s2.o/\(∀b∈fp,FpOk X pins H' b)/\R XY H'
def PI(X:Cx)(tg iter:Expr)(wi:TI):(Prop):=
 ∀(pins:List (Addr×Obj))(s:Shared)(σ:St)(H:Hp)(R:It->Hp->Prop),Inv X pins σ H s->wi σ H R->
  wpAny (model X.prog X.w) X.A (eval iter X.M) (λv s1=>wpAny (model X.prog X.w) X.A (pyIter v) (PIE X pins σ tg R) X.xe s1) X.xe s
def Zm14{E:Value->Shared->Prop}{s:Shared}{it:Addr}{o:Obj}{n:String}{vs:Array Value}{Q:Unit->Shared->Prop}(ho:s.o.E it=some o)(hc:o.cls=.type n)(hd:o.data=.fields vs)
  (hn:["enumerate","zip","dict_itemiterator","dict_reverseitemiterator","odict_iterator","itertools.zip_longest","itertools.pairwise"].contains n=false)(hQ:Q () s):wpAny M A (letOwnedTupleGo tg ↑it u) Q E s:=by
 unfold letOwnedTupleGo;cases tg<;>first
  |show Yi hQ
  | (cases u<;>first
    |show Yi hQ
    | (show Yy4 (wpAny_load ho ?_)
       rw[hc,hd];change wpAny M A (if (["enumerate","zip","dict_itemiterator","dict_reverseitemiterator","odict_iterator","itertools.zip_longest","itertools.pairwise"].contains n&&vs[0]? == some (rawInt _))=true then _ else _) Q E s
       rw[if_neg (by intro h;rw[hn,Bool.false_and]at h;cases h)];show Yi hQ))
def Itl(K:PySem.W.Q)(a:Addr):(It):=
 {λi H=>∃xs x,SqL K H a xs/\xs[i]?=some x,λi H x H'=>H'=H/\∀xs,SqL K H a xs->xs[i]?=some x,λi H=>∃xs,SqL K H a xs/\xs.f<=i}
def Itt(K:PySem.W.Q)(a:Addr):(It):=
 {λi H=>∃xs x,SqT K H a xs/\xs[i]?=some x,λi H x H'=>H'=H/\∀xs,SqT K H a xs->xs[i]?=some x,λi H=>∃xs,SqT K H a xs/\xs.f<=i}
def Itr(lo:Int)(n:Nat):(It):={λi _=>i<n,λi H x H'=>H'=H/\x=.int (lo+i),λi _=>n<=i}
def Zv4{P:Program}{w:World}{K:PySem.W.Q}{tg:Expr}(a it:Addr):Turn P w K tg (Itl K a) [it] it (λi h=>h.IsListIter it a i) where
 mem:=D
 obj:=λi h st b hb=>by
  let e:b=it:=by simpa using hb
  subst e;let(o,e,c,d):=st;exists o,e,λv z=>by rw[d]at z;cases z
 keep:=λi h h' st k=>st.at λo e=>k it D o e
 item:=by
  intro X hP hw hK hc i pins s σ H E I hf st hg;subst hP hw hK;let(xs,x,hq,hx):=hg;let(its,rv,p,hz):=I.list hq;let(u,hu,ru):=rv.get hx;let(f0,f1,f2,f3,f4,f5):=hf it D;show wpAny_pyNext_list_item st p.isList (x:=u) (by simpa using hu) λh' st' sb=>?_;let I1:Inv X pins σ H {s with heap:=h'}:=I.turned (t':=s.toks) (λb o hb e=>(sb.2 b hb).m e) f0 f1 f3 f4 f5
  let(o,e,c,d):=id st';exists u,Z,Zm14 (s:={s with heap:=h'}) e c d XU {x,H,I1,ru,{Z,λys hy=>by rwa[I.list_inj hy hq]},st',λb hb=>(hf b hb).1}
 done:=by
  intro X hP hw hK hc i pins s σ H E I hf st hg;subst hP hw hK;let(xs,hq,hx):=hg;let(its,rv,p,hz):=I.list hq;let(f0,f1,f2,f3,f4,f5):=hf it D;let hl:=rv.f
  show wpAny_pyNext_list_end (I.ok.hd hc) st p.isList (by simp;lia) λh' eb=>{Z,I.turned (t':=s.toks) (λb o hb e=>eb b o hb e) f0 f1 f3 f4 f5}
 self:=λ_ _ _ _ _ st h=>wpAny_pyIter_listiter st h
def Zh3{P:Program}{w:World}{K:PySem.W.Q}{tg:Expr}(a it:Addr):Turn P w K tg (Itt K a) [it] it (λi h=>h.IsTupleIter it a i) where
 mem:=D
 obj:=λi h st b hb=>by
  let e:b=it:=by simpa using hb
  subst e;let(o,e,c,d):=st;exists o,e,λv z=>by rw[d]at z;cases z
 keep:=λi h h' st k=>st.at λo e=>k it D o e
 item:=by
  intro X hP hw hK hc i pins s σ H E I hf st hg;subst hP hw hK;let(xs,x,hq,hx):=hg;let(its,rv,p,hz):=I.tuple hq;let(u,hu,ru):=rv.get hx;let(f0,f1,f2,f3,f4,f5):=hf it D;show wpAny_pyNext_tuple_item st (show s.o.IsTuple a its.t from p) (x:=u) (by simpa using hu) λh' st' sb=>?_;let I1:Inv X pins σ H {s with heap:=h'}:=I.turned (t':=s.toks) (λb o hb e=>(sb.2 b hb).m e) f0 f1 f3 f4 f5
  let(o,e,c,d):=id st';exists u,Z,Zm14 (s:={s with heap:=h'}) e c d XU {x,H,I1,ru,{Z,λys hy=>by rwa[I.tuple_inj hy hq]},st',λb hb=>(hf b hb).1}
 done:=by
  intro X hP hw hK hc i pins s σ H E I hf st hg;subst hP hw hK;let(xs,hq,hx):=hg;let(its,rv,p,hz):=I.tuple hq;let(f0,f1,f2,f3,f4,f5):=hf it D;let hl:=rv.f
  show wpAny_pyNext_tuple_end (I.ok.hd hc) st (show s.o.IsTuple a its.t from p) (by simp;omega) λh' eb=>{Z,I.turned (t':=s.toks) (λb o hb e=>eb b o hb e) f0 f1 f3 f4 f5}
 self:=λ_ _ _ _ _ st h=>wpAny_pyIter_tupleiter st h
def ZX5{P:Program}{w:World}{K:PySem.W.Q}{tg:Expr}(it:Addr)(lo:Int)(n:Nat):Turn P w K tg (Itr lo n) [it] it (λi h=>IsRangeIter h it (lo+(i:Nat)*1) ((n:Int)-(i:Nat)) 1) where
 mem:=D
 obj:=λi h st b hb=>by
  let e:b=it:=by simpa using hb
  subst e;exists _,st,λv z=>by let z':Data.fields _=Data.cell v:=z;cases z'
 keep:=λi h h' st k=>k it D _ st
 item:=by
  intro X hP hw hK hc i pins s σ H E I hf st hg;subst hP hw hK;let(f0,f1,f2,f3,f4,f5):=hf it D;let W:=Walks.range (prog:=X.prog) (w:=X.w) (I.ok.hd hc) it lo 1 n
  show W.item i s _ _ hg st λv h' tk hv st' kk=>?_;let(t,rfl):=hv;let I1:Inv X pins σ H {s with heap:=h',toks:=tk}:=I.turned (λb o hb e=>kk b o (by simpa using hb) e) f0 f1 f3 f4 f5
  exists _,Z,Zm14 (s:={s with heap:=h',toks:=tk}) (n:="range_iterator") st' Z Z XU {.int<|lo+i,H,I1,{t,?_},⟨Z,Z⟩,st',λb hb=>(hf b hb).1};rw[Y1N]
 done:=by intro X hP hw hK hc i pins s σ H E I hf st hg;subst hP hw hK;let(f0,f1,f2,f3,f4,f5):=hf it D;show wpAny_pyNext_range_end (I.ok.hd hc) st (by have:n<=i:=hg;lia) λh' eb=>{Z,I.turned (t':=s.toks) (λb o hb e=>eb b o hb e) f0 f1 f3 f4 f5}
 self:=λ_ _ _ _ _ st h=>wpAny_pyIter_rangeiter st h
section
variable{X:Cx}{tg:Expr}
inductive xList(K:PySem.W.Q)(x:V)(H1:Hp)(R:It->Hp->Prop):Prop
 |mk (a:_) (_:x=.ref a) (_:∃xs,SqL K H1 a xs) (_:R (Itl K a) H1)
def ZF14(K:PySem.W.Q)(tl:TE):(TI):=λσ H R=>tl σ H λx H1=>xList K x H1 R
inductive xTpl(K:PySem.W.Q)(x:V)(H1:Hp)(R:It->Hp->Prop):Prop
 |mk (a:_) (_:x=.ref a) (_:∃xs,SqT K H1 a xs) (_:R (Itt K a) H1)
def iTup(K:PySem.W.Q)(tl:TE):(TI):=λσ H R=>tl σ H λx H1=>xTpl K x H1 R
def Zz812{l:Expr}{tl:TE}(hl:PE X l tl):PI X tg l (ZF14 X.K tl):=by
 intro pins s σ H R I h;show thn (hl pins s σ H _ I h) λv s1 hz0=>?_;let(x,H1,I1,r1,q1):=hz0;let(a,e,(xs,hq),q):=q1;subst e;cases r1;let(its,rv,p,hz):=I1.list hq;show Y3P p.isList ?_;exists (~~~s1),[(~~~s1)],_,_,H1,Z,I1.kept (t':=s1.toks) λb o e=>Yy6 _ e,Zv4 a _,{_,Yo _ Z,Z,Z},λb hb=>?_,q;let e:b=(~~~s1):=by simpa using hb
 subst e;show I1.fpOk (Yy8 _) (I1.hok.fresh<|Yy8 _)
def ZU13{l:Expr}{tl:TE}(hl:PE X l tl):PI X tg l (iTup X.K tl):=by
 intro pins s σ H R I h;show thn (hl pins s σ H _ I h) λv s1 hz0=>?_;let(x,H1,I1,r1,q1):=hz0;let(a,e,(xs,hq),q):=q1;subst e;cases r1;let(its,rv,p,hz):=I1.tuple hq;show Y1Z (show s1.o.IsTuple a its.t from p) ?_;exists (~~~s1),[(~~~s1)],_,_,H1,Z,I1.kept (t':=s1.toks) λb o e=>Yy6 _ e,Zh3 a _,{_,Yo _ Z,Z,Z},λb hb=>?_,q;let e:b=(~~~s1):=by simpa using hb
 subst e;show I1.fpOk (Yy8 _) (I1.hok.fresh<|Yy8 _)
def Ze6{R:It->Hp->Prop}{E:Value->Shared->Prop}{lo hi:Int}{t u v:Tok}{tk:Nat}(I:Inv X pins σ H s)(h1:-(2^62)<=lo)(h2:lo<2^62)(h3:-(2^62)<=hi)(h4:hi<2^62)
  (q:R (Itr lo (hi-lo).i) H):wpAny (model X.prog X.w) X.A (pyIter<|.ref (~~~s)) (PIE X pins σ tg R) E {s with heap:=s.o.push {cls:=.type "range",data:=.fields #[.int lo t,.int hi u,.int 1 v]},toks:=tk}:=by
 show wpAny_pyIter_range (IsRange.new ..) (small_one h1 h2 h3 h4) ?_;let I1:Inv X pins σ H {s with heap:=s.o.push {cls:=.type "range",data:=.fields #[.int lo t,.int hi u,.int 1 v]},toks:=tk}:=I.kept λb o e=>Yy6 _ e
 show⟨(s.o.push {cls:=.type "range",data:=.fields #[.int lo t,.int hi u,.int 1 v]}).objs.l,[(s.o.push {cls:=.type "range",data:=.fields #[.int lo t,.int hi u,.int 1 v]}).objs.l],_,_,H,Z,
  I1.kept (t':=tk) λb o e=>Yy6 _ e,ZX5 _ lo (hi-lo).i,?_,λb hb=>?_,q⟩
 ·have e1:lo+((0:Nat):Int)*1=lo:=D;let e2:(((hi-lo).i:Nat):Int)-((0:Nat):Int)=Builtin.Range.rangeSize lo hi 1:=by rw[rangeSize_one];split<;>grind
  change IsRangeIter _ _ (lo+((0:Nat):Int)*1) ((((hi-lo).i:Nat):Int)-((0:Nat):Int)) 1;rw[e1,e2];show Yo _ rfl
 ·have e:b=(s.o.push {cls:=.type "range",data:=.fields #[.int lo t,.int hi u,.int 1 v]}).objs.l:=by simpa using hb
  subst e;show I1.fpOk (Yy8 _) (I1.hok.fresh<|Yy8 _)
inductive xRng(vs:List V)(H1:Hp)(R:It->Hp->Prop):Prop
 |mk (j:Int) (_:vs=[.int j]) (_:-(2^62)<=j) (_:j<2^62) (_:R (Itr 0 j.i) H1)
def Za15(ta:TA):(TI):=λσ H R=>ta σ H λvs H1=>xRng vs H1 R
def Zz915(ta:TA):(TI):=λσ H R=>ta σ H λvs H1=>∃i j:Int,vs=[.int i,.int j]/\(-(2^62)<=i/\i<2^62/\-(2^62)<=j/\j<2^62)/\R (Itr i (j-i).i) H1
def ZR{a:Expr}{ta:TA}{p pos:Pos}(hg:Gl X "range")(hm:X.mg "range"=none)(ha:PA X [a] ta)(hs:starEach [a] X.M=[(false,eval a X.M)]:=by rfl):PI X tg (.Call (.Name "range" p) [a] [] pos) (Za15 ta):=by
 intro pins s σ H R I h;show Call_ (Zz82 I hg hm boot_range<|Y0b (thn (ha pos pins s σ H _ I h) λus s1 hz0=>?_) hs Z);let(vs,H1,I1,r1,q1):=hz0;let(j,e,q1,q2,q):=q1;subst e;cases r1 with
 |cons r rr=>
  cases rr;let(t,rfl):=r;show call_range_1 (Ze6 I1 J B q1 q2<|by simpa using q)
def ZK4{a b:Expr}{ta:TA}{p pos:Pos}(hg:Gl X "range")(hm:X.mg "range"=none)(ha:PA X [a,b] ta)(hs:starEach [a,b] X.M=[(false,eval a X.M),(false,eval b X.M)]:=by rfl)(hs2:starEach [b] X.M=[(false,eval b X.M)]:=by rfl):
  PI X tg (.Call (.Name "range" p) [a,b] [] pos) (Zz915 ta):=by
 intro pins s σ H R I h;show Call_ (Zz82 I hg hm boot_range<|Y0b (thn (ha pos pins s σ H _ I h) λus s1 zz=>?_) (by rw[hs,hs2])<|by rw[hs2];rfl);let(vs,H1,I1,r1,q1):=zz;let(i,j,e,(q1,q2,q3,q4),q):=q1;subst e;cases r1 with
 |cons r rr=>
  cases rr with
  |cons r' rr=>
   cases rr;let(t,rfl):=r;let(t',rfl):=r';show call_range_2 (Ze6 I1 q1 q2 q3 q4 q)
def tFor(wi:TI)(g:TG)(tb:TS):(TS):=λXW σ H=>wi σ H λXY H1=>∃W:Nat->Nat->St->Hp->Prop,(∃m,W 0 m σ H1)/\∀i m σ H,W i m σ H->
 (XY.stop i H/\XW.nx σ H)\/(XY.go i H/\∃N:St->Hp->Prop,(∀σ' H',N σ' H'->∃m',m'<m/\W (i+1) m' σ' H')/\∀x H',XY.yld i H x H'->g x σ H' λσ2 H2=>tb {XW with nx:=N,ct:=N,bk:=XW.nx} σ2 H2)
def ZQ2(fp:List Addr)(h:Heap):(List (Addr×Obj)):=fp.filterMap λb=>(h.E b).L λo=>(b,o)
def ZN1{b:Addr}{o:Obj}(hb:b∈fp)(e:h.E b=some o):(b,o)∈ZQ2 fp h:=Y2m.X {b,hb,by rw[e];rfl}
def ZN4{p:Addr×Obj}(hp:p∈ZQ2 fp h):p.1∈fp/\h.E p.1=some p.2:=by
 let(b,hb,e):=Y2m.S hp;cases q:h.E b with
 |none=>rw[q]at e;cases e
 |some o=>
  rw[q]at e;let e':(b,o)=p:=Yl e
  subst e';exists hb,q
def Inv.pinned(I:Inv X pins σ H s)(hf:∀b∈fp,FpOk X pins H b)(ho:∀b∈fp,∃o,s.o.E b=some o/\∀v,o.data≠.cell v):Inv X (pins++ZQ2 fp s.o) σ H s:=
 I.pins_of λp hp=>(Yb.S hp).elim (λz=>I.pin p<|Yy _ z) λz=>by let(hb,e):=ZN4 z;let(f0,f1,f2,_):=hf p.1 hb;let(o,e',d):=ho p.1 hb;rw[e]at e';cases e';exists e,f0,f1,f2,d
def Inv.unpinned{pins pl:List (Addr×Obj)}(I:Inv X (pins++pl) σ H s):Inv X pins σ H s:=I.pins_of λp hp=>I.pin p (Yy _<|YA _ hp)
def Zz31{iter:Expr}{body:List Stmt}{wi:TI}{g:TG}{tb:TS}{pos:Pos}(hp:PassesOwn (model X.prog X.w) X.A X.M X.xe)(hc:X.calm=true)(hi:PI X tg iter wi)(hg:PG X tg g)(hb:PSs X body tb)
  (hs:∀x,foldedSetIterable iter X.M x=pure x:=by intro _;rfl):PS X (.For tg iter body [] pos) (tFor wi g tb):=by
 intro pins s σ H XW I h;show wpAny_For (thn (hi pins s σ H _ I h) λv s1 h1=>thn h1 λitv s2 h2=>?_) hs;let(it,fp,tn,XY,H2,e,I2,T,st2,f2,W,(m0,w0),turn):=h2;subst e;let stat:∀{H':Hp},(∀b∈fp,H' b=none)->∀b∈fp,FpOk X pins H' b:=λhn b hb=>{hn b hb,(f2 b hb).2}
 show codeAny_forLoop_any (λn s'=>∃i σ' H',Inv X pins σ' H' s'/\tn i s'.o/\(∀b∈fp,H' b=none)/\W i n σ' H') ?_ m0 {0,σ,H2,I2,st2,λb hb=>(f2 b hb).1,w0};rintro n s3 ⟨i,σ3,H3,I3,st3,fr3,w3⟩;rcases turn i n σ3 H3 w3 with ⟨stop,qn⟩|⟨go,N,hN,step⟩
 ·show Y1A hp (thn (T.done X Z Z Z hc i pins s3 σ3 H3 X.xe I3 (stat fr3) st3 stop) λr s4 zz=>?_);let(hr,I4):=zz;subst hr;show Y2B ⟨σ3,H3,I4,qn⟩
 ·show Y1A hp (thn (T.item X Z Z Z hc i pins s3 σ3 H3 X.xe I3 (stat fr3) st3 go) λr s4 hz0=>?_);let(u,hr,h4):=hz0;subst hr;show Y1A hp (thn h4 λ_ s5 hz0=>?_);let(x,H5,I5,r5,y5,st5,fr5):=hz0;let I5':=I5.pinned (stat fr5) (T.obj _ _ st5)
  show Y1A hp (thn (hg _ s5 σ3 H5 x u _ I5' r5<|step x H5 y5) λ_ s6 hz0=>?_);let(σ6,H6,I6,q6):=hz0;show Y1A hp (thn (hb _ s6 σ6 H6 _ I6 q6) λf s7 q7=>?_);let again:∀{σ7:St}{H7:Hp},Inv X (pins++ZQ2 fp s5.o) σ7 H7 s7->N σ7 H7->∃m,m<n/\∃i σ' H',Inv X pins σ' H' s7/\tn i s7.o/\(∀b∈fp,H' b=none)/\W i m σ' H':=λ{σ7 H7} I7 n7=>by let(m',hm,w7):=hN σ7 H7 n7;exists m',hm,i+1,σ7,H7,I7.unpinned,T.keep _ _ _ st5 λb hb o e=>(I7.pin (b,o)<|Yy _<|Yy _<|ZN1 hb e).1,λb hb=>?_,w7;let(o,e,d):=T.obj _ _ st5 b hb;show(I7.pin (b,o)<|Yy _<|Yy _<|ZN1 hb e).2.1
  cases f with
  |next=>let(σ7,H7,I7,n7):=q7;show again I7 n7
  |cont=>let(σ7,H7,I7,n7):=q7;show again I7 n7
  |brk=>let(σ7,H7,I7,q7):=q7;exists σ7,H7,I7.unpinned,q7
  |ret v=>let(x7,σ7,H7,I7,r7,q7):=q7;exists x7,σ7,H7,I7.unpinned,r7,q7
end
def Zv2{K:PySem.W.Q}{a:Addr}{xs:List V}{g:TG}{tb:TS}{XW:Ends}{σ:St}{H:Hp}(Pv:Nat->St->Hp->Prop)(h0:Pv 0 σ H)(hl:∀i σ H,i<=xs.f->Pv i σ H->SqL K H a xs)
  (hs:∀i x σ H,xs[i]?=some x->Pv i σ H->g x σ H λσ2 H2=>tb {XW with nx:=Pv<|i+1,ct:=Pv<|i+1,bk:=XW.nx} σ2 H2)(hd:∀σ H,Pv xs.f σ H->XW.nx σ H):
  ∃W:Nat->Nat->St->Hp->Prop,(∃m,W 0 m σ H)/\∀i m σ H,W i m σ H->
   ((Itl K a).stop i H/\XW.nx σ H)\/((Itl K a).go i H/\∃N:St->Hp->Prop,(∀σ' H',N σ' H'->∃m',m'<m/\W (i+1) m' σ' H')/\∀x H',(Itl K a).yld i H x H'->g x σ H' λσ2 H2=>tb {XW with nx:=N,ct:=N,bk:=XW.nx} σ2 H2):=by
 exists λi m σ H=>m=xs.f-i/\i<=xs.f/\Pv i σ H,{xs.f,D,Yk _,h0},?_;rintro i m σ H ⟨rfl,hi,p⟩;let q:=hl i σ H hi p
 cases hlt:i<xs.f
 ·show .inr {{xs,xs[i],q,by simp[hlt]},Pv<|i+1,λσ' H' p'=>{xs.f-(i+1),B,Z,hlt,p'},λx H' y=>?_};let(e,y):=y;subst e;show hs i x σ _ (y xs q) p
 ·have e:i=xs.f:=J;subst e;show .inl {{xs,q,Yy8 _},hd σ H p}
def Zh9{K:PySem.W.Q}{a:Addr}{xs:List V}{g:TG}{tb:TS}{XW:Ends}{σ:St}{H:Hp}(Pv:Nat->St->Hp->Prop)(h0:Pv 0 σ H)(hl:∀i σ H,i<=xs.f->Pv i σ H->SqT K H a xs)
  (hs:∀i x σ H,xs[i]?=some x->Pv i σ H->g x σ H λσ2 H2=>tb {XW with nx:=Pv<|i+1,ct:=Pv<|i+1,bk:=XW.nx} σ2 H2)(hd:∀σ H,Pv xs.f σ H->XW.nx σ H):
  ∃W:Nat->Nat->St->Hp->Prop,(∃m,W 0 m σ H)/\∀i m σ H,W i m σ H->
   ((Itt K a).stop i H/\XW.nx σ H)\/((Itt K a).go i H/\∃N:St->Hp->Prop,(∀σ' H',N σ' H'->∃m',m'<m/\W (i+1) m' σ' H')/\∀x H',(Itt K a).yld i H x H'->g x σ H' λσ2 H2=>tb {XW with nx:=N,ct:=N,bk:=XW.nx} σ2 H2):=by
 exists λi m σ H=>m=xs.f-i/\i<=xs.f/\Pv i σ H,{xs.f,D,Yk _,h0},?_;rintro i m σ H ⟨rfl,hi,p⟩;let q:=hl i σ H hi p
 cases hlt:i<xs.f
 ·show .inr {{xs,xs[i],q,by simp[hlt]},Pv<|i+1,λσ' H' p'=>{xs.f-(i+1),B,Z,hlt,p'},λx H' y=>?_};let(e,y):=y;subst e;show hs i x σ _ (y xs q) p
 ·have e:i=xs.f:=B;subst e;show .inl {{xs,q,Yy8 _},hd σ H p}
def Zz11{lo:Int}{n:Nat}{g:TG}{tb:TS}{XW:Ends}{σ:St}{H:Hp}(Pv:Nat->St->Hp->Prop)(h0:Pv 0 σ H)
  (hs:∀i σ H,i<n->Pv i σ H->g (.int<|lo+i) σ H λσ2 H2=>tb {XW with nx:=Pv<|i+1,ct:=Pv<|i+1,bk:=XW.nx} σ2 H2)(hd:∀σ H,Pv n σ H->XW.nx σ H):
  ∃W:Nat->Nat->St->Hp->Prop,(∃m,W 0 m σ H)/\∀i m σ H,W i m σ H->
   ((Itr lo n).stop i H/\XW.nx σ H)\/((Itr lo n).go i H/\∃N:St->Hp->Prop,(∀σ' H',N σ' H'->∃m',m'<m/\W (i+1) m' σ' H')/\∀x H',(Itr lo n).yld i H x H'->g x σ H' λσ2 H2=>tb {XW with nx:=N,ct:=N,bk:=XW.nx} σ2 H2):=by
 exists λi m σ H=>m=n-i/\i<=n/\Pv i σ H,{n,D,Yk _,h0},?_;rintro i m σ H ⟨rfl,hi,p⟩;cases hlt:i<n
 ·show .inr {hlt,Pv<|i+1,λσ' H' p'=>{n-(i+1),B,Z,hlt,p'},λx H' y=>?_};let(e,y):=y;subst e y;show hs i σ _ hlt p
 ·have e:i=n:=J;subst e;show .inl {Yy8 _,hd σ H p}
abbrev R2:=V->V->Hp->VK->Prop
def OpR(X:Cx)(f:Value->Value->Sem Value)(r:R2):(Prop):=
 ∀(pins:List (Addr×Obj))(s:Shared)(σ:St)(H:Hp)(x y:V)(v u:Value)(Q:VK),Inv X pins σ H s->RelV x v->RelV y u->r x y H Q->
  wpAny (model X.prog X.w) X.A (f v u) (EP X pins σ Q) X.xe s
def UnR(X:Cx)(f:Value->Sem Value)(r:V->Hp->VK->Prop):(Prop):=
 ∀(pins:List (Addr×Obj))(s:Shared)(σ:St)(H:Hp)(x:V)(v:Value)(Q:VK),Inv X pins σ H s->RelV x v->r x H Q->
  wpAny (model X.prog X.w) X.A (f v) (EP X pins σ Q) X.xe s
def Zz02(X:Cx)(f:Value)(r:List V->Hp->VK->Prop):(Prop):=
 ∀(pins:List (Addr×Obj))(s:Shared)(σ:St)(H:Hp)(xs:List V)(us:List Value)(Q:VK),Inv X pins σ H s->Vals xs us->r xs H Q->
  wpAny (model X.prog X.w) X.A (call f us) (EP X pins σ Q) X.xe s
def tOp(r:R2)(ta tb:TE):(TE):=λσ H Q=>ta σ H λx H1=>tb σ H1 λy H2=>r x y H2 Q
def tUn(r:V->Hp->VK->Prop)(ta:TE):(TE):=λσ H Q=>ta σ H λx H1=>r x H1 Q
inductive rI(C:Int->Int->Prop)(g:Int->Int->V)(x:V)(y:V)(H:Hp)(Q:VK):Prop
 |mk (i j:_) (_:x=.int i) (_:y=.int j) (_:C i j) (_:Q (g i j) H)
inductive rI0(g:Int->Int->V)(x:V)(y:V)(H:Hp)(Q:VK):Prop
 |mk (i j:_) (_:x=.int i) (_:y=.int j) (_:Q (g i j) H)
inductive rU(g:Int->V)(x:V)(H:Hp)(Q:VK):Prop
 |mk (i:_) (_:x=.int i) (_:Q (g i) H)
section
variable{X:Cx}{a b:Expr}{ta tb:TE}{pos:Pos}
def binT(ha:PE X a ta)(hb:PE X b tb){pins:List (Addr×Obj)}{s:Shared}{σ:St}{H:Hp}{R:V->V->Hp->Prop}(I:Inv X pins σ H s)
  (h:ta σ H λx H1=>tb σ H1 λy H2=>R x y H2){Q:Value->Shared->Prop}{f:Value->Value->Sem Value}
  (hf:∀v u s2 x y H2,Inv X pins σ H2 s2->RelV x v->RelV y u->R x y H2->wpAny (model X.prog X.w) X.A (f v u) Q X.xe s2):
  wpAny (model X.prog X.w) X.A (eval a X.M) (λv s₁=>wpAny (model X.prog X.w) X.A (eval b X.M) (λu s₂=>wpAny (model X.prog X.w) X.A (f v u) Q X.xe s₂) X.xe s₁) X.xe s:=by show thn (ha pins s σ H _ I h) λv s1 hz0=>?_;let(x,H1,I1,r1,q1):=hz0;show thn (hb pins s1 σ H1 _ I1 q1) λu s2 hz0=>?_;let(y,H2,I2,r2,q2):=hz0;show hf v u s2 x y H2 I2 r1 r2 q2
def Zn(ho:OpR X (binaryOp op) r)(ha:PE X a ta)(hb:PE X b tb):PE X (.BinOp a op b pos) (tOp r ta tb):=by intro pins s σ H Q I h;show wpAny_BinOp (binT ha hb I h λv u s2 x y H2 I2 rx ry q=>ho pins s2 σ H2 x y v u Q I2 rx ry q)
def ZX13{op:UnaryOp}{r:V->Hp->VK->Prop}(ho:UnR X (unaryOp op) r)(ha:PE X a ta):PE X (.UnaryOp op a pos) (tUn r ta):=by intro pins s σ H Q I h;show UnaryOp_ (thn (ha pins s σ H _ I h) λv s1 zz=>by let(x,H1,I1,r1,q1):=zz;show ho pins s1 σ H1 x v Q I1 r1 q1)
def opI{f:Value->Value->Sem Value}{C:Int->Int->Prop}{g:Int->Int->Int}
  (rule:∀(i j:Int)(t u:Tok)(s:Shared)(Q:Value->Shared->Prop)(E:Value->Shared->Prop),C i j->Q (.int (g i j) s.toks) {s with toks:=s.toks+1}->wpAny (model X.prog X.w) X.A (f (.int i t)<|.int j u) Q E s):
  OpR X f (rI C λi j=>.int<|g i j):=by intro pins s σ H x y v u Q I rx ry h;let(i,j,rfl,rfl,hc,q):=h;let(t,rfl):=rx;let(t',rfl):=ry;show rule i j t t' s _ _ hc {.int<|g i j,H,I.tok _,{_,Z},q}
def opI0{f:Value->Value->Sem Value}{g:Int->Int->Int}
  (rule:∀(i j:Int)(t u:Tok)(s:Shared)(Q:Value->Shared->Prop)(E:Value->Shared->Prop),Q (.int (g i j) s.toks) {s with toks:=s.toks+1}->wpAny (model X.prog X.w) X.A (f (.int i t)<|.int j u) Q E s):
  OpR X f (rI0 λi j=>.int<|g i j):=by intro pins s σ H x y v u Q I rx ry h;let(i,j,rfl,rfl,q):=h;let(t,rfl):=rx;let(t',rfl):=ry;show rule i j t t' s _ _ {.int<|g i j,H,I.tok _,{_,Z},q}
def opB0{f:Value->Value->Sem Value}{g:Int->Int->Bool}
  (rule:∀(i j:Int)(t u:Tok)(s:Shared)(Q:Value->Shared->Prop)(E:Value->Shared->Prop),Q (.bool<|g i j) s->wpAny (model X.prog X.w) X.A (f (.int i t)<|.int j u) Q E s):
  OpR X f (rI0 λi j=>.bl<|g i j):=by intro pins s σ H x y v u Q I rx ry h;let(i,j,rfl,rfl,q):=h;let(t,rfl):=rx;let(t',rfl):=ry;show rule i j t t' s _ _ {.bl<|g i j,H,I,Z,q}
def CDiv(i j:Int):(Prop):=0<j/\j<1073741824
def CPow(i j:Int):(Prop):=0<=j/\j<=1000000/\i.natAbs<2^64
def CMul(i j:Int):(Prop):=(-(2^64)<i/\i<2^64)\/(-(2^64)<j/\j<2^64)
def CMul.ok(h:CMul i j):IntMulOk i j:=by
 rcases h with ⟨h1,h2⟩|⟨h1,h2⟩
 ·show .of_left (intBits_le_64 h1 h2)
 ·show .of_right (intBits_le_64 h1 h2)
def Zt1:OpR X (binaryOp .Add) (rI0 λi j=>.int (i+j)):=opI0 λ_ _ _ _ _ _ _ q=>add_int q
def ZS2:OpR X (binaryOp .Sub) (rI0 λi j=>.int (i-j)):=opI0 λ_ _ _ _ _ _ _ q=>sub_int q
def Zm2:OpR X (binaryOp .Mult) (rI CMul λi j=>.int (i*j)):=opI λ_ _ _ _ _ _ _ hc q=>mul_int q hc.ok
def Ze1:OpR X (binaryOp .FloorDiv) (rI CDiv λi j=>.int (i/j)):=opI λi j _ _ _ _ _ hc q=>by
 let h1:(0:Int)<j:=hc.1;let h2:j<1073741824:=hc.2
 show floordiv_int J (by rwa[Y2j i J]) (.inl<|PyProof.noPylong_small B)
def ZO:OpR X (binaryOp .Mod) (rI (λ_ j=>0<j) λi j=>.int (i%j)):=opI λi j _ _ _ _ _ hc q=>by let h1:(0:Int)<j:=hc;show mod_int' B (by rwa[Int.fmod_eq_emod_of_nonneg i J])
def Zz04:OpR X (binaryOp .Pow) (rI CPow λi j=>.int (i^j.i)):=opI λ_ _ _ _ _ _ _ hc q=>pow_int_small hc.1 hc.2.1 hc.2.2 q
def unI{f:Value->Sem Value}{g:Int->Int}
  (rule:∀(i:Int)(t:Tok)(s:Shared)(Q:Value->Shared->Prop)(E:Value->Shared->Prop),Q (.int (g i) s.toks) {s with toks:=s.toks+1}->wpAny (model X.prog X.w) X.A (f<|.int i t) Q E s):
  UnR X f (rU λi=>.int<|g i):=by intro pins s σ H x v Q I rx h;let(i,rfl,q):=h;let(t,rfl):=rx;show rule i t s _ _ {.int<|g i,H,I.tok _,{_,Z},q}
def ZH9:UnR X (unaryOp .USub) (rU λi=>.int (-i)):=unI λ_ _ _ _ _ q=>neg_int q
end
def scal:(V->V->Bool)
 | .non,.non=>true | .non,.int _=>true | .int _,.non=>true | .non,.bl _=>true | .bl _,.non=>true | .non,.str _=>true | .str _,.non=>true
 | .int _,.int _=>true | .bl _,.bl _=>true | .str _,.str _=>true | .byt _,.byt _=>true
 | .int _,.str _=>true | .str _,.int _=>true | .bl _,.str _=>true | .str _,.bl _=>true
 |_,_=>false
inductive rEq(x:V)(y:V)(H:Hp)(Q:VK):Prop
 |mk  (_:scal x y=true) (_:Q (.bl<|decide<|x=y) H)
inductive rNe(x:V)(y:V)(H:Hp)(Q:VK):Prop
 |mk  (_:scal x y=true) (_:Q (.bl<|!decide (x=y)) H)
def ZV:decide (V.int i=V.int j)=(i == j):=by rw[Y0V];simp
def Zz013:decide (V.bl i=V.bl j)=(i == j):=by rw[Y0V];simp
def Zr9:decide (V.str i=V.str j)=(i == j):=by rw[Y0V];simp
def Zs9:decide (V.byt i=V.byt j)=(i.j == j.j):=by rw[Y0V];cases i;cases j;simp
section
variable{X:Cx}{a b c:Expr}{ta tb tc:TE}{pos:Pos}
def ZJ{k k':Bool}(I:Inv X pins σ H s)(q:Q (.bl k) H)(e:k=k'):EP X pins σ Q (.bool k') s:=by subst e;exists .bl k,H,I,Z,q
def ZQ8:OpR X (compareOp .Eq) rEq:=by
 intro pins s σ H x y v u Q I rx ry h;let(hs,q):=h;cases x with
 |non=>
  cases rx;cases y with
  |non=>cases ry;show PySem.EqNone.eq_none_none (ZJ I q D)
  |bl j=>cases ry;show PySem.EqNone.eq_none_bool (ZJ I q D)
  |int j=>let(t',rfl):=ry;show PySem.EqNone.eq_none_int (ZJ I q D)
  |str j=>let(t',rfl):=ry;show PySem.EqNone.eq_none_str (ZJ I q D)
  |_=>show absurd (show false=true from hs) Ys
 |bl i=>
  cases rx;cases y with
  |non=>cases ry;show PySem.EqNone.eq_bool_none (ZJ I q D)
  |bl j=>cases ry;show eq_bool (ZJ I q Zz013)
  |str j=>let(t',rfl):=ry;show PySem.EqMixed.eq_bool_str (ZJ I q D)
  |_=>show absurd (show false=true from hs) Ys
 |int i=>
  let(t,rfl):=rx;cases y with
  |non=>cases ry;show PySem.EqNone.eq_int_none (ZJ I q D)
  |int j=>let(t',rfl):=ry;show eq_int (ZJ I q ZV)
  |str j=>let(t',rfl):=ry;show PySem.EqMixed.eq_int_str (ZJ I q D)
  |_=>show absurd (show false=true from hs) Ys
 |str i=>
  let(t,rfl):=rx;cases y with
  |non=>cases ry;show PySem.EqNone.eq_str_none (ZJ I q D)
  |bl j=>cases ry;show PySem.EqMixed.eq_str_bool (ZJ I q D)
  |int j=>let(t',rfl):=ry;show PySem.EqMixed.eq_str_int (ZJ I q D)
  |str j=>let(t',rfl):=ry;show eq_str (ZJ I q Zr9)
  |_=>show absurd (show false=true from hs) Ys
 |byt i=>
  let(t,rfl):=rx;cases y with
  |byt j=>let(t',rfl):=ry;show PySem.W.eq_bytes (ZJ I q Zs9)
  |_=>show absurd (show false=true from hs) Ys
 |_=>cases y<;>show absurd (show false=true from hs) Ys
def ZP8:OpR X (compareOp .NotEq) rNe:=by
 intro pins s σ H x y v u Q I rx ry h;let(hs,q):=h;cases x with
 |non=>
  cases rx;cases y with
  |non=>cases ry;show PySem.EqNone.ne_none_none (ZJ I q D)
  |bl j=>cases ry;show PySem.EqNone.ne_none_bool (ZJ I q D)
  |int j=>let(t',rfl):=ry;show PySem.EqNone.ne_none_int (ZJ I q D)
  |str j=>let(t',rfl):=ry;show PySem.EqNone.ne_none_str (ZJ I q D)
  |_=>show absurd (show false=true from hs) Ys
 |bl i=>
  cases rx;cases y with
  |non=>cases ry;show PySem.EqNone.ne_bool_none (ZJ I q D)
  |bl j=>cases ry;show ne_bool (ZJ I q<|YI not Zz013)
  |str j=>let(t',rfl):=ry;show PySem.EqMixed.ne_bool_str (ZJ I q D)
  |_=>show absurd (show false=true from hs) Ys
 |int i=>
  let(t,rfl):=rx;cases y with
  |non=>cases ry;show PySem.EqNone.ne_int_none (ZJ I q D)
  |int j=>let(t',rfl):=ry;show ne_int (ZJ I q<|YI not ZV)
  |str j=>let(t',rfl):=ry;show PySem.EqMixed.ne_int_str (ZJ I q D)
  |_=>show absurd (show false=true from hs) Ys
 |str i=>
  let(t,rfl):=rx;cases y with
  |non=>cases ry;show PySem.EqNone.ne_str_none (ZJ I q D)
  |bl j=>cases ry;show PySem.EqMixed.ne_str_bool (ZJ I q D)
  |int j=>let(t',rfl):=ry;show PySem.EqMixed.ne_str_int (ZJ I q D)
  |str j=>let(t',rfl):=ry;show ne_str (ZJ I q<|YI not Zr9)
  |_=>show absurd (show false=true from hs) Ys
 |byt i=>
  let(t,rfl):=rx;cases y with
  |byt j=>let(t',rfl):=ry;show PySem.W.ne_bytes (ZJ I q<|YI not Zs9)
  |_=>show absurd (show false=true from hs) Ys
 |_=>cases y<;>show absurd (show false=true from hs) Ys
def Zl10:OpR X (compareOp .Lt) (rI0 λi j=>.bl (decide (i<j))):=opB0 λ_ _ _ _ _ _ _ q=>lt_int q
def Zd12:OpR X (compareOp .LtE) (rI0 λi j=>.bl (decide (i<=j))):=opB0 λ_ _ _ _ _ _ _ q=>le_int q
def Zr6:OpR X (compareOp .Gt) (rI0 λi j=>.bl (decide (j<i))):=opB0 λ_ _ _ _ _ _ _ q=>gt_int q
def Zz314:OpR X (compareOp .Is) (λx y H Q=>y=.non/\Q (.bl (decide (x=.non))) H):=by
 intro pins s σ H x y v u Q I rx ry h;let(rfl,q):=h;cases ry;show is_none_gen (ZJ I q ?_);cases x<;>first
  | (cases rx;rfl)
  | (let(t,rfl):=rx;rfl)
def Zz(b:Expr)(h:op≠.In:=by decide)(h2:op≠.NotIn:=by decide):behindInMarks op b=false:=by
 let e1:(op == CmpOp.In)=false:=by cases op<;>first|rfl|show absurd rfl h
 let e2:(op == CmpOp.NotIn)=false:=by cases op<;>first|rfl|show absurd rfl h2
 cases b<;>simp[behindInMarks,e1,e2]
def Zn6(ho:OpR X (compareOp op) r)(ha:PE X a ta)(hb:PE X b tb)(hm:behindInMarks op b=false):PE X (.Compare a [op] [b] pos) (tOp r ta tb):=by intro pins s σ H Q I h;show wpAny_Compare1 (binT ha hb I h λv u s2 x y H2 I2 rx ry q=>ho pins s2 σ H2 x y v u Q I2 rx ry q) hm
def Yz14(t:TE):(TT):=λσ H Q=>t σ H λx H'=>isB x H' Q
def Zl{op:CmpOp}{r:R2}(ho:OpR X (compareOp op) r)(ha:PE X a ta)(hb:PE X b tb)(hm:behindInMarks op b=false):PT X (.Compare a [op] [b] pos) (Yz14 (tOp r ta tb)):=by
 intro pins s σ H Q I h;show wpAny_isTrue_Compare1 (thn (ha pins s σ H _ I h) λv s1 ⟨x,H1,I1,r1,q1⟩=>thn (hb pins s1 σ H1 _ I1 q1) λu s2 ⟨y,H2,I2,r2,q2⟩=>
  thn (ho pins s2 σ H2 x y v u _ I2 r1 r2 q2) λc s3 ⟨z,H3,I3,r3,k,e,q3⟩=>?_) hm
 subst e;cases r3;show Y2b ⟨H3,I3,q3⟩
def ZL11(r r':R2)(ta tb tc:TE):(TE):=λσ H Q=>ta σ H λx H1=>tb σ H1 λy H2=>r x y H2 λz H3=>∃k,z=.bl k/\
 (if k=true then tc σ H3 λw' H4=>r' y w' H4 Q else Q (.bl false) H3)
def Zj10{op op':CmpOp}{r r':R2}(ho:OpR X (compareOp op) r)(ho':OpR X (compareOp op') r')(ha:PE X a ta)(hb:PE X b tb)(hc:PE X c tc)
  (hm:lastMarks [op,op'] [b,c]=false:=by with_unfolding_all rfl):PE X (.Compare a [op,op'] [b,c] pos) (ZL11 r r' ta tb tc):=by
 intro pins s σ H Q I h;show Compare_chain (thn (ha pins s σ H _ I h) λv s1 ⟨x,H1,I1,r1,q1⟩=>chain_link (thn (hb pins s1 σ H1 _ I1 q1) λu s2 ⟨y,H2,I2,r2,q2⟩=>
  thn (ho pins s2 σ H2 x y v u _ I2 r1 r2 q2) λd s3 ⟨z,H3,I3,r3,k,e,q3⟩=>?_)) hm
 subst e;cases r3;show Y2b ?_;cases k with
 |false=>show ite_ff {.bl false,H3,I3,Z,q3}
 |true=>show ite_tt (chain_last<|thn (hc pins s3 σ H3 _ I3 q3) λw' s4 zz=>by let(z',H4,I4,r4,q4):=zz;show ho' pins s4 σ H4 y z' u w' Q I4 r2 r4 q4)
def Zh6{op op':CmpOp}{r r':R2}(ho:OpR X (compareOp op) r)(ho':OpR X (compareOp op') r')(ha:PE X a ta)(hb:PE X b tb)(hc:PE X c tc)
  (hm:lastMarks [op,op'] [b,c]=false:=by with_unfolding_all rfl):PT X (.Compare a [op,op'] [b,c] pos) (Yz14<|ZL11 r r' ta tb tc):=by
 intro pins s σ H Q I h;show isTrue_chain (thn (ha pins s σ H _ I h) λv s1 ⟨x,H1,I1,r1,q1⟩=>test_link (thn (hb pins s1 σ H1 _ I1 q1) λu s2 ⟨y,H2,I2,r2,q2⟩=>
  thn (ho pins s2 σ H2 x y v u _ I2 r1 r2 q2) λd s3 ⟨z,H3,I3,r3,k,e,q3⟩=>?_)) hm
 subst e;cases r3;show Y2b ?_;cases k with
 |false=>
  let(k',e',q'):=q3;cases e';show ite_ff ⟨H3,I3,q'⟩
 |true=>
  show ite_tt (test_last<|thn (hc pins s3 σ H3 _ I3 q3) λw' s4 zz=>?_);let(z',H4,I4,r4,q4):=zz;show thn (ho' pins s4 σ H4 y z' u w' _ I4 r2 r4 q4) λd' s5 hz0=>?_;let(z2,H5,I5,r5,k2,e2,q5):=hz0;subst e2;cases r5;show Y2b ⟨H5,I5,q5⟩
def ZF6:(sizeLine:Nat)<2^63:=by rw[Y1l];decide
def Zs:OpR X (binaryOp .Add) (λx y H Q=>∃i j,x=.str i/\y=.str j/\i.f+j.f<=sizeLine/\Q (.str (i++j)) H):=by intro pins s σ H x y v u Q I rx ry h;let(i,j,rfl,rfl,hz,q):=h;let(t,rfl):=rx;let(t',rfl):=ry;show add_str (λt' tk=>{.str<|i++j,H,I.tok _,{_,Z},q}) hz
def ZK2{us:List Value}(r:Vals [x] us):∃u,us=[u]/\RelV x u:=by
 cases r with
 |cons r1 r2=>cases r2;exists _,Z,r1
def Zy13{us:List Value}(r:Vals [x,y] us):∃u w',us=[u,w']/\RelV x u/\RelV y w':=by
 cases r with
 |cons r1 r2=>
  cases r2 with
  |cons r3 r4=>cases r4;exists _,_,Z,r1,r3
def Zz73(hc:X.calm=true):Zz02 X (.builtin "max") (λxs H Q=>∃i j,xs=[.int i,.int j]/\Q (.int (if j>i then j else i)) H):=by
 intro pins s σ H xs us Q I r h;let(i,j,rfl,q):=h;let(u,w',rfl,(t,rfl),(t',rfl)):=Zy13 r;show max_two_ints (I.ok.hd hc) λh' tk k=>{_,H,I.kept k,?_,q};cases hj:j>i
 ·rw[if_pos hj,if_pos hj];exists _,Z
 ·rw[if_neg hj,if_neg hj];exists _,Z
def Zl5(hc:X.calm=true):Zz02 X (.builtin "min") (λxs H Q=>∃i j,xs=[.int i,.int j]/\Q (.int (if j<i then j else i)) H):=by
 intro pins s σ H xs us Q I r h;let(i,j,rfl,q):=h;let(u,w',rfl,(t,rfl),(t',rfl)):=Zy13 r;show min_two_ints (I.ok.hd hc) λh' tk k=>{_,H,I.kept k,?_,q};cases hj:j<i
 ·rw[if_pos hj,if_pos hj];exists _,Z
 ·rw[if_neg hj,if_neg hj];exists _,Z
def Zg4:Zz02 X (.type "str") (λxs H Q=>∃i,xs=[.int i]/\i.natAbs.log2<1920/\Q (.str (toString i)) H):=by intro pins s σ H xs us Q I r h;let(i,rfl,hz,q):=h;let(u,rfl,t,rfl):=ZK2 r;show PySem.P.str_of_int hz {.str _,H,I.tok _,{_,Z},q}
end
structure ObjM(h:Heap)(x dx C:Addr)(mA:Str->Option Value):Prop where
 obj:h.E x=some (PySem.W.instObj C dx)
 ns:h.Ns1 dx mA
 ne:dx≠x
def ZX7{h:Heap}{mA:Str->Option Value}(n:h.Ns1 dx mA):∃od,h.E dx=some od/\∀name,PySem.W.lookIn name od=some (mA name):=by
 let(o,es,ep,ho,hd,hk,_,hm):=n;exists o,ho,λname=>?_;let e:=hm name
 unfold nsFind findBy at e;rw[<-Array.find?_toList]at e;unfold PySem.W.lookIn;rw[hd];dsimp only;split
 ·rename_i y q;rw[q]at e;show YI some e
 ·rename_i q;rw[q]at e;let a:es.j.any (·.refKey)=false:=by rw[List.any_eq_false];intro y hy;let(z,t,hkey):=hk y (Array.mem_toList_iff.S hy);simp[DictEntry.refKey,hkey]
  let a':¬es.j.any (·.refKey)=true:=by rw[a];show Ys
  rw[if_neg a'];show YI some e
def ObjM.look{mA:Str->Option Value}(I:ObjM h x dx C mA):∃od,PySem.W.InstAt h x (PySem.W.instObj C dx) C (some od)/\∀name,PySem.W.lookIn name od=some (mA name):=
 let ⟨od,ho,hl⟩:=ZX7 I.ns
 {od,⟨I.obj,Z,Z,ho⟩,hl}
section
variable{prog:Program}{w:World}{A:Around}{E:Value->Shared->Prop}{s:Shared}{K:PySem.W.Q}{x dx C f:Addr}{mA:Str->Option Value}{name:Str}{v:Value}
def ZO12{Q:Value->Shared->Prop}(X:K.In s.o)(I:ObjM s.o x dx C mA)(hg:PySem.W.plainGet K C name=true)(hh:PySem.W.hasDictIn K C=true)
  (ha:PySem.W.findIn K ↑C name=some none)(hv:mA name=some v)(hv':PySem.W.handedIn v=true)(h:Q v {s with toks:=s.toks+1}):
  wpAny (model prog w) A (getAttr ↑x name expr) Q E s:=by let(od,XY,hl):=I.look;show PySem.W.get_value X XY (PySem.W.plainGet_of hg).1 (PySem.W.findObj_own hh ha Z<|by rw[hl,hv]) hv' h
def ZR11{Q:Unit->Shared->Prop}(X:K.In s.o)(I:ObjM s.o x dx C mA)
  (hs:PySem.W.findIn K ↑C "__setattr__"=some (some<|.builtin "object.__setattr__"))(hp:PySem.W.plainOver K C=true)(ht:PySem.W.takerIn K C name=some none)(hh:PySem.W.hasDictIn K C=true)
  (hw:PySem.Within mA ns)(hsz:ns.f<=sizeLine)
  (h:∀h',ObjM h' x dx C (λy=>if y=name then some v else mA y)->Heap.SameBut dx s.o h'->Q () {s with heap:=h',toks:=s.toks+2}):
  wpAny (model prog w) A (setAttr ↑x name v) Q E s:=by
 let(od,XY,hl):=I.look;show PySem.W.set_plain X XY hs (PySem.W.osa_open (s:={s with toks:=s.toks+1}) (r:=none) X XY hp ht λb=>?_);let(cd,hc,hd'):=PySem.W.any_some hh;let hx:s.o.E x=some ⟨.ref C,some dx,.plain,#[]⟩:=I.obj
 show Yy4 (Yi<|Yy4<|Yy4<|wpAny_loadPart hx<|Yy4<|PySem.W.Looks.here (s:={s with toks:=s.toks+1}) (PySem.W.looks_clsIn X hc) ?_);rw[hd'];show Yi (a:=some dx) (Yy4<|Yi<|Yy4 ?_);show wpAny_nsSet1 (s:={s with toks:=s.toks+1}) I.ns λh' hn2 hs2=>?_;let(oD,esD,epD,hoD,hdD,hcD):=hn2.count (PySem.Within.cons name v hw);show Yy4 (wpAny_lookBehind hoD (by rw[hdD];show pastItsLine_dict<|Yv hcD<|by rw[Yu];lia) ?_);show Yi (h _ {(hs2.2 _<|Y0f I.ne).m I.obj,hn2,I.ne} hs2)
def Zy10{R:Result->Shared->Prop}{vs:List Value}{kw:List (Str×Value)}(X:K.In s.o)(hm:PySem.W.makesIn K C=true)
  (hi:PySem.W.findIn K ↑C "__init__"=some (some<|.ref f))(hf:PySem.W.typeIn K ↑f=some (.type "function"))
  (h:codeAny (model prog w) (A.under<|.builtin "type.__call__" {.ref C::vs,kw}) (.call ↑f {.ref ((~~~s)+1)::vs,kw}) (PySem.W.InitBack ((~~~s)+1) R)
   {s with heap:=(s.o.push PySem.W.emptyDict).push (PySem.W.instObj C (~~~s))}):
  codeAny (model prog w) A (.call ↑C ⟨vs,kw⟩) R s:=by let(hh,g,d,t,os):=s;show PySem.W.make_core (PySem.W.makes_of X hm) (PySem.W.looks_findIn X hi) (λself=>PySem.W.bind_fn X self hf) (.inl Z) h
end
def putF(f:Str)(v:V):(List (Str×V)->List (Str×V))
 |[]=>[(f,v)]
 | (g,x)::r=>if g=f then (g,v)::r else (g,x)::putF f v r
def Zg1(f g:Str)(v:V):∀fs:List (Str×V),(putF f v fs).R g=if g=f then some v else fs.R g
 |[]=>by
  change List.R g [(f,v)]=_;cases h:g=f
  ·have hb:(g == f)=true:=Y1B.X h;simp only[List.lookup,hb,if_pos h]
  ·have hb:(g == f)=false:=Y1C.X h;simp only[List.lookup,hb,if_neg h]
 | (k,x)::r=>by
  let ih:=Zg1 f g v r;rw[show putF f v ((k,x)::r)=(if k=f then (k,v)::r else (k,x)::putF f v r) from Z];cases hk:k=f
  ·rw[if_pos hk];cases h:g=k
   ·have hb:(g == k)=true:=Y1B.X h;simp only[List.lookup,hb,if_pos (h.trans hk)]
   ·have hb:(g == k)=false:=Y1C.X h;simp only[List.lookup,hb,if_neg λe:g=f=>h (e.trans hk.symm)]
  ·rw[if_neg hk];cases h:g=k
   ·have hb:(g == k)=true:=Y1B.X h;simp only[List.lookup,hb,if_neg λe:g=f=>hk (h.symm.trans e)]
   ·have hb:(g == k)=false:=Y1C.X h;simp only[List.lookup,hb];show ih
def ZX2(f:Str)(v:V):∀fs:List (Str×V),f∈(putF f v fs).L (·.1)/\∀g,g∈fs.L (·.1)->g∈(putF f v fs).L (·.1)
 |[]=>{by simp[putF],λg h=>by simp at h}
 | (k,x)::r=>by
  let(i1,i2):=ZX2 f v r;rw[show putF f v ((k,x)::r)=(if k=f then (k,v)::r else (k,x)::putF f v r) from Z];cases hk:k=f
  ·rw[if_pos hk];subst hk;exists D,λg h=>by simpa using h
  ·rw[if_neg hk];exists ?_,λg h=>?_
   ·rw[Yy01];show Yd _ i1
   ·rw[Yy01]at h ⊢;rcases Yf.S h with e|e
    ·show Yf.X (.inl e)
    ·show Yd _ (i2 g e)
def ZF2(f:Str)(v:V):∀fs:List (Str×V),(putF f v fs).f<=fs.f+1
 |[]=>by simp[putF]
 | (k,x)::r=>by
  let ih:=ZF2 f v r;rw[show putF f v ((k,x)::r)=(if k=f then (k,v)::r else (k,x)::putF f v r) from Z];cases hk:k=f
  ·rw[if_pos hk,Yu,Yu];lia
  ·rw[if_neg hk,Yu,Yu];lia
def RelO.some_of{v:V}(r:RelO (some v) o):∃u,o=some u/\RelV v u:=by
 cases o with
 |none=>show(show False from r).elim
 |some u=>exists u,Z,r
def Za8(r:RelV v u):PySem.W.handedIn u=true:=by
 cases v with
 |non=>cases (show u=Value.none from r);rfl
 |bl b=>cases (show u=Value.bool b from r);rfl
 |int i=>let(t,e):=(show ∃t,u=Value.int i t from r);cases e;rfl
 |str x=>let(t,e):=(show ∃t,u=Value.str x t from r);cases e;rfl
 |byt b=>let(t,e):=(show ∃t,u=Value.bytes b t from r);cases e;rfl
 |flt b=>let(t,e):=(show ∃t,u=Value.float b t from r);cases e;rfl
 |ref a=>cases (show u=Value.ref a from r);rfl
 |ty n=>cases (show u=Value.type n from r);rfl
section
variable{P:Program}{w:World}{H:Hp}{h:Heap}{a C dx:Addr}{fs:List (Str×V)}
def ZL6(hok:HOk P w H h)(e:H a=some (.ins C dx fs)):∃mA,ObjM h a dx C mA/\(∀f,RelO (fs.R f) (mA f))/\PySem.Within mA (fs.L (·.1))/\fs.f<=1000/\H dx=some (.own a):=by let(d,z,ne,ob,mA,n,r,q):=(show ObjOk P w H h a (.ins C dx fs) from hok a _ e);exists mA,⟨ob,n,ne⟩,r,q,z,d
end
structure Cls(K:PySem.W.Q)(C:Addr):Prop where
 pg:PySem.W.plainGet K C Str.empty=true
 hd:PySem.W.hasDictIn K C=true
 po:PySem.W.plainOver K C=true
 sa:PySem.W.findIn K ↑C "__setattr__"=some (some<|.builtin "object.__setattr__")
def Cls.get{K:PySem.W.Q}{C:Addr}(c:Cls K C)(f:Str):PySem.W.plainGet K C f=true:=c.pg
def NoAttr(K:PySem.W.Q)(C:Addr)(f:Str):(Prop):=PySem.W.findIn K ↑C f=some none
def NoAttr.taker{K:PySem.W.Q}{C:Addr}{f:Str}(n:NoAttr K C f):PySem.W.takerIn K C f=some none:=by unfold PySem.W.takerIn;rw[show PySem.W.findIn K ↑C f=some none from n];rfl
section
variable{X:Cx}{pins:List (Addr×Obj)}{σ:St}{H:Hp}{s:Shared}{a C dx:Addr}{fs:List (Str×V)}{f:Str}{v:V}{A:Around}{E:Value->Shared->Prop}
def ZZ6{Q:Value->Shared->Prop}(I:Inv X pins σ H s)(e:H a=some (.ins C dx fs))(c:Cls X.K C)(n:NoAttr X.K C f)(l:fs.R f=some v)
  (h:∀u s',Inv X pins σ H s'->RelV v u->Q u s'):wpAny (model X.prog X.w) A (getAttr ↑a f b) Q E s:=by let(mA,O,r,_,_,_):=ZL6 I.hok e;let(u,hu,ru):=RelO.some_of (v:=v) (o:=mA f) (by rw[<-l];show r f);show ZO12 I.kIn O (c.get f) c.hd n hu (Za8 ru) (h u _ (I.tok _) ru)
def Zz96{Q:Unit->Shared->Prop}(I:Inv X pins σ H s)(e:H a=some (.ins C dx fs))(c:Cls X.K C)(n:NoAttr X.K C f)(hl:fs.f<1000)(ry:RelV y u)
  (h:∀s',Inv X pins σ (upd H a<|.ins C dx<|putF f y fs) s'->Q () s'):wpAny (model X.prog X.w) A (setAttr ↑a f u) Q E s:=by
 let(mA,O,r,wi,_,ho):=ZL6 I.hok e;let hz:(fs.L (·.1)).f<=sizeLine:=by rw[Yy7,Y1l];lia
 show ZR11 I.kIn O c.sa c.po n.taker c.hd wi hz λh' O' sb=>h _ ?_;let hd:∃o,h'.E dx=some o:=by let(o,_,_,e',_):=O'.ns;exists o,e'
 show I.write (x:=a) (e:=dx) (by rw[e];show True.intro) (.inr ho) (λb q hb z=>(sb.2 b hb).m z) hd ?_;exists by rw[Ze O.ne];show ho,?_,O.ne,O'.obj,_,O'.ns,λg=>?_,λg hg=>?_
 ·have:=ZF2 f y fs;lia
 ·show RelO ((putF f y fs).R g) (if g=f then some u else mA g);rw[Zg1];cases q:g=f
  ·rwa[if_pos q,if_pos q]
  ·rw[if_neg q,if_neg q];show r g
 ·by_cases q:g=f
  ·rw[q];show(ZX2 f y fs).1
  ·show(ZX2 f y fs).2 g (wi g λz=>hg ?_);change(if g=f then some u else mA g)=none
   rwa[if_neg q]
def Inv.made(I:Inv X pins σ H s):Inv X pins σ (upd (upd H (~~~s) (.own ((~~~s)+1))) ((~~~s)+1) (.ins C (~~~s) []))
  {s with heap:=(s.o.push PySem.W.emptyDict).push (PySem.W.instObj C (~~~s))}:=by
 let e1:(s.o.push PySem.W.emptyDict).E (~~~s)=some PySem.W.emptyDict:=Yo s.o rfl;let e2:((s.o.push PySem.W.emptyDict).push (PySem.W.instObj C (~~~s))).E ((~~~s)+1)=some (PySem.W.instObj C (~~~s)):=by
  have:=Yo (s.o.push PySem.W.emptyDict) (o:=PySem.W.instObj C (~~~s)) rfl
  rwa[Y1f]at this
 let e3:(s.o.push PySem.W.emptyDict).Ns (~~~s) (λ_=>none):={PySem.W.emptyDict,#[],_,e1,Z,λe he=>absurd he D,λ_=>rfl};let I1:=I.laid (a:=(~~~s)) (o:=.own<|(~~~s)+1) (h':=s.o.push PySem.W.emptyDict) (t':=s.toks) (λb u q=>Yy6 _ q) (Yy8 _) {_,e1}
 show I1.laid (a:=(~~~s)+1) (o:=.ins C (~~~s) []) (t':=s.toks) (λb u q=>Yy6 _ q) (Y3n<|Y1f _ _) ?_;let ne:(~~~s)≠(~~~s)+1:=Yt (Y0M _)
 exists by rw[Ze ne,Zz1],Yk _,ne,e2,λ_=>none,(Heap.Ns1.of_empty e3).at λo q=>Yy6 _ q,λ_=>True.intro,λy hy=>absurd Z hy
def Zc13{pos:Pos}{Q:Value->Shared->Prop}(hb:attributeBase e f env (eval e env)=eval e env)
  (h:wpAny (model prog w) A (eval e env) (λo s₁=>wpAny (model prog w) A (getAttr o f true) Q E s₁) E s):wpAny (model prog w) A (eval (.Attribute e f pos) env) Q E s:=
 Attribute_any_ h (by rw[arm_eval_Attribute,hb])
end
inductive xFld(K:PySem.W.Q)(f:Str)(x:V)(H1:Hp)(Q:VK):Prop
 |mk (a C dx fs v:_) (_:x=.ref a) (_:H1 a=some (.ins C dx fs)) (_:Cls K C) (_:NoAttr K C f) (_:fs.R f=some v) (_:Q v H1)
def tFld(K:PySem.W.Q)(ta:TE)(f:Str):(TE):=λσ H Q=>ta σ H λx H1=>xFld K f x H1 Q
def sFld(K:PySem.W.Q)(ta tv:TE)(f:Str):(TS):=λXW σ H=>tv σ H λy H1=>ta σ H1 λx H2=>∃a C dx fs,x=.ref a/\H2 a=some (.ins C dx fs)/\Cls K C/\NoAttr K C f/\fs.f<1000/\
 XW.nx σ (upd H2 a<|.ins C dx<|putF f y fs)
section
variable{X:Cx}{o e value:Expr}{f:Str}{pos pos':Pos}{ta tv:TE}
def ZY13(he:PE X e ta)(hb:attributeBase e f X.M (eval e X.M)=eval e X.M):PE X (.Attribute e f pos) (tFld X.K ta f):=by intro pins s σ H Q I h;show Zc13 hb (thn (he pins s σ H _ I h) λu s1 hz0=>?_);let(x,H1,I1,rx,a,C,dx,fs,v,ex,ea,c,n,l,q):=hz0;subst ex;let rfl:u=Value.ref a:=rx;show ZZ6 I1 ea c n l λu' s2 I2 ru=>⟨v,H1,I2,ru,q⟩
def Zz612(ha:PE X o ta)(hv:PE X value tv)(hs:swapsWith value (some (.Attribute o f pos')) pos.line X.M=pure false):PS X (.Assign [.Attribute o f pos'] value pos) (sFld X.K ta tv f):=by intro pins s σ H XW I h;show plainObj_wpAny_Assign_Attribute (thn (hv pins s σ H _ I h) λu s1 zz=>?_) hs;let(y,H1,I1,ry,q):=zz;show thn (ha pins s1 σ H1 _ I1 q) λov s2 hz0=>?_;let(x,H2,I2,rx,a,C,dx,fs,ex,ea,c,n,l,q2):=hz0;subst ex;let rfl:ov=Value.ref a:=rx;show Zz96 I2 ea c n l ry λs3 I3=>{σ,_,I3,q2}
end
section
variable{X:Cx}{pins:List (Addr×Obj)}{σ:St}{H:Hp}{s:Shared}{A:Around}{E:Value->Shared->Prop}{Q:Value->Shared->Prop}{c:Value}{b:Bool}
inductive TyOf(K:PySem.W.Q)(H:Hp):V->Value->Prop where
 |non:TyOf K H .non (.type "NoneType")
 |bl (x:Bool):TyOf K H (.bl x) (.type "bool")
 |int (i:Int):TyOf K H (.int i) (.type "int")
 |str (x:Str):TyOf K H (.str x) (.type "str")
 |flt (x:UInt64):TyOf K H (.flt x) (.type "float")
 |lst {a:Addr} {xs:List V} (e:H a=some (.lst xs)):TyOf K H ↑a (.type "list")
 |frz {a:Addr} {o:Obj} {xs:List V} (e:H a=some (.frz o<|.lst xs)):TyOf K H ↑a (.type "list")
 |tup {a:Addr} {xs:List V} (e:H a=some (.tup xs)):TyOf K H ↑a (.type "tuple")
 |dK {a:Addr} {kvs:List (Key×V)} (e:H a=some (.dK kvs)):TyOf K H ↑a (.type "dict")
 |dT {a:Addr} {kvs:List (List Key×V)} (e:H a=some (.dT kvs)):TyOf K H ↑a (.type "dict")
 |ins {a C dx:Addr} {fs:List (Str×V)} (e:H a=some (.ins C dx fs)) (cl:Cls K C) (ha:PySem.W.findIn K ↑C "__class__"=some (some<|.builtin "object.__class__"))
   (hn:PySem.W.specialIn K (.builtin "object.__class__") "__get__"=some (some<|.builtin "getset_descriptor.__get__"))(htk:PySem.W.takesIn K (.builtin "object.__class__")=some true)
   (hm:PySem.W.mroIn K C (.type "object")=some true):TyOf K H ↑a ↑C
def Zz38(I:Inv X pins σ H s)(rx:RelV x u)(ty:TyOf X.K H x t)(e:PySem.W.kitOne X.K t c=some b)(h:∀tk,Q (.bool b) {s with toks:=tk}):
  wpAny (model X.prog X.w) A (call (.builtin "isinstance") [u,c]) Q E s:=by
 cases ty with
 |non=>cases (show u=Value.none from rx);show Y0G PySem.W.kitx_none I.kIn True.intro e (λz=>nomatch z) h
 |bl y=>cases (show u=Value.bool y from rx);show Y0G PySem.W.kitx_bool I.kIn True.intro e (λz=>nomatch z) h
 |int i=>let(t,q):=(show ∃t,u=Value.int i t from rx);cases q;show Y0G PySem.W.kitx_int I.kIn True.intro e (λz=>nomatch z) h
 |str y=>let(t,q):=(show ∃t,u=Value.str y t from rx);cases q;show Y0G PySem.W.kitx_str I.kIn True.intro e (λz=>nomatch z) h
 |flt y=>let(t,q):=(show ∃t,u=Value.float y t from rx);cases q;show Y0G PySem.W.kitx_float I.kIn True.intro e (λz=>nomatch z) h
 |@lst a xs ea=>
  cases (show u=Value.ref a from rx);let(_,_,n,_,h1):=(show ObjOk X.prog X.w H s.o a (.lst xs) from I.hok a _ ea);show Y0G PySem.W.kitx_list I.kIn {_,h1,Z} e (λz=>nomatch z) h
 |@frz a ob xs ea=>
  cases (show u=Value.ref a from rx);let(_,_,_,n,_,h1):=(show ObjOk X.prog X.w H s.o a (.frz ob<|.lst xs) from I.hok a _ ea);show Y0G PySem.W.kitx_list I.kIn {_,h1,Z} e (λz=>nomatch z) h
 |@tup a xs ea=>
  cases (show u=Value.ref a from rx);let(_,_,_,p):=(show ObjOk X.prog X.w H s.o a (.tup xs) from I.hok a _ ea);let(o,h1,h2,_):=p;show Y0G PySem.W.kitx_tuple I.kIn ⟨o,h1,h2⟩ e (λz=>nomatch z) h
 |@dK a kvs ea=>
  cases (show u=Value.ref a from rx);let(_,_,vs,_,p):=(show ObjOk X.prog X.w H s.o a (.dK kvs) from I.hok a _ ea);let(o,es,ep,h1,h2,_):=p;show Y0G PySem.W.kitx_dict I.kIn ⟨o,h1,h2.1⟩ e (λz=>nomatch z) h
 |@dT a kvs ea=>
  cases (show u=Value.ref a from rx);let(_,_,xs,_,o,es,ep,h1,h2,_):=(show ObjOk X.prog X.w H s.o a (.dT kvs) from I.hok a _ ea);show Y0G PySem.W.kitx_dict I.kIn ⟨o,h1,h2.1⟩ e (λz=>nomatch z) h
 |@ins a C dx fs ea cl ha hn htk hm=>
  cases (show u=Value.ref a from rx);let(mA,O,_):=ZL6 I.hok ea;let(od,XY,_):=O.look;show Y0G (PySem.W.kitx_own (cl.get _) cl.hd ha hn htk hm) I.kIn XY e (λz=>nomatch z) h
end
structure Room(k:Nat)(A:Around):Prop where
 hd:A.handled=none
 dp:A.depth+3*k+5<recursionLimit
 un:A.units+16*k+200<cLine
def Room.mono(r:Room k A)(h:j<=k):Room j A:={r.hd,by have:=r.dp;lia,by have:=r.un;lia}
def Room.deeper(r:Room (k+1) A)(env:Env):Room k (A.deeper env):=
 {r.hd,by have:=r.dp;change A.depth+1+3*k+5<_;lia,by have:=r.un;change A.units+3+16*k+200<_;lia}
def ZB6{A:Around}{C:Addr}{us:List Value}{kw:List (Str×Value)}:(A.under (.builtin "type.__call__" {.ref C::us,kw})).depth=A.depth+1:=by
 first|rfl|simp[Around.under,Code.weight,Code.isCreation,Code.isGuard,Code.isCaller,Code.frames,Code.isFrame,guardIds]
def ZA6{A:Around}{C:Addr}{us:List Value}{kw:List (Str×Value)}:(A.under (.builtin "type.__call__" {.ref C::us,kw})).units=A.units+1:=by
 first|rfl|simp[Around.under,Code.cUnits,Code.frames,Code.isFrame]
def Room.make(r:Room (k+1) A)(C:Addr)(us:List Value)(kw:List (Str×Value)):Room k (A.under (.builtin "type.__call__" {.ref C::us,kw})):=
 {r.hd,by have:=r.dp;rw[ZB6];lia,by have:=r.un;rw[ZA6];lia}
def Room.depth(r:Room k A):A.depth<recursionLimit:=by have:=r.dp;lia
def Room.units(r:Room k A):A.units+64<cLine:=by have:=r.un;lia
def tNil:(TA):=λ_ H Q=>Q [] H
def ZR14(ta:TE)(tr:TA):(TA):=λσ H Q=>ta σ H λx H1=>tr σ H1 λxs H2=>Q (x::xs) H2
section
variable{X:Cx}{e:Expr}{es:List Expr}{te:TE}{t:TA}{pos:Pos}
def Zz3:PA X [] tNil:=λ_ _ _ _ H Q I h=>Y3X {[],H,I,.nil,h}
def Zz0(ha:PE X e te)(hr:PA X es t)(hs:starEach (e::es) X.M=(false,eval e X.M)::starEach es X.M:=by rfl):PA X (e::es) (ZR14 te t):=by
 intro pos pins s σ H Q I h;rw[hs];change wpAny _ _ (spliced<|(false,eval e X.M)::backTo pos (starEach es X.M)) _ _ s
 show Y3H (thn (ha pins s σ H _ I h) λu s1 hz0=>?_);let(x,H1,I1,r1,q1):=hz0;show thn (hr pos pins s1 σ H1 _ I1 q1) λus s2 zz=>by let(xs,H2,I2,r2,q2):=zz;exists x::xs,H2,I2,.cons r1 r2,q2
inductive xTup(xs:List V)(H1:Hp)(Q:VK):Prop
 |mk (_:xs.f<=sizeLine) (_:∀p,H1 p=none->Q ↑p (upd H1 p<|.tup xs))
def tTup(t:TA):(TE):=λσ H Q=>t σ H λxs H1=>xTup xs H1 Q
inductive xLst(xs:List V)(H1:Hp)(Q:VK):Prop
 |mk (_:xs.f<=sizeLine) (_:∀p,H1 p=none->Q ↑p (upd H1 p<|.lst xs))
def tLst(t:TA):(TE):=λσ H Q=>t σ H λxs H1=>xLst xs H1 Q
def Zq1{x1}(h:PA X es t):PE X (.Tuple es x1 pos) (tTup t):=by
 intro pins s σ H Q I hq;show wpAny_Tuple_spliced (thn (h pos pins s σ H _ I hq) λus s1 ⟨xs,H1,I1,r,z,q⟩=>{by rw[<-r.f];show z,?_});let hf:H1 (~~~s1)=none:=I1.hok.fresh (Yy8 _)
 exists .ref (~~~s1),upd H1 (~~~s1)<|.tup xs,I1.laid (t':=s1.toks) (λb u e=>Yy6 _ e) (Yy8 _) ?_,Z,q _ hf;exists z,us,r,{_,Yo _ Z,Z,_,Z}
def Zs1(h:PA X es t):PE X (.List es pos) (tLst t):=by
 intro pins s σ H Q I hq;show wpAny_List_spliced (thn (h pos pins s σ H _ I hq) λus s1 ⟨xs,H1,I1,r,z,q⟩=>{by rw[<-r.f];show z,?_});let hf:H1 (~~~s1)=none:=I1.hok.fresh (Yy8 _)
 exists .ref (~~~s1),upd H1 (~~~s1)<|.lst xs,I1.laid (t':=s1.toks) (λb u e=>Yy6 _ e) (Yy8 _) ?_,Z,q _ hf;exists z,us,0,r,Yo _ Z
end
abbrev Sp:=List V->Hp->VK->XK->Prop
abbrev CXT:=List Env->Hp->Shared->XK->Value->Shared->Prop
structure Env0(P:Program)(w:World)(K:PySem.W.Q)(mg:Str->Option Value)(base:Heap)(A:Around)(outer:List Env)(s:Shared)(H:Hp):Prop where
 frames:A.frames=some outer
 mod:Mod K mg base
 bs:∀b o,base.E b=some o->s.o.E b=some o/\H b=none
 bsz:base.objs.l<=(~~~s)
 funs:s.o.FunFrames base outer
 frf:∀b∈frs outer,H b=none
 hok:HOk P w H s.o
 bare:AllBare s.gens
def CE(outer:List Env)(P:Program)(w:World)(H:Hp)(s:Shared)(Q:VK)(u:Value)(s':Shared):(Prop):=
 ∃v H',s'.os=s.os/\AllBare s'.gens/\Un (frs outer) [] H H' s.o s'.o/\HOk P w H' s'.o/\RelV v u/\Q v H'
def CR(CX:CXT)(outer:List Env)(P:Program)(w:World)(H:Hp)(s:Shared)(Q:VK)(E:XK)(r:Result)(s':Shared):(Prop):=
 match r with
 | .ok (.ret u)=>CE outer P w H s Q u s'
 | .ok _=>False
 | .error e=>CX outer H s E e s'
structure FnOk(P:Program)(w:World)(K:PySem.W.Q)(mg:Str->Option Value)(base:Heap)(CX:CXT)(k:Nat)(f:Addr)(fd:FuncData)(ps:List Str)(sp:Sp):Prop where
 len:∀vs H Q E,sp vs H Q E->vs.f=ps.f
 run:∀(A:Around)(outer:List Env)(s:Shared)(H:Hp)(args:Args)(us:List Value)(vs:List V)(Q:VK)(E:XK),Room k A->Env0 P w K mg base A outer s H->BindsTo s fd args (ps.zip us)->Vals vs us->sp vs H Q E->
  codeAny (model P w) A (.call ↑f args) (CR CX outer P w H s Q E) s
def Env0.make{P:Program}{w:World}{K:PySem.W.Q}{mg:Str->Option Value}{base:Heap}{A:Around}{outer:List Env}{s:Shared}{H:Hp}(e:Env0 P w K mg base A outer s H)(C:Addr)(us:List Value)(kw:List (Str×Value)):
  Env0 P w K mg base (A.under<|.builtin "type.__call__" {.ref C::us,kw}) outer s H:={by first|show e.frames|(simpa[Around.under,Code.envs,Code.isFrame,pushEnvs] using e.frames),e.mod,e.bs,e.bsz,e.funs,e.frf,e.hok,e.bare}
section
variable{X:Cx}{pins:List (Addr×Obj)}{σ:St}{H:Hp}{s s':Shared}
def Inv.env0(I:Inv X pins σ H s):Env0 X.prog X.w X.K X.mg X.base X.A X.stack s H:=
 {I.ok.frames,I.ok.mod,I.bs,Yv I.ok.bsz I.sz,I.stack,I.stkFree,I.hok,I.bare}
def Inv.after(I:Inv X pins σ H s)(h:CE X.stack X.prog X.w H s Q u s'):EP X pins σ Q u s':=by let(v,H',os,bare,un,hok,r,q):=h;let(hh,g,d,t,os'):=s';let rfl:os'=s.os:=os;exists v,H',I.call (h':=hh) (g':=g) (d':=d) (t':=t) (ch:=[]) un hok bare λb z=>absurd z D,r,q
end
def ZA14(sp:Sp)(dvs:List V)(E:XK)(t:TA):(TE):=λσ H Q=>t σ H λvs H1=>sp (vs++dvs) H1 Q E
def ZP14(C:Addr)(sp:Sp)(dvs:List V)(E:XK)(t:TA):(TE):=λσ H Q=>t σ H λvs H1=>∀x dx,H1 x=none->H1 dx=none->dx≠x->
 sp (.ref x::(vs++dvs)) (upd (upd H1 dx<|.own x) x<|.ins C dx []) (λv H2=>v=.non/\Q ↑x H2) E
def Binds(K:PySem.W.Q)(fd:FuncData)(ps:List Str)(ds:List Value):(Prop):=
 ∀(s:Shared)(us:List Value),K.In s.o->(us++ds).f=ps.f->BindsTo s fd {us,[]} (ps.zip<|us++ds)
def Binds.all{K:PySem.W.Q}{fd:FuncData}{ps:List Str}(h:∀us:List Value,us.f=ps.f->bindArgs fd {us,[]}=pure (ps.zip us)):Binds K fd ps []:=λs us _ hl=>by rw[YM]at hl ⊢;show .of_eq (h us hl)
def ZI3(CX:CXT)(X:Cx)(E:XK):(Prop):=∀(pins:List (Addr×Obj))(σ:St)(H:Hp)(s:Shared)(e:Value)(s':Shared),Inv X pins σ H s->CX X.stack H s E e s'->X.xe e s'
section
variable{X:Cx}{CX:CXT}{k:Nat}{f C:Addr}{fd:FuncData}{ps:List Str}{sp:Sp}{dvs:List V}{ds:List Value}{E:XK}{x:Str}{p pos:Pos}{e:Expr}{es:List Expr}{t:TA}
def ZM13(F:FnOk X.prog X.w X.K X.mg X.base CX k f fd ps sp)(hr:Room k X.A)(hb:Binds X.K fd ps ds)(hd:Vals dvs ds)(hx:ZI3 CX X E)
  (I:Inv X pins σ H s)(r:Vals vs us)(h:sp (vs++dvs) H Q E):wpAny (model X.prog X.w) X.A (call ↑f us) (EP X pins σ Q) X.xe s:=by
 let r2:Vals (vs++dvs) (us++ds):=r.append hd;let hl:(us++ds).f=ps.f:=by rw[<-r2.f];show F.len _ _ _ _ h
 show Yy40 (Y1v (F.run X.A X.stack s H {us,[]} (us++ds) (vs++dvs) Q E hr I.env0 (hb s us I.kIn hl) r2 h) λr s' hq=>?_);cases r with
 |error e=>show hx pins σ H s e s' I hq
 |ok fl=>
  cases fl with
  |ret u=>show I.after hq
  |next=>show False.elim hq
  |brk=>show False.elim hq
  |cont=>show False.elim hq
def Za12(F:FnOk X.prog X.w X.K X.mg X.base CX k f fd ps sp)(hr:Room k X.A)(hg:Gl X x)(hm:X.mg x=some ↑f)(hk:PySem.W.keepIn X.K ↑f=true)(hb:Binds X.K fd ps ds)(hd:Vals dvs ds)(hx:ZI3 CX X E)
  (ha:PA X (e::es) t)(hdb:(x == ("__debug__":Str))=false:=by decide)(he:starEach (e::es) X.M=(false,eval e X.M)::starEach es X.M:=by rfl)(hpl:(backTo pos<|starEach es X.M).any (·.1)=false:=by rfl):
  PE X (.Call (.Name x p) (e::es) [] pos) (ZA14 sp dvs E t):=by intro pins s σ H Q I h;show Y0O (Zw3 I hg hm ?_ hdb);show Yy36 (h₀:=X.base) I.ok.mod.kin hk (thn (ha pos pins s σ H _ I h) λus s1 ⟨vs,H1,I1,r,q⟩=>{I1.kIn,?_}) he hpl;show ZM13 F hr hb hd hx I1 r q
structure Mk(K:PySem.W.Q)(C f:Addr):Prop where
 makes:PySem.W.makesIn K C=true
 init:PySem.W.findIn K ↑C "__init__"=some (some<|.ref f)
 fn:PySem.W.isFn K ↑f=true
 kp:PySem.W.keepIn K ↑C=true
def Zz110(M:Mk X.K C f)(F:FnOk X.prog X.w X.K X.mg X.base CX k f fd ps sp)(hr:Room (k+1) X.A)(hb:Binds X.K fd ps ds)(hd:Vals dvs ds)
  (hx:ZI3 CX X E)(I:Inv X pins σ H s)(r:Vals vs us)
  (h:∀x dx,H x=none->H dx=none->dx≠x->sp (.ref x::(vs++dvs)) (upd (upd H dx<|.own x) x<|.ins C dx []) (λv H2=>v=.non/\Q ↑x H2) E):
  wpAny (model X.prog X.w) X.A (call ↑C us) (EP X pins σ Q) X.xe s:=by
 let hq:=h ((~~~s)+1) (~~~s) (I.hok.fresh<|Yy15 _) (I.hok.fresh<|Yy8 _) (Yt<|Y0M _);let I2:=Inv.made (C:=C) I
 let r2:Vals (V.ref ((~~~s)+1)::(vs++dvs)) (Value.ref ((~~~s)+1)::(us++ds)):=.cons Z (r.append hd);let hl:(Value.ref ((~~~s)+1)::us++ds).f=ps.f:=by let e:=r2.f;rw[F.len _ _ _ _ hq]at e;show e.symm
 show Yy40 (Zy10 (f:=f) I.kIn M.makes M.init (Y1B.S M.fn) (Y1v (F.run _ X.stack _ _ {Value.ref ((~~~s)+1)::us,[]} (Value.ref ((~~~s)+1)::(us++ds)) _ _ E (hr.make C us [])
  (I2.env0.make C us []) (hb _ (Value.ref ((~~~s)+1)::us) I2.kIn hl) r2 hq) λr s' hq'=>?_))
 cases r with
 |error e=>show hx pins σ _ _ e s' I2 hq'
 |ok fl=>
  cases fl with
  |ret u=>
   let(v,H',I3,rv,ev,q3):=I2.after hq';subst ev;exists rv,{V.ref<|(~~~s)+1,H',I3,Z,q3}
  |next=>show False.elim hq'
  |brk=>show False.elim hq'
  |cont=>show False.elim hq'
def Zl6(M:Mk X.K C f)(F:FnOk X.prog X.w X.K X.mg X.base CX k f fd ps sp)(hr:Room (k+1) X.A)(hg:Gl X x)(hm:X.mg x=some ↑C)(hb:Binds X.K fd ps ds)(hd:Vals dvs ds)(hx:ZI3 CX X E)
  (ha:PA X (e::es) t)(hdb:(x == ("__debug__":Str))=false:=by decide)(he:starEach (e::es) X.M=(false,eval e X.M)::starEach es X.M:=by rfl)(hpl:(backTo pos<|starEach es X.M).any (·.1)=false:=by rfl):
  PE X (.Call (.Name x p) (e::es) [] pos) (ZP14 C sp dvs E t):=by intro pins s σ H Q I h;show Y0O (Zw3 I hg hm ?_ hdb);show Yy36 (h₀:=X.base) I.ok.mod.kin M.kp (thn (ha pos pins s σ H _ I h) λus s1 ⟨vs,H1,I1,r,q⟩=>{I1.kIn,?_}) he hpl;show Zz110 M F hr hb hd hx I1 r q
end
structure FnScope(N P:List Str)(sc:Scope):Prop where
 kind:sc.kind=.function
 co:sc.isCoroutine=false
 gen:sc.isGenerator=false
 nd:N.Nodup
 pre:N.G P.f=P
 par:∀x∈P,sc.names.R x=some .local\/sc.names.R x=some .cell
 nofree:∀y∈sc.names,y.2≠.free
def Zo5{kindOf:Str->Option NameKind}:∀{binds:List (Str×Value)}{m:Str->Option Value},(∀v,(x,v)∉binds)->bindL kindOf binds m x=m x
 |[],_,_=>rfl
 | (n,v)::r,m,h=>by
  unfold bindL;rw[Zo5 λw hw=>h w (Yd _ hw)];split
  ·have:x≠n:=by rintro rfl;show h v Ye
   simp[this]
  ·rfl
def Zq5{kindOf:Str->Option NameKind}:∀{binds:List (Str×Value)}{m:Str->Option Value},(∀v,(x,v)∉binds)->bindC kindOf binds m x=m x
 |[],_,_=>rfl
 | (n,v)::r,m,h=>by
  unfold bindC;rw[Zq5 λw hw=>h w (Yd _ hw)];split
  ·rfl
  ·have:x≠n:=by rintro rfl;show h v Ye
   simp[this]
def Zp5{kindOf:Str->Option NameKind}{x:Str}{v:Value}:∀{P:List Str}{vs:List Value}{i:Nat}{m:Str->Option Value},P.Nodup->P[i]?=some x->vs[i]?=some v->kindOf x=some .local->
  bindL kindOf (P.zip vs) m x=some v
 |[],_,_,_,_,h,_,_=>by simp at h
 |_::_,[],_,_,_,_,h,_=>by simp at h
 |p::P,w::vs,0,m,nd,h1,h2,hk=>by
  simp at h1 h2;subst h1;subst h2;change bindL kindOf ((p,w)::P.zip vs) m p=_
  unfold bindL;rw[Zo5 λv hv=>(Y0I.S nd).1 (Y3D hv).1,if_pos hk];simp
 |p::P,w::vs,i+1,m,nd,h1,h2,hk=>by change bindL kindOf ((p,w)::P.zip vs) m x=_;unfold bindL;show Zp5 (i:=i) (Y0I.S nd).2 (by simpa using h1) (by simpa using h2) hk
def Zr5{kindOf:Str->Option NameKind}{x:Str}{v:Value}:∀{P:List Str}{vs:List Value}{i:Nat}{m:Str->Option Value},P.Nodup->P[i]?=some x->vs[i]?=some v->kindOf x≠some .local->
  bindC kindOf (P.zip vs) m x=some v
 |[],_,_,_,_,h,_,_=>by simp at h
 |_::_,[],_,_,_,_,h,_=>by simp at h
 |p::P,w::vs,0,m,nd,h1,h2,hk=>by
  simp at h1 h2;subst h1;subst h2;change bindC kindOf ((p,w)::P.zip vs) m p=_
  unfold bindC;rw[Zq5 λv hv=>(Y0I.S nd).1 (Y3D hv).1,if_neg hk];simp
 |p::P,w::vs,i+1,m,nd,h1,h2,hk=>by change bindC kindOf ((p,w)::P.zip vs) m x=_;unfold bindC;show Zr5 (i:=i) (Y0I.S nd).2 (by simpa using h1) (by simpa using h2) hk
def start(N:List Str)(vs:List V):(St):=vs.L some++List.Y (N.f-vs.f) none
def cxOf(CX:CXT)(P:Program)(w:World)(K:PySem.W.Q)(mg:Str->Option Value)(base:Heap)(N:List Str)(qual:Str)(scope:Scope)(f:Addr)(cd:Value)(A:Around)(outer:List Env)(s:Shared)(H:Hp)(E:XK):(Cx) where
 prog:=P
 w:=w
 K:=K
 mg:=mg
 base:=base
 A:=A.deeper (envOfC qual scope (~~~s) f cd)
 N:=N
 s₀:=s
 H₀:=H
 env:=envOfC qual scope (~~~s) f cd
 outer:=outer
 stack:=envOfC qual scope (~~~s) f cd::outer
 ex:=[]
 calm:=true
 fn:=λ_=>true
 pn:=[]
 xe:=λe s'=>wpAny (model P w) (A.deeper<|envOfC qual scope (~~~s) f cd) (leaving (envOfC qual scope (~~~s) f cd) e) (λ_ s''=>CX outer H s E e s'') (λe' s''=>CX outer H s E e' s'') s'
def Zv7{sc:Scope}(h:sc.names.R x=some .cell):∃c,(cellsFrom n sc.names []).R x=some c:=by let q:=Yy44 sc.names n [] (.inl h);show Y2r.S q
def Zz58{CX:CXT}{P:Program}{w:World}{K:PySem.W.Q}{mg:Str->Option Value}{base:Heap}{N ps:List Str}{qual:Str}{scope:Scope}{f:Addr}{cd:Value}{A:Around}{outer:List Env}{s s1:Shared}{H:Hp}{E:XK}{us:List Value}{vs:List V}
  (S:FnScope N ps scope)(hd:A.handled=none)(e0:Env0 P w K mg base A outer s H)(hl:vs.f=ps.f)(r:Vals vs us)
  (x:InCallC s (~~~s) (bindL (envOfC qual scope (~~~s) f cd).kindOf (ps.zip us) λ_=>none) (cellsFrom ((~~~s)+1) scope.names []) (bindC (envOfC qual scope (~~~s) f cd).kindOf (ps.zip us) λ_=>none) s1):
  Inv (cxOf CX P w K mg base N qual scope f cd A outer s H E) [] (start N vs) H s1:=by
 let hpl:ps.f<=N.f:=by have:=YI List.f S.pre;rw[Yh]at this;lia
 let(h1,tk,rfl,hk):=x.done;let noA:∀b:Addr,b∉(cxOf CX P w K mg base N qual scope f cd A outer s H E).ex:=λb z=>absurd (show b∈([]:List Addr) from z) D
 show⟨{e0.mod,S.kind,Z,Z,Yy8 _,λy z c h1 h2=>?_,λy hy=>?_,λy c _ h=>?_,λ_=>hd,Around.frames_deeper e0.frames,.inr ⟨Z,Z⟩,λb z=>absurd z<|noA b,e0.bs,e0.bsz,λb _ _=>noA b,λb z=>absurd z<|noA b,e0.funs,e0.frf},
  rfl,e0.bare,Un.kept hk,{_,x.toInCall.ns,λi y v h1 h2 h3=>?_},λy c h=>{_,x.cell y c h},e0.hok.fresh<|Yy8 _,λy c h=>?_,λp hp=>absurd (show p∈([]:List (Addr×Obj)) from hp) D,e0.hok.kept hk,?_⟩
 ·show name_of_addr x.apart (Y1q h1) (Y1q h2)
 ·have hy:scope.names.R y=some .cell\/scope.names.R y=some .free:=hy;rcases hy with hy|hy
  ·show Zv7 hy
  ·show absurd Z (S.nofree _<|Y1q hy)
 ·show Y1x (x.above y c<|Y1q h)
 ·have hi:i<vs.f:=by
   unfold start at h2;cases hi:i<vs.f
   ·show hi
   ·rw[Yj (by simpa using hi)]at h2;rw[Y1K]at h2;split at h2<;>cases h2
  let ha:vs[i]?=some v:=by
   unfold start at h2;rw[Yp (by simpa using hi),Yc]at h2;cases e:vs[i]? with
   |none=>rw[e]at h2;cases h2
   |some a=>rw[e]at h2;cases h2;rfl
  let(u,hu,rv):=r.get ha;let hp:ps[i]?=some y:=by rwa[<-S.pre,Y3V J]
  let ndP:ps.Nodup:=by rw[<-S.pre];show S.nd.sublist (Y0Q _ _)
  exists u,rv,?_;rcases S.par y (Yy9 hp) with k|k
  ·show .inl {k,Zp5 ndP hp hu k}
  ·let(c,e):=Zv7 (n:=(~~~s)+1) k;show .inr {.inl k,c,e,?_};let q:=x.cell y c e
   rwa[Zr5 ndP hp hu (by change scope.names.R y≠_;rw[k];decide)]at q
 ·show e0.hok.fresh (Y1x<|x.above y c<|Y1q h)
 ·unfold start;change _=N.f
  rw[Yy3,Yy7,YL];grind
def ZH14{CX:CXT}{P:Program}{w:World}{K:PySem.W.Q}{mg:Str->Option Value}{base:Heap}{k:Nat}{f:Addr}{name qual:Str}{params:Arguments}{body:List Stmt}{scope:Scope}{dV kV doc pm cdv ct oc:Value}{an od:Option Addr}
  {osl:Array (Option Value)}{N ps:List Str}{sp:Sp}(lk:K.R f=some {oc,od,.func<|PySem.W.fnOf name qual params body scope dV kV doc pm an cdv ct,osl})(hcd:PySem.W.codeIn K cdv qual=true)(S:FnScope N ps scope)
  (len:∀vs H Q E,sp vs H Q E->vs.f=ps.f)
  (hbody:∀(A:Around)(outer:List Env)(s:Shared)(H:Hp)(vs:List V)(Q:VK)(E:XK),Room k (A.deeper<|envOfC qual scope (~~~s) f cdv)->sp vs H Q E->
   ∃t,PSs (cxOf CX P w K mg base N qual scope f cdv A outer s H E) body t/\t {nx:=λ_ H'=>Q .non H',rt:=Q} (start N vs) H):
  FnOk P w K mg base CX (k+1) f (PySem.W.fnOf name qual params body scope dV kV doc pm an cdv ct) ps sp:=by
 exists len,λA outer s H args us vs Q E hr e0 hb r hsp=>?_;let hl:=len _ _ _ _ hsp
 let KX:K.In s.o:=e0.mod.kin.keeps λb o e=>(e0.bs b o e).1;let lim:s.o.NoLimit:=e0.mod.nolimit.keeps λb o e=>(e0.bs b o e).1
 let hkind:∀y∈ps.zip us,scope.names.R y.1=some .local\/(scope.names.R y.1=some .cell/\((cellsFrom ((~~~s)+1) scope.names []).R y.1).isSome=true):=λ⟨n,v⟩ hy=>by
  rcases S.par n (Y3D hy).1 with q|q
  ·show .inl q
  ·show .inr {q,Yy44 _ _ _<|.inl q}
 show codeAny_call_function hr.depth (KX _ _ lk) Z S.co S.gen Z (PySem.W.codeRec_of KX hcd) (hb _ _ _ _ ?_);show wpAny_newFunctionEnv_cells S.kind hkind λenv he s1 x=>?_;subst he;exists lim.keeps x.toInCall.keep,codeAny_func ?_;let(t,ht,hq):=hbody A outer s H vs Q E (hr.deeper _) hsp;let I:Inv (cxOf CX P w K mg base N qual scope f cdv A outer s H E) [] (start N vs) H s1:=Zz58 S hr.hd e0 hl r x
 show Yy16 (ht [] s1 (start N vs) H _ I hq) (λfl s' hs=>?_) λe s' hs=>hs;let fin:∀{σ':St}{H':Hp}{v:V}{u:Value},Inv (cxOf CX P w K mg base N qual scope f cdv A outer s H E) [] σ' H' s'->RelV v u->Q v H'->CE outer P w H s Q u s':=
  λ{σ' H' v u} XY rv q=>⟨v,H',XY.os,XY.bare,XY.base,XY.hok,rv,q⟩
 cases fl with
 |ret u=>
  let(v,σ',H',XY,rv,q):=hs;show fin XY rv q
 |next=>
  let(σ',H',XY,q):=hs;show fin (v:=V.non) (u:=Value.none) XY Z q
 |brk=>
  let(_,_,_,q):=hs;show False.elim q
 |cont=>
  let(_,_,_,q):=hs;show False.elim q
section
variable{X:Cx}{x:Str}{p pos:Pos}{e:Expr}{es:List Expr}{t:TA}{id T:String}{r:List V->Hp->VK->Prop}
def tCB(r:List V->Hp->VK->Prop)(t:TA):(TE):=λσ H Q=>t σ H λvs H1=>r vs H1 Q
def Zf(hc:Zz02 X (.builtin id) r)(hg:Gl X x)(hm:X.mg x=none)(hv:bootBuiltins x=some (.builtin id))(ha:PA X (e::es) t)(hn:x≠"__name__":=by decide)(hdb:(x == ("__debug__":Str))=false:=by decide)
  (he:starEach (e::es) X.M=(false,eval e X.M)::starEach es X.M:=by rfl)(hpl:(backTo pos<|starEach es X.M).any (·.1)=false:=by rfl):PE X (.Call (.Name x p) (e::es) [] pos) (tCB r t):=by intro pins s σ H Q I h;show Y0O (Zz82 I hg hm hv ?_ hn hdb);show Y1U (thn (ha pos pins s σ H _ I h) λus s1 zz=>by let(vs,H1,I1,r1,q1):=zz;show hc pins s1 σ H1 vs us Q I1 r1 q1) he hpl
def Zh(hc:Zz02 X (.type T) r)(hg:Gl X x)(hm:X.mg x=none)(hv:bootBuiltins x=some (.type T))(ha:PA X (e::es) t)(hn:x≠"__name__":=by decide)(hdb:(x == ("__debug__":Str))=false:=by decide)
  (he:starEach (e::es) X.M=(false,eval e X.M)::starEach es X.M:=by rfl)(hpl:(backTo pos<|starEach es X.M).any (·.1)=false:=by rfl):PE X (.Call (.Name x p) (e::es) [] pos) (tCB r t):=by intro pins s σ H Q I h;show Y0O (Zz82 I hg hm hv ?_ hn hdb);show Y0b (thn (ha pos pins s σ H _ I h) λus s1 zz=>by let(vs,H1,I1,r1,q1):=zz;show hc pins s1 σ H1 vs us Q I1 r1 q1) he hpl
end
end L2
namespace HT
open PySem PyProof.Rows
def lexLt:(List Int->List Int->Bool)
 |[],[]=>false
 |[],_::_=>true
 |_::_,[]=>false
 |x::xs,y::ys=>if x=y then lexLt xs ys else decide (x<y)
def lexLt_cons(x y:Int)(xs ys:List Int):lexLt (x::xs) (y::ys)=if x=y then lexLt xs ys else decide (x<y):=rfl
def Zv3:lexLt [] []=false:=rfl
def ZU2(y:Int)(ys:List Int):lexLt [] (y::ys)=true:=rfl
def ZV2(x:Int)(xs:List Int):lexLt (x::xs) []=false:=rfl
def Zz611(A:Around)(s:Shared)(a:Int)(t:Tok)(c:Int)(u:Tok):∃e,SeqAt.EqAt A s (.int a t) (.int c u) e/\(e=true↔a=c):=
 {(a == c),Y3z a t c u,D}
def Zz610(A:Around)(s:Shared)(a:Int)(t:Tok)(c:Int)(u:Tok)(prog:Program)(w:World)(E:Value->Shared->Prop)(Q:Value->Shared->Prop)(h:Q (.bool (decide (a<c))) s):
  wpAny (model prog w) A (richCompare .Lt (.int a t)<|.int c u) Q E s:=
 (PyProof.Rows.lt_int h:wpAny (model prog w) A (compareOp .Lt (.int a t)<|.int c u) Q E s)
section
open PySem.SeqAt
open PySem.AutoSeq1 (wpAny_loadPart')
open PySem.MeetsSeq PySem.MeetsSeq2 PySem.MeetsSeq3
def Zi3(l b:Addr)(items items2:Array Value)(n n2:Nat)(dd dd2:Option Addr)(sl sl2:Array (Option Value))(ns ms:List Int)(hi:IntsAre items.j ns)(hj:IntsAre items2.j ms):
  Meets (Builtin.«tuple.__lt__» {[.ref l,.ref b],[]})
   (λ_ R s=>s.o.E l=some {cls:=.type "tuple",dict:=dd,data:=.seq items n,slots:=sl}/\s.o.E b=some {cls:=.type "tuple",dict:=dd2,data:=.seq items2 n2,slots:=sl2}/\
    R (.ok<|.ret<|.bool<|lexLt ns ms) s):=
 .of_wp λprog w A R s h=>by
  let(hp,g,d,tk,os):=s;let(hl,hb,h):=h;let f2:=AutoSeq1.sub_tuple_tuple
  let z1:items.l=ns.f:=by rw[<-hi.f];simp
  let z2:items2.l=ms.f:=by rw[<-hj.f];simp
  wp_walk using wpAny_loadPart' hl,wpAny_loadPart' hb,wpAny_forIn_list _ (λrest b s'=>b.1=none/\s'=⟨hp,g,d,tk,os⟩/\∃(vs ws:List Value)(ns' ms':List Int),rest=vs.zip ws/\
   IntsAre vs ns'/\IntsAre ws ms'/\ns'.f+items2.l=ms'.f+items.l/\R (.ok<|.ret<|.bool<|lexLt ns' ms') ⟨hp,g,d,tk,os⟩) _
  case turn=>
   rintro⟨y,x⟩ rest b s' ⟨hb',rfl,vs,ws,ns',ms',hz,hvi,hwi,hlen,hR⟩;cases hvi with
   |nil=>rw[List.zip_nil_left]at hz;cases hz
   |cons a t hvi'=>
    cases hwi with
    |nil=>rw[List.zip_nil_right]at hz;cases hz
    |cons c u hwi'=>
     rw[List.zip_cons_cons]at hz;injection hz with hyx hrest
     injection hyx with hy hx;subst hy hx;rw[lexLt_cons]at hR;simp only[Yu]at hlen;let(e,he,hiff):=Zz611 A.in1 ⟨hp,g,d,tk,os⟩ a t c u;show Yy4 (he prog w _ _ ?_);cases e with
     |true=>
      rw[if_pos (hiff.S Z)]at hR
      wp_walk
      exists Z,Z,_,_,_,_,hrest,hvi',hwi',J,hR
     |false=>
      rw[if_neg λq=>absurd (hiff.X q) Ys]at hR;let hri:=Zz610 A.in1 ⟨hp,g,d,tk,os⟩ a t c u prog w
      wp_walk using hri
      exists _,Z,by simpa using hR
  case fin=>
   rintro⟨b1,b2⟩ s' ⟨hb',rfl,vs,ws,ns',ms',hz,hvi,hwi,hlen,hR⟩;simp only at hb';subst hb';let hv:lexLt ns' ms'=decide (items.l<items2.l):=by
    cases hvi with
    |nil=>
     cases hwi with
     |nil=>
      simp only[Y1o]at hlen;rw[Zv3];show(Y0g J).symm
     |cons c u hw=>
      simp only[Y1o,Yu]at hlen;rw[ZU2];show(YY J).symm
    |cons a t hv=>
     cases hwi with
     |nil=>
      simp only[Y1o,Yu]at hlen;rw[ZV2];show(Y0g J).symm
     |cons c u hw=>
      rw[List.zip_cons_cons]at hz;cases hz
   rw[hv]at hR
   wp_walk
   exists _,Z,by simpa[Builtin.Tuple.tupleCompareSizes] using hR
  case h=>
   exists Z,Z,items.j,items2.j,ns,ms,Z,hi,hj,J,h
end
section
variable{prog:Program}{w:World}{A:Around}{E:Value->Shared->Prop}{s:Shared}
def lt_tupInts{Q:Value->Shared->Prop}(hl:IsTup s.o l items)(hb:IsTup s.o b items2)(hi:IntsAre items.j ns)(hj:IntsAre items2.j ms)
  (hu:A.units<cLine)(h:Q (.bool<|lexLt ns ms) s):wpAny (model prog w) A (compareOp .Lt ↑l<|.ref b) Q E s:=by
 let((cls,dd,data,sl),ho,hc,n,hd):=id hl;let((cls2,dd2,data2,sl2),ho2,hc2,n2,hd2):=id hb;simp only at hc hd hc2 hd2;subst hc hd hc2 hd2;show richCompare_meets_room (op:=.Lt) {_,ho,Z} {_,ho2,Z} PySem.F.slot_tuple_lt PySem.F.entry_tuple_lt (PySem.F.args_tuple_lt_2 _ _) (Zi3 l b items items2 n n2 dd dd2 sl sl2 ns ms hi hj)
  {ho,ho2,show Value.bool (lexLt ns ms)≠Value.notImplemented/\Q (.bool<|lexLt ns ms) s from⟨(λx=>nomatch x),h⟩} hu
def cat_tup{vs ws:List Value}{Q:Value->Shared->Prop}(ht:IsTup s.o t vs.t)(hb:IsTup s.o b ws.t)(hv:vs≠[])
  (h1:ws=[]->Q ↑t s)(h2:ws≠[]->Q (.ref (~~~s)) {s with heap:=s.o.push {cls:=.type "tuple",data:=.seq (vs++ws).t} })
  (hsz:vs.f+ws.f<=sizeLine):wpAny (model prog w) A (binaryOp .Add ↑t<|.ref b) Q E s:=by
 let((cls,dd,data,sl),ho,hc,n,hd):=id ht;let((cls2,dd2,data2,sl2),ho2,hc2,n2,hd2):=id hb;simp only at hc hd hc2 hd2;subst hc hd hc2 hd2;let e:vs.t++ws.t=(vs++ws).t:=D
 cases hw:ws=[]
 ·show concat_meets {_,ho,Z} {_,ho2,Z} Yy41 seq_tuple_add Y2K Y2C (Y2q _ _)
   (tuple_addW1 t b vs.t ws.t n n2 dd dd2 sl sl2 (by simpa using hv)<|by simp[hw]) {ho,ho2,h1 hw}
 ·show concat_meets {_,ho,Z} {_,ho2,Z} Yy41 seq_tuple_add Y2K Y2C (Y2q _ _)
   (tuple_addW2 t b vs.t ws.t n n2 dd dd2 sl sl2 (by simpa using hv) (by simpa using hw)<|by rwa[Ya,Ya]) {ho,ho2,?_}
  rw[e];show h2 hw
def sIx(n d:Nat):(Option Int->Nat)
 |none=>d
 |some v=>if v<0 then (v+(n:Int)).i else min v.i n
def sIx_none(n d:Nat):sIx n d none=d:=rfl
end
end HT
namespace L2
open PySem PySem.Spec PyProof.Rows
abbrev TO:=St->Hp->(Option Int->Hp->Prop)->Prop
def PO(X:Cx)(e:Option Expr)(t:TO):(Prop):=
 ∀(pins:List (Addr×Obj))(s:Shared)(σ:St)(H:Hp)(Q:Option Int->Hp->Prop),Inv X pins σ H s->t σ H Q->
  wpAny (model X.prog X.w) X.A (evalPart e X.M) (λu s'=>∃o H',Inv X pins σ H' s'/\IsPart u o/\Q o H') X.xe s
def ZK11:(TO):=λ_ H Q=>Q none H
inductive xPart(x:V)(H1:Hp)(Q:Option Int->Hp->Prop):Prop
 |mk (i:Int) (_:x=.int i) (_:Q (some i) H1)
def ZN14(t:TE):(TO):=λσ H Q=>t σ H λx H1=>xPart x H1 Q
section
variable{X:Cx}{e:Expr}{te:TE}{lo hi:Option Expr}{tl th:TO}{pos p2:Pos}
def Zz42:PO X none ZK11:=by intro pins s σ H Q I h;rw[evalPart_none];show Yi ⟨none,H,I,.none,h⟩
def Zz32(h:PE X e te):PO X (some e) (ZN14 te):=by intro pins s σ H Q I hw;rw[evalPart_some];show thn (h pins s σ H _ I hw) λu s1 hz0=>?_;let(x,H1,I1,r1,q1):=hz0;let(i,rfl,q):=q1;let(t,rfl):=r1;exists some i,H1,I1,.int i t,q
def SlR(X:Cx)(r:V->Option Int->Option Int->Hp->VK->Prop):(Prop):=
 ∀(pins:List (Addr×Obj))(s:Shared)(σ:St)(H:Hp)(x:V)(v vl vu:Value)(lo hi:Option Int)(sl:Addr)(Q:VK),Inv X pins σ H s->RelV x v->s.o.IsSliceOf sl vl vu .none->IsPart vl lo->IsPart vu hi->r x lo hi H Q->
  ∃T id,typeLookup (.type T) "__getitem__"=pure (some<|.builtin id)/\s.TypeIs v T/\wpAny (model X.prog X.w) X.A (getItem v<|.ref sl) (EP X pins σ Q) X.xe s
def tSl(r:V->Option Int->Option Int->Hp->VK->Prop)(te:TE)(tl th:TO):(TE):=λσ H Q=>te σ H λx H1=>tl σ H1 λl H2=>th σ H2 λu H3=>r x l u H3 Q
def Zr1{r:V->Option Int->Option Int->Hp->VK->Prop}(hr:SlR X r)(he:PE X e te)(hl:PO X lo tl)(hu:PO X hi th):PE X (.Subscript e (.Slice lo hi none p2) pos) (tSl r te tl th):=by
 intro pins s σ H Q I h;show Subscript_ (thn (he pins s σ H _ I h) λv s1 hz0=>?_);let(x,H1,I1,r1,q1):=hz0;show wpAny_Slice (thn (hl pins s1 σ H1 _ I1 q1) λvl s2 zz=>?_);let(l,H2,I2,pl,q2):=zz;show thn (hu pins s2 σ H2 _ I2 q2) λvu s3 hz0=>?_;let(u,H3,I3,pu,q3):=hz0;rw[evalPart_none];show Yi ?_;let I4:Inv X pins σ H3 {s3 with heap:=s3.o.push {cls:=.type "slice",data:=.fields #[vl,vu,.none]} }:=I3.kept (t':=s3.toks) λb ob q=>Yy6 _ q
 let(T,id,hT,ht,hg):=hr pins {s3 with heap:=s3.o.push {cls:=.type "slice",data:=.fields #[vl,vu,.none]} } σ H3 x v vl vu l u (~~~s3) Q I4 r1 (Heap.IsSliceOf.new ..) pl pu q3;change wpAny (model X.prog X.w) X.A (subscriptTail e (.Slice lo hi none p2) v<|.ref (~~~s3)) (EP X pins σ Q) X.xe {s3 with heap:=s3.o.push {cls:=.type "slice",data:=.fields #[vl,vu,.none]} }
 show tail_any (ops:=[.ref (~~~s3),v]) ht hT hg (by with_unfolding_all rfl)
def cutV(xs:List V)(lo hi:Option Int):(List V):=(xs.drop<|HT.sIx xs.f 0 lo).G (HT.sIx xs.f xs.f hi-HT.sIx xs.f 0 lo)
def ZY1(xs:List V)(lo hi:Option Int):(cutV xs lo hi).f<=xs.f:=by unfold cutV;rw[Yh,YV];lia
def ZD14(K:PySem.W.Q):(R2):=λx y H Q=>∃a b xs ys,x=.ref a/\y=.ref b/\SqT K H a xs/\SqT K H b ys/\xs≠[]/\xs.f+ys.f<=sizeLine/\
 (ys=[]->Q ↑a H)/\(ys≠[]->∀p,H p=none->Q ↑p (upd H p<|.tup<|xs++ys))
def Vals.nil_iff(r:Vals xs us):us=[]↔xs=[]:=by
 cases r with
 |nil=>simp
 |cons _ _=>simp
def Ze12:OpR X (binaryOp .Add) (ZD14 X.K):=by intro pins s σ H x y v u Q I rx ry h;let(a,b,xs,ys,rfl,rfl,ha,hb,hx,hz,q1,q2):=h;cases rx;cases ry;let(its,r1,p1,_):=I.tuple ha;let(its2,r2,p2,_):=I.tuple hb;show HT.cat_tup p1 p2 (λz=>hx<|r1.nil_iff.S z) (λz=>{.ref a,H,I,Z,q1<|r2.nil_iff.S z}) (λz=>?_) (by rwa[<-r1.f,<-r2.f]);exists .ref (~~~s),_,I.laid (t':=s.toks) (o:=.tup<|xs++ys) (λb ob q=>Yy6 _ q) (Yy8 _) ?_,Z,q2 (λw=>z<|r2.nil_iff.X w) _<|I.hok.fresh<|Yy8 _;exists by rw[Yy3];show hz,_,r1.append r2,IsTup.new _ _
end
def ixN(n:Nat)(i:Int):(Option Nat):=if 0<=i then (if i<n then some i.i else none) else if -(n:Int)<=i then some (i+n).i else none
def atI{α:Type}(xs:List α)(i:Int):(Option α):=(ixN xs.f i).bind λj=>xs[j]?
def Zz49{j:Nat}(h:ixN n i=some j):seqIndex? i n=some j/\j<n/\-(n:Int)<=i/\i<n:=by
 unfold ixN at h;cases h0:0<=i
 ·rw[if_pos h0]at h;cases h1:i<n
  ·rw[if_pos h1]at h;let e:i.i=j:=Yl h
   exists by rw[seqIndex_of h0 h1,e],J,J,h1
  ·rw[if_neg h1]at h;cases h
 ·rw[if_neg h0]at h;cases h1:-(n:Int)<=i
  ·rw[if_pos h1]at h;let e:(i+n).i=j:=Yl h
   exists by rw[seqIndex_neg J h1,e],J,h1,J
  ·rw[if_neg h1]at h;cases h
def Zx9{α:Type}{xs:List α}{i:Int}{v:α}(h:atI xs i=some v):∃j,seqIndex? i xs.f=some j/\xs[j]?=some v/\j<xs.f/\-xs⁻¹<=i/\i<xs.f:=by
 unfold atI at h;cases e:ixN xs.f i with
 |none=>rw[e]at h;cases h
 |some j=>
  rw[e]at h;let(h1,h2,h3,h4):=Zz49 e;exists j,h1,h,h2,h3,h4
def Zg13(b:Expr):(Prop):=∀o i,subscripted b false o i=operate [o,i] (getItem o i)
def IxR(X:Cx)(r:R2):(Prop):=
 ∀(value slice:Expr)(pins:List (Addr×Obj))(s:Shared)(σ:St)(H:Hp)(x y:V)(v u:Value)(Q:VK),Inv X pins σ H s->RelV x v->RelV y u->r x y H Q->
  subscripted slice false v u=operate [v,u] (getItem v u)->wpAny (model X.prog X.w) X.A (subscriptTail value slice v u) (EP X pins σ Q) X.xe s
def MtR(X:Cx)(id:String)(r:V->List V->Hp->VK->Prop):(Prop):=
 ∀(pins:List (Addr×Obj))(s:Shared)(σ:St)(H:Hp)(x:V)(xs:List V)(v:Value)(us:List Value)(Q:VK),Inv X pins σ H s->RelV x v->Vals xs us->r x xs H Q->
  wpAny (model X.prog X.w) X.A (call (.builtin id)<|v::us) (EP X pins σ Q) X.xe s
section
variable{X:Cx}{a b:Expr}{ta tb:TE}{pos:Pos}
def ZH(hr:IxR X r)(ha:PE X a ta)(hb:PE X b tb)(hs:Zg13 b):PE X (.Subscript a b pos) (tOp r ta tb):=by intro pins s σ H Q I h;show Subscript_ (binT ha hb I h λv u s2 x y H2 I2 rx ry q=>hr a b pins s2 σ H2 x y v u Q I2 rx ry q<|hs _ _)
inductive rIxL(K:PySem.W.Q)(x:V)(y:V)(H:Hp)(Q:VK):Prop
 |mk (p xs i v:_) (_:x=.ref p) (_:y=.int i) (_:SqL K H p xs) (_:atI xs i=some v) (_:Q v H)
inductive rIxT(K:PySem.W.Q)(x:V)(y:V)(H:Hp)(Q:VK):Prop
 |mk (p xs i v:_) (_:x=.ref p) (_:y=.int i) (_:SqT K H p xs) (_:atI xs i=some v) (_:Q v H)
def ZC12:IxR X (rIxL X.K):=by
 intro value slice pins s σ H x y v u Q I rx ry h hs;let(p,xs,i,z,rfl,rfl,hq,he,q):=h;cases rx;let(t,rfl):=ry;let(its,r,pl,hz):=I.list hq;let(j,h1,h2,h3,h4,h5):=Zx9 he;let(w,ew,rw'):=r.get h2;let hl:=r.f
 let hn:=ZF6;let fin:EP X pins σ Q w s:=⟨z,H,I,rw',q⟩
 cases h0:0<=i
 ·have hj:i.i=j:=by rw[seqIndex_of h0 h5]at h1;show Yl h1
  show item_listR pl.isList h0 J (by rw[hj];simpa using ew) fin hs
 ·have hj:(i+(its.t.l:Int)).i=j:=by rw[seqIndex_neg J h4]at h1;rw[Ya,<-hl];show Yl h1
  show subscriptTail_builtinR (x:=w) pl.isList.typeIs slot_list_getitem.R
   (wpAny_getItem_list_neg (Q:=λr s'=>r=w/\EP X pins σ Q r s') pl.isList B (by rw[Ya]<;>lia) J (by rw[hj];simpa using ew) ⟨rfl,fin⟩) hs
def Zh14:IxR X (rIxT X.K):=by
 intro value slice pins s σ H x y v u Q I rx ry h hs;let(p,xs,i,z,rfl,rfl,hq,he,q):=h;cases rx;let(t,rfl):=ry;let(its,r,pl,hz):=I.tuple hq;let(j,h1,h2,h3,h4,h5):=Zx9 he;let(w,ew,rw'):=r.get h2;let hl:=r.f
 let hn:=ZF6;let fin:EP X pins σ Q w s:=⟨z,H,I,rw',q⟩
 show subscriptTail_builtinR (x:=w) pl.typeIs slot_tuple_getitem.R
  (getItem_tuple (j:=j) (Q:=λr s'=>r=w/\EP X pins σ Q r s') pl J J (by rwa[Ya,<-hl]) (by simpa using ew) ⟨Z,fin⟩) hs
def Yz6(its:List Value)(n j:Nat)(u:Value):Obj.mapSeq (·.setIfInBounds j u) {cls:=.type "list",data:=.seq its.t n}={cls:=.type "list",data:=.seq (its.set j u).t n}:=by simp[Obj.mapSeq]
def Inv.lst{pins:List (Addr×Obj)}{σ:St}{H:Hp}{s:Shared}{p:Addr}{xs:List V}(I:Inv X pins σ H s)(h:H p=some (.lst xs)):
  ∃(its:List Value)(n:Nat),Vals xs its/\s.o.E p=some {cls:=.type "list",data:=.seq its.t n}/\xs.f<=sizeLine:=by let(z,its,n,r,e):=I.hok p _ h;exists its,n,r,e,z
def Inv.lstUpd{p:Addr}{xs ys:List V}{its its':List Value}{f:Obj->Obj}(I:Inv X pins σ H s)(h:H p=some (.lst xs))
  (ho:s.o.E p=some {cls:=.type "list",data:=.seq its.t n})(hf:f {cls:=.type "list",data:=.seq its.t n}={cls:=.type "list",data:=.seq its'.t n'})(r:Vals ys its')(hz:ys.f<=sizeLine)(t:Nat):
  Inv X pins σ (upd H p<|.lst ys) {s with heap:=s.o.update p f,toks:=t}:=by
 let e:(s.o.update p f).E p=some {cls:=.type "list",data:=.seq its'.t n'}:=by rw[Y0q f ho (by rw[hf]<;>rfl),hf]
 show I.write (x:=p) (e:=p) (by rw[h];trivial) (.inl Z) (λb u hb q=>(Y1g _ _<|Y0f hb).m q) {_,e} ?_;exists hz,its',n',r,e
inductive rSetL(o:V)(i:V)(v:V)(H:Hp)(Q:Hp->Prop):Prop
 |mk (p xs k j:_) (_:o=.ref p) (_:i=.int k) (_:H p=some (.lst xs)) (_:ixN xs.f k=some j) (_:Q (upd H p<|.lst<|xs.set j v))
def Zp1:PSet X rSetL:=by
 intro pins s σ H o i v ov iv u Q I ro ri rv h;let(p,xs,k,j,rfl,rfl,hp,hj,q):=h;cases ro;let(t,rfl):=ri;let(its,n,r,ho,hz):=I.lst hp;let(h1,h2,h3,h4):=Zz49 hj;let hl:=r.f
 let hn:=ZF6;let I':Inv X pins σ (upd H p<|.lst<|xs.set j v) {s with heap:=s.o.update p (Obj.mapSeq (·.setIfInBounds j u))}:=
  I.lstUpd hp ho (Yz6 its n j u) (r.set rv j) (by rwa[Y0J]) s.toks
 cases h0:0<=k
 ·have hk:k.i=j:=by rw[seqIndex_of h0 h4]at h1;show Yl h1
  show PySem.W.ki_setAt ho h0 J (by rwa[Ya,<-hl]) (by rw[hk];exists _,I',q)
 ·have hk:(k+(its.t.l:Int)).i=j:=by rw[seqIndex_neg J h3]at h1;rw[Ya,<-hl];show Yl h1
  show PySem.W.ki_setBack ho B (by rwa[Ya,<-hl]) J (by rw[hk];exists _,I',q)
def ZK14(i:Int)(n:Nat):max 0 (min (if i<0 then i+n else i) n)=((if i<0 then (i+n).i else min i.i n:Nat):Int):=by
 cases h:i<0
 ·rw[if_pos h,if_pos h,Y2T J,Int.ofNat_toNat,Int.max_comm]
 ·let(m,rfl):=Int.eq_ofNat_of_zero_le (Y3r.S h);rw[if_neg h,if_neg h,YB];lia
def ZT3(lo hi:Option Int)(n:Nat):(sliceBounds lo hi none n).1=((HT.sIx n 0 lo:Nat):Int)/\(sliceBounds lo hi none n).2.1=((HT.sIx n n hi:Nat):Int)/\(sliceBounds lo hi none n).2.2=1:=by exists by cases lo<;>first|rfl|show ZK14 _ n,by cases hi<;>first|rfl|show ZK14 _ n,rfl
def Zl3(its:List Value)(lo hi:Option Int):slicePick its.t lo hi none=((its.drop (HT.sIx its.f 0 lo)).G (HT.sIx its.f its.f hi-HT.sIx its.f 0 lo)).t:=by let(h1,h2,h3):=ZT3 lo hi its.t.l;unfold slicePick;rw[h1,h2,h3];simp only[sliceRange_one,pick_run,Ya]<;>rfl
inductive rSlL(K:PySem.W.Q)(x:V)(lo:Option Int)(hi:Option Int)(H:Hp)(Q:VK):Prop
 |mk (a xs:_) (_:x=.ref a) (_:SqL K H a xs) (_:∀p,H p=none->Q ↑p (upd H p<|.lst<|cutV xs lo hi))
def ZP11:SlR X (rSlL X.K):=by
 intro pins s σ H x v vl vu lo hi sl Q I rx hs pl pu h;let(a,xs,rfl,hx,q):=h;cases rx;let(its,r,ht,hz):=I.list hx;let hlen:=r.f
 exists "list",_,slot_list_getitem.R,ht.isList.typeIs,?_;show wpAny_getItem_list_slice ht.isList hs pl pu .none D ?_ (by rw[Ya]<;>lia)
 rw[Zl3,<-hlen];exists .ref (~~~s),_,I.laid (t':=s.toks) (o:=.lst<|cutV xs lo hi) (λb ob q=>Yy6 _ q) (Yy8 _) ?_,Z,q _<|I.hok.fresh<|Yy8 _;exists Yv (ZY1 xs lo hi) hz,_,0,(r.drop<|HT.sIx xs.f 0 lo).G (HT.sIx xs.f xs.f hi-HT.sIx xs.f 0 lo),Yo _ Z
def ZK3:(V->Bool)
 | .non=>true
 | .bl _=>true
 | .int _=>true
 | .str _=>true
 |_=>false
def eqV:(V->V->Bool)
 | .non,.non=>true
 | .bl a,.bl b=>a == b
 | .bl a,.int b=>(if a then 1 else 0) == b
 | .int a,.bl b=>a == (if b then 1 else 0)
 | .int a,.int b=>a == b
 | .str a,.str b=>a == b
 |_,_=>false
def ZU12(ry:RelV y u)(rx:RelV x v)(fy:ZK3 y=true)(fx:ZK3 x=true):SeqAt.EqAt A s u v (eqV y x):=by
 cases y with
 |non=>
  cases ry;cases x with
  |non=>cases rx;show Y3c _
  |bl b=>cases rx;show SeqAt.EqAt.none_bool b
  |int b=>let(t,rfl):=rx;show SeqAt.EqAt.none_int b t
  |str b=>let(t,rfl):=rx;show SeqAt.EqAt.none_str b t
  |_=>show absurd (show false=true from fx) Ys
 |bl a=>
  cases ry;cases x with
  |non=>cases rx;show SeqAt.EqAt.bool_none a
  |bl b=>cases rx;show SeqAt.EqAt.bool_bool a b
  |int b=>let(t,rfl):=rx;show SeqAt.EqAt.bool_int a b t
  |str b=>let(t,rfl):=rx;show SeqAt.EqAt.bool_str a b t
  |_=>show absurd (show false=true from fx) Ys
 |int a=>
  let(t',rfl):=ry;cases x with
  |non=>cases rx;show SeqAt.EqAt.int_none a t'
  |bl b=>cases rx;show SeqAt.EqAt.int_bool a t' b
  |int b=>let(t,rfl):=rx;show Y3z a t' b t
  |str b=>let(t,rfl):=rx;show SeqAt.EqAt.int_str a t' b t
  |_=>show absurd (show false=true from fx) Ys
 |str a=>
  let(t',rfl):=ry;cases x with
  |non=>cases rx;show SeqAt.EqAt.str_none a t'
  |bl b=>cases rx;show SeqAt.EqAt.str_bool a t' b
  |int b=>let(t,rfl):=rx;show SeqAt.EqAt.str_int a t' b t
  |str b=>let(t,rfl):=rx;show SeqAt.EqAt.str_str a t' b t
  |_=>show absurd (show false=true from fx) Ys
 |_=>show absurd (show false=true from fy) Ys
def eqU(x:V)(u:Value):(Bool):=match u with
 | .none=>eqV .non x
 | .bool b=>eqV (.bl b) x
 | .int i _=>eqV (.int i) x
 | .str z _=>eqV (.str z) x
 |_=>false
def ZT12(r:RelV y u)(f:ZK3 y=true):eqU x u=eqV y x:=by
 cases y with
 |non=>cases r;rfl
 |bl b=>cases r;rfl
 |int i=>let(t,rfl):=r;rfl
 |str z=>let(t,rfl):=r;rfl
 |_=>show absurd (show false=true from f) Ys
def Zu5{xs:List V}{us:List Value}(h:Vals xs us)(f:xs.all ZK3=true):us.any (eqU x)=xs.any λy=>eqV y x:=by
 induction h with
 |nil=>rfl
 |cons r t ih=>
  rw[List.all_cons,Yy10]at f;rw[Y2N,Y2N,ZT12 r f.1,ih f.2]
def Zo2(rx:RelV x v)(fx:ZK3 x=true){xs:List V}{us:List Value}(h:Vals xs us)(f:xs.all ZK3=true):∀u∈us,SeqAt.EqAt A s u v (eqU x u):=by
 induction h with
 |nil=>intro u hu;cases hu
 |cons r t ih=>
  intro u' hu;rw[List.all_cons,Yy10]at f;rcases Yf.S hu with rfl|hu
  ·rw[ZT12 r f.1];show ZU12 r rx f.1 fx
  ·show ih f.2 u' hu
def inV(x:V)(xs:List V):(Bool):=xs.any λy=>eqV y x
def rIn(K:PySem.W.Q)(neg:Bool):(R2):=λx y H Q=>∃p xs,y=.ref p/\(SqL K H p xs\/SqT K H p xs)/\ZK3 x=true/\xs.all ZK3=true/\Q (.bl<|if neg then !inV x xs else inV x xs) H
def ZS7:OpR X (compareOp .In) (rIn X.K false):=by
 intro pins s σ H x y v u Q I rx ry h;let(p,xs,rfl,hq,fx,fs,q):=h;cases ry;rcases hq with hq|hq
 ·let(its,r,pl,hz):=I.list hq;show SeqAt.in_listAt (eqU x) pl.isList (λw hw=>Zo2 rx fx r fs w<|by simpa using hw) ⟨.bl _,H,I,Z,?_⟩;rwa[show its.t.any (eqU x)=its.any (eqU x) by simp,Zu5 r fs]
 ·let(its,r,pl,hz):=I.tuple hq;show SeqAt.in_tupleAt (eqU x) pl (λw hw=>Zo2 rx fx r fs w<|by simpa using hw) ⟨.bl _,H,I,Z,?_⟩;rwa[show its.t.any (eqU x)=its.any (eqU x) by simp,Zu5 r fs]
def Zz14:OpR X (compareOp .NotIn) (rIn X.K true):=by
 intro pins s σ H x y v u Q I rx ry h;let(p,xs,rfl,hq,fx,fs,q):=h;cases ry;rcases hq with hq|hq
 ·let(its,r,pl,hz):=I.list hq;show SeqAt.notIn_listAt (eqU x) pl.isList (λw hw=>Zo2 rx fx r fs w<|by simpa using hw) ⟨.bl _,H,I,Z,?_⟩;rwa[show its.t.any (eqU x)=its.any (eqU x) by simp,Zu5 r fs]
 ·let(its,r,pl,hz):=I.tuple hq;show SeqAt.notIn_tupleAt (eqU x) pl (λw hw=>Zo2 rx fx r fs w<|by simpa using hw) ⟨.bl _,H,I,Z,?_⟩;rwa[show its.t.any (eqU x)=its.any (eqU x) by simp,Zu5 r fs]
inductive yR0(K:PySem.W.Q)(xs:List V)(H:Hp)(Q:VK):Prop
 |mk (p ys:_) (_:xs=[.ref p]) (_:(SqL K H p ys\/SqT K H p ys)) (_:Q (.int ys.f) H)
def Zj4:Zz02 X (.builtin "len") (yR0 X.K):=by
 intro pins s σ H xs us Q I r h;let(p,ys,rfl,hq,q):=h;let(u,rfl,rx):=ZK2 r;cases rx;let hn:=ZF6
 rcases hq with hq|hq
 ·let(its,r',pl,hz):=I.list hq;let hlen:=r'.f
  show Calls.call_len_list pl.isList (by simp only[Ya]<;>lia) {.int ys.f,H,I.tok _,{s.toks+1,by rw[Ya,hlen]},q}
 ·let(its,r',pl,hz):=I.tuple hq;let hlen:=r'.f
  show len_tuple pl (by simp only[Ya]<;>omega) {.int ys.f,H,I.tok _,{s.toks+1,by rw[Ya,hlen]},q}
def Zi4:Zz02 X (.type "list") (λxs H Q=>∃p ys,xs=[.ref p]/\(SqL X.K H p ys\/SqT X.K H p ys)/\∀l,H l=none->Q ↑l (upd H l (.lst ys))):=by
 intro pins s σ H xs us Q I r h;let(p,ys,rfl,hq,q):=h;let(u,rfl,rx):=ZK2 r;cases rx;let fin:∀(its:List Value),Vals ys its->ys.f<=sizeLine->∀(h':Heap)(c':Nat),(∀b o',s.o.E b=some o'->h'.E b=some o')->
   h'.E (~~~s)=some {cls:=.type "list",dict:=none,data:=.seq its.t c',slots:=#[]}->EP X pins σ Q (.ref (~~~s)) {s with heap:=h'}:=λits r' hz h' c' kp e=>
  {.ref (~~~s),_,I.laid (t':=s.toks) kp (Yy8 _)<|show ObjOk X.prog X.w _ h' _ (.lst ys) from⟨hz,its,c',r',e⟩,Z,q _<|I.hok.fresh<|Yy8 _}
 rcases hq with hq|hq
 ·let(its,r',pl,hz):=I.list hq;let hlen:=r'.f
  let(o,ho,hc,n,hd):=pl.isList;show call_list_seq p (.inl rfl) ho hc hd (λh' c' kp e=>fin its r' hz h' c' kp e) (by simp only[Ya]<;>omega)
 ·let(its,r',pl,hz):=I.tuple hq;let hlen:=r'.f
  let(o,ho,hc,n,hd):=pl;show call_list_seq p (.inr rfl) ho hc hd (λh' c' kp e=>fin its r' hz h' c' kp e) (by simp only[Ya]<;>omega)
def ZB3:Zz02 X (.type "tuple") (λxs H Q=>∃p ys,xs=[.ref p]/\((SqL X.K H p ys/\∀l,H l=none->Q ↑l (upd H l (.tup ys)))\/(SqT X.K H p ys/\Q ↑p H))):=by
 intro pins s σ H xs us Q I r h;let(p,ys,rfl,h):=h;let(u,rfl,rx):=ZK2 r;cases rx;rcases h with ⟨hq,q⟩|⟨hq,q⟩
 ·let(its,r',pl,hz):=I.list hq;let hlen:=r'.f
  show call_tuple_list pl.isList (λh' kp=>?_) (by simp only[Ya]<;>omega)
  let I1:Inv X pins σ H {s with heap:=h'}:=I.kept (t':=s.toks) kp;let I2:Inv X pins σ (upd H h'.objs.l<|.tup ys) {s with heap:=h'.push {cls:=.type "tuple",data:=.seq its.t} }:=
   I1.laid (t':=s.toks) (λb o e=>Yy6 _ e) (Yy8 _) (show ObjOk X.prog X.w _ _ _ (.tup ys) from{hz,its,r',IsTup.new _ _})
  exists .ref h'.objs.l,_,I2,Z,q _<|I1.hok.fresh<|Yy8 _
 ·let(its,r',pl,hz):=I.tuple hq;show call_tuple_same pl {.ref p,H,I,Z,q}
def tyV(K:PySem.W.Q)(T:String)(x:V)(H:Hp):(Prop):=match x with
 | .str _=>T="str"
 | .int _=>T="int"
 | .ref p=>(T="list"/\∃xs,SqL K H p xs)\/(T="tuple"/\∃o,K.R p=some o/\o.cls=.type "tuple"/\o.dict=none)\/
   (T="dict"/\((∃kvs,H p=some (.dK kvs))\/∃kvs,H p=some (.dT kvs)))\/(T="set"/\∃S n,H p=some (.set S n))
 |_=>False
def ZF11(I:Inv X pins σ H s)(r:RelV x v)(ty:tyV X.K T x H):
  s.TypeIs v T/\∀a,v=.ref a->∃ob,s.o.E a=some ob/\ob.dict=none:=by
 cases x with
 |str z=>
  let(t,rfl):=r;cases (show T="str" from ty);exists typeIs_str s z t,λ_ e=>nomatch e
 |int i=>
  let(t,rfl):=r;cases (show T="int" from ty);exists typeIs_int s i t,λ_ e=>nomatch e
 |ref p=>
  cases r;rcases ty with ⟨rfl,xs,hq⟩|⟨rfl,o,hk,hc,hd⟩|⟨rfl,hk⟩|⟨rfl,S,n,hk⟩
  ·let(its,_,pl,_):=I.list hq;exists pl.isList.typeIs,λa e=>?_;cases e;let(o,n,e,c,hd,_):=pl;exists o,e,hd
  ·exists {o,I.kIn p o hk,hc},λa e=>?_;cases e;exists o,I.kIn _ o hk,hd
  ·have z:∃o,s.o.E p=some o/\o.ExactDict:=by
    rcases hk with ⟨kvs,hk⟩|⟨kvs,hk⟩
    ·let(_,_,_,_,o,_,_,e,ex,_):=I.hok p _ hk;exists o,e,ex
    ·let(_,_,_,_,o,_,_,e,ex,_):=I.hok p _ hk;exists o,e,ex
   let(o,e,ex):=z;exists ⟨o,e,ex.1⟩,λa e2=>?_;cases e2;exists o,e,ex.2.1
  ·let(o,_,_,_,e,ex,_):=I.hok p _ hk;exists ⟨o,e,ex.1⟩,λa e2=>?_;cases e2;exists o,e,ex.2.1
 |_=>show False.elim ty
def tBM0(K:PySem.W.Q)(T:String)(r:V->List V->Hp->VK->Prop)(to:TE):(TE):=λσ H Q=>to σ H λx H1=>tyV K T x H1/\r x [] H1 Q
def tBM(K:PySem.W.Q)(T:String)(r:V->List V->Hp->VK->Prop)(to:TE)(t:TA):(TE):=λσ H Q=>to σ H λx H1=>tyV K T x H1/\t σ H1 λxs H2=>r x xs H2 Q
variable{o e:Expr}{es:List Expr}{to:TE}{t:TA}{name:Str}{apos cpos:Pos}{T id:String}{r:V->List V->Hp->VK->Prop}
def ZZ13(pa:PlainAttrs T)(slot:Slot T name id)(hty:typeOf (.builtin id)=pure (.type "method_descriptor"))(hm:MtR X id r)(ho:PE X o to)
  (hbase:attributeBase o name X.M (eval o X.M)=eval o X.M:=by rfl)(hline:(apos.endLine == cpos.line)=true:=by rfl):PE X (.Call (.Attribute o name apos) [] [] cpos) (tBM0 X.K T r to):=by intro pins s σ H Q I h;show wpAny_Call_method0_late hbase hline (thn (ho pins s σ H _ I h) λv s1 hz0=>?_);let(x,H1,I1,r1,ty,q1):=hz0;let(h1,h2):=ZF11 I1 r1 ty;exists T,id,pa,slot,hty,h1,h2,Calls.callWith_builtin Z<|PySem.evalArgs_none<|hm pins s1 σ H1 x [] v [] Q I1 r1 .nil q1
def ZY14(pa:PlainAttrs T)(slot:Slot T name id)(hty:typeOf (.builtin id)=pure (.type "method_descriptor"))(hm:MtR X id r)(ho:PE X o to)(ha:PA X (e::es) t)
  (hbase:attributeBase o name X.M (eval o X.M)=eval o X.M:=by rfl)
  (hfew:((backTo cpos<|starEach (e::es) X.M).all (λx=>!x.1)&&(backToKw cpos<|keywordEach [] X.M).all (λx=>x.1.isSome)
   && decide ((e::es).f+([]:List Keyword).f+(if ([]:List Keyword).isEmpty then 0 else 1)<30))=true:=by rfl)
  (hline:(apos.endLine == cpos.line)=true:=by rfl)(hs:starEach (e::es) X.M=(false,eval e X.M)::starEach es X.M:=by rfl)(hplain:(backTo cpos<|starEach es X.M).any (·.1)=false:=by rfl):
  PE X (.Call (.Attribute o name apos) (e::es) [] cpos) (tBM X.K T r to t):=by
 intro pins s σ H Q I h;show wpAny_Call_method_late hbase hfew hline Z (thn (ho pins s σ H _ I h) λv s1 hz0=>?_);let(x,H1,I1,r1,ty,q1):=hz0;let(h1,h2):=ZF11 I1 r1 ty;exists T,id,pa,slot,hty,h1,h2,?_;let hA:=ha cpos pins s1 σ H1 _ I1 q1
 rw[hs]at hA ⊢;show Calls.callWith_builtin (by change(false||(backTo cpos<|starEach es X.M).any (·.1))=false;rw[hplain]<;>rfl) (Calls.evalArgs_plain ?_)
 show thn hA λus s2 zz=>by let(vs,H2,I2,r2,q2):=zz;show hm pins s2 σ H2 x vs v us Q I2 r1 r2 q2
end
def MtM(X:Cx)(id:String)(r:V->List V->Hp->VK->Prop):(Prop):=
 ∀(pins:List (Addr×Obj))(s:Shared)(σ:St)(H:Hp)(x:V)(xs:List V)(v:Value)(us:List Value)(Q:VK),Inv X pins σ H s->RelV x v->Vals xs us->r x xs H Q->
  wpAny (model X.prog X.w) X.A (call (.builtin id)<|v::us) (EP X pins σ Q) X.xe s
def Vals.one{x:V}{us:List Value}(r:Vals [x] us):∃u,us=[u]/\RelV x u:=by
 cases r with
 |cons a r=>cases r;exists _,Z,a
def Vals.zero:∀{us:List Value},Vals [] us->us=[]
 |_,.nil=>rfl
def Vals.eraseIdx{xs:List V}{us:List Value}(i:Nat)(h:Vals xs us):Vals (xs.eraseIdx i) (us.eraseIdx i):=by
 induction h generalizing i with
 |nil=>show .nil
 |cons r t ih=>
  cases i with
  |zero=>show t
  |succ i=>show .cons r (ih i)
def Vals.rep(h:Vals xs us):∀k:Nat,Vals (List.Y k xs).flatten (List.Y k us).flatten
 |0=>.nil
 |k+1=>by rw[Yy18,Yy18,Y0S,Y0S];show Vals.append h (Vals.rep h k)
def ZS4{α:Type}:∀(l:List α)(i:Nat),(l.eraseIdx i).f<=l.f
 |[],_=>Yy8 _
 |_::_,0=>Yy15 _
 |_::r,i+1=>Nat.succ_le_succ (ZS4 r i)
def Zz35(its:List Value):∀(k:Nat)(acc:List Value),
  List.foldl (λx1 x2=>x1++x2) acc.t (List.Y k its.t)=(acc++(List.Y k its).flatten).t
 |0,acc=>D
 |k+1,acc=>by
  let e:acc.t++its.t=(acc++its).t:=D;let e2:(acc++its)++(List.Y k its).flatten=acc++(List.Y (k+1) its).flatten:=by rw[Yy18,Y0S,Yw]
  rw[<-e2,<-Zz35 its k (acc++its),<-e,Yy18,Y2i]
section
variable{X:Cx}{pins:List (Addr×Obj)}{σ:St}{H:Hp}{s:Shared}{l:Addr}{xs ys:List V}
def Inv.lset{its its':List Value}{f:Array Value->Array Value}{t':Nat}(I:Inv X pins σ H s)(hH:H l=some (.lst xs))
  (e:s.o.E l=some {cls:=.type "list",data:=.seq its.t n})(hf:f its.t=its'.t)(hv:Vals ys its')(hz:ys.f<=sizeLine):
  Inv X pins σ (upd H l<|.lst ys) {s with heap:=s.o.update l<|Obj.mapSeq f,toks:=t'}:=by let q:=PySem.IsL.update e f;rw[hf]at q;show I.write (x:=l) (e:=l) (by rw[hH];show trivial) (.inl Z) (λb' u hb hu=>(Y1g s.o (Obj.mapSeq f)<|Y0f hb).m hu) {_,q} ?_;exists hz,its',_,hv,q
def Inv.lnew{t':Nat}(I:Inv X pins σ H s)(hv:Vals ys its)(hz:ys.f<=sizeLine):
  Inv X pins σ (upd H (~~~s)<|.lst ys) {s with heap:=s.o.push {cls:=.type "list",data:=.seq its.t},toks:=t'}:=
 I.laid (λ_ _ q=>Yy6 _ q) (Yy8 _) {hz,its,0,hv,Yo _ Z}
def Inv.fresh(I:Inv X pins σ H s):H (~~~s)=none:=I.hok.fresh (Yy8 _)
def Inv.lstM(I:Inv X pins σ H s)(hH:H l=some (.lst xs)):xs.f<=sizeLine/\∃(its:List Value)(n:Nat),Vals xs its/\xs.f=its.f/\s.o.E l=some {cls:=.type "list",data:=.seq its.t n}:=by let(z,its,n,r,e):=I.hok l _ hH;exists z,its,n,r,r.f,e
def Zt6(h:n<=sizeLine):Builtin.List.listTooLong n=false:=by unfold Builtin.List.listTooLong;show Y0g J
end
section
variable{X:Cx}
inductive rAppend(x:V)(vs:List V)(H:Hp)(Q:VK):Prop
 |mk (l xs y:_) (_:x=.ref l) (_:vs=[y]) (_:H l=some (.lst xs)) (_:xs.f<sizeLine) (_:Q .non (upd H l<|.lst<|xs++[y]))
def ZY:MtM X "list.append" rAppend:=by intro pins s σ H x vs v us Q I rx rv h;let(l,xs,y,rfl,rfl,hH,hz,q):=h;cases rx;let(u,rfl,ru):=rv.one;let(z,its,n,r,hl,e):=I.lstM hH;show Yy35 F.slot_list_append {_,e,Z} F.entry_list_append (F.args_list_append_2 _ _) (PySem.list_append l its.t n u<|by rw[Ya];lia) {e,?_};exists .non,_,I.lset (its':=its++[u]) hH e D (r.append<|.cons ru .nil) ?_,Z,q;rw[Yy3,YX];lia
def Zz312:(V->List V->Hp->VK->Prop):=λx vs H Q=>∃l b xs zs,x=.ref l/\vs=[.ref b]/\H l=some (.lst xs)/\H b=some (.lst zs)/\xs.f+zs.f<=sizeLine/\Q .non (upd H l<|.lst<|xs++zs)
def ZO4:MtM X "list.extend" Zz312:=by
 intro pins s σ H x vs v us Q I rx rv h;let(l,b,xs,zs,rfl,rfl,hH,hB,hz,q):=h;cases rx;let(u,rfl,ru):=rv.one;cases ru;let(z,its,n,r,hl,e):=I.lstM hH;let(z2,its2,n2,r2,hl2,e2):=I.lstM hB;let hsz:its.t.l+its2.t.l<=sizeLine:=by rw[Ya,Ya];grind
 let hlong:¬(!its.t.isEmpty&&Builtin.List.listTooLong (its.t.l+its2.t.l))=true:=by rw[Zt6 hsz,Bool.and_false];show Ys
 show Yy35 F.slot_list_extend {_,e,Z} F.entry_list_extend (F.args_list_extend_2 _ _)
  (AutoSeq1.list_extend_list_list_0 l its.t n b its2.t n2 hlong (by rw[Ya];grind) J) {e,e2,?_}
 exists .non,_,I.lset (its':=its++its2) hH e D (r.append r2) ?_,Z,q;rw[Yy3];lia
def ZP13:(V->List V->Hp->VK->Prop):=λx vs H Q=>∃l xs i k y,x=.ref l/\vs=[.int i]/\H l=some (.lst xs)/\-(2^63)<=i/\i<2^63/\seqIndex? i xs.f=some k/\xs[k]?=some y/\Q y (upd H l<|.lst<|xs.eraseIdx k)
def Zr10:MtM X "list.pop" ZP13:=by
 intro pins s σ H x vs v us Q I rx rv h;let(l,xs,i,k,y,rfl,rfl,hH,h1,h2,hk,hy,q):=h;cases rx;let(u,rfl,ru):=rv.one;let(t,rfl):=ru;let(z,its,n,r,hl,e):=I.lstM hH;let(w,hw,rw'):=r.get hy;show Yy35 F.slot_list_pop {_,e,Z} F.entry_list_pop (F.args_list_pop_2 _ _)
  (MeetsSeq.list_pop_at l its.t n i t k w (fitsIndex_both h1 h2) (by rwa[Ya,<-hl]) (by rwa[<-YJ])<|by rw[Ya];lia) {e,?_}
 exists y,_,I.lset (its':=its.eraseIdx k) hH e ?_ (r.eraseIdx k) ?_,rw',q
 ·show its.t.eraseIdxIfInBounds k=(its.eraseIdx k).t;rw[List.eraseIdxIfInBounds_toArray]
 ·have:=ZS4 xs k
  lia
def ZR13:(V->List V->Hp->VK->Prop):=λx vs H Q=>∃l xs,x=.ref l/\vs=[]/\H l=some (.lst xs)/\Q .non (upd H l<|.lst [])
def Zs10:MtM X "list.clear" ZR13:=by
 intro pins s σ H x vs v us Q I rx rv h;let(l,xs,rfl,rfl,hH,q):=h;cases rx;let hus:=rv.zero
 subst hus;let(z,its,n,r,hl,e):=I.lstM hH;show Yy35 F.slot_list_clear {_,e,Z} F.entry_list_clear (F.args_list_clear_1 _) (AutoSeq1.list_clear_list_0 l its.t n<|by rw[Ya];omega) {e,?_};exists .non,_,I.lset (its':=[]) (ys:=[]) hH e Z .nil<|Yk _,Z,q
inductive rCat(x:V)(y:V)(H:Hp)(Q:VK):Prop
 |mk (l b xs zs:_) (_:x=.ref l) (_:y=.ref b) (_:H l=some (.lst xs)) (_:H b=some (.lst zs)) (_:xs.f+zs.f<=sizeLine) (_:∀p,H p=none->Q ↑p (upd H p<|.lst<|xs++zs))
def ZT7:OpR X (binaryOp .Add) rCat:=by
 intro pins s σ H x y v u Q I rx ry h;let(l,b,xs,zs,rfl,rfl,hH,hB,hz,q):=h;cases rx;cases ry;let(z,its,n,r,hl,e):=I.lstM hH;let(z2,its2,n2,r2,hl2,e2):=I.lstM hB;show PySem.P.add_list e e2 ?_ (by rw[Ya,Ya];omega);let ea:its.t++its2.t=(its++its2).t:=D
 rw[ea];exists .ref _,_,I.lnew (t':=s.toks) (r.append r2) (by rw[Yy3];omega),Z,q _ I.fresh
def rRep:(R2):=λx y H Q=>∃l k xs,x=.ref l/\y=.int k/\H l=some (.lst xs)/\-(2^63)<=k/\k<2^63/\xs.f*k.i<=sizeLine/\
 ∀p,H p=none->Q ↑p (upd H p<|.lst (List.Y k.i xs).flatten)
def Zw12{α:Type}(xs:List α)(k:Nat):(List.Y k xs).flatten.f=k*xs.f:=by
 induction k with
 |zero=>simp
 |succ k ih=>rw[Yy18,Y0S,Yy3,ih,Y3m,Nat.add_comm]
def Zc12:OpR X (binaryOp .Mult) rRep:=by
 intro pins s σ H x y v u Q I rx ry h;let(l,k,xs,rfl,rfl,hH,h1,h2,hz,q):=h;cases rx;let(t,rfl):=ry;let(z,its,n,r,hl,e):=I.lstM hH;let hlen:its.t.l*k.i<=sizeLine:=by rwa[Ya,<-hl]
 let hcap:¬its.t.l*k.i>(2^63-1)/8:=by
  have:(sizeLine:Nat)<=(2^63-1)/8:=XU
  grind
 let hfit:¬(!Builtin.List.listFitsIndex k)=true:=by rw[fitsIndex_both h1 h2];show Ys
 let hlong:¬Builtin.List.listTooLong (its.t.l*k.i)=true:=by rw[Zt6 hlen];show Ys
 let hnew:List.foldl (λx1 x2=>x1++x2) #[] (List.Y (if its.t.isEmpty=true then 0 else k.i) its.t)=(List.Y k.i its).flatten.t:=by
  let f0:∀m:Nat,List.foldl (λx1 x2=>x1++x2) #[] (List.Y m its.t)=(List.Y m its).flatten.t:=λm=>by
   have:=Zz35 its m []
   rwa[Y1b]at this
  rw[f0];cases its with
  |nil=>simp
  |cons a r'=>rw[if_neg D]
 show wpAny_binaryOp_repeat_ref (T:="list") (U:="int") XU {_,e,Z} (λs'=>typeIs_int s' k t) noFill_list_mul F.fills_int_mul F.slot_int_rmul repeat_list F.slot_int_index.R
  (Yy35 F.slot_int_rmul (typeIs_int s k t) F.entry_int_rmul (F.args_int_rmul_2 _ _) (int___rmul___int_list k t l its.t n)
   {e,Z,{_,e,Z},Yy35 F.slot_list_mul {_,e,Z} F.entry_list_mul (F.args_list_mul_2 _ _) (AutoListH.list___mul___list_int_3 l its.t n k t hfit hcap hlong) {e,?_}})
 rw[hnew];exists .ref _,_,I.lnew (t':=s.toks) (r.rep k.i) (by rwa[Zw12,Y2W]),Z,q _ I.fresh
end
section
variable{κ:Type}[DecidableEq κ]
def valV(kvs:List (κ×V))(k:κ):(Option V):=(kvs.find? λkv=>decide<|kv.1=k).L (·.2)
def putK(kvs:List (κ×V))(k:κ)(v:V):(List (κ×V)):=
 if (kvs.any λkv=>decide<|kv.1=k)=true then kvs.L (λkv=>if kv.1=k then (kv.1,v) else kv) else kvs++[(k,v)]
def ZM3{p:κ×V}{r:List (κ×V)}(e:p.1=k):valV (p::r) k=some p.2:=by simp[valV,Y2S,e]
def ZN3{p:κ×V}(e:¬p.1=k):valV (p::r) k=valV r k:=by simp[valV,Y2S,e]
def ZV5(k:κ):∀kvs:List (κ×V),(kvs.any λkv=>decide (kv.1=k))=(valV kvs k).isSome
 |[]=>rfl
 |p::r=>by
  rw[Y2N];cases e:p.1=k
  ·simp only[ZM3 e,YY e,Bool.true_or,Option.isSome_some]
  ·rw[ZN3 e,Y0g e,Bool.false_or];show ZV5 k r
def ZH5(kvs:List (κ×V))(k:κ)(v:V):(putK kvs k v).f<=kvs.f+1:=by
 unfold putK;split
 ·rw[Yy7];lia
 ·rw[Yy3,Yu,Y1o];lia
def Zz910{kvs:List (κ×V)}{k:κ}(v:V)(h:valV kvs k=none):putK kvs k v=kvs++[(k,v)]:=by unfold putK;rw[ZV5,h];show if_neg XU
def KV.val(r:KV kvs vs)(k:κ):RelO (valV kvs k) (valueAt vs k):=by
 unfold KV at r
 induction r with
 |nil=>show True.intro
 |@cons p q ps qs h t ih=>
  let(h1,h2):=h;cases e:p.1=k
  ·have e':q.1=k:=h1.symm.m e;let b:valueAt (q::qs) k=some q.2:=by simp[valueAt,Y2S,e']
   rwa[ZM3 e,b]
  ·have e':¬q.1=k:=λz=>e (h1.m z);let b:valueAt (q::qs) k=valueAt qs k:=by simp[valueAt,Y2S,e']
   rwa[ZN3 e,b]
def KV.any(r:KV kvs vs)(k:κ):(kvs.any λkv=>decide (kv.1=k))=vs.any λkv=>decide (kv.1=k):=by
 unfold KV at r
 induction r with
 |nil=>rfl
 |cons h t ih=>rw[Y2N,Y2N,ih,h.1]
def KV.repl(r:KV kvs vs)(k:κ)(ry:RelV y u):
  KV (kvs.L λkv=>if kv.1=k then (kv.1,y) else kv) (vs.L λkv=>if kv.1=k then (kv.1,u) else kv):=by
 unfold KV at r ⊢
 induction r with
 |nil=>show .nil
 |@cons p q ps qs h t ih=>
  rw[Yy01,Yy01];show .cons ?_ ih;let(h1,h2):=h;cases e:p.1=k
  ·rw[if_pos e,if_pos (h1.symm.m e)];exists h1,ry
  ·rw[if_neg e,if_neg λz=>e (h1.m z)];exists h1,h2
def KV.put(r:KV kvs vs)(k:κ)(ry:RelV y u):KV (putK kvs k y) (stored vs k u):=by
 unfold putK stored;rw[r.any k];cases e:(vs.any λkv=>decide<|kv.1=k)=true
 ·rw[if_pos e,if_pos e];show r.repl k ry
 ·rw[if_neg e,if_neg e];show Paired.snoc r ⟨Z,ry⟩
def KV.length{kvs:List (κ×V)}{vs:List (κ×Value)}(r:KV kvs vs):kvs.f=vs.f:=Paired.f r
end
def Zz715(r:RelV (kV k) u):(Zf1 P w).is k u=true:=by
 cases k with
 |inl i=>let(t,e):=(show ∃t,u=Value.int i t from r);subst e;show ZG5 P w i t
 |inr x=>let(t,e):=(show ∃t,u=Value.str x t from r);subst e;show ZF5 P w x t
section
variable{P:Program}{w:World}{H:Hp}{h:Heap}{a:Addr}
def ZU14(ok:HOk P w H h)(e:Rd H a u):ObjOk P w H h a u:=e.ok ok
def Zg15(ok:HOk P w H h)(e:Rd H a (.dK kvs)):kvs.f<=sizeLine/\(a == sysModules)=false/\∃vs,KV kvs vs/\h.DictOf (Zf1 P w) a vs:=
 show ObjOk P w H h a (.dK kvs) from ZU14 ok e
def Zp14(ok:HOk P w H h)(e:H a=some (.dK kvs)):kvs.f<=sizeLine/\(a == sysModules)=false/\∃vs,KV kvs vs/\h.DictOf (Zf1 P w) a vs:=Zg15 ok (.inl e)
end
section
variable{X:Cx}{pins:List (Addr×Obj)}{σ:St}{H:Hp}{s:Shared}{a:Addr}
def Inv.big(I:Inv X pins σ H s):sysModules<(~~~s):=by let h:mainGlobals<(~~~s):=(I.mod.glob.keeps I.bk).lt;show Nat.lt_trans XU h
def Zz113{t':Nat}(I:Inv X pins σ H s)(mu:Mut (H a))(hs:Heap.SameBut a s.o h')(he:∃q,h'.E a=some q)(new:ObjOk X.prog X.w (upd H a ob) h' a ob):
  Inv X pins σ (upd H a ob) {s with heap:=h',toks:=t'}:=
 I.write (x:=a) (e:=a) mu (.inl Z) (λb q hb z=>(hs.2 b hb).m z) he new
def Zq14(z:kvs.f<=sizeLine)(hd:(a == sysModules)=false)(rel:KV kvs vs)(dd:h'.DictOf (Zf1 P w) a vs):
  ObjOk P w H' h' a (.dK kvs):=⟨z,hd,vs,rel,dd⟩
end
def Zz811(h:Heap)(hb:sysModules<h.objs.l):ObjOk P w H (h.push {cls:=.type "dict",data:=.dict #[]}) h.objs.l (.dK []):=
 {Yk _,Y1C.X<|Y0f<|Yt hb,[],.nil,Heap.DictOf.new h}
def ZD13:(TE):=λ_ H Q=>∀p,H p=none->Q ↑p (upd H p<|.dK [])
section
variable{X:Cx}{pos:Pos}
def Zi10:PE X (.Dict [] [] pos) ZD13:=λpins s σ H Q I h=>
 wpAny_Dict_empty {.ref (~~~s),_,I.laid (a:=(~~~s)) (o:=.dK []) (t':=s.toks) (λ_ _ q=>Yy6 _ q) (Yy8 _)<|Zz811 s.o I.big,Z,h _<|I.hok.fresh<|Yy8 _}
end
end L2
namespace Att
open PySem PySem.W PySem.Calls PyProof.Rows
def ZB2:∀(ns:List Int)(vs:List Value),WellAll P h vs (ns.L WData.int)->IntsAre vs ns:=by
 intro ns
 induction ns with
 |nil=>
  intro vs w;rw[List.map_nil]at w;cases w;show .nil
 |cons n ns ih=>
  intro vs w;rw[Yy01]at w;cases w with
  |cons a b=>
   cases a;show .cons _ _ (ih _ b)
def ZJ7{l:OpenLaw}{n:Nat}(hn:l.most=some n) 
  (hpre:l.row.toRowW.claim.pre args=true)(hwl:WellAll P h vals args):
  ∃a vs ns,vals=[Value.ref a]/\args=[WData.list (ns.L WData.int)]/\h.E a=some {cls:=.type "list",data:=.seq vs.t}/\IntsAre vs ns/\ns.f<=n:=by
 let hsh:WShape.hasAll [] args [.list .int]=true:=(pre_splitW hpre).1;let hc:l.pre.holds [] {args:=args}=true:=(pre_splitW hpre).2
 let(d,r,rfl,h1,h2):=hasAllW_cons hsh;let rfl:=hasAllW_nil h2;let(xs,rfl,h3):=hasW_list h1;let(ns,rfl):=items_int h3;let hlen:ns.f<=n:=by
  unfold OpenLaw.pre at hc;let h4:(WTm.not<|.lt (.lit<|.int (n:Int))<|.len<|.arg 0).holds [] {args:=[.list (ns.L .int)]}=true:=by let h4:=(holds_andW hc).1;rwa[hn]at h4
  let h5:=condW_of h4 (w_not<|w_lt w_lit<|w_len_list<|w_arg Z);rw[Yy7]at h5;show Yy26 λq=>?_;let q':(n:Int)<((ns.f:Nat):Int):=B
  first
   | (rw[YY q']at h5;show absurd h5 XU)
   | (simp at h5;omega)
 cases hwl with
 |cons w1 w2=>
  cases w2;cases w1 with
  |list ho hall=>exists _,_,ns,Z,Z,ho,ZB2 ns _ hall,hlen
def ZO7(l:OpenLaw)(args:List WData):l.row.toRowW.claim.post args (.bool true) args=true:=
 postW_of (r:=l.row.toRowW) (X:=(true == true))
  (show WShape.has [] (.bool true) .bool=true by first|rfl|decide|simp[WShape.has,WShape.arms,WShape.armsAll])
  (show(WTm.eq .res<|.lit<|.bool true).value [] {args:=args,res:=some<|.bool true,after:=args}=some (.bool<|true == true) from w_eq_bool (w_res Z) w_lit) rfl
def attach_call{l:OpenLaw}{n:Nat}{XP:(Str->Option Value)->Heap->Prop}{YP:World->Heap->Prop} 
  (hn:l.most=some n)(hdf:d.params.defaults=[])
  (call:∀(w:World)(s₀ s₁:Shared)(mg mb:Str->Option Value)(fa:Addr)(o:Obj)(pm cd doc:Value)(a:Addr)(vs:List Value)(ns:List Int),
   Ground q loose [] XP w s₀ mg mb s₁.o->YP w s₁.o->
   s₁.o.E fa=some o->o.data=.func (docDef d.name d.params d.body d.scope pm cd doc)->s₁.o.CodeRec cd d.name->mg d.name=some ↑fa->
   s₁.o.E a=some {cls:=.type "list",data:=.seq vs.t}->IntsAre vs ns->ns.f<=n->s₁.gens=#[]->
   codeAny (model l.prog w) callerA (.call ↑fa {[.ref a],[]}) (λr s'=>r=.ok (.ret<|.bool true)/\OldK s₁.o s'.o/\s'.os=s₁.os/\AllBare s'.gens) s₁):
  WalkO q loose XP YP l.row.toRowW d [] (λf vs=>PySem.call f vs):=by intro w s₀ s₁ mg mb G Y fa o pm cd doc dV kV ho hd hcd hD hmg hg args vals as hpre hlay hrd hwl hlo;let rfl:dV=.none:=Dflts.none hD hdf;let rfl:kV=.none:=Dflts.noKw hD;let(a,vs,ns,rfl,rfl,hobj,hints,hlen):=ZJ7 hn hpre hwl;show enter_call (Y1v (call w s₀ s₁ mg mb fa o pm cd doc a vs ns G Y ho (fd_plain hd) hcd hmg hobj hints hlen hg) λr s' hq=>?_);let(rfl,h2,h3,h4):=hq;exists .inl {.bool true,.bool true,[],Z,λ_=>rfl,.bool true,ZO7 l _,λ_=>{List.C.nil,λ_ hm=>(nomatch hm)}},h2,h3,h4
section
def Zz615(h:Heap)(L d:Addr):(List (Addr×Obj)):=(List.range h.objs.l).filterMap λa=>if a=L\/a=d then none else (h.E a).L λo=>(a,o)
end
end Att
namespace L2
open PySem PySem.Spec PyProof.Rows
def ZC7{vs:List Value}{ns:List Int}(h:IntsAre vs ns):Vals (ns.L V.int) vs:=by
 induction h with
 |nil=>show .nil
 |cons n t h ih=>show .cons ⟨t,Z⟩ ih
def Only(H:Hp):(Prop):=∀b,H b=none\/∃o xs,H b=some (.frz o<|.lst xs)
def ZH10{P:Program}{w:World}{K:PySem.W.Q}{mg mb:Str->Option Value}{CX:CXT}{k:Nat}{fa a:Addr}{fd:FuncData}{x:Str}{sp:Sp}{s₁:Shared}{vs:List Value}{ns:List Int}
  (KX:K.In s₁.o)(hns:s₁.o.Ns mainGlobals mg)(hb:s₁.o.Ns builtinsNs mb)(hbb:∀x:Str,x≠"__name__"->mb x=bootBuiltins x)(hlim:s₁.o.NoLimit)(hg:s₁.gens=#[])
  (ha:s₁.o.E a=some {cls:=.type "list",data:=.seq vs.t})(hi:IntsAre vs ns)(hl:ns.f<=sizeLine)(hr:Room k callerA)
  (F:∀base:Heap,K.In base->base.Ns mainGlobals mg->FnOk P w K mg base CX k fa fd [x] sp)(hbind:∀(s:Shared)(u:Value),BindsTo s fd {[u],[]} [(x,u)])
  (hsp:∀H:Hp,Only H->SqL K H a (ns.L V.int)->sp [.ref a] H (λv _=>v=.bl true) λ_ _ _=>False)
  (hCX:∀H e s',CX [] H s₁ (λ_ _ _=>False) e s'->False):
  codeAny (model P w) callerA (.call ↑fa {[.ref a],[]}) (λr s'=>r=.ok (.ret<|.bool true)/\OldK s₁.o s'.o/\s'.os=s₁.os/\AllBare s'.gens) s₁:=by
 let rv:=ZC7 hi;let lenV:=hi.f
 let core:∀H:Hp,Only H->SqL K H a (ns.L V.int)->HOk P w H s₁.o->(∀b,H b≠none->b=a)->(H a≠none->K.R a=none)->
   codeAny (model P w) callerA (.call ↑fa {[.ref a],[]}) (λr s'=>r=.ok (.ret<|.bool true)/\OldK s₁.o s'.o/\s'.os=s₁.os/\AllBare s'.gens) s₁:=by
  intro H hO hS hok hA hK;let base_of:∀{b:Addr}{o:Obj},s₁.o.E b=some o->H b=none->(hidT s₁.o H).E b=some o:=λe n=>ZP10 e n
  let noA:∀{b:Addr}{o:Obj}{es:Array DictEntry}{ep:Nat},s₁.o.E b=some o->o.data=.dict es ep->H b=none:=λ{b o es ep} e d=>by
   cases q:H b with
   |none=>rfl
   |some u=>
    let e':b=a:=hA b (by rw[q];simp);subst e';rw[ha]at e;cases e;let d':Data.seq vs.t _=Data.dict es ep:=d
    cases d'
  let nsK:∀{b:Addr}{m:Str->Option Value},s₁.o.Ns b m->(hidT s₁.o H).Ns b m:=λ{b m} ⟨o,es,ep,e,d,r⟩=>{o,es,ep,base_of e<|noA e d,d,r};let hKb:K.In (hidT s₁.o H):=λb o e=>base_of (KX b o e) (by
   cases q:H b with
   |none=>rfl
   |some u=>
    let e':b=a:=hA b (by rw[q];simp);subst e';rw[hK (by rw[q];simp)]at e;cases e)
  let hM:Mod K mg (hidT s₁.o H):={hKb,nsK hns,{mb,nsK hb,hbb},by let(mc,h1,h2):=hlim;exists mc,nsK h1,h2};let e0:Env0 P w K mg (hidT s₁.o H) callerA [] s₁ H:={Z,hM,λb o e=>Zf12 e,Y3n<|Zz78 _ _,trivial,λb hb=>absurd (show b∈([]:List Addr) from hb) D,hok,.of_eq hg}
  show Y1v ((F _ hKb<|nsK hns).run callerA [] s₁ H {[.ref a],[]} [.ref a] [.ref a] _ _ hr e0 (hbind s₁<|.ref a) (.cons Z .nil) (hsp H hO hS)) λr s' h=>?_;cases r with
  |error e=>show(hCX H e s' h).elim
  |ok fl=>
   cases fl with
   |next=>show False.elim h
   |brk=>show False.elim h
   |cont=>show False.elim h
   |ret u=>
    let(v,H',os,bare,un,hok',r',q):=h;let q':v=.bl true:=q
    subst q';let rfl:u=Value.bool true:=r';exists Z,OldK.of_keep λb o e=>?_,os,bare;cases q:H b with
    |none=>show un.keep b o e q (by intro z;show absurd (show b∈([]:List Addr) from z) D) D
    |some u=>
     rcases hO b with z|⟨ob,xs,z⟩
     ·rw[q]at z;cases z
     ·have z2:=un.frzs b ob _ z;let(e1,_):=hok b _ z;let(e2,_):=hok' b _ z2;rw[e]at e1;cases e1;show e2
 cases hk:K.R a with
 |some o=>
  let e:=KX a o hk;rw[ha]at e;cases e;show core (λ_=>none) (λ_=>.inl Z) (.inr {_,vs.t,_,hk,Z,Z,Z,by rw[Ya,lenV];show hl,by simpa using rv}) (λb u z=>by let z':(none:Option HO)=some u:=z;cases z') (λb z=>absurd Z z) λz=>absurd Z z
 |none=>
  show core (λb=>if b=a then some (.frz {cls:=.type "list",data:=.seq vs.t} (.lst<|ns.L V.int)) else none) (λb=>?_) (.inl<|.inr {{cls:=.type "list",data:=.seq vs.t},if_pos Z}) (λb u z=>?_) (λb z=>?_) λ_=>hk
  ·by_cases hb:b=a
   ·show .inr {_,_,if_pos hb}
   ·show .inl (if_neg hb)
  ·by_cases hb:b=a
   ·have z':=(if_pos hb).symm.m z;cases z';subst hb;exists ha,by rw[Yy7];show hl,vs,_,rv,ha
   ·have z':=(if_neg hb).symm.m z;cases z'
  ·by_cases hb:b=a
   ·show hb
   ·show absurd (if_neg hb) z
abbrev KOf{K:PySem.W.Q}{h:Heap}(_:K.In h):PySem.W.Q:=K
def ZD11{l:PySem.W.OpenLaw}{n k:Nat}{XP:(Str->Option Value)->Heap->Prop}{YP:World->Heap->Prop}{K:Params->PySem.W.Q}{CX:World->CXT}{sp:World->Sp}{x:Str}
  (hn:l.most=some n)(hn2:n<=sizeLine)(hdf:d.params.defaults=[])(hr:Room k callerA)
  (hY:∀(w:World)(h:Heap),YP w h->(K w.params).In h)
  (F:∀(w:World)(mg:Str->Option Value)(fa:Addr)(h:Heap),(K w.params).In h->h.Ns mainGlobals mg->mg d.name=some ↑fa->
   ∃fd:FuncData,(∀(s:Shared)(u:Value),BindsTo s fd {[u],[]} [(x,u)])/\
    ∀base:Heap,(K w.params).In base->base.Ns mainGlobals mg->FnOk l.prog w (K w.params) mg base (CX w) k fa fd [x] (sp w))
  (hsp:∀(w:World)(H:Hp)(a:Addr)(ns:List Int),ns.f<=n->Only H->SqL (K w.params) H a (ns.L V.int)->sp w [.ref a] H (λv _=>v=.bl true) λ_ _ _=>False)
  (hCX:∀(w:World)(H:Hp)(s:Shared)(e:Value)(s':Shared),CX w [] H s (λ_ _ _=>False) e s'->False):
  PySem.W.WalkO q loose XP YP l.row.toRowW d [] (λf vs=>PySem.call f vs):=by
 show Att.attach_call hn hdf λw s₀ s₁ mg mb fa o pm cd doc a vs ns G Y ho hd hcd hmg hobj hints hlen hg=>?_;let KX:=hY w _ Y
 let(fd,hb,hF):=F w mg fa _ KX G.T.g hmg;show ZH10 KX G.T.g G.T.b G.T.builtins G.T.nolimit hg hobj hints (Yv hlen hn2) hr hF hb (λH hO hS=>hsp w H a ns hlen hO hS) λH e s'=>hCX w H s₁ e s'
def walk_ofK{l:PySem.W.OpenLaw}{n k:Nat}{XP:(Str->Option Value)->Heap->Prop}{YP:World->Heap->Prop}{K:Params->PySem.W.Q}{sp:PySem.W.Q->Sp}{x:Str}
  (hn:l.most=some n)(hn2:n<=sizeLine)(hdf:d.params.defaults=[])(hr:Room k callerA)
  (hY:∀(w:World)(h:Heap),YP w h->(K w.params).In h)
  (F:∀(w:World)(mg:Str->Option Value)(fa:Addr)(h:Heap),(K w.params).In h->h.Ns mainGlobals mg->mg d.name=some ↑fa->
   ∃fd:FuncData,(∀(s:Shared)(u:Value),BindsTo s fd {[u],[]} [(x,u)])/\
    ∀base:Heap,(K w.params).In base->base.Ns mainGlobals mg->FnOk l.prog w (K w.params) mg base CX k fa fd [x] (sp<|K w.params))
  (hsp:∀(K:PySem.W.Q)(H:Hp)(a:Addr)(ns:List Int),ns.f<=n->Only H->SqL K H a (ns.L V.int)->sp K [.ref a] H (λv _=>v=.bl true) λ_ _ _=>False)
  (hCX:∀(H:Hp)(s:Shared)(e:Value)(s':Shared),CX [] H s (λ_ _ _=>False) e s'->False):
  PySem.W.WalkO q loose XP YP l.row.toRowW d [] (λf vs=>PySem.call f vs):=
 ZD11 (K:=K) (CX:=λ_=>CX) (sp:=λw=>sp<|K w.params) hn hn2 hdf hr hY F (λw H a ns h1 h2 h3=>hsp (K w.params) H a ns h1 h2 h3) λ_ H s e s'=>hCX H s e s'
def ZH12(s:Stmt)(j:Nat):(Stmt):=match s with
 | .ClassDef _ _ _ body _ _ _ _ _ _ _=>body.getD j (.Pass ⟨0,0,0,0⟩)
 |_=>.Pass ⟨0,0,0,0⟩
def Zy2(s:Stmt):(Arguments):=match s with
 | .FunctionDef _ a _ _ _ _ _ _ _ _=>a
 |_=>{posonlyargs:=[],args:=[],vararg:=none,kwonlyargs:=[],kw_defaults:=[],kwarg:=none,defaults:=[]}
def Zm1(s:Stmt):(List Stmt):=match s with
 | .FunctionDef _ _ b _ _ _ _ _ _ _=>b
 |_=>[]
def Zb(s:Stmt):(Scope):=match s with
 | .FunctionDef _ _ _ _ _ _ sc _ _ _=>sc
 |_=>{kind:=.function,names:=[],isGenerator:=false,isCoroutine:=false}
abbrev CX0:CXT:=λ_ _ _ _ _ _=>False
abbrev E0:XK:=λ_ _ _=>False
def ZP:ZI3 CX0 X E0:=λ_ _ _ _ _ _ _ h=>h.elim
structure Fun(K:PySem.W.Q)(x qual:Str)(st:Stmt)(f:Addr)(fd:FuncData):Prop where
 ex:∃(oc:Value)(od:Option Addr)(kV doc pm:Value)(an:Option Addr)(cdv ct:Value)(osl:Array (Option Value)),
  fd=PySem.W.fnOf x qual (Zy2 st) (Zm1 st) (Zb st) .none kV doc pm an cdv ct/\K.R f=some {oc,od,.func fd,osl}/\PySem.W.codeIn K cdv qual=true
 kp:PySem.W.keepIn K ↑f=true
section
variable{P:Program}{w:World}{K:PySem.W.Q}{mg:Str->Option Value}{base:Heap}
def Fun.ok{x qual:Str}{st:Stmt}{f:Addr}{fd:FuncData}{N ps:List Str}{k:Nat}{sp:Sp}(F:Fun K x qual st f fd)(S:FnScope N ps (Zb st))(len:∀vs H Q E,sp vs H Q E->vs.f=ps.f)
  (hbody:∀(cdv:Value)(A:Around)(outer:List Env)(s:Shared)(H:Hp)(vs:List V)(Q:VK)(E:XK),Room k (A.deeper<|envOfC qual (Zb st) (~~~s) f cdv)->sp vs H Q E->
   ∃t,PSs (cxOf CX0 P w K mg base N qual (Zb st) f cdv A outer s H E).nox (Zm1 st) t/\t {nx:=λ_ H'=>Q .non H',rt:=Q} (start N vs) H):FnOk P w K mg base CX0 (k+1) f fd ps sp:=by let(oc,od,kV,doc,pm,an,cdv,ct,osl,rfl,lk,hcd):=F.ex;show ZH14 lk hcd S len λA outer s H vs Q E hr hsp=>?_;let(t,h,q):=hbody cdv A outer s H vs Q E hr hsp;exists t,h.nox,q
def Fun.binds{x qual:Str}{st:Stmt}{f:Addr}{fd:FuncData}{ps:List Str}(F:Fun K x qual st f fd)
  (h:∀(kV doc pm:Value)(an:Option Addr)(cdv ct:Value)(us:List Value),us.f=ps.f->bindArgs (PySem.W.fnOf x qual (Zy2 st) (Zm1 st) (Zb st) .none kV doc pm an cdv ct) {us,[]}=pure (ps.zip us)):Binds K fd ps []:=by let(oc,od,kV,doc,pm,an,cdv,ct,osl,rfl,lk,hcd):=F.ex;show .all (h kV doc pm an cdv ct)
def ZW10{x qual:Str}{st:Stmt}{f:Addr}{oc:Value}{od an:Option Addr}{osl:Array (Option Value)}{kV doc pm cdv ct:Value}(l:K.R f=some {oc,od,.func (PySem.W.fnOf x qual (Zy2 st) (Zm1 st) (Zb st) .none kV doc pm an cdv ct),osl})
  (c:PySem.W.codeIn K cdv qual=true)(k:PySem.W.keepIn K ↑f=true):Fun K x qual st f (PySem.W.fnOf x qual (Zy2 st) (Zm1 st) (Zb st) .none kV doc pm an cdv ct):={⟨oc,od,kV,doc,pm,an,cdv,ct,osl,Z,l,c⟩,k}
end
section
variable{X:Cx}
def pv(i:Nat){x:Str}{pos:Pos}(hN:X.N[i]?=some x:=by rfl)(hv:Vis X.M.scope x:=by first|show Or.inl rfl|show Or.inr (Or.inl rfl)|show Or.inr<|Or.inr rfl)(hd:(x == ("__debug__":Str))=false:=by decide)
  (hcd:(x == ("__classdict__":Str))=false:=by decide):PE X (.Name x pos) (tVar i):=ZW13 hN hv hd hcd
end
def iteF{A XX:Prop}(h:XX):if false=true then A else XX:=by rwa[if_neg Ys]
def iteT{A XX:Prop}(h:A):if true=true then A else XX:=by rwa[if_pos Z]
def ite2{c A XX:Prop}[Decidable c](h1:c->A)(h2:¬c->XX):if c then A else XX:=by
 cases h:c
 ·rw[if_pos h];show h1 h
 ·rw[if_neg h];show h2 h
def Same(H H':Hp):(Prop):=∀b o,H b=some o->H' b=some o
def Same.refl(H:Hp):Same H H:=λ_ _ h=>h
def Same.trans{H H1 H2:Hp}(a:Same H H1)(b:Same H1 H2):Same H H2:=λc o h=>b c o (a c o h)
def Same.free(e:Same H H'){l:Addr}(h:H' l=Option.none):H l=Option.none:=by
 cases q:H l with
 |none=>rfl
 |some o=>
  rw[e l o q]at h;cases h
def Same.seq{K:PySem.W.Q}{H H':Hp}{a:Addr}{xs:List V}(e:Same H H')(h:SqL K H a xs):SqL K H' a xs:=by
 rcases h with (h|⟨o,h⟩)|h
 ·show .inl (.inl<|e _ _ h)
 ·show .inl (.inr {o,e _ _ h})
 ·show .inr h
def PTs(X:Cx)(ifs:List Expr)(t:TT):(Prop):=
 ∀pins s σ H Q,Inv X pins σ H s->t σ H Q->
  wpAny (model X.prog X.w) X.A (forIn ifs true λc r=>if r=true then do let ok <-isTrue c X.M (eval c X.M);pure (ForInStep.yield ok) else pure (ForInStep.yield r)) (TP X pins σ Q) X.xe s
def tYes:(TT):=λ_ H Q=>Q true H
def ZQ:PTs X [] tYes:=λ_ _ _ H _ I h=>wpAny_tests_nil ⟨H,I,h⟩
def Zn3(hc:PT X c t):PTs X [c] t:=λpins s σ H Q I h=>wpAny_tests_one (hc pins s σ H Q I h)
def Ze4{R:Result->Shared->Prop}{elt target iter:Expr}{scope:Scope}{pos:Pos}{it acc:Value}(XY:Nat->Shared->Prop)
  (turn:∀n s,XY n s->wpAny (model prog w) A (pyNext it) (λr s1=>match r with
   |none=>R (.ok .next) s1
   |some v=>wpAny (model prog w) A (letOwnedTupleGo target it v) (λ_ s2=>wpAny (model prog w) A (assign target env v) (λ_ s3=>
     wpAny (model prog w) A (forIn ifs true λc r=>if r=true then do let ok <-isTrue c env (eval c env);pure (ForInStep.yield ok) else pure (ForInStep.yield r)) (λok s4=>
      if ok=true then wpAny (model prog w) A (eval elt env) (λx s5=>
       wpAny (model prog w) A (call (.builtin "list.append") [acc,x]) (λ_ s6=>∃m,m<n/\XY m s6) (λ_ _=>False) s5) (λ_ _=>False) s4
      else ∃m,m<n/\XY m s4) (λ_ _=>False) s3) (λ_ _=>False) s2) (λ_ _=>False) s1) (λ_ _=>False) s)
  (n:Nat)(h:XY n s):codeAny (model prog w) A (.compLoop (.ListComp elt [⟨target,iter,ifs,0⟩] scope pos) 0 it acc env) R s:=by
 show codeAny_loop Z XY (λn s hI=>?_) n h;change wpAny _ A ((compTurn (.ListComp elt [⟨target,iter,ifs,0⟩] scope pos) 0 it acc env).onRaise λx=>do noteFrame x env;theTreesLotGoes x) _ _ s
 show wpAny_noted ?_;rw[compTurn_list];show Yy4 (wpAny_standAt<|Yy4<|Yy16 (turn n s hI) (λr s1 h1=>?_) λ_ _ z=>z.elim);cases r with
 |none=>show Yi h1
 |some v=>
  show Yy4 (Yy16 h1 (λ_ s2 h2=>?_) λ_ _ z=>z.elim);show Yy4 (Yy16 h2 (λ_ s3 h3=>Yy4<|Yy16 h3 (λok s4 h4=>?_) λ_ _ z=>z.elim) λ_ _ z=>z.elim);cases ok with
  |false=>show Yi ⟨Z,h4⟩
  |true=>
   show Yy4 (Yy4<|Yy16 h4 (λx s5 h5=>Yy4<|Yy16 h5 (λ_ s6 h6=>Yi<|Yi ⟨Z,h6⟩) λ_ _ z=>z.elim) λ_ _ z=>z.elim)
def Zk5(cells:List (Str×Addr)):(List (Str×NameKind)->List (Str×Addr)->List (Str×Addr))
 |[],acc=>acc
 | (n,k)::r,acc=>if k == .free then Zk5 cells r ((n,(cells.R n).getD 0)::acc) else Zk5 cells r acc
def ZA3:∀names acc,(∀y∈names,y.2=.free->∃c,env.cells.R y.1=some c)->
  (forIn names acc λ(x:Str×NameKind) (cs:List (Str×Addr))=>(if (x.2 == .free)=true then do let a <-cellOf env x.1;pure (ForInStep.yield<|(x.1,a)::cs) else pure (ForInStep.yield cs):Sem (ForInStep<|List<|Str×Addr)))=pure (Zk5 env.cells names acc)
 |[],acc,_=>rfl
 | (n,k)::r,acc,h=>by
  let ih:=λacc=>ZA3 r acc λy hy=>h y (Yd _ hy);rw[List.forIn_cons];unfold Zk5;cases hk:(k == NameKind.free)=true
  ·let(c,hc):=h (n,k) Ye (by simpa using hk);let e:cellOf env n=pure c:=by unfold cellOf;rw[show env.cells.R n=some c from hc]
   simp only[hk,if_true,e,pure_bind];rw[ih,show env.cells.R n=some c from hc];rfl
  ·simp only[hk,Y0t,Y2H,pure_bind];show ih acc
def Zt7(h:∀y∈scope.names,y.2=.free->∃c,env.cells.R y.1=some c):closureFor scope env=pure (Zk5 env.cells scope.names []):=by let e:=ZA3 scope.names [] h;unfold closureFor;simp only[bind_pure]at e ⊢;show e
def Zz33{env:Env}:∀names acc,(∀y∈names,y.2=.free->∃c,env.cells.R y.1=some c)->(∀x c,acc.R x=some c->env.cells.R x=some c)->
  ∀x c,(Zk5 env.cells names acc).R x=some c->env.cells.R x=some c
 |[],acc,_,ha,x,c,e=>ha x c e
 | (n,k)::r,acc,h,ha,x,c,e=>by
  unfold Zk5 at e;cases hk:(k == NameKind.free)=true
  ·rw[if_pos hk]at e;let(d,hd):=h (n,k) Ye (by simpa using hk);show Zz33 r _ (λy hy=>h y<|Yd _ hy) (λy b q=>?_) x c e;rw[Y1d]at q;cases hy:(y == n)=true
   ·rw[hy]at q;let hy':y=n:=by simpa using hy
    let hd':env.cells.R n=some d:=hd;rw[hd']at q;let q':d=b:=Yl q
    rw[hy',hd',q']
   ·have hy':(y == n)=false:=by simpa using hy
    rw[hy']at q;show ha y b q
  ·rw[if_neg hk]at e;show Zz33 r acc (λy hy=>h y<|Yd _ hy) ha x c e
def Zz43:∀names acc x,(acc.R x).isSome=true->((Zk5 cells names acc).R x).isSome=true
 |[],_,_,h=>h
 | (n,k)::r,acc,x,h=>by
  unfold Zk5;cases hk:(k == NameKind.free)=true
  ·rw[if_pos hk];show Zz43 r _ x ?_;rw[Y1d];cases hx:(x == n)=true
   ·rw[hx];rfl
   ·have hx':(x == n)=false:=by simpa using hx
    rwa[hx']
  ·rw[if_neg hk];show Zz43 r acc x h
def Zf2:∀names acc x,(x,NameKind.free)∈names->((Zk5 cells names acc).R x).isSome=true
 |[],_,_,h=>nomatch h
 | (n,k)::r,acc,x,h=>by
  unfold Zk5;rcases Yf.S h with e|h
  ·cases e;rw[if_pos XR];show Zz43 r _ _ ?_;rw[Y1d];simp
  ·by_cases hk:(k == NameKind.free)=true
   ·rw[if_pos hk];show Zf2 r _ x h
   ·rw[if_neg hk];show Zf2 r _ x h
def ZZ{env:Env}:∀{names:List (Str×NameKind)}{x:Str}{k:NameKind},(names.L λ(n,k)=>if (k == NameKind.free&&env.scope.kind == .function&&env.kindOf n == some .cell) then (n,NameKind.cell) else (n,k)).R x=some k->
  (k=.cell\/k=.free)->(x,NameKind.free)∈names\/(x,NameKind.cell)∈names
 |[],_,_,h,_=>by simp at h
 | (n,q)::r,x,k,h,hk=>by
  let h':List.R x ((if (q == NameKind.free&&env.scope.kind == .function&&env.kindOf n == some .cell)=true then (n,NameKind.cell) else (n,q))::r.L λ(n,k)=>if (k == NameKind.free&&env.scope.kind == .function&&env.kindOf n == some .cell) then (n,NameKind.cell) else (n,k))=some k:=h;cases hc:(q == NameKind.free&&env.scope.kind == .function&&env.kindOf n == some .cell)=true
  ·rw[if_pos hc,Y1d]at h';let hq:q=.free:=by simp only[Yy10,Y1B]at hc;show hc.1.1
   cases hx:(x == n)=true
   ·have hx':x=n:=by simpa using hx
    subst hx';subst hq;show .inl Ye
   ·have hx':(x == n)=false:=by simpa using hx
    rw[hx']at h';rcases ZZ (env:=env) h' hk with z|z
    ·show .inl (Yd _ z)
    ·show .inr (Yd _ z)
  ·rw[if_neg hc,Y1d]at h';cases hx:(x == n)=true
   ·rw[hx]at h';let hx':x=n:=by simpa using hx
    subst hx';let e:q=k:=Yl h'
    subst e;rcases hk with rfl|rfl
    ·show .inr Ye
    ·show .inl Ye
   ·have hx':(x == n)=false:=by simpa using hx
    rw[hx']at h';rcases ZZ (env:=env) h' hk with z|z
    ·show .inl (Yd _ z)
    ·show .inr (Yd _ z)
def ZF1{env:Env}:∀{names:List (Str×NameKind)}{x:Str},names.R x=some .free->
  (names.L λ(n,k)=>if (k == NameKind.free&&env.scope.kind == .function&&env.kindOf n == some .cell) then (n,NameKind.cell) else (n,k)).R x=some .cell\/
  (names.L λ(n,k)=>if (k == NameKind.free&&env.scope.kind == .function&&env.kindOf n == some .cell) then (n,NameKind.cell) else (n,k)).R x=some .free
 |[],_,h=>by simp at h
 | (n,q)::r,x,h=>by
  change List.R x ((if (q == NameKind.free&&env.scope.kind == .function&&env.kindOf n == some .cell)=true then (n,NameKind.cell) else (n,q))::_)=_\/List.R x ((if (q == NameKind.free&&env.scope.kind == .function&&env.kindOf n == some .cell)=true then (n,NameKind.cell) else (n,q))::_)=_;rw[Y1d]at h;cases hc:(q == NameKind.free&&env.scope.kind == .function&&env.kindOf n == some .cell)=true
  ·rw[if_pos hc,Y1d];cases hx:(x == n)=true
   ·rw[hx];show .inl rfl
   ·have hx':(x == n)=false:=by simpa using hx
    rw[hx']at h ⊢;show ZF1 h
  ·rw[if_neg hc,Y1d];cases hx:(x == n)=true
   ·rw[hx]at h ⊢;show .inr h
   ·have hx':(x == n)=false:=by simpa using hx
    rw[hx']at h ⊢;show ZF1 h
def cxC(X:Cx)(N':List Str)(scope:Scope)(C:Addr)(s:Shared)(H:Hp)(fp:List Addr):(Cx) where
 prog:=X.prog
 w:=X.w
 K:=X.K
 mg:=X.mg
 base:=X.base
 A:=X.A
 N:=N'
 s₀:=s
 H₀:=H
 env:=compEnvC scope (Zk5 X.M.cells scope.names []) C X.M
 outer:=X.stack
 stack:=X.stack
 ex:=fp
 fn:=λ_=>false
 calm:=X.calm
 pn:=[]
 xe:=λ_ _=>False
def σC(o:Nat)(fr:List Nat)(σ:St):(St):=List.Y o none++fr.L λj=>(σ[j]?).join
structure CompScope(sc0:Scope)(N N':List Str)(o:Nat)(fr:List Nat)(scope:Scope):Prop where
 kind:scope.kind=.function
 nocell:(scope.names.all λy=>y.2 != .cell)=true
 loc:(scope.names.all λy=>y.2 != .local||scope.names.R y.1 == some .local)=true
 free:(scope.names.all λy=>y.2 != .free||sc0.names.R y.1 == some .cell||sc0.names.R y.1 == some .free)=true
 len:N'.f=o+fr.f
 sees:((List.range fr.f).all λj=>match fr[j]? with
  |none=>false
  |some y=>match N[y]? with
   |none=>false
   |some x=>N'[o+j]? == some x&&scope.names.R x == some .free)=true
def LcR(XY:It)(g:TG)(tt:TT)(te:TE)(o:Nat)(fr:List Nat)(σ:St)(H1:Hp)(Q:VK):(Prop):=∃W:Nat->Nat->List V->Hp->Prop,(∃m,W 0 m [] H1)/\∀i m ys H,W i m ys H->
 (XY.stop i H/\ys.f<=sizeLine/\∀p,H p=none->Q ↑p (upd H p<|.lst ys))\/
 (XY.go i H/\ys.f<sizeLine/\∀x H',XY.yld i H x H'->g x (σC o fr σ) H' λσ2 H2=>tt σ2 H2 λb H3=>if b=true then te σ2 H3 λy H4=>∃m',m'<m/\W (i+1) m' (ys++[y]) H4 else ∃m',m'<m/\W (i+1) m' ys H3)
def tLc(wi:TI)(g:TG)(tt:TT)(te:TE)(o:Nat)(fr:List Nat):(TE):=λσ H Q=>wi σ H λXY H1=>LcR XY g tt te o fr σ H1 Q
def OwnG(o:Nat)(g:TG):(Prop):=∀x ow fr H Q,ow.f=o->g x (ow++fr) H Q->g x (ow++fr) H λσ2 H2=>(∃ow',ow'.f=o/\σ2=ow'++fr)/\Q σ2 H2
def ZA(h:i<o):OwnG o (Ze8 i):=λx ow fr H Q hl q=>{{ow.set i<|some x,by rw[Y0J];show hl,by rw[List.set_append_left _ _ J]},q}
def Zv13(o:Nat)(g:TGs):(Prop):=∀xs ow fr H Q,ow.f=o->g xs (ow++fr) H Q->g xs (ow++fr) H λσ2 H2=>(∃ow',ow'.f=o/\σ2=ow'++fr)/\Q σ2 H2
def Zs3:Zv13 o gNil:=λ_ ow _ _ _ hl zz=>by let(e,q):=zz;exists e,⟨ow,hl,Z⟩,q
def Zz61(h:i<o)(h2:Zv13 o u):Zv13 o (gCons (Ze8 i) u):=by
 rintro xs ow fr H Q hl ⟨v,r,rfl,q⟩;exists v,r,Z,?_;let q':u r ((ow++fr).set i (some v)) H Q:=q
 change u r ((ow++fr).set i (some v)) H _;rw[List.set_append_left _ _ B]at q' ⊢;show h2 r (ow.set i<|some v) fr H Q (by rwa[Y0J]) q'
def Zr3{K:PySem.W.Q}{o n:Nat}{u:TGs}(h:Zv13 o u):OwnG o (gTup K n u):=by rintro x ow fr H Q hl ⟨a,xs,rfl,hs,hn,q⟩;exists a,xs,Z,hs,hn,h xs ow fr H Q hl q
section
variable{X:Cx}{pins:List (Addr×Obj)}{σ:St}{H:Hp}{s:Shared}{N':List Str}{o:Nat}{fr:List Nat}{scope:Scope}{fp:List Addr}
abbrev Zh1(us:List Value):Obj:={cls:=.type "list",data:=.seq us.t us.f}
def CompScope.nocell'(S:CompScope sc0 N N' o fr scope):∀y∈scope.names,y.2≠.cell:=λy hy e=>by let q:=Y0x.S S.nocell y hy;rw[e]at q;show absurd q XU
def CompScope.loc'(S:CompScope sc0 N N' o fr scope):∀y∈scope.names,y.2=.local->scope.names.R y.1=some .local:=λy hy e=>by let q:=Y0x.S S.loc y hy;rw[e]at q;simpa using q
def CompScope.free'(S:CompScope sc0 N N' o fr scope)(hs:X.M.scope=sc0):∀y∈scope.names,y.2=.free->X.M.kindOf y.1=some .cell\/X.M.kindOf y.1=some .free:=λy hy e=>by
 let q:=Y0x.S S.free y hy;rw[e]at q;change X.M.scope.names.R y.1=_\/X.M.scope.names.R y.1=_
 rw[hs];simpa using q
def CompScope.sees'(S:CompScope sc0 N N' o fr scope):∀j y,fr[j]?=some y->∃x,N[y]?=some x/\N'[o+j]?=some x/\scope.names.R x=some .free:=λj y e=>by
 let hj:j<fr.f:=(Yy1.S e).1;let q:=Y0x.S S.sees j (YO.X hj)
 rw[e]at q;dsimp only at q;cases ex:N[y]? with
 |none=>rw[ex]at q;cases q
 |some x=>
  rw[ex]at q;dsimp only at q;rw[Yy10,Y1B,Y1B]at q;exists x,Z,q.1,q.2
def CompScope.cells(S:CompScope sc0 N0 N' o fr scope)(hs:X.M.scope=sc0)(I:Inv X pins σ H s):∀y∈scope.names,y.2=.free->∃c,X.M.cells.R y.1=some c:=λy hy e=>I.ok.has y.1 (S.free' hs y hy e)
def CompScope.sub(S:CompScope sc0 N0 N' o fr scope)(hs:X.M.scope=sc0)(I:Inv X pins σ H s):∀x c,(Zk5 X.M.cells scope.names []).R x=some c->X.M.cells.R x=some c:=
 Zz33 (env:=X.M) scope.names [] (S.cells hs I) (λ_ _ z=>nomatch z)
def Inv.block(S:CompScope sc0 N0 N' o fr scope)(hs:X.M.scope=sc0)(hN:X.N=N0)(I:Inv X pins σ H s)(hf:∀b∈fp,FpOk X pins H b)(hfl:∀b∈fp,b<(~~~s)){h1:Heap}{C XW:Addr}{m:Str->Option Value}{t:Nat}
  (hC:(~~~s)<=C)(hD:(~~~s)<=XW)(hDC:XW≠C)
  (old:∀b ob,s.o.E b=some ob->h1.E b=some ob)(hn:h1.Ns C m)(ha:h1.E XW=some (Zh1 us)):Inv (cxC X N' scope C s H fp) [(XW,Zh1 us)] (σC o fr σ) H {s with heap:=h1,toks:=t}:=by
 let sub:=S.sub hs I;let frC:∀b∈frs X.stack,b<(~~~s):=λb hb=>by let(_,ob,ho,_):=I.stack.mem hb;show Yg ho
 show⟨{I.ok.mod,S.kind,I.ok.glob,I.ok.blt,hC,λx y c h1 h2=>I.ok.inj x y c (sub x c h1)<|sub y c h2,λx hx=>?_,λx c hfx _=>(nomatch hfx),I.ok.hd,I.ok.frames,.inl Z,λb hb=>?_,I.bs,Yv I.ok.bsz I.sz,λb ob e hb=>?_,λb hb hb'=>?_,I.stack,I.stkFree},
  rfl,I.bare,Un.kept old,{m,hn,λi x v e1 e2 e3=>?_},λx c e=>?_,I.hok.fresh hC,λx c e=>I.freeC x c<|sub x c e,λp hp=>?_,I.hok.kept old,?_⟩
 ·have hx':(relabel scope X.M).names.R x=some .cell\/(relabel scope X.M).names.R x=some .free:=hx;let key:(x,NameKind.free)∈scope.names:=by
   rcases hx' with z|z
   ·rcases ZZ (env:=X.M) z (.inl rfl) with q|q
    ·show q
    ·show absurd Z (S.nocell' _ q)
   ·rcases ZZ (env:=X.M) z (.inr rfl) with q|q
    ·show q
    ·show absurd Z (S.nocell' _ q)
  show Y2r.S (Zf2 (cells:=X.M.cells) scope.names [] x key)
 ·let(f0,f1,f2,f3,f4,f5):=hf b hb;exists Yt<|Yr (hfl b hb) hC,λx c e=>f4 x c<|sub x c e
 ·let(f0,f1,f2,f3,f4,f5):=hf b hb;rcases f3 with z|z
  ·show I.ok.noex b ob e z
  ·show absurd (Yr (Yg e)<|Yv I.ok.bsz z) (Y1h _)
 ·let(f0,f1,f2,f3,f4,f5):=hf b hb;rcases Yf.S (I.stkSub b hb') with z|z
  ·show f1 z
  ·show f2 z
 ·unfold σC at e2;cases hi:i<o
  ·rw[Yp (by rwa[YL]),Y1K,if_pos hi]at e2;cases e2
  ·rw[Yj (by rw[YL];show Nat.not_lt.S hi),YL,Yc]at e2;cases hy:fr[i-o]? with
   |none=>rw[hy]at e2;cases e2
   |some y=>
    rw[hy]at e2;let e2':(σ[y]?).join=some v:=Yl e2
    let e3':σ[y]?=some (some v):=by
     cases q:σ[y]? with
     |none=>rw[q]at e2';cases e2'
     |some z=>rw[q]at e2';show YI some e2'
    let(x',s2,s1,s3):=S.sees' (i-o) y hy;rw[<-hN]at s2;rw[show o+(i-o)=i by grind]at s1;let ex:x=x':=by let e1':N'[i]?=some x:=e1;rw[e1']at s1;show Yl s1
    subst ex;let hmem:=Y1q s3
    let(m0,_,hl):=I.loc;let hk:=S.free' hs (x,.free) hmem rfl
    let(u,ru,lk):=hl y x v s2 e3' (by rcases hk with z|z;show .inr (.inl z);show .inr<|.inr z);exists u,ru,.inr {ZF1 (env:=X.M) s3,?_};let(c',hc'):=Y2r.S (Zf2 (cells:=X.M.cells) scope.names [] x hmem);exists c',hc',?_;rcases lk with ⟨z,_⟩|⟨_,c,e,ob,ho,hd⟩
    ·rcases hk with z'|z'
     ·rw[z]at z';cases z'
     ·rw[z]at z';cases z'
    ·have ec:c=c':=by
      have:=sub x c' hc'
      rw[e]at this;show Yl this
     subst ec;exists ob,old _ _ ho,hd
 ·let(v,ob,ho,hd):=I.cell x c (sub x c e);exists v,ob,old _ _ ho,hd
 ·have e:p=(XW,Zh1 us):=by simpa using (show p∈([]:List (Addr×Obj))++[(XW,Zh1 us)] from hp)
  subst e;exists ha,I.hok.fresh hD,hDC,λz=>absurd (Yr (frC XW z) hD)<|Y1h _,λv z=>nomatch z
 ·show(σC o fr σ).f=N'.f;unfold σC;rw[Yy3,YL,Yy7,S.len]
def Inv.unblock(I:Inv X pins σ H s)(hf:∀b∈fp,FpOk X pins H b){σ':St}{s':Shared}(hC:(~~~s)<=C)(hD:(~~~s)<=XW)(hDC:XW≠C)
  (I':Inv (cxC X N' scope C s H fp) [(XW,Zh1 us)] σ' H' s')(r:Vals ys us)(hz:ys.f<=sizeLine):∃oC m,s'.o.E C=some oC/\s'.o.Ns C m/\Inv X (pins++[(C,oC)]) σ (upd H' XW<|.lst ys) s':=by
 let(aD,nD,_,_,_):=I'.pin (XW,Zh1 us) D;let aD:s'.o.E XW=some (Zh1 us):=aD
 let nD:H' XW=none:=nD;let un:Un (frs X.stack) fp H H' s.o s'.o:=I'.base
 let lt:∀b u,H b=some u->b≠XW:=λb u e=>Yt (Yr (I.hok.lt e) hD);let un2:Un (frs X.stack) fp H (upd H' XW<|.lst ys) s.o s'.o:=by
  exists un.keep,un.slot,λb ob e n hx=>?_,un.there,λb xs e=>?_,λb ob u e=>?_,λb ps e=>?_
  ·rw[Ze (Yt<|Yr (Yg e) hD)];show un.free b ob e n hx
  ·rw[Ze (lt b _ e)];show un.tups b xs e
  ·rw[Ze (lt b _ e)];show un.frzs b ob u e
  ·let(more,q):=un.tbls b ps e;exists more,by rwa[Ze (lt b _ e)]
 let hok:HOk X.prog X.w (upd H' XW<|.lst ys) s'.o:=λb u e=>by
  cases hb:b=XW
  ·subst hb;rw[Zz1]at e;cases e;exists hz,us,us.f,r,aD
  ·rw[Ze hb]at e;show(I'.hok b u e).stay (λc v _ q=>q) (λc q=>by rwa[Ze (Za q nD)]) λc xs q=>by rwa[Ze (Za q nD)]
 let os:s'.os=s.os:=I'.os;let XY:Inv X pins σ (upd H' XW<|.lst ys) s':=I.call' (ch:=fp) os un2 hok I'.bare λb hb=>by let(f0,f1,f2,f3,f4,f5):=hf b hb;exists f3,f1,f4,f5
 let(m,hn,_):=I'.loc;let hn:s'.o.Ns C m:=hn
 let(oC,es,ep,hoC,hdC,_):=id hn;exists oC,m,hoC,hn,XY.pins_of λp hp=>?_;rcases Yb.S hp with z|z
 ·show XY.pin p (Yy _ z)
 ·have e:p=(C,oC):=by simpa using z
  subst e;let nC:H' C=none:=I'.free
  show{hoC,by rw[Ze (Y0f hDC)];show nC,Y2s<|Yr I.lt hC,I.nofs hC,λv z=>?_};let z':oC.data=.cell v:=z
  rw[hdC]at z';cases z'
end
section
variable{X:Cx}{N':List Str}{o:Nat}{fr:List Nat}{scope:Scope}{elt tg iter:Expr}{ifs:List Expr}{pos:Pos}{wi:TI}{g:TG}{tt:TT}{te:TE}
def Zy12(hc:X.calm=true)(S:CompScope sc0 N0 N' o fr scope)(hi:PI X tg iter wi)(ho:OwnG o g)
  (hg:∀C s H fp,PG (cxC X N' scope C s H fp) tg g)
  (ht:∀C s H fp,PTs (cxC X N' scope C s H fp) ifs tt)
  (he:∀C s H fp,PE (cxC X N' scope C s H fp) elt te)
  (hs:∀x,foldedSetIterable iter X.M x=pure x)(hsc:X.M.scope=sc0)(hN0:X.N=N0)(I:Inv X pins σ H s)(h:tLc wi g tt te o fr σ H Qv)
  {use:Option (Value->Sem Unit)}{Q:Value->Shared->Prop}{E:Value->Shared->Prop}
  (hE:∀e s',X.xe e s'->E e s')
  (fin:∀C oC XW m H' ys s',Inv X (pins++[(C,oC)]) σ (upd H' XW<|.lst ys) s'->Qv ↑XW (upd H' XW<|.lst ys)->s'.o.Ns C m->H' C=none->C≠XW->
   C≠X.M.locals->(~~~X.s₀)<=C->(∀x c,X.M.cells.R x=some c->c≠C)->(∀p∈X.pn++pins,p.1≠C)->compPost (model X.prog X.w) X.A E use Q ↑XW C (.ok .next) s'):
  wpAny (model X.prog X.w) X.A (comprehension (.ListComp elt [⟨tg,iter,ifs,0⟩] scope pos) scope X.M (firstIterPos [⟨tg,iter,ifs,0⟩] pos) (newList []) false (eval iter X.M) use) Q E s:=by
 show wpAny_comprehension_free (use:=use) Z hs (Zt7<|S.cells hsc I) S.kind S.loc' (Yy16 (hi pins s σ H _ I h) (λxv s1 h1=>Yy16 h1 (λitv s2 h2=>?_) hE) hE);let(it,fp,tn,XY,H2,rfl,I2,T,st2,f2,W,(m0,w0),turn):=h2;let hfl:∀b∈fp,b<(~~~s2):=λb hb=>by let(ob,e,_):=T.obj 0 _ st2 b hb;show Yg e
 show Y0F (wpAny_newFunctionEnv S.nocell' (by intro y hy;simp at hy) (λh1 hns1 hsb1=>?_) S.kind);dsimp only at hns1 hsb1 ⊢;generalize hH2:s2.o.push {cls:=.type "list",dict:=none,data:=.seq ([]:List Value).t}=G at hns1 hsb1 ⊢;let hCe:G.objs.l=(~~~s2)+1:=by rw[<-hH2,Y1f]
 let hC:(~~~s2)<=G.objs.l:=by rw[hCe];show Yy15 _
 let hDC:(~~~s2)≠G.objs.l:=by rw[hCe];show Yt (Y0M _)
 let old:∀b ob,s2.o.E b=some ob->h1.E b=some ob:=λb ob e=>
  hsb1.extBut b ob (Yt<|Yr (Yg e) hC) (Yy6 _<|hH2▸Yy6 _ e)
 let hacc:h1.E (~~~s2)=some (Zh1 []):=hsb1.extBut _ _ hDC (Yy6 _<|hH2▸Yo _ Z);let st1:tn 0 h1:=T.keep _ _ _ st2 λb _ ob e=>old b ob e
 let fpC:∀{us:List Value}{H':Hp},(∀b∈fp,H' b=none)->∀b∈fp,FpOk (cxC X N' scope G.objs.l s2 H2 fp) [((~~~s2),Zh1 us)] H' b:=λ{us H'} hn b hb=>by
  let(f0,f1,f3,f4,f5,f6):=f2 b hb;exists hn b hb,Yt<|Yr (hfl b hb) hC,λz=>?_,.inl hb,λx c e=>f5 x c<|S.sub hsc I2 x c e,λp hp=>?_
  ·rcases Yf.S (I2.stkSub b z) with q|q
   ·show f1 q
   ·show f3 q
  ·have e:p=((~~~s2),Zh1 us):=by simpa using (show p∈([]:List (Addr×Obj))++[((~~~s2),Zh1 us)] from hp)
   subst e;show Y2s (hfl b hb)
 let loop:∀s3:Shared,s3={s2 with heap:=h1,toks:=s2.toks+([]:List (Str×Value)).f}->
   codeAny (model X.prog X.w) X.A (.compLoop (.ListComp elt [⟨tg,iter,ifs,0⟩] scope pos) 0 ↑it (.ref (~~~s2))<|compEnvC scope (Zk5 X.M.cells scope.names []) G.objs.l X.M)
    (compPost (model X.prog X.w) X.A E use Q (.ref (~~~s2)) G.objs.l) s3:=by
  rintro s3 rfl;show Ze4 (λn s'=>∃i σ' H' ys us,Inv (cxC X N' scope G.objs.l s2 H2 fp) [((~~~s2),Zh1 us)] σ' H' s'/\σ'=σC o fr σ/\Vals ys us/\tn i s'.o/\(∀b∈fp,H' b=none)/\W i n ys H') ?_ m0
   {0,_,H2,[],[],I2.block S hsc hN0 f2 hfl hC (Yy8 _) hDC old hns1 hacc,Z,.nil,st1,λb hb=>(f2 b hb).1,w0}
  rintro n s' ⟨i,σ',H',ys,us,I',rfl,rv,st',fr',w'⟩;rcases turn i n ys H' w' with ⟨stop,hz,q⟩|⟨go,hz,step⟩
  ·show thn (T.done (cxC X N' scope G.objs.l s2 H2 fp) Z Z Z hc i _ s' _ H' _ I' (fpC fr') st' stop) λr s4 zz=>?_;let(hr,I4):=zz;subst hr;let(oC,m,hoC,hn,J4):=I2.unblock f2 hC (Yy8 _) hDC I4 rv hz;show fin _ oC _ m H' ys s4 J4 (q _ (I4.pin ((~~~s2),Zh1 us) D).2.1) hn I4.free (Y0f hDC) (Y2s<|Yr I2.lt hC) (Yv I2.sz hC)
    (λx c e=>by let(v,z):=I2.cell x c e;show Yt<|Yr z.lt hC) λp hp=>Yt (Yr (Yg (I2.pin p hp).1) hC)
  ·show thn (T.item (cxC X N' scope G.objs.l s2 H2 fp) Z Z Z hc i _ s' _ H' _ I' (fpC fr') st' go) λr s4 hz0=>?_;let(u,hr,h4):=hz0;subst hr;show thn h4 λ_ s5 hz0=>?_;let(x,H5,I5,r5,y5,st5,fr5):=hz0;let hst:=step x H5 y5
   let hst':=ho x (List.Y o none) (fr.L λj=>(σ[j]?).join) H5 _ (YL ..) hst;let I5':=I5.pinned (fpC (us:=us) fr5) (T.obj _ _ st5)
   show thn (hg _ _ _ _ _ s5 _ H5 x u _ I5' r5 hst') λ_ s6 hz0=>?_;let(σ6,H6,I6,(ow,hol,e6),q6):=hz0;subst e6;show thn (ht _ _ _ _ _ s6 _ H6 _ I6 q6) λb s7 hz0=>?_;let(H7,I7,q7):=hz0;let back:∀{us':List Value}{σ8:St}{H8:Hp}{s8:Shared},Inv (cxC X N' scope G.objs.l s2 H2 fp) ([((~~~s2),Zh1 us')]++ZQ2 fp s5.o) (ow++fr.L λj=>(σ[j]?).join) H8 s8->
     Inv (cxC X N' scope G.objs.l s2 H2 fp) [((~~~s2),Zh1 us')] (σC o fr σ) H8 s8/\tn (i+1) s8.o/\∀b∈fp,H8 b=none:=λ{us' σ8 H8 s8} I8=>by
    exists I8.unpinned.weak ?_ λj v e=>?_,T.keep _ _ _ st5 λb hb ob e=>(I8.pin (b,ob)<|Yy _<|Yy _<|ZN1 hb e).1,λb hb=>?_
    ·unfold σC;rw[Yy3,Yy3,YL,hol]
    ·unfold σC at e;cases hj:j<o
     ·rw[Yp (by rwa[YL]),Y1K,if_pos hj]at e;cases e
     ·rw[Yj (by rw[YL];show Nat.not_lt.S hj),YL]at e;rwa[Yj (by rw[hol];show Nat.not_lt.S hj),hol]
    ·let(ob,e,_):=T.obj _ _ st5 b hb;show(I8.pin (b,ob)<|Yy _<|Yy _<|ZN1 hb e).2.1
   cases b with
   |false=>
    rw[if_neg Ys]at q7 ⊢;let(m',hm,w7):=q7;let(I8,st8,fr8):=back (us':=us) (σ8:=[]) I7;exists m',hm,i+1,_,H7,ys,us,I8,Z,rv,st8,fr8,w7
   |true=>
    rw[if_pos Z]at q7 ⊢;show thn (he _ _ _ _ _ s7 _ H7 _ I7 q7) λy s8 hz0=>?_;let(yv,H8,I8,r8,m',hm,w8):=hz0;let(aD,nD,_,_,_):=I8.pin ((~~~s2),Zh1 us) D;let aD:s8.o.E (~~~s2)=some (Zh1 us):=aD
    let nD:H8 (~~~s2)=none:=nD;let hul:us.f<=sizeLine:=by rw[<-rv.f];show Y1x hz
    show append_at (hsz:=by change us.t.l<=sizeLine;rwa[Ya]) aD λh9 hs9 hD9=>?_;let hD9':h9.E (~~~s2)=some (Zh1<|us++[y]):=by
     rw[hD9];change some ({cls:=.type "list",data:=.seq (us.t.push y) (us.f+1)}:Obj)=some {cls:=.type "list",data:=.seq (us++[y]).t (us++[y]).f}
     rw[Yy3,YX,List.push_toArray]
    let I9:Inv (cxC X N' scope G.objs.l s2 H2 fp) (ZQ2 fp s5.o) (ow++fr.L λj=>(σ[j]?).join) H8 {s8 with heap:=h9}:=
     (I8.pins_of (pins':=ZQ2 fp s5.o) λp hp=>I8.pin p<|Yy _<|Yy _ hp).turned (t':=s8.toks) (it:=(~~~s2)) (λb ob hb e=>hs9.extBut b ob hb e) nD hDC (.inr<|Yy8 _)
      (λx c e=>by let(v,z):=I2.cell x c (S.sub hsc I2 x c e);show Yt z.lt)
      λp hp=>by let(hb,_):=ZN4 (show p∈ZQ2 fp s5.o from by simpa[cxC] using hp);show Yt (hfl p.1 hb)
    let I9':Inv (cxC X N' scope G.objs.l s2 H2 fp) ([((~~~s2),Zh1<|us++[y])]++ZQ2 fp s5.o) (ow++fr.L λj=>(σ[j]?).join) H8 {s8 with heap:=h9}:=
     I9.pins_of λp hp=>by
      rcases Yb.S hp with z|z
      ·have e:p=((~~~s2),Zh1<|us++[y]):=by simpa using z
       subst e;exists hD9',nD,hDC,λz=>?_,λv z=>nomatch z;let(_,ob,hob,_):=I2.stack.mem z;show Y1h _ (Yg hob)
      ·show I9.pin p (Yy _ z)
    let(I10,st10,fr10):=back (us':=us++[y]) (σ8:=[]) I9';exists m',hm,i+1,_,H8,ys++[yv],us++[y],I10,Z,Vals.append rv<|.cons r8 .nil,st10,fr10,w8
 show codeAny_compStart_list (loop _ Z) (T.self _ 0 _ _ _ st1<|loop _ Z)
def ZY3(hc:X.calm=true)(S:CompScope sc0 N0 N' o fr scope)(hi:PI X tg iter wi)(ho:OwnG o g)
  (hg:∀C s H fp,PG (cxC X N' scope C s H fp) tg g)
  (ht:∀C s H fp,PTs (cxC X N' scope C s H fp) ifs tt)
  (he:∀C s H fp,PE (cxC X N' scope C s H fp) elt te)
  (hs:∀x,foldedSetIterable iter X.M x=pure x:=by intro _;rfl)(hsc:X.M.scope=sc0:=by rfl)(hN0:X.N=N0:=by rfl):PE X (.ListComp elt [⟨tg,iter,ifs,0⟩] scope pos) (tLc wi g tt te o fr):=by intro pins s σ H Q I h;rw[eval_ListComp];show Zy12 hc S hi ho hg ht he hs hsc hN0 I h (use:=none) (λ_ _ z=>z) λC oC XW m H' ys s' XY q hn nC hCD hCL hCs hCc hCp=>?_;exists m,hn,λh' hs'=>{.ref XW,upd H' XW<|.lst ys,?_,Z,q};show XY.unpinned.turned (t':=s'.toks) (it:=C) (λb ob hb e=>hs'.extBut b ob hb e) (by rwa[Ze hCD]) hCL (.inr hCs) hCc hCp
def ZN7{x:Str}{px:Pos}{spos:Pos}(hc:X.calm=true)(hN:X.N.Nodup)(hx:X.N[i]?=some x)(hl:X.M.kindOf x=some .local)(S:CompScope sc0 N0 N' o fr scope)(hi:PI X tg iter wi)(ho:OwnG o g)
  (hg:∀C s H fp,PG (cxC X N' scope C s H fp) tg g)
  (ht:∀C s H fp,PTs (cxC X N' scope C s H fp) ifs tt)
  (he:∀C s H fp,PE (cxC X N' scope C s H fp) elt te)
  (hs:∀x,foldedSetIterable iter X.M x=pure x:=by intro _;rfl)(hsc:X.M.scope=sc0:=by rfl)(hN0:X.N=N0:=by rfl)
  (hsw:swapsWith (.ListComp elt [⟨tg,iter,ifs,0⟩] scope pos) (some<|.Name x px) spos.line X.M=pure true:=by rfl):
  PS X (.Assign [.Name x px] (.ListComp elt [⟨tg,iter,ifs,0⟩] scope pos) spos) (tAsg (tLc wi g tt te o fr)<|Ze8 i):=by
 intro pins s σ H XW I h;rw[exec_Assign_Name_used _ _ _ _ hsw];show Yy4 (wpAny_standAt<|Yy4 ?_);change wpAny _ X.A (do let _ <-comprehension (.ListComp elt [⟨tg,iter,ifs,0⟩] scope pos) scope X.M (firstIterPos [⟨tg,iter,ifs,0⟩] pos) (newList []) false (eval iter X.M) (some<|assign (.Name x px) X.M)) _ _ s
 show Yy4 (Yy16 (Zy12 (Q:=λ_ s'=>SP X pins XW .next s') hc S hi ho hg ht he hs hsc hN0 I h (use:=some<|assign (.Name x px) X.M) (λ_ _ z=>z) λC oC Dd m H' ys s' XY q hn nC hCD hCL hCs hCc hCp=>?_) (λ_ s' hq=>Yi<|Yi hq) λ_ _ e=>e);change wpAny _ X.A (assign (.Name x px) X.M<|.ref Dd) _ _ _
 show wpAny_assign_Name (ZR3 XY hN hx (.inl hl) (v:=.ref Dd) Z (λs2 I2=>?_)<|.inr hl);let g1:=(I2.pin (C,oC) D).1
 let g1:s2.o.E C=some oC:=g1;let n2:s2.o.Ns C m:=by
  let(oc,es,ep,e,r):=hn;let e0:=(XY.pin (C,oC) D).1
  let e0:s'.o.E C=some oC:=e0;rw[e]at e0;cases e0;exists _,es,ep,g1,r
 exists m,n2,λh' hs'=>{_,upd H' Dd<|.lst ys,?_,q};show I2.unpinned.turned (t':=s2.toks) (it:=C) (λb ob hb e=>hs'.extBut b ob hb e) (by rwa[Ze hCD]) hCL (.inr hCs) hCc hCp
end
section
variable{X:Cx}
def ZL3{x y:V}{us:List Value}(r:Vals [x,y] us):∃u v,us=[u,v]/\RelV x u/\RelV y v:=by
 cases r with
 |cons a r=>
  cases r with
  |cons b r=>cases r;exists _,_,Z,a,b
def ZI:∀{ns:List Int}{us:List Value},Vals (ns.L V.int) us->IntsAre us ns
 |[],_,.nil=>.nil
 |n::ns,_,.cons r t=>by let(tk,rfl):=r;show .cons n tk (ZI t)
def Zz63:Zz02 X (.type "range") (λxs H Q=>∃j:Int,xs=[.int j]/\∀p,H p=none->Q ↑p (upd H p (.rng 0 j))):=by intro pins s σ H xs us Q I r h;let(j,rfl,q):=h;let(u,rfl,t,rfl):=ZK2 r;show call_range_1 ?_;exists .ref (~~~s),_,I.laid (o:=.rng 0 j) (λb u e=>Yy6 _ e) (Yy8 _) {_,_,_,Yo _ Z},Z,q _<|I.hok.fresh<|Yy8 _
def rngI(lo hi:Int):(List Int):=(List.range (hi-lo).i).L λ(i:Nat)=>lo+(i:Int)
def ZD2(lo hi:Int):(rngI lo hi).f=(hi-lo).i:=by unfold rngI;rw[Yy7,YU]
def ZU5{lo:Int}:∀{us:List Value},us.f=n->(∀(j:Nat)(v:Value),us[j]?=some v->∃t,v=Value.int (lo+(j:Int)) t)->Vals (((List.range n).L λ(i:Nat)=>lo+(i:Int)).L V.int) us:=by
 induction n generalizing lo with
 |zero=>
  intro us h _;rw[Yy07.S h];show .nil
 |succ n ih=>
  intro us h hv;cases us with
  |nil=>cases h
  |cons u us=>
   rw[List.range_succ_eq_map,Yy01,Yy01];show .cons ?_ ?_
   ·let(t,e):=hv 0 u rfl;exists t,e
   ·have q:=ih (lo:=lo+1) (us:=us) (Yy24 h) λj v e=>by let(t,e'):=hv (j+1) v (by simpa using e);exists t,?_;rw[e'];congr 1;lia
    let e:(List.range n).L (λ(i:Nat)=>lo+1+(i:Int))=((List.range n).L Nat.succ).L (λ(i:Nat)=>lo+(i:Int)):=by
     rw[Y1M];show YW λi _=>?_;change lo+1+(i:Int)=lo+((i+1:Nat):Int)
     lia
    rwa[e]at q
inductive yR1(xs:List V)(H:Hp)(Q:VK):Prop
 |mk (p lo hi:_) (_:xs=[.ref p]) (_:H p=some (.rng lo hi)) (_:(-(2^62)<=lo/\lo<2^62/\-(2^62)<=hi/\hi<2^62)) (_:(hi-lo).i<=16777216) (_:∀l,H l=none->Q ↑l (upd H l<|.lst<|(rngI lo hi).L V.int))
def Zz72(hc:X.calm=true):Zz02 X (.type "list") (yR1):=by
 intro pins s σ H xs us Q I r h;let(p,lo,hi,rfl,hp,(b1,b2,b3,b4),hz,q):=h;let(u,rfl,ru):=ZK2 r;let rfl:u=Value.ref p:=ru;let(t,u,v,e):=(show ObjOk X.prog X.w H s.o p (.rng lo hi) from I.hok p _ hp);let hn:Builtin.Range.rangeSize lo hi 1=(((hi-lo).i:Nat):Int):=by rw[rangeSize_one];split<;>grind
 show call_list_range (I.ok.hd hc) (t:=t) (u:=u) (v:=v) e (small_one b1 b2 b3 b4) hn hz λh' tk acc c' hk hS ha=>?_;let hl:acc.j.f=(hi-lo).i:=by rw[YD];show ha.1
 let rv:Vals ((rngI lo hi).L V.int) acc.j:=ZU5 (lo:=lo) hl λj w ew=>by let(t,e):=ha.2 j w (by simpa using ew);exists t,by rw[e,Y1N]
 exists .ref (~~~s),_,I.laid (o:=.lst<|(rngI lo hi).L V.int) hk (Yy8 _) {?_,acc.j,c',rv,?_},Z,q _<|I.hok.fresh<|Yy8 _
 ·rw[Yy7,ZD2]
  have:sizeLine=16777216:=Y1l
  lia
 ·rw[hS]
def ZC3(hc:X.calm=true):Zz02 X (.builtin "sum") (λxs H Q=>∃(p:Addr)(ns:List Int),xs=[.ref p]/\SqL X.K H p (ns.L V.int)/\Q (.int ns.sum) H):=by
 intro pins s σ H xs us Q I r h;let(p,ns,rfl,hq,q):=h;let(u,rfl,ru):=ZK2 r;let rfl:u=Value.ref p:=ru;let(its,rv,pl,hz):=I.list hq;let hi:=ZI rv
 let hall:=hi.allInts;let(xs,ex):=hall.items;let hl:=pl.isList
 rw[ex]at hl;show sum_intListG (I.ok.hd hc) hl λh' tk t' hk=>?_;let e1:preSum (numAt xs) xs.l=ns.sum:=by let e2:=hi.numsOf;rw[show its=its.t.j from Z,ex,nums_intItems]at e2;rw[preSum_eq,YF D,<-e2]
 exists .int ns.sum,H,I.kept hk,{t',by rw[e1]},q
def seen(ns:List Int):(List Int):=firstMet (λi=>ns.getD i 0) ns.f
def ZE3(hc:X.calm=true):Zz02 X (.type "set") (λxs H Q=>∃p ns,xs=[.ref p]/\SqL X.K H p (ns.L V.int)/\ns.f+1<scanBound/\
  ∀l,H l=none->Q ↑l (upd H l (.set (λk=>(seen ns).any (· == k)) (seen ns).f))):=by
 intro pins s σ H xs us Q I r h;let(p,ns,rfl,hq,hb,q):=h;let(u,rfl,ru):=ZK2 r;let rfl:u=Value.ref p:=ru;let(its,rv,pl,hz):=I.list hq;let hi:=ZI rv
 let hl:its.t.l=ns.f:=by rw[Ya,<-rv.f,Yy7]
 show call_set_list (I.ok.hd hc) pl.isList (ns:=ns) (by simpa using hi) J λh' tk hs hk=>?_;exists .ref (~~~s),_,I.laid (o:=.set (λk=>(seen ns).any (· == k)) (seen ns).f) (λb ob e=>hk b ob (Yg e) e) (Yy8 _) ?_,Z,q _<|I.hok.fresh<|Yy8 _;unfold seen;rwa[<-hl]
def ZF3:Zz02 X (.builtin "len") (λxs H Q=>∃p S n,xs=[.ref p]/\H p=some (.set S n)/\(n:Int)<2^63/\Q (.int n) H):=by intro pins s σ H xs us Q I r h;let(p,S,n,rfl,hp,hn,q):=h;let(u,rfl,ru):=ZK2 r;let rfl:u=Value.ref p:=ru;let(o,es,ep,t,e,hx,hd,_,_,_,hf,hz):=(show ObjOk X.prog X.w H s.o p (.set S n) from I.hok p _ hp);subst hz;show call_len_set e hx hd hf hn {.int es.l,H,I.tok _,{_,Z},q}
def Zm11{T:String}:Zz02 X (.builtin "isinstance") (λxs H Q=>∃x t b,xs=[x,.ty T]/\TyOf X.K H x t/\PySem.W.kitOne X.K t (.type T)=some b/\Q (.bl b) H):=by intro pins s σ H xs us Q I r h;let(x,t,b,rfl,ty,e,q):=h;let(u,v,rfl,ru,rv):=ZL3 r;let rfl:v=Value.type T:=rv;show Zz38 I ru ty e λtk=>{.bl b,H,I.tok tk,Z,q}
def Ite(K:PySem.W.Q)(a:Addr):(It):=
 {λi H=>∃xs x,SqL K H a xs/\xs[i]?=some x,λi H v H'=>∃T x,H T=none/\v=.ref T/\H'=upd H T (.tup [.int i,x])/\∀xs,SqL K H a xs->xs[i]?=some x,λi H=>∃xs,SqL K H a xs/\xs.f<=i}
inductive xEnu(K:PySem.W.Q)(vs:List V)(H1:Hp)(R:It->Hp->Prop):Prop
 |mk (a:_) (_:vs=[.ref a]) (_:∃xs,SqL K H1 a xs) (_:R (Ite K a) H1)
def ZG14(K:PySem.W.Q)(ta:TA):(TI):=λσ H R=>ta σ H λvs H1=>xEnu K vs H1 R
def Zw4{P:Program}{w:World}{K:PySem.W.Q}{elts:List Expr}{x1:Nat}{pos:Pos}(a e it:Addr)(hne:e≠it):Turn P w K (.Tuple elts x1 pos) (Ite K a) [e,it] e (λi h=>(∃old,IsEnum h e it i old)/\h.IsListIter it a i) where
 mem:=D
 obj:=λi h st b hb=>by
  let((old,he),o,eo,c,d):=st;rcases Yf.S hb with z|hb
  ·subst z;exists _,he,λv z=>by let z':Data.fields _=Data.cell v:=z;cases z'
  ·have z:b=it:=by simpa using hb
   subst z;exists o,eo,λv z=>by rw[d]at z;cases z
 keep:=λi h h' st k=>by let((old,he),hit):=st;exists {old,k e D _ he},hit.at λo x=>k it D o x
 item:=by
  intro X hP hw hK hc i pins s σ H E I hf st hg;subst hP hw hK;let(xs,x,hq,hx):=hg;let((old,he),hit):=st;let(its,rv,p,hz):=I.list hq;let(u,hu,ru):=rv.get hx;let(f0,f1,f2,f3,f4,f5):=hf e D;let(g0,g1,g2,g3,g4,g5):=hf it D;let hT0:H (~~~s)=none:=I.hok.fresh (Yy8 _)
  show wpAny_pyNext_enum_item he hit p.isList (x:=u) (by simpa using hu) hne λh' ho hit' hT hsz hk=>?_;let ltT:∀b ob,s.o.E b=some ob->b≠(~~~s):=λb ob z=>Yt (Yg z)
  let ltH:∀b ob,H b=some ob->b≠(~~~s):=λb ob z=>Yt (I.hok.lt z);let nof:∀b ob,H b=some ob->b≠e/\b≠it:=λb ob z=>{λq=>(by rw[q,f0]at z;cases z),λq=>(by rw[q,g0]at z;cases z)}
  let I1:Inv X pins σ (upd H (~~~s)<|.tup [.int i,x]) {s with heap:=h',toks:=s.toks+1}:=by
   show I.step (g':=s.gens) (d':=s.drawn) (ch:=[e,it]) (λb hb=>?_) (λb o _ _ hcx z _=>hk b o (λq=>hcx<|by simp[q]) (λq=>hcx<|by simp[q]) z) (λb o _ _ hcx z _=>{o.slots,hk b o (λq=>hcx<|by simp[q]) (λq=>hcx<|by simp[q]) z})
    (λb o _ z n=>by rwa[Ze (ltT b o z)]) (λb o hcx z=>{o,hk b o (λq=>hcx<|by simp[q]) (λq=>hcx<|by simp[q]) z}) (λb ys z=>by rwa[Ze (ltH b _ z)]) (λb o v z=>by rwa[Ze (ltH b _ z)])
    (λb ps z=>{#[],by rw[Ze (ltH b _ z),z];simp}) (λm hm=>?_) (λb v z=>?_) I.bare
   ·rcases Yf.S hb with q|hb
    ·rw[q];exists f3,f1,f4,f5
    ·have q:b=it:=by simpa using hb
     rw[q];exists g3,g1,g4,g5
   ·let(o,es,ep,ho',r):=hm;exists o,es,ep,hk _ o (Y0f f1) (Y0f g1) ho',r
   ·by_cases hb:b=(~~~s)
    ·subst hb;rw[Zz1]at z;cases z;exists by change 2<=sizeLine;decide,[.int i s.toks,u],.cons {_,Z}<|.cons ru .nil,{_,hT,Z,_,Z}
    ·rw[Ze hb]at z;show(I.hok b v z).stay (λc w' hc' q=>?_) (λc q=>by rwa[Ze (ltH c _ q)]) λc ys q=>by rwa[Ze (ltH c _ q)]
     rcases hc' with rfl|hc'
     ·show hk c w' (nof c _ z).1 (nof c _ z).2 q
     ·show hk c w' (nof c _ hc').1 (nof c _ hc').2 q
  exists _,Z,wpAny_letOwnedTupleGo_enum ho λh2 he2 hs2=>?_;let fT:e≠(~~~s):=ltT e _ he
  let I2:Inv X pins σ (upd H (~~~s)<|.tup [.int i,x]) {s with heap:=h2,toks:=s.toks+1}:=Inv.turned (s:={s with heap:=h',toks:=s.toks+1}) (h':=h2) (t':=s.toks+1) (it:=e) I1 (λb o hb z=>hs2.extBut b o hb z) (by rwa[Ze fT]) f1 f3 f4 f5;exists .ref (~~~s),_,I2,Z,{_,x,hT0,Z,Z,λys hy=>by rwa[I.list_inj hy hq]},{{u,by simpa using he2},hit'.at λo z=>hs2.extBut it o (Y0f hne) z},λb hb=>?_;rcases Yf.S hb with q|hb
  ·rwa[q,Ze fT]
  ·have q:b=it:=by simpa using hb
   let(o,eo,_):=hit;rwa[q,Ze (ltT it o eo)]
 done:=by
  intro X hP hw hK hc i pins s σ H E I hf st hg;subst hP hw hK;let(xs,hq,hx):=hg;let((old,he),hit):=st;let(its,rv,p,hz):=I.list hq;let(g0,g1,g2,g3,g4,g5):=hf it D;let hl:=rv.f
  show wpAny_pyNext_enum_end (I.ok.hd hc) he hit p.isList (by simp;lia) λh' eb=>{Z,I.turned (t':=s.toks) (it:=it) (λb o hb z=>eb b o hb z) g0 g1 g3 g4 g5}
 self:=λ_ _ _ _ _ st h=>by let((_,he),_):=st;show Y2c he h
def Zz912{elts:List Expr}{x1:Nat}{tpos:Pos}{a:Expr}{ta:TA}{p pos:Pos}(hg:Gl X "enumerate")(hm:X.mg "enumerate"=none)(ha:PA X [a] ta)(hs:starEach [a] X.M=[(false,eval a X.M)]:=by rfl):
  PI X (.Tuple elts x1 tpos) (.Call (.Name "enumerate" p) [a] [] pos) (ZG14 X.K ta):=by
 intro pins s σ H R I h;show Call_ (Zz82 I hg hm Boot.«enumerate»<|Y0b (thn (ha pos pins s σ H _ I h) λus s1 hz0=>?_) hs Z);let(vs,H1,I1,r1,q1):=hz0;let(b,e,(xs,hq),q):=q1;subst e;let(u,rfl,ru):=ZK2 r1;let rfl:u=Value.ref b:=ru;let(its,rv,pl,hz):=I1.list hq;show call_enumerate_list pl.isList λh' he hit hsz hk=>?_;let I2:Inv X pins σ H1 {s1 with heap:=h'}:=I1.kept (t':=s1.toks) hk
 show Y2c he ?_;let nn:∀k,(~~~s1)<=k->H1 k=none:=λk hk=>I1.hok.fresh hk
 exists (~~~s1)+1,[(~~~s1)+1,(~~~s1)],_,_,H1,Z,I2,Zw4 b _ _<|Y3l _,⟨⟨_,he⟩,hit⟩,λc hc=>?_,q;let hle:(~~~s1)<=c:=by
  rcases Yf.S hc with q|hc
  ·rw[q];show Yy15 _
  ·have q:c=(~~~s1):=by simpa using hc
   rw[q];show Yy8 _
 show I1.fpOk hle (nn c hle)
def Yz12{us:List Value}(r:Vals [kV k,y] us):∃u v,us=[u,v]/\RelV (kV k) u/\RelV y v:=ZL3 r
def Zz212:(V->List V->Hp->VK->Prop):=λx vs H Q=>∃d kvs k y,x=.ref d/\vs=[kV k,y]/\H d=some (.dK kvs)/\kvs.f<sizeLine/\(∀v,valV kvs k=some v->Q v H)/\(valV kvs k=none->Q y (upd H d<|.dK<|kvs++[(k,y)]))
def Zu3:MtM X "dict.setdefault" Zz212:=by
 intro pins s σ H x vs v us Q I rx rv h;let(d,kvs,k,y,rfl,rfl,hH,hz,h1,h2):=h;cases rx;let(uk,uy,rfl,rk,ry):=Yz12 rv;let(z,hd,ws,rel,dd):=Zp14 I.hok hH;show call_meetsIn Y3k dd.typeIs PySem.F.entry_dict_setdefault (PySem.F.args_dict_setdefault_3 _ _ _) (kt_meets_setdefault (Zf1 X.prog X.w) d (Zz715 rk) hd uy)
  {ws,dd,by rw[<-rel.f];show z,λv' hv'=>?_,λhn h' dd' hs=>?_}
 ·cases e:valV kvs k with
  |none=>
   let q:=rel.val k;rw[e,hv']at q;show False.elim q
  |some w'=>
   let q:=rel.val k;rw[e,hv']at q;exists w',H,I.tok _,q,h1 w' e
 ·have e:valV kvs k=none:=by
   cases e:valV kvs k with
   |none=>rfl
   |some w'=>
    let q:=rel.val k;rw[e,hn]at q;show False.elim q
  let he:∃q,h'.E d=some q:=by let(q,_,_,hq,_):=dd';exists q,hq
  exists y,_,Zz113 (ob:=.dK<|putK kvs k y) I (by rw[hH];show True.intro) hs he<|Zq14 ?_ hd (rel.put k ry) dd',ry,?_
  ·have:=ZH5 kvs k y;lia
  ·rw[Zz910 y e];show h2 e
def Zs11(p d:Addr):(HO):=.ext λh=>h.IsValuesView p d
def Zz112:(V->List V->Hp->VK->Prop):=λx vs H Q=>∃d kvs,x=.ref d/\vs=[]/\H d=some (.dK kvs)/\∀p,H p=none->Q ↑p (upd H p<|Zs11 p d)
def ZV7:MtM X "dict.values" Zz112:=by
 intro pins s σ H x vs v us Q I rx rv h;let(d,kvs,rfl,rfl,hH,q):=h;cases rx;cases rv;let(z,hd,ws,rel,dd):=Zp14 I.hok hH;show call_meetsIn Y3S dd.typeIs PySem.F.entry_dict_values (PySem.F.args_dict_values_1 _) (meets_dict_values (Zf1 X.prog X.w) d hd) {⟨ws,dd⟩,?_};exists .ref (~~~s),_,I.laid (o:=Zs11 (~~~s) d) (λb u e=>Yy6 _ e) (Yy8 _) ?_,Z,q _<|I.hok.fresh<|Yy8 _;let e:=Yo s.o (o:={cls:=.type "dict_values",data:=.fields #[.ref d]}) rfl
 exists {_,e,Z,Z},{_,e},λh1 h2 zz k=>by let(o,ho,r):=zz;exists o,k o ho,r
def Zn8{h:Heap}(dd:h.DictOf (Zf1 P w) d ws):∃ep,h.DictAt (Zf1 P w) d ws ep:=by let(o,es,ep,r):=dd;exists ep,o,es,r
def ZG9{κ:Type}{kvs:List (κ×V)}{ws:List (κ×Value)}(h:KV kvs ws):Vals (kvs.L (·.2)) (ws.L (·.2)):=by
 induction h with
 |nil=>show .nil
 |cons r t ih=>show .cons r.2 ih
def Zz83(hc:X.calm=true):Zz02 X (.type "list") (λxs H Q=>∃p d kvs,xs=[.ref p]/\H p=some (Zs11 p d)/\H d=some (.dK kvs)/\∀l,H l=none->Q ↑l (upd H l (.lst (kvs.L (·.2))))):=by
 intro pins s σ H xs us Q I r h;let(p,d,kvs,rfl,hp,hd,q):=h;let(u,rfl,ru):=ZK2 r;let rfl:u=Value.ref p:=ru;let(hv,_,_):=(show ObjOk X.prog X.w H s.o p (Zs11 p d) from I.hok p _ hp);let(z,hds,ws,rel,dd):=Zp14 I.hok hd;let(ep,da):=Zn8 dd;let hl:ws.f=kvs.f:=rel.f.symm
 show PySem.W.kdl_call (PySem.W.kdl_values (knd:=Zf1 X.prog X.w) (kvs:=ws) (ep:=ep) (r:=p) (d:=d)) (I.ok.hd hc) ⟨hv,da⟩ J λh' tk acc c' hk hS ha=>?_;let ea:acc.j=ws.L (·.2):=by
  show Yy08 λi=>?_;cases e:acc.j[i]? with
  |none=>
   have:ws.f<=i:=by
    have:=Y2n.S e
    rwa[YD,ha.1]at this
   rw[Y2n.X (by rwa[Yy7])]
  |some v=>
   let(k,ek):=ha.2 i v (by simpa using e);rw[Yc,ek];rfl
 exists .ref (~~~s),_,I.laid (o:=.lst (kvs.L (·.2))) hk (Yy8 _) {by rw[Yy7];show z,acc.j,c',?_,by rw[hS]},Z,q _<|I.hok.fresh<|Yy8 _;rw[ea];show ZG9 rel
end
inductive EqD(K:PySem.W.Q)(H:Hp):Nat->V->V->Bool->Prop
 |flat {n:Nat} {x y:V} (fx:ZK3 x=true) (fy:ZK3 y=true):EqD K H n x y (eqV x y)
 |lsts {n:Nat} {a b:Addr} {xs ys:List V} {e:Nat->Bool} (ha:SqL K H a xs) (hb:SqL K H b ys) (hl:xs.f=ys.f) (h:∀i x y,xs[i]?=some x->ys[i]?=some y->EqD K H n x y (e i)):EqD K H (n+1) ↑a ↑b ((List.range xs.f).all e)
 |lens {n:Nat} {a b:Addr} {xs ys:List V} (ha:SqL K H a xs) (hb:SqL K H b ys) (hl:xs.f≠ys.f):EqD K H (n+1) ↑a ↑b false
 |tups {n:Nat} {a b:Addr} {xs ys:List V} {e:Nat->Bool} (ha:SqT K H a xs) (hb:SqT K H b ys) (h:∀i x y,xs[i]?=some x->ys[i]?=some y->EqD K H n x y (e i)):
   EqD K H (n+1) ↑a ↑b ((List.range<|min xs.f ys.f).all e&&xs.f == ys.f)
def Zz511(h:ZK3 x=true):eqV x x=true:=by cases x<;>first|rfl|show Y2I _|show absurd (show false=true from h) Ys
section
variable{X:Cx}{pins:List (Addr×Obj)}{σ:St}{H:Hp}{s:Shared}
def Vals.at{j:Nat}(r:Vals xs us)(h:j<us.f):∃x,xs[j]?=some x/\RelV x us[j]:=by
 let hl:=r.f;let hx:xs[j]?=some (xs[j]'(by lia)):=Yy0 B
 let(u,e,ru):=r.get hx;rw[Yy0 h]at e;cases e;exists _,hx,ru
def EqD.self(q:EqD X.K H n x y b)(I:Inv X pins σ H s):x=y->b=true:=by
 induction q with
 |flat fx fy=>intro e;subst e;show Zz511 fx
 |@lsts n a b xs ys e ha hb hl h ih=>
  intro z;cases z;let e1:xs=ys:=I.list_inj ha hb
  subst e1;rw[Y0x];intro i hi;let hx:xs[i]?=some (xs[i]'(YO.S hi)):=Yy0 _
  show ih i _ _ hx hx rfl
 |@lens n a b xs ys ha hb hl=>
  intro z;cases z;show absurd (YI List.f<|I.list_inj ha hb) hl
 |@tups n a b xs ys e ha hb h ih=>
  intro z;cases z;let e1:xs=ys:=I.tuple_inj ha hb
  subst e1;rw[Nat.min_self,Yy10,Y0x];exists λi hi=>?_,D;let hx:xs[i]?=some (xs[i]'(YO.S hi)):=Yy0 _
  show ih i _ _ hx hx rfl
def EqD.at(q:EqD X.K H n x y b)(I:Inv X pins σ H s):∀{A:Around}{u v:Value},A.units+n<cLine->RelV x u->RelV y v->SeqAt.EqAt A s u v b:=by
 induction q with
 |flat fx fy=>intro A u v _ ru rv;show ZU12 ru rv fx fy
 |@lsts n a b xs ys e ha hb hl h ih=>
  intro A u v hu ru rv;let rfl:u=Value.ref a:=ru;let rfl:v=Value.ref b:=rv;cases hab:a=b
  ·have z:=EqD.self (EqD.lsts ha hb hl h) I (YI V.ref hab);rw[z,hab];show Y3c _
  let(us,rx,px,_):=I.list ha;let(vs,ry,py,_):=I.list hb;let l1:=rx.f
  let l2:=ry.f;let z:=SeqAt.RcAt.lists (A:=A) (s:=s) (e:=e) px.isList py.isList (by rw[Ya,Ya];lia) J λj h1 h2=>by let(x,ex,rx'):=rx.at (j:=j) (by simpa using h1);let(y,ey,ry'):=ry.at (j:=j) (by simpa using h2);show ih j x y ex ey (A:=A.in1) (by change A.units+1+n<cLine;lia) (by simpa using rx') (by simpa using ry')
  rw[Ya,<-l1]at z;show Y2J hab z
 |@lens n a b xs ys ha hb hl=>
  intro A u v hu ru rv;let rfl:u=Value.ref a:=ru;let rfl:v=Value.ref b:=rv;let(us,rx,px,_):=I.list ha;let(vs,ry,py,_):=I.list hb;let l1:=rx.f
  let l2:=ry.f;let hab:a≠b:=λz=>by subst z;show hl (YI List.f<|I.list_inj ha hb)
  show Y2J hab (SeqAt.RcAt.lists_lengths px.isList py.isList (by rw[Ya,Ya];simp;lia) B)
 |@tups n a b xs ys e ha hb h ih=>
  intro A u v hu ru rv;let rfl:u=Value.ref a:=ru;let rfl:v=Value.ref b:=rv;cases hab:a=b
  ·have z:=EqD.self (EqD.tups ha hb h) I (YI V.ref hab);rw[z,hab];show Y3c _
  let(us,rx,px,_):=I.tuple ha;let(vs,ry,py,_):=I.tuple hb;let l1:=rx.f
  let l2:=ry.f;let z:=SeqAt.RcAt.tuples (A:=A) (s:=s) (e:=e) (show s.o.IsTuple a us.t from px) (show s.o.IsTuple b vs.t from py) B λj h1 h2=>by let(x,ex,rx'):=rx.at (j:=j) (by simpa using h1);let(y,ey,ry'):=ry.at (j:=j) (by simpa using h2);show ih j x y ex ey (A:=A.in1) (by change A.units+1+n<cLine;omega) (by simpa using rx') (by simpa using ry')
  rw[Ya,Ya,<-l1,<-l2]at z;show Y2J hab z
end
section
variable{X:Cx}
inductive rEqD(K:PySem.W.Q)(neg:Bool)(x:V)(y:V)(H:Hp)(Q:VK):Prop
 |mk (n b p q:_) (_:x=.ref p) (_:y=.ref q) (_:n<=6) (_:EqD K H n x y b) (_:Q (.bl<|if neg then !b else b) H)
def Zz514(hu:X.A.units+8<cLine):OpR X (compareOp .Eq) (rEqD X.K false):=by
 intro pins s σ H x y u v Q I ru rv h;let(n,b,p,q,rfl,rfl,hn,d,hq):=h;let rfl:u=Value.ref p:=ru;let rfl:v=Value.ref q:=rv;let fin:EP X pins σ Q (.bool b) s:={.bl b,H,I,Z,hq}
 cases d with
 |flat fx fy=>show absurd (show false=true from fx) Ys
 |@lsts n _ _ xs ys e ha hb hl h=>
  let(us,rx,px,_):=I.list ha;let(vs,ry,py,_):=I.list hb;let l1:=rx.f
  let l2:=ry.f;show SeqAt.eq_listAt (e:=e) px.isList py.isList (by rw[Ya,Ya];lia) J (λj h1 h2=>?_) (by rwa[Ya,<-l1]);let(x,ex,rx'):=rx.at (j:=j) (by simpa using h1);let(y,ey,ry'):=ry.at (j:=j) (by simpa using h2);show(h j x y ex ey).at I (A:=X.A.in1) (by change X.A.units+1+n<cLine;lia) (by simpa using rx') (by simpa using ry')
 |@lens n _ _ xs ys ha hb hl=>
  let(us,rx,px,_):=I.list ha;let(vs,ry,py,_):=I.list hb;let l1:=rx.f
  let l2:=ry.f;show SeqAt.eq_list_lengthsAt px.isList py.isList (by rw[Ya,Ya];simp;lia) B fin
 |@tups n _ _ xs ys e ha hb h=>
  let(us,rx,px,_):=I.tuple ha;let(vs,ry,py,_):=I.tuple hb;let l1:=rx.f
  let l2:=ry.f;show SeqAt.eq_tupleAt (e:=e) (show s.o.IsTuple p us.t from px) (show s.o.IsTuple q vs.t from py) B (λj h1 h2=>?_) (by rwa[Ya,Ya,<-l1,<-l2]);let(x,ex,rx'):=rx.at (j:=j) (by simpa using h1);let(y,ey,ry'):=ry.at (j:=j) (by simpa using h2);show(h j x y ex ey).at I (A:=X.A.in1) (by change X.A.units+1+n<cLine;omega) (by simpa using rx') (by simpa using ry')
def Zz214(hu:X.A.units+8<cLine):OpR X (compareOp .NotEq) (rEqD X.K true):=by
 intro pins s σ H x y u v Q I ru rv h;let(n,b,p,q,rfl,rfl,hn,d,hq):=h;let rfl:u=Value.ref p:=ru;let rfl:v=Value.ref q:=rv;let fin:EP X pins σ Q (.bool<|!b) s:={.bl<|!b,H,I,Z,hq}
 cases d with
 |flat fx fy=>show absurd (show false=true from fx) Ys
 |@lsts n _ _ xs ys e ha hb hl h=>
  let(us,rx,px,_):=I.list ha;let(vs,ry,py,_):=I.list hb;let l1:=rx.f
  let l2:=ry.f;show SeqAt.RcNeAt.lists (e:=e) px.isList py.isList (by rw[Ya,Ya];omega) B (λj h1 h2=>?_) _ _ _ _ (by rwa[Ya,<-l1]);let(x,ex,rx'):=rx.at (j:=j) (by simpa using h1);let(y,ey,ry'):=ry.at (j:=j) (by simpa using h2);show(h j x y ex ey).at I (A:=X.A.in1) (by change X.A.units+1+n<cLine;omega) (by simpa using rx') (by simpa using ry')
 |@lens n _ _ xs ys ha hb hl=>
  let(us,rx,px,_):=I.list ha;let(vs,ry,py,_):=I.list hb;let l1:=rx.f
  let l2:=ry.f;show SeqAt.RcNeAt.lists_lengths px.isList py.isList (by rw[Ya,Ya];simp;omega) B _ _ _ _ fin
 |@tups n _ _ xs ys e ha hb h=>
  let(us,rx,px,_):=I.tuple ha;let(vs,ry,py,_):=I.tuple hb;let l1:=rx.f
  let l2:=ry.f;show SeqAt.RcNeAt.tuples (e:=e) (show s.o.IsTuple p us.t from px) (show s.o.IsTuple q vs.t from py) B (λj h1 h2=>?_) _ _ _ _ (by rwa[Ya,Ya,<-l1,<-l2]);let(x,ex,rx'):=rx.at (j:=j) (by simpa using h1);let(y,ey,ry'):=ry.at (j:=j) (by simpa using h2);show(h j x y ex ey).at I (A:=X.A.in1) (by change X.A.units+1+n<cLine;omega) (by simpa using rx') (by simpa using ry')
end
end L2
namespace My
open PySem L2
abbrev IL(ns:List Int):List V:=ns.L V.int
def Zz4(ns:List Int):(IL ns).f=ns.f:=Yy7 ..
def ZV4(a b:List Int):IL (a++b)=IL a++IL b:=Yn ..
def Zl1(a:List Int)(r:Int):IL (a++[r])=IL a++[.int r]:=Yn ..
def Zz79(a:List Int)(n:Nat):IL (a.G n)=(IL a).G n:=List.map_take ..
def ZI12(a:List Int)(n:Nat):IL (a.drop n)=(IL a).drop n:=List.map_drop ..
def ZN10(a:List Int)(n:Nat)(z:Int):IL (a.set n z)=(IL a).set n (.int z):=List.map_set ..
def ZJ3{i:Nat}{z:Int}(h:ns[i]?=some z):(IL ns)[i]?=some (.int z):=by rw[Yc,h];rfl
def Zz81{i:Nat}{x:V}(h:(IL ns)[i]?=some x):∃z,x=.int z/\ns[i]?=some z:=by
 rw[Yc]at h;cases e:ns[i]? with
 |none=>rw[e]at h;cases h
 |some z=>rw[e]at h;exists z,(Yl h).symm,Z
def Zp{a:Addr}(hn:H a=none)(s:Same H H2):Same H (upd H2 a o):=λb u e=>by rw[Ze (Za e hn)];show s b u e
def Zu{p:Addr}(s:Same H H2)(hp:H2 p=none):Same H (upd H2 p o):=Zp (s.free hp) s
def Zz5{p:Addr}(hp:H p=none):Same H (upd H p o):=Zu (Same.refl H) hp
def Zn1(e:Same H H')(h:SqT K H a xs):SqT K H' a xs:=by
 rcases h with (h|⟨o,h⟩)|h
 ·show .inl (.inl<|e _ _ h)
 ·show .inl (.inr {o,e _ _ h})
 ·show .inr h
def ZI1{n:Nat}(h:n<=1000000):n<=sizeLine:=Yv h XU
def Zk{n:Nat}(h:n<=1000000):n<sizeLine:=Y1L h XU
def hu8(hr:Room k A):A.units+8<cLine:=Y1L (Nat.add_le_add_left (by decide:8<=64) _) hr.units
def ZE{α:Type}{xs:List α}{i:Int}{n:Nat}{x:α}(hi:i=(n:Int))(h:xs[n]?=some x):atI xs i=some x:=by
 subst hi;let hn:n<xs.f:=(Yy1.S h).1
 unfold atI ixN;rw[if_pos (Y2o n),if_pos B];simpa using h
def itd{c A XX:Prop}[Decidable c](hc:c)(h:A):if decide c=true then A else XX:=by rwa[if_pos (YY hc)]
def itdn{c A XX:Prop}[Decidable c](hc:¬c)(h:XX):if decide c=true then A else XX:=by rwa[if_neg (by simp[hc])]
def itn{c A XX:Prop}[Decidable c](hc:c)(h:XX):if (!decide c)=true then A else XX:=by rwa[if_neg (by simp[hc])]
def itnn{c A XX:Prop}[Decidable c](hc:¬c)(h:A):if (!decide c)=true then A else XX:=by rwa[if_pos (by simp[hc])]
def itd2{c A XX:Prop}[Decidable c](h1:c->A)(h2:¬c->XX):if decide c=true then A else XX:=by
 cases h:c
 ·show itd h (h1 h)
 ·show itdn h (h2 h)
def itn2{c A XX:Prop}[Decidable c](h1:c->XX)(h2:¬c->A):if (!decide c)=true then A else XX:=by
 cases h:c
 ·show itn h (h1 h)
 ·show itnn h (h2 h)
def itb{b:Bool}{A XX:Prop}(h1:b=true->A)(h2:b=false->XX):if b=true then A else XX:=by
 cases b with
 |true=>show iteT (h1 Z)
 |false=>show iteF (h2 Z)
def itnb{b:Bool}{A XX:Prop}(h1:b=true->XX)(h2:b=false->A):if (!b)=true then A else XX:=by
 cases b with
 |true=>show iteF (h1 Z)
 |false=>show iteT (h2 Z)
def SqK(k:Bool)(K:PySem.W.Q)(H:Hp)(a:Addr)(xs:List V):(Prop):=match k with
 |false=>SqL K H a xs
 |true=>SqT K H a xs
def SqK.same(e:Same H H')(h:SqK k K H a xs):SqK k K H' a xs:=by
 cases k with
 |false=>show e.seq h
 |true=>show Zn1 e h
def SqK.or(h:SqK k K H a xs):SqL K H a xs\/SqT K H a xs:=by
 cases k with
 |false=>show .inl h
 |true=>show .inr h
def iSeq(K:PySem.W.Q)(tl:TE):(TI):=λσ H R=>tl σ H λx H1=>∃a,x=.ref a/\(((∃xs,SqL K H1 a xs)/\R (Itl K a) H1)\/((∃xs,SqT K H1 a xs)/\R (Itt K a) H1))
def pi_seq(hl:PE X l tl):PI X tg l (iSeq X.K tl):=by
 intro pins s σ H R I h;show thn (hl pins s σ H _ I h) λv s1 hz0=>?_;let(x,H1,I1,r1,q1):=hz0;let(a,e,q):=q1;subst e;cases r1;rcases q with ⟨⟨xs,hq⟩,q⟩|⟨⟨xs,hq⟩,q⟩
 ·let(its,rv,p,hz):=I1.list hq;show Y3P p.isList ?_;exists (~~~s1),[(~~~s1)],_,_,H1,Z,I1.kept (t':=s1.toks) λb o e=>Yy6 _ e,Zv4 a _,{_,Yo _ Z,Z,Z},λb hb=>?_,q;let e:b=(~~~s1):=by simpa using hb
  subst e;show I1.fpOk (Yy8 _) (I1.hok.fresh<|Yy8 _)
 ·let(its,rv,p,hz):=I1.tuple hq;show Y1Z (show s1.o.IsTuple a its.t from p) ?_;exists (~~~s1),[(~~~s1)],_,_,H1,Z,I1.kept (t':=s1.toks) λb o e=>Yy6 _ e,Zh3 a _,{_,Yo _ Z,Z,Z},λb hb=>?_,q;let e:b=(~~~s1):=by simpa using hb
  subst e;show I1.fpOk (Yy8 _) (I1.hok.fresh<|Yy8 _)
def Zy3{g:TG}{tb:TS}{XW:Ends}(Pv:Nat->St->Hp->Prop)(h0:Pv 0 σ H)(hl:∀i σ H,i<=xs.f->Pv i σ H->SqK k K H a xs)
  (hs:∀i x σ H,xs[i]?=some x->Pv i σ H->g x σ H λσ2 H2=>tb {XW with nx:=Pv<|i+1,ct:=Pv<|i+1,bk:=XW.nx} σ2 H2)(hd:∀σ H,Pv xs.f σ H->XW.nx σ H):((∃xs,SqL K H a xs)/\∃W:Nat->Nat->St->Hp->Prop,(∃m,W 0 m σ H)/\∀i m σ H,W i m σ H->
   ((Itl K a).stop i H/\XW.nx σ H)\/((Itl K a).go i H/\∃N:St->Hp->Prop,(∀σ' H',N σ' H'->∃m',m'<m/\W (i+1) m' σ' H')/\∀x H',(Itl K a).yld i H x H'->g x σ H' λσ2 H2=>tb {XW with nx:=N,ct:=N,bk:=XW.nx} σ2 H2))\/
  ((∃xs,SqT K H a xs)/\∃W:Nat->Nat->St->Hp->Prop,(∃m,W 0 m σ H)/\∀i m σ H,W i m σ H->
   ((Itt K a).stop i H/\XW.nx σ H)\/((Itt K a).go i H/\∃N:St->Hp->Prop,(∀σ' H',N σ' H'->∃m',m'<m/\W (i+1) m' σ' H')/\∀x H',(Itt K a).yld i H x H'->g x σ H' λσ2 H2=>tb {XW with nx:=N,ct:=N,bk:=XW.nx} σ2 H2)):=by
 cases k with
 |false=>show .inl {{xs,hl 0 σ H (Yk _) h0},Zv2 (K:=K) (a:=a) (xs:=xs) Pv h0 hl hs hd}
 |true=>show .inr {{xs,hl 0 σ H (Yk _) h0},Zh9 (K:=K) (a:=a) (xs:=xs) Pv h0 hl hs hd}
def PairV(H:Hp)(v:V)(p:Int×Int):(Prop):=∃t,v=.ref t/\H t=some (.tup [.int p.1,.int p.2])
def PairsV(H:Hp)(xs:List V)(ps:List (Int×Int)):(Prop):=xs.f=ps.f/\∀(i:Nat)(p:Int×Int),ps[i]?=some p->∃v,xs[i]?=some v/\PairV H v p
def PairV.same(s:Same H H')(h:PairV H v p):PairV H' v p:=by let(t,e,q):=h;exists t,e,s _ _ q
def PairsV.same(s:Same H H')(h:PairsV H xs ps):PairsV H' xs ps:={h.1,λi p e=>by let(v,e1,q):=h.2 i p e;exists v,e1,q.same s}
def PairsV.at(h:PairsV H xs ps){i:Nat}{v:V}(e:xs[i]?=some v):∃p,ps[i]?=some p/\PairV H v p:=by
 let hi:i<xs.f:=(Yy1.S e).1;let hp:i<ps.f:=by rwa[<-h.1]
 let(v',e1,q):=h.2 i ps[i] (Yy0 hp);rw[e]at e1;cases e1;exists _,Yy0 hp,q
def PairsV.nil:PairsV H [] []:={Z,λi p e=>by simp at e}
def PairsV.snoc(h:PairsV H xs ps)(q:PairV H v p):PairsV H (xs++[v]) (ps++[p]):=by
 show{by rw[Yy3,Yy3,h.1];rfl,λi p' e=>?_};cases hi:i<ps.f
 ·rw[Yp hi]at e;rw[Yp (by rwa[h.1])];show h.2 i p' e
 ·have hl:i=ps.f:=by
   have:=(Yy1.S e).1
   rw[Yy3,YX]at this;lia
  subst hl;rw[Yj (Yy8 _),Yy19]at e;rw[Yj (by rw[h.1];show Yy8 _),h.1,Yy19];let e':p=p':=Yl e
  subst e';exists v,Z,q
def PairsV.drop(h:PairsV H xs ps)(n:Nat):PairsV H (xs.drop n) (ps.drop n):=by show{by rw[YV,YV,h.1],λi p e=>?_};rw[Y0W]at e ⊢;show h.2 _ p e
def PairsV.take(h:PairsV H xs ps)(n:Nat):PairsV H (xs.G n) (ps.G n):=by
 show{by rw[Yh,Yh,h.1],λi p e=>?_};cases hi:i<n
 ·rw[Y3V hi]at e ⊢;show h.2 _ p e
 ·rw[List.getElem?_take_eq_none J]at e;cases e
def PairsV.app(h:PairsV H xs ps)(h2:PairsV H ys qs):PairsV H (xs++ys) (ps++qs):=by
 show{by rw[Yy3,Yy3,h.1,h2.1],λi p e=>?_};cases hi:i<ps.f
 ·rw[Yp hi]at e;rw[Yp (by rwa[h.1])];show h.2 i p e
 ·rw[Yj J]at e;rw[Yj (by rw[h.1];omega),h.1];show h2.2 _ p e
def ZX14:¬(("places":Str)="ties"):=by decide +kernel
def wf(n:Int)(tl:Addr):(List (Str×V)):=putF "ties" ↑tl (putF "places" (.int n) [])
def Zi1(n:Int)(tl:Addr):(wf n tl).R ("places":Str)=some (.int n):=by unfold wf;rw[Zg1,if_neg ZX14,Zg1,if_pos Z]
def ZC1(n:Int)(tl:Addr):(wf n tl).R ("ties":Str)=some ↑tl:=by unfold wf;rw[Zg1,if_pos Z]
def WebAt(C:Addr)(H:Hp)(w:Addr)(n:Int)(ps:List (Int×Int)):(Prop):=∃dx tl xs,H w=some (.ins C dx<|wf n tl)/\H tl=some (.lst xs)/\PairsV H xs ps
def WebAt.same(s:Same H H')(h:WebAt C H w n ps):WebAt C H' w n ps:=by let(dx,tl,xs,a,b,c):=h;exists dx,tl,xs,s _ _ a,s _ _ b,c.same s
def ZM(n:Int)(ps:List (Int×Int)):(Prop):=1<=n/\n<=14/\ps.f<=30/\∀p∈ps,0<=p.1/\p.1<n/\0<=p.2/\p.2<n
def CXF(K:PySem.W.Q)(mg:Str->Option Value)(x qual:Str)(st:Stmt)(fs:List Str):(Prop):=∃C f fd,mg x=some ↑C/\Fun K "__init__" qual st f fd/\Cls K C/\Mk K C f/\∀a∈fs,NoAttr K C a
def cx_mk{mg:Str->Option Value}{oc:Value}{od an:Option Addr}{osl:Array (Option Value)}{kV doc pm cdv ct:Value}(X:K.In h)(G:h.Ns mainGlobals mg)
  (aC:PySem.W.nsIn K mainGlobals x=some (some<|.ref C))(a:PySem.W.findIn K ↑C "__init__"=some (some<|.ref f))(i:PySem.W.isFn K ↑f=true)
  (l:K.R f=some {oc,od,.func<|PySem.W.fnOf "__init__" qual (Zy2 st) (Zm1 st) (Zb st) .none kV doc pm an cdv ct,osl})(c:PySem.W.codeIn K cdv qual=true)(k:PySem.W.keepIn K ↑f=true)
  (pg:PySem.W.plainGet K C Str.empty=true)(hd:PySem.W.hasDictIn K C=true)(po:PySem.W.plainOver K C=true)(sa:PySem.W.findIn K ↑C "__setattr__"=some (some<|.builtin "object.__setattr__"))(mk:PySem.W.makesIn K C=true)(kc:PySem.W.keepIn K ↑C=true)
  (na:∀a∈fs,PySem.W.findIn K ↑C a=some none):CXF K mg x qual st fs:=
 {C,f,_,Y2e X G aC,ZW10 l c k,⟨pg,hd,po,sa⟩,⟨mk,a,i,kc⟩,na}
def const_mk{mg:Str->Option Value}{z:Int}{v:Value}(X:K.In h)(G:h.Ns mainGlobals mg)(a:PySem.W.nsIn K mainGlobals x=some (some v))(e:∃tk,v=.int z tk):∃tk,mg x=some (.int z tk):=by let(tk,rfl):=e;exists tk,Y2e X G a
def nmY{x:V}{A XX:St->Hp->Prop}(h:A (σ.set i (some x)) H):Ze8 i x σ H λσ2 H2=>tYes σ2 H2 λb H3=>if b=true then A σ2 H3 else XX σ2 H3:=
 (show if true=true then A (σ.set i<|some x) H else XX (σ.set i<|some x) H from iteT h)
def nm{x:V}{Q:St->Hp->Prop}(h:Q (σ.set i (some x)) H):Ze8 i x σ H Q:=h
section
variable{K:PySem.W.Q}{a:Addr}{xs:List V}{g:TG}{tt:TT}{te:TE}{o:Nat}{fr:List Nat}{σ:St}{H:Hp}{Q:VK}
abbrev Zm4(Pv:Nat->List V->Hp->Prop)(g:TG)(tt:TT)(te:TE)(o:Nat)(fr:List Nat)(σ:St)(i:Nat)(x:V)(ys:List V)(H:Hp):Prop:=
 ∀S:Nat->List V->Hp->Prop,(∀ys H,Pv (i+1) ys H->S (i+1) ys H)->g x (σC o fr σ) H λσ2 H2=>tt σ2 H2 λb H3=>if b=true then te σ2 H3 λy H4=>S (i+1) (ys++[y]) H4 else S (i+1) ys H3
def ZO1(Pv:Nat->List V->Hp->Prop)(h0:Pv 0 [] H)(hz:xs.f<sizeLine)(hl:∀i ys H,i<=xs.f->Pv i ys H->SqL K H a xs/\ys.f<=i)
  (hs:∀i x ys H,xs[i]?=some x->Pv i ys H->Zm4 Pv g tt te o fr σ i x ys H)(hd:∀ys H,Pv xs.f ys H->∀p,H p=none->Q ↑p (upd H p<|.lst ys)):LcR (Itl K a) g tt te o fr σ H Q:=by
 exists λi m ys H=>m=xs.f-i/\i<=xs.f/\Pv i ys H,{xs.f,D,Yk _,h0},?_;rintro i m ys H ⟨rfl,hi,p⟩;let(q,hy):=hl i ys H hi p;cases hlt:i<xs.f
 ·show .inr {{xs,xs[i],q,by simp[hlt]},J,λx H' zz=>?_};let(e,y):=zz;subst e;let hx:=y xs q
  show hs i x ys _ hx p (λj ys H=>∃m',m'<xs.f-i/\m'=xs.f-j/\j<=xs.f/\Pv j ys H) λys H p'=>{xs.f-(i+1),XS,Z,hlt,p'}
 ·have e:i=xs.f:=J;subst e;show .inl {{xs,q,Yy8 _},J,hd ys H p}
def ZI6(Pv:Nat->List V->Hp->Prop)(h0:Pv 0 [] H)(hz:xs.f<sizeLine)(hl:∀i ys H,i<=xs.f->Pv i ys H->SqT K H a xs/\ys.f<=i)
  (hs:∀i x ys H,xs[i]?=some x->Pv i ys H->Zm4 Pv g tt te o fr σ i x ys H)(hd:∀ys H,Pv xs.f ys H->∀p,H p=none->Q ↑p (upd H p<|.lst ys)):LcR (Itt K a) g tt te o fr σ H Q:=by
 exists λi m ys H=>m=xs.f-i/\i<=xs.f/\Pv i ys H,{xs.f,D,Yk _,h0},?_;rintro i m ys H ⟨rfl,hi,p⟩;let(q,hy):=hl i ys H hi p;cases hlt:i<xs.f
 ·show .inr {{xs,xs[i],q,by simp[hlt]},B,λx H' zz=>?_};let(e,y):=zz;subst e;let hx:=y xs q
  show hs i x ys _ hx p (λj ys H=>∃m',m'<xs.f-i/\m'=xs.f-j/\j<=xs.f/\Pv j ys H) λys H p'=>{xs.f-(i+1),B,Z,hlt,p'}
 ·have e:i=xs.f:=B;subst e;show .inl {{xs,q,Yy8 _},B,hd ys H p}
def ZF10(Pv:Nat->List V->Hp->Prop)(h0:Pv 0 [] H)(hz:xs.f<sizeLine)(hl:∀i ys H,i<=xs.f->Pv i ys H->SqK k K H a xs/\ys.f<=i)
  (hs:∀i x ys H,xs[i]?=some x->Pv i ys H->Zm4 Pv g tt te o fr σ i x ys H)(hd:∀ys H,Pv xs.f ys H->∀p,H p=none->Q ↑p (upd H p<|.lst ys)):
  ((∃xs,SqL K H a xs)/\LcR (Itl K a) g tt te o fr σ H Q)\/((∃xs,SqT K H a xs)/\LcR (Itt K a) g tt te o fr σ H Q):=by
 cases k with
 |false=>show .inl {{xs,(hl 0 [] H (Yk _) h0).1},ZO1 Pv h0 hz hl hs hd}
 |true=>show .inr {{xs,(hl 0 [] H (Yk _) h0).1},ZI6 Pv h0 hz hl hs hd}
def Zp2(Pv:Nat->List V->Hp->Prop)(h0:Pv 0 [] H)(hz:n<sizeLine)(hl:∀i ys H,i<=n->Pv i ys H->ys.f<=i)
  (hs:∀i ys H,i<n->Pv i ys H->Zm4 Pv g tt te o fr σ i (.int<|lo+i) ys H)(hd:∀ys H,Pv n ys H->∀p,H p=none->Q ↑p (upd H p<|.lst ys)):LcR (Itr lo n) g tt te o fr σ H Q:=by
 exists λi m ys H=>m=n-i/\i<=n/\Pv i ys H,{n,D,Yk _,h0},?_;rintro i m ys H ⟨rfl,hi,p⟩;let hy:=hl i ys H hi p
 cases hlt:i<n
 ·show .inr {hlt,J,λx H' zz=>?_};let(e,y):=zz;subst e;subst y;show hs i ys _ hlt p (λj ys H=>∃m',m'<n-i/\m'=n-j/\j<=n/\Pv j ys H) λys H p'=>{n-(i+1),XS,Z,hlt,p'}
 ·have e:i=n:=J;subst e;show .inl {Yy8 _,J,hd ys H p}
end
def Zw1{α:Type}{l:List α}(h:l.Nodup){i j:Nat}{x:α}(a:l[i]?=some x)(b:l[j]?=some x):i=j:=by let(h1,e1):=Yy1.S a;let(h2,e2):=Yy1.S b;show(List.getElem_inj h).S (e1.m e2.symm)
def ZS{α:Type}{l:List α}{x d:α}(h:l[i]?=some x):l.getD i d=x:=by rw[Yy5,h];rfl
def Zu6{α:Type}{l:List α}{x:α}(h:l.Nodup)(hx:x∉l):(l++[x]).Nodup:=by rw[Y1n];exists h,D,λa ha b hb=>?_;rw[Yy2]at hb;subst hb;rintro rfl;show hx ha
def Zz27{g:TG}{tb:TS}{XW:Ends}(Pv:Nat->St->Hp->Prop)(h0:Pv 0 σ H)(hl:∀i σ H,i<=xs.f->Pv i σ H->SqL K H a xs)
  (hs:∀(i:Nat) x σ H (p:Addr),H p=none->xs[i]?=some x->Pv i σ H->g ↑p σ (upd H p<|.tup [.int i,x]) λσ2 H2=>tb {XW with nx:=Pv<|i+1,ct:=Pv<|i+1,bk:=XW.nx} σ2 H2)(hd:∀σ H,Pv xs.f σ H->XW.nx σ H):
  ∃W:Nat->Nat->St->Hp->Prop,(∃m,W 0 m σ H)/\∀i m σ H,W i m σ H->
   ((Ite K a).stop i H/\XW.nx σ H)\/((Ite K a).go i H/\∃N:St->Hp->Prop,(∀σ' H',N σ' H'->∃m',m'<m/\W (i+1) m' σ' H')/\∀x H',(Ite K a).yld i H x H'->g x σ H' λσ2 H2=>tb {XW with nx:=N,ct:=N,bk:=XW.nx} σ2 H2):=by
 exists λi m σ H=>m=xs.f-i/\i<=xs.f/\Pv i σ H,{xs.f,D,Yk _,h0},?_;rintro i m σ H ⟨rfl,hi,p⟩;let q:=hl i σ H hi p
 cases hlt:i<xs.f
 ·show .inr {{xs,xs[i],q,by simp[hlt]},Pv<|i+1,λσ' H' p'=>{xs.f-(i+1),B,Z,hlt,p'},λx H' zz=>?_};let(T,y,hT,ex,eH,hy):=zz;subst ex eH;show hs i y σ H T hT (hy xs q) p
 ·have e:i=xs.f:=J;subst e;show .inl {{xs,q,Yy8 _},hd σ H p}
def Ze11{i:Int}(h0:0<=i)(h1:i.i<=xs.f):cutV xs (some i) none=xs.drop i.i:=by
 let e:HT.sIx xs.f 0 (some i)=i.i:=by change(if i<0 then (i+xs⁻¹).i else min i.i xs.f)=i.i;rw[if_neg J];lia
 unfold cutV;rw[e,HT.sIx_none];show YF (by rw[YV];show Yy8 _)
def Zt14{i:Int}(h0:0<=i)(h1:i.i<=xs.f):cutV xs none (some i)=xs.G i.i:=by
 let e:HT.sIx xs.f xs.f (some i)=i.i:=by change(if i<0 then (i+xs⁻¹).i else min i.i xs.f)=i.i;rw[if_neg B];omega
 unfold cutV;rw[e,HT.sIx_none,Y1G,Y2V]
end My
namespace L2
open PySem PySem.Spec PyProof.Rows
section
variable{X:Cx}{a b o e:Expr}{es:List Expr}{ta to:TE}{t:TA}{pos:Pos}
def Zg(K:PySem.W.Q)(h:X.K=K:=by rfl):IxR X (rIxL K):=h▸ZC12
def ZG(K:PySem.W.Q)(h:X.K=K:=by rfl):IxR X (rIxT K):=h▸Zh14
def Zo1(K:PySem.W.Q)(h:X.K=K:=by rfl):SlR X (rSlL K):=h▸ZP11
def Zz414(K:PySem.W.Q)(h:X.K=K:=by rfl):OpR X (compareOp .In) (λx y H Q=>∃p xs,y=.ref p/\(SqL K H p xs\/SqT K H p xs)/\ZK3 x=true/\xs.all ZK3=true/\Q (.bl<|inV x xs) H):=h▸ZS7
def ZR7(K:PySem.W.Q)(h:X.K=K:=by rfl):OpR X (compareOp .NotIn) (λx y H Q=>∃p xs,y=.ref p/\(SqL K H p xs\/SqT K H p xs)/\ZK3 x=true/\xs.all ZK3=true/\Q (.bl<|!inV x xs) H):=h▸Zz14
def Zs6(K:PySem.W.Q)(hu:X.A.units+8<cLine)(h:X.K=K:=by rfl):OpR X (compareOp .Eq) (rEqD K false):=h▸Zz514 hu
def Zp6(K:PySem.W.Q)(hu:X.A.units+8<cLine)(h:X.K=K:=by rfl):OpR X (compareOp .NotEq) (rEqD K true):=h▸Zz214 hu
def Zm10(K:PySem.W.Q)(h:X.K=K:=by rfl):OpR X (binaryOp .Add) (ZD14 K):=h▸Ze12
def ZU(K:PySem.W.Q)(he:PE X e ta)(hb:attributeBase e f X.M (eval e X.M)=eval e X.M)(h:X.K=K:=by rfl):PE X (.Attribute e f pos) (tFld K ta f):=h▸ZY13 he hb
def Zi(K:PySem.W.Q)(h:X.K=K:=by rfl):Zz02 X (.builtin "len") (yR0 K):=h▸Zj4
def ZW(K:PySem.W.Q)(h:X.K=K:=by rfl):Zz02 X (.type "list") (λxs H Q=>∃p ys,xs=[.ref p]/\(SqL K H p ys\/SqT K H p ys)/\∀l,H l=none->Q ↑l (upd H l<|.lst ys)):=h▸Zi4
def ZI2(K:PySem.W.Q)(h:X.K=K:=by rfl):Zz02 X (.type "tuple") (λxs H Q=>∃p ys,xs=[.ref p]/\((SqL K H p ys/\∀l,H l=none->Q ↑l (upd H l<|.tup ys))\/(SqT K H p ys/\Q ↑p H))):=h▸ZB3
def Zg2(K:PySem.W.Q)(hc:X.calm=true)(h:X.K=K:=by rfl):Zz02 X (.builtin "sum") (λxs H Q=>∃(p:Addr)(ns:List Int),xs=[.ref p]/\SqL K H p (ns.L V.int)/\Q (.int ns.sum) H):=h▸ZC3 hc
def Zq8(K:PySem.W.Q)(hc:X.calm=true)(h:X.K=K:=by rfl):Zz02 X (.type "set") (λxs H Q=>∃p ns,xs=[.ref p]/\SqL K H p (ns.L V.int)/\ns.f+1<scanBound/\
  ∀l,H l=none->Q ↑l (upd H l (.set (λk=>(seen ns).any (· == k)) (seen ns).f))):=h▸ZE3 hc
def Zr8(K:PySem.W.Q){T:String}(h:X.K=K:=by rfl):Zz02 X (.builtin "isinstance") (λxs H Q=>∃x t b,xs=[x,.ty T]/\TyOf K H x t/\PySem.W.kitOne K t (.type T)=some b/\Q (.bl b) H):=h▸Zm11
def ZX(K:PySem.W.Q)(hl:PE X l tl)(h:X.K=K:=by rfl):PI X tg l (ZF14 K tl):=h▸Zz812 hl
def Zp3(K:PySem.W.Q)(hl:PE X l tl)(h:X.K=K:=by rfl):PI X tg l (iTup K tl):=h▸ZU13 hl
def Zz52(K:PySem.W.Q)(hl:PE X l tl)(h:X.K=K:=by rfl):PI X tg l (My.iSeq K tl):=h▸My.pi_seq hl
def ZR2(K:PySem.W.Q){elts:List Expr}{x1:Nat}{tpos:Pos}{a:Expr}{ta:TA}{p pos:Pos}(hg:Gl X "enumerate")(hm:X.mg "enumerate"=none)(ha:PA X [a] ta)(hs:starEach [a] X.M=[(false,eval a X.M)]:=by rfl)(h:X.K=K:=by rfl):
  PI X (.Tuple elts x1 tpos) (.Call (.Name "enumerate" p) [a] [] pos) (ZG14 K ta):=h▸Zz912 hg hm ha hs
def ZE1(K:PySem.W.Q){es:List Expr}{k:Nat}{t:TGs}{n:Nat}(hc:X.calm=true)(ht:PGs X es t)
  (hn:(assignEach es X.M).f=n:=by rfl)(hst:(assignEach es X.M).findIdx? (·.1)=none:=by rfl)(h:X.K=K:=by rfl):PG X (.Tuple es k pos) (gTup K n t):=h▸ZV13 hc ht hn hst
def ZA1(K:PySem.W.Q){name:Str}{apos cpos:Pos}{T id:String}{r:V->List V->Hp->VK->Prop}(pa:PlainAttrs T)(slot:Slot T name id)(hty:typeOf (.builtin id)=pure (.type "method_descriptor"))(hm:MtR X id r)(ho:PE X o to)(ha:PA X (e::es) t)
  (hbase:attributeBase o name X.M (eval o X.M)=eval o X.M:=by rfl)
  (hfew:((backTo cpos<|starEach (e::es) X.M).all (λx=>!x.1)&&(backToKw cpos<|keywordEach [] X.M).all (λx=>x.1.isSome)
   && decide ((e::es).f+([]:List Keyword).f+(if ([]:List Keyword).isEmpty then 0 else 1)<30))=true:=by rfl)
  (hline:(apos.endLine == cpos.line)=true:=by rfl)(hs:starEach (e::es) X.M=(false,eval e X.M)::starEach es X.M:=by rfl)(hplain:(backTo cpos<|starEach es X.M).any (·.1)=false:=by rfl)(h:X.K=K:=by rfl):
  PE X (.Call (.Attribute o name apos) (e::es) [] cpos) (tBM K T r to t):=h▸ZY14 pa slot hty hm ho ha hbase hfew hline hs hplain
def ZN8(K:PySem.W.Q){name:Str}{apos cpos:Pos}{T id:String}{r:V->List V->Hp->VK->Prop}(pa:PlainAttrs T)(slot:Slot T name id)(hty:typeOf (.builtin id)=pure (.type "method_descriptor"))(hm:MtR X id r)(ho:PE X o to)
  (hbase:attributeBase o name X.M (eval o X.M)=eval o X.M:=by rfl)(hline:(apos.endLine == cpos.line)=true:=by rfl)(h:X.K=K:=by rfl):PE X (.Call (.Attribute o name apos) [] [] cpos) (tBM0 K T r to):=h▸ZZ13 pa slot hty hm ho hbase hline
end
end L2
namespace My
abbrev mk(m:List Int)(i:Nat):Int:=m.getD i 0
def pm(m:List Int)(a b:Nat):(List Int):=
 if min (mk m a) (mk m b)<max (mk m a) (mk m b) then m.L (λk=>if k=max (mk m a) (mk m b) then min (mk m a) (mk m b) else k) else m
def lm(m:List Int)(a b:Nat):(List Int):=
 if mk m a≠mk m b then m.L (λk=>if k=mk m b then mk m a else k) else m
def SameP(m l:List Int):(Prop):=m.f=l.f/\∀i j,i<m.f->j<m.f->(mk m i=mk m j↔mk l i=mk l j)
def Zz64(m:List Int)(f:Int->Int)(h:i<m.f):mk (m.L f) i=f (mk m i):=by simp[mk,Yy5,Yc,Yy0 h]
def ZK1(m:List Int)(a b:Nat):(pm m a b).f=m.f:=by unfold pm;split<;>simp
def Zb2(m:List Int)(a b:Nat):(lm m a b).f=m.f:=by unfold lm;split<;>simp
def Mrg(m:List Int)(a b i j:Nat):(Prop):=mk m i=mk m j\/((mk m i=mk m a\/mk m i=mk m b)/\(mk m j=mk m a\/mk m j=mk m b))
def Ze10{x y p q:Int}:((if x=q then p else x)=(if y=q then p else y))↔(x=y\/((x=p\/x=q)/\(y=p\/y=q))):=by grind
def ZK8{x y p:Int}:x=y↔(x=y\/((x=p\/x=p)/\(y=p\/y=p))):={.inl,λh=>h.elim id λh=>(h.1.elim id id).m (h.2.elim id id).symm}
def ZT13(hi:i<m.f)(hj:j<m.f):mk (pm m a b) i=mk (pm m a b) j↔Mrg m a b i j:=by
 unfold pm Mrg;split
 ·rename_i h;rw[Zz64 _ _ hi,Zz64 _ _ hj];cases hpq:mk m a<mk m b
  ·rw[Y2T (Y3t hpq),Int.max_eq_right (Y3t hpq)];show Ze10
  ·rw[Y3s (Y3r.S hpq),Int.max_eq_left<|Y3r.S hpq,Or.comm (a:=mk m i=mk m a),Or.comm (a:=mk m j=mk m a)];show Ze10
 ·rename_i h;let hh:=Y3r.S h
  rw[show mk m a=mk m b from Int.le_antisymm (Y2w (Int.le_max_left _ _)<|Y2w hh<|Int.min_le_right _ _) (Y2w (Int.le_max_right _ _)<|Y2w hh<|Int.min_le_left _ _)];show ZK8
def ZE6(hi:i<m.f)(hj:j<m.f):mk (lm m a b) i=mk (lm m a b) j↔Mrg m a b i j:=by
 unfold lm Mrg;split
 ·rename_i h;rw[Zz64 _ _ hi,Zz64 _ _ hj];show Ze10
 ·rename_i h;rw[show mk m a=mk m b from Classical.not_not.S h];show ZK8
def SameP.step{m l:List Int}(s:SameP m l){a b:Nat}(ha:a<m.f)(hb:b<m.f):SameP (pm m a b) (lm l a b):=by let(hl,h):=s;show{by rw[ZK1,Zb2,hl],λi j hi hj=>?_};rw[ZK1]at hi hj;rw[ZT13 hi hj,ZE6 B B];unfold Mrg;rw[h i j hi hj,h i a hi ha,h i b hi hb,h j a hj ha,h j b hj hb]
def pms(n:Nat)(es:List (Nat×Nat)):(List Int):=es.foldl (λm e=>pm m e.1 e.2) ((List.range n).L λ(i:Nat)=>(i:Int))
def lms(n:Nat)(es:List (Nat×Nat)):(List Int):=es.foldl (λm e=>lm m e.1 e.2) ((List.range n).L λ(i:Nat)=>(i:Int))
def Zm(n:Nat)(es:List (Nat×Nat)):(pms n es).f=n:=by
 have:∀(es:List (Nat×Nat))(m:List Int),(es.foldl (λm e=>pm m e.1 e.2) m).f=m.f:=by
  intro es
  induction es with
  |nil=>intro m;rfl
  |cons e es ih=>intro m;rw[Y2i,ih,ZK1]
 unfold pms;rw[this];simp
def Zy(n:Nat)(es:List (Nat×Nat)):(lms n es).f=n:=by
 have:∀(es:List (Nat×Nat))(m:List Int),(es.foldl (λm e=>lm m e.1 e.2) m).f=m.f:=by
  intro es
  induction es with
  |nil=>intro m;rfl
  |cons e es ih=>intro m;rw[Y2i,ih,Zb2]
 unfold lms;rw[this];simp
def Zi6(n:Nat)(es:List (Nat×Nat))(e:Nat×Nat):pms n (es++[e])=pm (pms n es) e.1 e.2:=by unfold pms;rw[Y1V];rfl
def Zz71(n:Nat)(es:List (Nat×Nat))(e:Nat×Nat):lms n (es++[e])=lm (lms n es) e.1 e.2:=by unfold lms;rw[Y1V];rfl
def ZU3:∀{es:List (Nat×Nat)},(∀e∈es,e.1<n/\e.2<n)->SameP (pms n es) (lms n es):=by
 intro es;let key:∀(es:List (Nat×Nat))(m l:List Int),SameP m l->m.f=n->(∀e∈es,e.1<n/\e.2<n)->SameP (es.foldl (λm e=>pm m e.1 e.2) m) (es.foldl (λm e=>lm m e.1 e.2) l):=by
  intro es
  induction es with
  |nil=>intro m l s _ _;show s
  |cons e es ih=>
   intro m l s hm he;let h1:=he e Ye
   show ih _ _ (s.step B B) (by rwa[ZK1]) λx hx=>he x (Yd _ hx)
 show key es _ _ {Z,λi j _ _=>Iff.rfl} D
def ZW4(g:List (Int×List Int))(place k:Int):(List (Int×List Int)):=
 if k∈g.L (·.1) then g.L (λkv=>if kv.1=k then (kv.1,kv.2++[place]) else kv) else g++[(k,[place])]
def grpA(M:List Int):(Nat->List (Int×List Int))
 |0=>[]
 |i+1=>ZW4 (grpA M i) (i:Int) (mk M i)
def grp(M:List Int):(List (Int×List Int)):=grpA M M.f
def ZP1(g:List (Int×List Int))(p k:Int):(ZW4 g p k).L (·.1)=if k∈g.L (·.1) then g.L (·.1) else g.L (·.1)++[k]:=by
 unfold ZW4;split
 ·rw[Y1M];show YW λkv _=>?_;change(if kv.1=k then (kv.1,kv.2++[p]) else kv).1=kv.1
  split<;>rfl
 ·simp
def ZI5(h:(g.L (·.1)).Nodup):((ZW4 g p k).L (·.1)).Nodup:=by
 rw[ZP1];split
 ·show h
 ·rename_i hk;rw[Y1n];exists h,D,λa ha b hb=>?_;rw[Yy2]at hb;subst hb;rintro rfl;show hk ha
def Zt2(M:List Int):∀i,((grpA M i).L (·.1)).Nodup
 |0=>by simp[grpA]
 |i+1=>ZI5 (Zt2 M i)
def ZY4(M:List Int):∀i j,j<i->mk M j∈(grpA M i).L (·.1)
 |0,j,h=>absurd h (Y0h j)
 |i+1,j,h=>by
  change mk M j∈(ZW4 (grpA M i) (i:Int)<|mk M i).L (·.1);rw[ZP1];cases hj:j<i
  ·have:=ZY4 M i j hj
   split
   ·show this
   ·show YA _ this
  ·have e:j=i:=J;subst e;split
   ·assumption
   ·simp
def ZY2(h:j<i):mk M j∈(grpA M i).L (·.1):=ZY4 M i j h
def Zy1(M:List Int):∀i k,k∈(grpA M i).L (·.1)->∃j,j<i/\mk M j=k
 |0,k,h=>by simp[grpA]at h
 |i+1,k,h=>by
  let h:k∈(ZW4 (grpA M i) (i:Int)<|mk M i).L (·.1):=h;rw[ZP1]at h;let old:k∈(grpA M i).L (·.1)->∃j,j<i+1/\mk M j=k:=λq=>by let(j,hj,e):=Zy1 M i k q;exists j,J,e
  split at h
  ·show old h
  ·rcases Yb.S h with q|q
   ·show old q
   ·rw[Yy2]at q;exists i,J,q.symm
def Zb9(hM:1<=M.f):(grp M).f=1↔∀i j,i<M.f->j<M.f->mk M i=mk M j:=by
 unfold grp;constructor
 ·intro h i j hi hj;let(kv,e):=Yy47.S h;let h1:=ZY2 (M:=M) hi
  let h2:=ZY2 (M:=M) hj;rw[e]at h1 h2;rw[Yy38,Yy2]at h1 h2;rw[h1,h2]
 ·intro h;let nd:=Zt2 M M.f
  let h0:=ZY2 (M:=M) (i:=M.f) (j:=0) J;generalize hg:(grpA M M.f)=g at *
  match g,hg with
  |[],_=>simp at h0
  |[kv],_=>rfl
  |a::b::r,hg=>
   exfalso;let(i,hi,e1):=Zy1 M M.f a.1 (by rw[hg];simp)
   let(j,hj,e2):=Zy1 M M.f b.1 (by rw[hg];simp);let e3:=h i j hi hj
   have:a.1=b.1:=by rw[<-e1,<-e2,e3]
   simp[this]at nd
def SameP.one(s:SameP m l):(∀i j,i<m.f->j<m.f->mk m i=mk m j)↔(∀i j,i<l.f->j<l.f->mk l i=mk l j):=by
 let(hl,h):=s;rw[<-hl];constructor
 ·intro q i j hi hj;show(h i j hi hj).S (q i j hi hj)
 ·intro q i j hi hj;show(h i j hi hj).X (q i j hi hj)
def Zz94:∀{i:Nat}{kv:Int×List Int},kv∈grpA M i->kv.2.f<=i
 |0,kv,h=>by simp[grpA]at h
 |i+1,kv,h=>by
  unfold grpA ZW4 at h;split at h
  ·let(kv0,h0,e):=Yx.S h;let ih:=Zz94 h0
   cases hc:kv0.1=mk M i
   ·rw[if_pos hc]at e;subst e;rw[Yy3,YX];lia
   ·rw[if_neg hc]at e;subst e;lia
  ·rcases Yb.S h with h0|h0
   ·have ih:=Zz94 h0;omega
   ·rw[Yy2]at h0;subst h0;simp
end My
namespace My
open PySem L2 PyProof.Rows
def ZT2(val:Nat->Int):∀i,(firstMet val i).Nodup
 |0=>List.nodup_nil
 |i+1=>by
  rw[Y3x];unfold step_dedup;split
  ·show ZT2 val i
  ·rename_i h;show Zu6 (ZT2 val i) λz=>h ?_;rw[Y1H];exists val i,z,D
def ZU8(val:Nat->Int):∀i (k:Int),k∈firstMet val i↔∃j,j<i/\val j=k
 |0,k=>by
  rw[firstMet_zero];constructor
  ·intro h;cases h
  ·rintro⟨j,h,_⟩;show absurd h (Y0h j)
 |i+1,k=>by
  rw[Y3x];let ih:=ZU8 val i k
  unfold step_dedup;split
  ·rename_i h;rw[ih];constructor
   ·rintro⟨j,hj,e⟩;exists j,J,e
   ·rintro⟨j,hj,e⟩;cases hji:j<i
    ·exists j,hji,e
    ·have e2:j=i:=J;subst e2;let(y,hy,ey):=Y1H.S h;let ey':y=val j:=by simpa using ey
     rw[ey',e]at hy;show ih.S hy
  ·rw[Yb,ih,Yy2];constructor
   ·rintro(⟨j,hj,e⟩|e)
    ·exists j,B,e
    ·exists i,J,e.symm
   ·rintro⟨j,hj,e⟩;cases hji:j<i
    ·show .inl ⟨j,hji,e⟩
    ·have e2:j=i:=B;subst e2;show .inr e.symm
def ZZ9(h:1<=ns.f):(L2.seen ns).f=1↔∀i j,i<ns.f->j<ns.f->mk ns i=mk ns j:=by
 let nd:=ZT2 (λi=>ns.getD i 0) ns.f;let mm:=ZU8 (λi=>ns.getD i 0) ns.f
 unfold L2.seen;generalize firstMet (λi=>ns.getD i 0) ns.f=l at *;constructor
 ·intro h1 i j hi hj;let(x,e):=Yy47.S h1;let a:=(mm<|ns.getD i 0).X ⟨i,hi,Z⟩
  let b:=(mm<|ns.getD j 0).X ⟨j,hj,Z⟩;rw[e,Yy2]at a b;change ns.getD i 0=ns.getD j 0
  rw[a,b]
 ·intro q;let h0:=(mm<|ns.getD 0 0).X ⟨0,J,Z⟩
  match l,nd,mm,h0 with
  |[],_,_,h0=>cases h0
  |[x],_,_,_=>rfl
  |x::y::r,nd,mm,_=>
   exfalso;let(i,hi,e1):=(mm x).S D
   let(j,hj,e2):=(mm y).S D;let e3:ns.getD i 0=ns.getD j 0:=q i j hi hj
   let e:x=y:=by rwa[<-e1,<-e2]
   simp[e]at nd
def ZN6(z:Int)(l:List Int):inV (.int z) (IL l)=decide (z∈l):=by
 unfold inV;rw[List.any_map];rw[Y0V,Y1H,YQ];constructor
 ·rintro⟨y,hy,e⟩;let e':y=z:=eq_of_beq e
  rwa[<-e']
 ·intro h;exists z,h,Y2I z
def Zz55(l:List Int):(IL l).all ZK3=true:=by rw[List.all_map,Y0x];intro x _;rfl
def ZK6{K:PySem.W.Q}{t:Value}:PySem.W.kitOne K t t=some true:=by unfold PySem.W.kitOne;rw[if_pos (Y2I t)]
def ZV:decide (V.int a=V.int b)=decide (a=b):=by
 cases h:a=b
 ·subst h;simp
 ·have h':¬V.int a=V.int b:=λz=>h (V.int.inj z);rw[Y0g h,Y0g h']
end My
namespace My
open PySem L2
def IsSet(m:Nat)(ns:List Int):(Prop):=∀i z,ns[i]?=some z->0<=z/\z<(m:Int)/\∀y,i≠0->ns[i-1]?=some y->y<z
def Zz6(ps:List (Int×Int))(ns:List Int):(List (Nat×Nat)):=ns.L λz=>((ps.getD z.i (0,0)).1.i,(ps.getD z.i (0,0)).2.i)
def ZH2{ns:List Int}{z:Int}(h:ns[i]?=some z):Zz6 ps (ns.G (i+1))=Zz6 ps (ns.G i)++[((ps.getD z.i (0,0)).1.i,(ps.getD z.i (0,0)).2.i)]:=by unfold Zz6;rw[YN,h];simp
def ZM1(h:i<m.f):m[i]?=some (mk m i):=by rw[Yy0 h];simp[mk,Yy5,Yy0 h]
def ZF4(n:Int):rngI 0 n=(List.range n.i).L λ(i:Nat)=>(i:Int):=by unfold rngI;rw[Y3q];show YW λi _=>?_;lia
def gkv(g:List (Int×List Int))(as:List Addr):(List (Key×V)):=List.zipWith (λkv a=>((Sum.inl kv.1:Key),V.ref a)) g as
def ZX6(h:as.f=g.f):(gkv g as).f=g.f:=by unfold gkv;rw[Y1D];grind
def Ze9:∀{g:List (Int×List Int)}{as:List Addr},as.f=g.f->(gkv g as).L (·.2)=as.L V.ref
 |[],[],_=>rfl
 |[],_::_,h=>by simp at h
 |_::_,[],h=>by simp at h
 |kv::g,a::as,h=>by change V.ref a::(gkv g as).L (·.2)=V.ref a::as.L V.ref;rw[Ze9 (Yy24 h)]
def ZY6:∀{g g':List (Int×List Int)}{as:List Addr},g.L (·.1)=g'.L (·.1)->gkv g as=gkv g' as
 |[],[],_,_=>rfl
 |[],_::_,_,h=>by simp at h
 |_::_,[],_,h=>by simp at h
 |kv::g,kv'::g',[],_=>rfl
 |kv::g,kv'::g',a::as,h=>by
  rw[Yy01,Yy01,List.cons.injEq]at h;change((Sum.inl kv.1:Key),V.ref a)::gkv g as=((Sum.inl kv'.1:Key),V.ref a)::gkv g' as
  rw[h.1,ZY6 h.2]
def ZW6:∀{g:List (Int×List Int)}{as:List Addr}{kv:Int×List Int}{a:Addr},as.f=g.f->gkv (g++[kv]) (as++[a])=gkv g as++[((Sum.inl kv.1:Key),V.ref a)]
 |[],[],_,_,_=>rfl
 |[],_::_,_,_,h=>by simp at h
 |_::_,[],_,_,h=>by simp at h
 |x::g,y::as,kv,a,h=>by change _::gkv (g++[kv]) (as++[a])=_::(gkv g as++_);rw[ZW6 (Yy24 h)]
def ZV6:∀{g:List (Int×List Int)}{as:List Addr}{k:Int},as.f=g.f->
  (valV (gkv g as) (Sum.inl k:Key)=none/\k∉g.L (·.1))\/∃(j:Nat)(kv:Int×List Int)(a:Addr),g[j]?=some kv/\as[j]?=some a/\kv.1=k/\valV (gkv g as) (Sum.inl k:Key)=some ↑a
 |[],[],k,_=>.inl ⟨Z,D⟩
 |[],_::_,_,h=>by simp at h
 |_::_,[],_,h=>by simp at h
 |kv::g,a::as,k,h=>by
  cases e:kv.1=k
  ·show .inr {0,kv,a,Z,Z,e,?_};change valV (((Sum.inl kv.1:Key),V.ref a)::gkv g as) _=_
   rw[ZM3 (by rw[e])]
  ·have e':¬((Sum.inl kv.1:Key)=Sum.inl k):=λz=>e (Sum.inl.inj z);let ev:valV (gkv (kv::g)<|a::as) (Sum.inl k:Key)=valV (gkv g as) (Sum.inl k:Key):=ZN3 (p:=((Sum.inl kv.1:Key),V.ref a)) e'
   rcases ZV6 (g:=g) (as:=as) (k:=k) (Yy24 h) with ⟨h1,h2⟩|⟨j,kv',a',h1,h2,h3,h4⟩
   ·show .inl {by rw[ev];show h1,?_};rw[Yy01,Yf];rintro(z|z)
    ·show e z.symm
    ·show h2 z
   ·show .inr {j+1,kv',a',by simpa using h1,by simpa using h2,h3,by rwa[ev]}
structure GrpAt(H0 H:Hp)(g:List (Int×List Int))(as:List Addr):Prop where
 len:as.f=g.f
 nd:as.Nodup
 at_:∀(i:Nat)(kv:Int×List Int)(a:Addr),g[i]?=some kv->as[i]?=some a->H a=some (.lst<|IL kv.2)
 new:∀a∈as,H0 a=none
def GrpAt.same(s:Same H H')(h:GrpAt H0 H g as):GrpAt H0 H' g as:={h.len,h.nd,λi kv a e1 e2=>s _ _<|h.at_ i kv a e1 e2,h.new}
def GrpAt.mem(h:GrpAt H0 H g as){a:Addr}(ha:a∈as):∃l,H a=some (.lst l):=by
 let(i,hi,e):=List.getElem_of_mem ha;let hg:i<g.f:=by rwa[<-h.len]
 exists _,h.at_ i g[i] a (Yy0 hg)<|by rw[Yy0 hi,e]
def IsSet.all(h:IsSet m ns):∀z∈ns,0<=z/\z<(m:Int):=λz hz=>by let(i,hi,e):=List.getElem_of_mem hz;let(a,b,_):=h i z (by rw[Yy0 hi,e]);exists a,b
def IsSet.nil(m:Nat):IsSet m []:=λi z e=>by simp at e
def IsSet.up(h:IsSet m ns):IsSet (m+1) ns:=λi z e=>by let(a,b,c):=h i z e;exists a,B,c
def IsSet.snoc(h:IsSet m ns):IsSet (m+1) (ns++[(m:Int)]):=λi z e=>by
 cases hi:i<ns.f
 ·rw[Yp hi]at e;let(a,b,c):=h i z e;exists a,J,λy h0 ey=>?_;rw[Yp B]at ey;show c y h0 ey
 ·have hl:i=ns.f:=by
   have:=(Yy1.S e).1
   rw[Yy3,YX]at this;lia
  subst hl;rw[Yj (Yy8 _),Yy19]at e;let e:(m:Int)=z:=Yl e
  subst e;exists J,J,λy h0 ey=>?_;rw[Yp B]at ey;show(h _ y ey).2.1
def IsSet.len:∀{ns:List Int},IsSet m ns->ns.f<=m:=λ{ns} h=>by
 let key:∀(i:Nat)(z:Int),ns[i]?=some z->(i:Int)<=z:=by
  intro i
  induction i with
  |zero=>intro z e;show(h 0 z e).1
  |succ i ih=>
   intro z e;let hi:i<ns.f:=by have:=(Yy1.S e).1;lia
   let e2:ns[i]?=some ns[i]:=Yy0 hi
   have:=ih _ e2
   have:=(h (i+1) z e).2.2 ns[i] J (by rwa[Yy37])
   lia
 cases h0:ns.f=0
 ·lia
 ·have e:ns[ns.f-1]?=some (ns[ns.f-1]'(by lia)):=Yy0 _;let a:=key _ _ e
  let b:=(h _ _ e).2.1;lia
end My
namespace L2
open PySem PySem.Spec PyProof.Rows
section
variable{X:Cx}
def ZQ13(K:PySem.W.Q):(V->List V->Hp->VK->Prop):=λx vs H Q=>∃(p:Addr)(ns:List Int)(z:Int)(j:Nat),x=.ref p/\vs=[.int z]/\SqL K H p (ns.L V.int)/\ns[j]?=some z/\(∀i,i<j->ns[i]?≠some z)/\Q (.int j) H
def ZW7(K:PySem.W.Q)(h:X.K=K:=by rfl):MtM X "list.index" (ZQ13 K):=by
 subst h;intro pins s σ H x vs v us Q I rx rv h;let(p,ns,z,j,rfl,rfl,hq,hj,hno,q):=h;cases rx;let(u,rfl,t,rfl):=rv.one;let(its,r,(o,n,e,hc,hd,hdat),hz):=I.list hq;let hl:its.f=ns.f:=by rw[<-r.f,Yy7]
 let hjl:j<ns.f:=(Yy1.S hj).1;let hsz:sizeLine=16777216:=Y1l
 rw[Yy7]at hz;let(oc,od,odat,osl):=o;let hc:oc=.type "list":=hc
 let hdat:odat=.seq its.t n:=hdat;subst hc hdat;let at_:∀(i:Nat)(hi:i<its.f),∃tk,its[i]=.int (ns[i]'(by lia)) tk:=λi hi=>by
  let(x,ex,rx):=r.at hi;rw[Yc,Yy0 B]at ex;let ex:V.int (ns[i]'(by omega))=x:=Yl ex
  subst ex;show rx
 show Yy35 F.slot_list_index {_,e,Z} F.entry_list_index (F.args_list_index_2 _ _) (SeqAt.list_indexAt p its.t n od osl (.int z t) (λy=>eqU (.int z) y) j (by rw[Ya];lia) J ?_ ?_) {e,λy hy=>?_,?_}
 ·let(tk,e1):=at_ j B;let e2:ns[j]'(by lia)=z:=by rw[Yy0 hjl]at hj;show Yl hj
  let e3:its.t[j]'(by rw[Ya];lia)=.int z tk:=by rw[<-e2];simpa using e1
  rw[e3];show Y2I z
 ·intro m hm hmj;let hm':m<its.f:=by rwa[Ya]at hm
  let(tk,e1):=at_ m hm';let e3:its.t[m]'hm=.int (ns[m]'(by omega)) tk:=by simpa using e1
  rw[e3];let hne:=hno m hmj
  rw[Yy0 B]at hne;let hne':ns[m]'(by omega)≠z:=λw=>hne (YI some w)
  show beq_false_of_ne hne'
 ·show Zo2 (x:=.int z) ⟨t,Z⟩ Z r ?_ y (by simpa using hy);rw[List.all_map,Y0x];intro _ _;rfl
 ·exists .int j,H,I.tok _,{_,Z},q
end
end L2
namespace My
open PySem L2
section
variable{K:PySem.W.Q}{H:Hp}{α:Type}[DecidableEq α]
def Bears(R:V->α->Prop)(xs:List V)(l:List α):(Prop):=xs.f=l.f/\∀(i:Nat)(a:α),l[i]?=some a->∃x,xs[i]?=some x/\R x a
def Bears.at{R:V->α->Prop}(h:Bears R xs l){i:Nat}{x:V}(e:xs[i]?=some x):∃a,l[i]?=some a/\R x a:=by
 let hi:i<xs.f:=(Yy1.S e).1;let hl:i<l.f:=by rwa[<-h.1]
 let(x',e1,q):=h.2 i l[i] (Yy0 hl);rw[e]at e1;cases e1;exists _,Yy0 hl,q
def Yz9{l m:List α}(h:l.f=m.f):(List.range l.f).all (λi=>decide (l[i]?=m[i]?))=decide (l=m):=by
 rw[Y0V,Y0x,YQ];constructor
 ·intro q;show Yy08 λi=>?_;cases hi:i<l.f
  ·show YS (q i<|YO.X hi)
  ·rw[YE J,YE J]
 ·rintro rfl i _;simp
def Zd2{R:V->α->Prop}(hp:SqL K H p xs)(hq:SqL K H q ys)(h1:Bears R xs l)(h2:Bears R ys m)(hR:∀x y a b,R x a->R y b->EqD K H n x y (decide (a=b))):EqD K H (n+1) ↑p ↑q (decide (l=m)):=by
 cases hl:xs.f=ys.f
 ·have e:=Yz9 (l:=l) (m:=m) (by rw[<-h1.1,<-h2.1,hl]);rw[<-e,<-h1.1];show EqD.lsts hp hq hl λi x y ex ey=>?_;let(a,ea,ra):=h1.at ex;let(b,eb,rb):=h2.at ey;rw[ea,eb,show decide (some a=some b)=decide (a=b) by simp];show hR x y a b ra rb
 ·have e:decide (l=m)=false:=Y0g λz=>hl (by rw[h1.1,h2.1,z]);rw[e];show EqD.lens hp hq hl
def Zz311{R:V->α->Prop}(hp:SqT K H p xs)(hq:SqT K H q ys)(h1:Bears R xs l)(h2:Bears R ys m)(hR:∀x y a b,R x a->R y b->EqD K H n x y (decide (a=b))):EqD K H (n+1) ↑p ↑q (decide (l=m)):=by
 let key:=EqD.tups (e:=λi=>decide<|l[i]?=m[i]?) hp hq λi x y ex ey=>by let(a,ea,ra):=h1.at ex;let(b,eb,rb):=h2.at ey;rw[ea,eb,show decide (some a=some b)=decide (a=b) by simp];show hR x y a b ra rb
 cases hl:xs.f=ys.f
 ·have e:=Yz9 (l:=l) (m:=m) (by rw[<-h1.1,<-h2.1,hl]);rwa[<-hl,Nat.min_self,h1.1,e,show(l.f == l.f)=true by simp,Bool.and_true]at key
 ·have e:decide (l=m)=false:=Y0g λz=>hl (by rw[h1.1,h2.1,z]);rw[show(xs.f == ys.f)=false by simpa using hl,Bool.and_false]at key;rwa[e]
def ZR1(ns:List Int):Bears (λx (z:Int)=>x=.int z) (IL ns) ns:={Zz4 ns,λi z e=>{_,ZJ3 e,Z}}
def Zl9{a b:Int}(hx:x=.int a)(hy:y=.int b):EqD K H n x y (decide (a=b)):=by
 subst hx hy;let e:decide (a=b)=eqV (.int a) (.int b):=by change decide (a=b)=(a == b);rw[Y4h]
 rw[e];show EqD.flat Z rfl
def Zz67(hp:SqL K H p (IL ns))(hq:SqL K H q (IL ms)):EqD K H 1 ↑p ↑q (decide (ns=ms)):=
 Zd2 hp hq (ZR1 ns) (ZR1 ms) λ_ _ _ _=>Zl9
def Zz65(hp:SqT K H p (IL ns))(hq:SqT K H q (IL ms)):EqD K H 1 ↑p ↑q (decide (ns=ms)):=
 Zz311 hp hq (ZR1 ns) (ZR1 ms) λ_ _ _ _=>Zl9
def Zl8{bs cs:List Bool}(hp:SqL K H p (bs.L V.bl))(hq:SqL K H q (cs.L V.bl)):EqD K H 1 ↑p ↑q (decide (bs=cs)):=by
 let be:∀bs:List Bool,Bears (λx (b:Bool)=>x=.bl b) (bs.L V.bl) bs:=λbs=>{Yy7 ..,λi b e=>{_,by rw[Yc,e];rfl,Z}};show Zd2 hp hq (be bs) (be cs) λx y a b hx hy=>?_;subst hx hy;let e:decide (a=b)=eqV (.bl a) (.bl b):=by change decide (a=b)=(a == b);rw[Y4h]
 rw[e];show EqD.flat Z rfl
def ZB7(H:Hp)(v:V)(l:List Int):(Prop):=∃a,v=.ref a/\H a=some (.lst<|IL l)
end
end My
namespace My
def fstB(M:List Int)(p:Nat):(Bool):=(List.range p).all λi=>decide (mk M i≠mk M p)
def posA(M:List Int)(k:Int)(i:Nat):(List Int):=((List.range i).filter λj=>decide<|mk M j=k).L λ(j:Nat)=>(j:Int)
def fstA(M:List Int)(i:Nat):(List Nat):=(List.range i).filter (fstB M)
def fstB_iff:fstB M p=true↔∀i,i<p->mk M i≠mk M p:=by
 unfold fstB;rw[Y0x];constructor
 ·intro h i hi;show YS (h i<|YO.X hi)
 ·intro h i hi;show YY (h i<|YO.S hi)
def ZO2(M:List Int)(k:Int)(i:Nat):posA M k (i+1)=posA M k i++(if mk M i=k then [(i:Int)] else []):=by
 unfold posA;rw[Y0H,Y0E,Yn];congr 1;cases h:mk M i=k
 ·rw[if_pos h,Y0w,if_pos (by simpa using h)];rfl
 ·rw[if_neg h,Y0w,if_neg (by simpa using h)];rfl
def Zz25(M:List Int)(i:Nat):fstA M (i+1)=fstA M i++(if fstB M i=true then [i] else []):=by
 unfold fstA;rw[Y0H,Y0E];congr 1;cases h:fstB M i=true
 ·rw[if_pos h,Y0w,if_pos h];rfl
 ·rw[if_neg h,Y0w,if_neg h];rfl
def Zc9(M:List Int):∀i,grpA M i=(fstA M i).L λp=>(mk M p,posA M (mk M p) i)
 |0=>rfl
 |i+1=>by
  let ih:=Zc9 M i;change ZW4 (grpA M i) (i:Int) (mk M i)=_
  let hk:(mk M i∈(grpA M i).L (·.1))↔fstB M i≠true:=by
   constructor
   ·intro h q;let(j,hj,e):=Zy1 M i _ h;show fstB_iff.S q j hj e
   ·intro h;cases q:∃j,j<i/\mk M j=mk M i
    ·let(j,hj,e):=q;rw[<-e];show ZY2 hj
    ·show absurd (fstB_iff.X λj hj e=>q ⟨j,hj,e⟩) h
  unfold ZW4;cases h:mk M i∈(grpA M i).L (·.1)
  ·have hf:=hk.S h;rw[if_pos h,Zz25,if_neg hf,YM,ih,Y1M];show YW λp _=>?_;change(if mk M p=mk M i then (mk M p,posA M (mk M p) i++[(i:Int)]) else (mk M p,posA M (mk M p) i))=(mk M p,posA M (mk M p)<|i+1)
   rw[ZO2];cases e:mk M p=mk M i
   ·rw[if_pos e,if_pos e.symm]
   ·rw[if_neg e,if_neg λz=>e z.symm,YM]
  ·have hf:fstB M i=true:=by
    cases q:fstB M i with
    |true=>rfl
    |false=>show absurd (hk.X<|by rw[q];show Ys) h
   rw[if_neg h,Zz25,if_pos hf,Yn,ih];congr 1
   ·show YW λp hp=>?_;let hpi:p<i:=YO.S (Ym.S hp).1
    rw[ZO2,if_neg λz=>fstB_iff.S hf p hpi z.symm,YM]
   ·show [(mk M i,[(i:Int)])]=[(mk M i,posA M (mk M i)<|i+1)];rw[ZO2,if_pos Z];let e0:posA M (mk M i) i=[]:=by unfold posA;rw[List.filter_eq_nil_iff.X λj hj=>by simpa using fstB_iff.mp hf j (YO.mp hj)];rfl
    rw[e0];rfl
end My
namespace My
open PySem L2
def Bears.snoc{α:Type}[DecidableEq α]{R:V->α->Prop}{xs:List V}{l:List α}{x:V}{a:α}(h:Bears R xs l)(hx:R x a):Bears R (xs++[x]) (l++[a]):=by
 show{by rw[Yy3,Yy3,h.1];rfl,λi b e=>?_};cases hi:i<l.f
 ·rw[Yp hi]at e;rw[Yp (by rwa[h.1])];show h.2 i b e
 ·have hl:i=l.f:=by
   have:=(Yy1.S e).1
   rw[Yy3,YX]at this;lia
  subst hl;rw[Yj (Yy8 _),Yy19]at e;rw[Yj (by rw[h.1];show Yy8 _),h.1,Yy19];let e':a=b:=Yl e
  subst e';exists x,Z,hx
def Bears.imp{α:Type}[DecidableEq α]{R R':V->α->Prop}{xs:List V}{l:List α}(h:Bears R xs l)(f:∀x a,R x a->R' x a):Bears R' xs l:={h.1,λi a e=>by let(x,e1,r):=h.2 i a e;exists x,e1,f x a r}
end My
namespace L2
open PySem PySem.Spec PyProof.Rows
def ObjOk.there(x:ObjOk P w H h a o):∃u,h.E a=some u:=by
 cases o with
 |lst xs=>let(_,_,_,_,e):=x;exists _,e
 |tup xs=>let(_,_,_,o,e,_):=x;exists _,e
 |dK kvs=>let(_,_,_,_,o,_,_,e,_):=x;exists _,e
 |dT kvs=>let(_,_,_,_,o,_,_,e,_):=x;exists _,e
 |set S n=>let(o,_,_,_,e,_):=x;exists _,e
 |ins C dx fs=>let(_,_,_,e,_):=x;exists _,e
 |own y=>show x
 |xd fs=>let(_,(_,_,_,e,_),_):=x;exists _,e
 |rng lo hi=>let(_,_,_,e):=x;exists _,e
 |frz ob u=>let(e,_):=x;exists _,e
 |tbl ps=>exists _,x
 |met f y=>exists _,x
 |ext φ=>let(_,e,_):=x;show e
structure Fly(h0:Heap)(H:Hp)(e C:Addr)(h:Heap):Prop where
 ex:∃oe vs T oT ts a0,h.E e=some oe/\oe.cls=.ref C/\oe.data=.fields vs/\vs[0]?=some a0/\vs[1]?=some ↑T/\T≠e/\h.E T=some oT/\oT.data=.fields ts/\ts[3]?=some .none/\h0.E T=none/\H T=none
 new:h0.E e=none
 free:H e=none
def CXW(P:Program)(w:World):(CXT):=λouter H s E ev s'=>∃e C H',ev=Value.ref e/\s'.os=s.os/\AllBare s'.gens/\Un (frs outer) [] H H' s.o s'.o/\HOk P w H' s'.o/\Fly s.o H' e C s'.o/\E ↑C none H'
section
variable{X:Cx}{pins:List (Addr×Obj)}{σ:St}{H:Hp}{s:Shared}{e C:Addr}
abbrev grd(X:Cx)(h:Heap)(ns:List Addr):Heap:=PySem.W.hideAll h (frs X.stack++ns)
def Zu2{b:Addr}{o:Obj}(q:h.E b=some o)(h1:b∉frs X.stack)(h2:b∉ns):(grd X h ns).E b=some o:=
 PySem.W.hideAll_get _ q λz=>(Yb.S z).elim h1 h2
def ZN12:(grd X h ns).StaysIn h:=λ_ _ q=>PySem.W.of_hideAll _ q
def Inv.was(I:Inv X pins σ H s)(hex:X.ex=[]){b:Addr}(h:s.o.E b=none):X.s₀.o.E b=none:=by
 cases q:X.s₀.o.E b with
 |none=>rfl
 |some o=>
  let(o',e):=I.base.there b o q (by rw[hex];simp);rw[h]at e;cases e
def Zz89(ok:HOk P w H h)(hf:∀b∈frs X.stack,H b=none)(hns:∀b∈ns,H b=none)(k:(grd X h ns).StaysIn h'):HOk P w H h':=λa o q=>
 (ok a o q).stay (λb u hb g=>k b u (Zu2 g (λz=>by
  have:=hf b z
  rcases hb with rfl|hb
  ·rw[q]at this;cases this
  ·rw[hb]at this;cases this) λz=>by
  have:=hns b z
  rcases hb with rfl|hb
  ·rw[q]at this;cases this
  ·rw[hb]at this;cases this)) (λ_ z=>z) λ_ _ z=>z
def Zg8(hst:X.stack=X.M::X.outer)(hfr:X.M.frame=some X.M.locals):frs X.stack=X.M.locals::frs X.outer:=by rw[hst];unfold frs;rw[Y1E,hfr]
def Zt9(hst:X.stack=X.M::X.outer)(hfr:X.M.frame=some X.M.locals)(hex:X.ex=[])(I:Inv X pins σ H s)(hns:∀b∈ns,X.s₀.o.E b=none/\H b=none) 
  (hfl:Heap.FlyingW (grd X s.o ns) X.outer e ↑C a0 h')(up:s.o.UpToSlots h')(ne:X.s₀.o.E e=none)(fe:H e=none)(hE:E ↑C none H)(hs:s'.o=h')(ho:s'.os=s.os)(hg:s'.gens=s.gens):
  CXW X.prog X.w X.outer X.H₀ X.s₀ E ↑e s':=by
 subst hs;let fst:=Zg8 (X:=X) hst hfr
 let noL:∀b o,X.s₀.o.E b=some o->b≠X.M.locals:=λb o q=>Yt (Yr (Yg q) I.ok.above);let nns:∀b o,X.s₀.o.E b=some o->b∉ns:=λb o q z=>by rw[(hns b z).1]at q;cases q
 let nfs:∀b o,X.s₀.o.E b=some o->b∉frs X.outer->b∉frs X.stack:=λb o q n z=>by
  rw[fst]at z;rcases Yf.S z with z|z
  ·show noL b o q z
  ·show n z
 let nex:∀b,b∉X.ex:=λb z=>by rw[hex]at z;cases z
 let keep:∀b o u,X.s₀.o.E b=some o->b∉frs X.outer->s.o.E b=some u->s'.o.E b=some u:=λb o u q n g=>hfl.1 b u (Zu2 g (nfs b o q n)<|nns b o q);let slot:∀b u,b∈frs X.outer->s.o.E b=some u->∃sl,s'.o.E b=some {u with slots:=sl}:=λb u hb g=>by let(_,o',ho',hd):=I.funs.mem hb;rw[g]at ho';cases ho';show up b u g hd
 exists e,C,H,Z,ho.m I.os,hg▸I.bare,{λb o q n hb _=>?_,λb o q n hb _=>?_,λb o q n _=>I.base.free b o q n<|nex b,λb o q _=>?_,I.base.tups,I.base.frzs,I.base.tbls},Zz89 I.hok I.stkFree (λb hb=>(hns b hb).2) hfl.1,{?_,ne,fe},hE
 ·show keep b o o q hb (I.base.keep b o q n hb<|nex b)
 ·let(sl,g):=I.base.slot b o q n hb (nex b);let(sl',g'):=slot b _ hb g;exists sl',g'
 ·let(u,g):=I.base.there b o q (nex b);cases hb:b∈frs X.outer
  ·let(sl,g'):=slot b u hb g;exists _,g'
  ·exists u,keep b o u q hb g
 ·let(f1,f2,f3,oe,vs,T,oT,ts,he,(hc,h0),hd,h1,hnT,hTe,hT,hdT,h3):=hfl;exists oe,vs,T,oT,ts,a0,he,hc,hd,h0,h1,hTe,hT,hdT,h3,?_,?_
  ·cases q:X.s₀.o.E T with
   |none=>rfl
   |some o=>
    let(u,g):=I.base.there T o q (nex T);cases hb:T∈frs X.outer
    ·let(_,o',ho',hd'):=f3.mem hb;rw[hT]at ho';cases ho';show absurd hdT (hd' ts)
    ·rw[Zu2 g (nfs T o q hb) (nns T o q)]at hnT;cases hnT
  ·cases q:H T with
   |none=>rfl
   |some ho=>
    let(u,g):=(I.hok T ho q).there;rw[Zu2 g (λz=>by rw[I.stkFree T z]at q;cases q) (λz=>by rw[(hns T z).2]at q;cases q)]at hnT;cases hnT
def Zz47(hst:X.stack=X.M::X.outer)(I:Inv X pins σ H s)(F:Fly h0 H e C s.o):∃T a0,Heap.FlyingW (grd X s.o [e,T]) X.stack e ↑C a0 s.o/\h0.E T=none/\H T=none:=by let(oe,vs,T,oT,ts,a0,he,hc,hd,h0',h1,hTe,hT,hdT,h3,nT,fT):=F.ex;exists T,a0,{ZN12,Y2U _ D,?_,oe,vs,T,oT,ts,he,⟨hc,h0'⟩,hd,h1,Y2U _ D,hTe,hT,hdT,h3},nT,fT;show Yy43 I.stack λenv henv a hf=>YA _ (Y2m.X ⟨env,henv,hf⟩)
def ZZ7(hst:X.stack=X.M::X.outer)(hfr:X.M.frame=some X.M.locals)(hex:X.ex=[])(I:Inv X pins σ H s)(F:Fly X.s₀.o H e C s.o)(hE:E ↑C none H){E':Value->Shared->Prop}:
  wpAny (model X.prog X.w) X.A (leaving X.M<|.ref e) (λ_ s''=>CXW X.prog X.w X.outer X.H₀ X.s₀ E ↑e s'') E' s:=by
 let(T,a0,fl,nT,fT):=Zz47 hst I F;rw[hst]at fl;show wpAny_leaves_onW (by rw[I.ok.frames,hst]) hfr fl λh' fl' up=>?_;show Zt9 hst hfr hex I (λb hb=>?_) fl' up F.new F.free hE Z Z rfl;rcases Yf.S hb with rfl|hb
 ·exists F.new,F.free
 ·rw[Yy2.S hb];exists nT,fT
def ZH6(hst:X.stack=X.M::X.outer)(hfr:X.M.frame=some X.M.locals)(hex:X.ex=[])(I:Inv X pins σ H s)(hm:Heap.MadeExcOf s.o h' e ↑C vs)(hE:E ↑C none H){E':Value->Shared->Prop}:
  wpAny (model X.prog X.w) X.A (leaving X.M<|.ref e) (λ_ s''=>CXW X.prog X.w X.outer X.H₀ X.s₀ E ↑e s'') E' {s with heap:=h'}:=by
 let ff:s.o.FunFrames (grd X s.o []) X.stack:=Yy43 I.stack λenv henv a hf=>YA _ (Y2m.X ⟨env,henv,hf⟩);rw[hst]at ff;show wpAny_leaves_madeW (base:=grd X s.o []) (h:=s.o) (by rw[I.ok.frames,hst]) hfr ZN12 ff hm λh'' t fl _ _ up=>?_;let fe:H e=none:=by
  cases q:H e with
  |none=>rfl
  |some ho=>
   let(u,g):=(I.hok e ho q).there;rw[hm.new]at g;cases g
 show Zt9 (s':={s with heap:=h''}) hst hfr hex I (λb hb=>by cases hb) fl ((Heap.UpToSlots.of_keeps hm.keeps).m up) (I.was hex hm.new) fe hE Z Z rfl
def Inv.flown(I:Inv X pins σ H s)(h:CXW X.prog X.w X.stack H s E ev s'):∃e C H',ev=Value.ref e/\Inv X pins σ H' s'/\Fly s.o H' e C s'.o/\E ↑C none H':=by let(e,C,H',rfl,ho,hg,u,ok,F,hE):=h;exists e,C,H',Z,I.call' (ch:=[]) ho u ok hg (λ_ z=>nomatch z),F,hE
def Fly.older(F:Fly h0 H e C h)(k:∀b,h0.E b=none->h1.E b=none):Fly h1 H e C h:=by let(oe,vs,T,oT,ts,a0,he,hc,hd,h0',h1',hTe,hT,hdT,h3,nT,fT):=F.ex;exists {oe,vs,T,oT,ts,a0,he,hc,hd,h0',h1',hTe,hT,hdT,h3,k _ nT,fT},k _ F.new,F.free
end
section
variable{P:Program}{w:World}{K:PySem.W.Q}{mg:Str->Option Value}{base:Heap}
def pxs:ZI3 (CXW P w) (cxOf (CXW P w) P w K mg base N qual scope f cd A outer s H E) E:=by intro pins σ H1 s1 ev s' I h;let(e,C,H',rfl,XY,F,hE):=I.flown h;show ZZ7 Z Z Z XY (F.older λb hb=>I.was Z hb) hE
def Fun.okX{x qual:Str}{st:Stmt}{f:Addr}{fd:FuncData}{N ps:List Str}{k:Nat}{sp:Sp}(F:Fun K x qual st f fd)(S:FnScope N ps (Zb st))(len:∀vs H Q E,sp vs H Q E->vs.f=ps.f)
  (hbody:∀cdv A outer s H vs Q E,Room k (A.deeper<|envOfC qual (Zb st) (~~~s) f cdv)->sp vs H Q E->
   ∃t,PSs (cxOf (CXW P w) P w K mg base N qual (Zb st) f cdv A outer s H E) (Zm1 st) t/\t {nx:=λ_ H'=>Q .non H',rt:=Q} (start N vs) H):FnOk P w K mg base (CXW P w) (k+1) f fd ps sp:=by let(oc,od,kV,doc,pm,an,cdv,ct,osl,rfl,lk,hcd):=F.ex;show ZH14 lk hcd S len λA outer s H vs Q E hr hsp=>hbody cdv A outer s H vs Q E hr hsp
end
structure XCls(K:PySem.W.Q)(C:Addr):Prop where
 ex:PySem.W.excIn K C [.type "ValueError",.type "Exception",.type "BaseException",.type "object"] "ValueError.__new__"=true
 ga:PySem.W.findIn K ↑C "__getattribute__"=some (some<|.builtin "BaseException.__getattribute__")
 gh:PySem.W.findIn K ↑C "__getattr__"=some none
 cl:PySem.W.findIn K ↑C "__class__"=some (some<|.builtin "object.__class__")
 ob:PySem.W.mroIn K C (.type "object")=some true
 bx:PySem.W.mroIn K C (.type "BaseException")=some true
def XCls.obj{K:PySem.W.Q}{C:Addr}{h:Heap}(c:XCls K C)(X:K.In h):∃bm N nm q bs hdct sn sub ab col dd k0 k1 k2 k3 k5 mN,h.E C=some (excClassObj nm q C N bs bm hdct sn sub ab col dd k0 k1 k2 k3 k5 "ValueError.__new__")/\h.Ns N mN/\mN "__init__"=none/\OwnTail h [.type "ValueError",.type "Exception",.type "BaseException",.type "object"] bm:=by
 let q:=c.ex;unfold PySem.W.excIn at q;split at q
 ·rename_i dd cd sl ho;split at q
  ·rename_i C' bm k0 k1 k2 k3 n k5 hm hs;simp only[Yy10,Y1B,Y1X]at q;let(((((rfl,rfl),hdel),ht),hok),hni):=q;let(nm,bs,mro,ns,qn,hd,sn,sub,ab,col,del):=cd;dsimp only at hm hdel hok hni;subst hm hdel;let hsl:sl=#[k0,k1,k2,k3,some<|.builtin "ValueError.__new__",k5]:=by let⟨l⟩:=sl;simp only at hs;rw[hs]
   subst hsl;exists bm,ns,nm,qn,bs,hd,sn,sub,ab,col,dd,k0,k1,k2,k3,k5,_,X _ _ ho,.of_isNs<|PySem.W.isNs_of_in X hok,PySem.W.nsMap_none_of_in X hok hni,PySem.W.tail_of_in X ht
  ·cases q
 ·cases q
def ZA13(C:Addr)(E:XK)(t:TA):(TS):=λ_ σ H=>t σ H λvs H1=>vs.f<=sizeLine/\E ↑C none H1
def Zb10{P:Program}{w:World}{K:PySem.W.Q}{mg:Str->Option Value}{base:Heap}{N:List Str}{qual:Str}{scope:Scope}{f:Addr}{cd:Value}{A:Around}{outer:List Env}{s0:Shared}{H0:Hp}{E:XK}{C:Addr}{x:Str}{np cpos pos:Pos}{e₀:Expr}{rest:List Expr}{t:TA}
  (c:XCls K C)(hm:mg x=some ↑C)(ha:PA (cxOf (CXW P w) P w K mg base N qual scope f cd A outer s0 H0 E) (e₀::rest) t)
  (hg:Gl (cxOf (CXW P w) P w K mg base N qual scope f cd A outer s0 H0 E) x:=by rfl)(hd:(x == ("__debug__":Str))=false:=by decide)
  (he:starEach (e₀::rest) (cxOf (CXW P w) P w K mg base N qual scope f cd A outer s0 H0 E).M=(false,eval e₀ (cxOf (CXW P w) P w K mg base N qual scope f cd A outer s0 H0 E).M)::starEach rest (cxOf (CXW P w) P w K mg base N qual scope f cd A outer s0 H0 E).M:=by rfl)
  (hplain:(backTo cpos<|starEach rest (cxOf (CXW P w) P w K mg base N qual scope f cd A outer s0 H0 E).M).any (·.1)=false:=by rfl):
  PS (cxOf (CXW P w) P w K mg base N qual scope f cd A outer s0 H0 E) (.Raise (some<|.Call (.Name x np) (e₀::rest) [] cpos) none pos) (ZA13 C E t):=by
 intro pins s σ H XW I h;let(tl,NN,nm,q,bs,hdct,sn,sub,ab,col,dd,k0,k1,k2,k3,k5,mN,hC,hN,hni,T):=c.obj I.ok.mod.kin;show wpAny_Raise_call_subT (C:=C) (nm:=nm) (q:=q) (N:=NN) (bs:=bs) (bm:=tl) (hdct:=hdct) (sn:=sn) (sub:=sub) (ab:=ab) (col:=col) (dd:=dd) (k0:=k0) (k1:=k1) (k2:=k2) (k3:=k3) (k5:=k5)
  Y3A (mN:=mN) (T.hasType Y3A.hasBase) (I.ok.hd Z) (by rw[he];change(false||(backTo cpos<|starEach rest _).any (·.1))=false;rw[hplain];rfl) hni (Zw3 I hg hm {Z,?_} hd)
 let h:=ha cpos pins s σ H _ I h;rw[he]at h ⊢;show Calls.evalArgs_plain (Yy16 h (λvs s₂ h₂=>?_) λ_ _ y=>y);let(zs,H2,I2,rz,hz,hE):=h₂;show{Z,by rw[<-rz.f];show hz,I2.bk _ _ hC,hN.keeps I2.bk,T.keeps I2.bk,λh' e hme=>?_};show ZH6 Z Z Z I2 hme hE
section
variable{X:Cx}{pins:List (Addr×Obj)}{σ:St}{H:Hp}{s:Shared}{e:Addr}
def Inv.held(I:Inv X pins σ H s){tk:Nat}(hns:∀b∈ns,X.s₀.o.E b=none/\H b=none/\(∀p∈X.pn++pins,p.1≠b))(k:(grd X s.o ns).StaysIn h')(up:s.o.UpToSlots h'):Inv X pins σ H {s with heap:=h',toks:=tk}:=by
 let nns:∀b o,X.s₀.o.E b=some o->b∉ns:=λb o q z=>by rw[(hns b z).1]at q;cases q
 let noL:∀b o,X.s₀.o.E b=some o->b≠X.M.locals:=λb o q=>Yt (Yr (Yg q) I.ok.above);let nfs:∀b,b≠X.M.locals->b∉X.fs->b∉frs X.stack:=λb h1 h2 z=>(Yf.S<|I.stkSub b z).elim h1 h2
 let slot:∀b u,b∈X.fs->s.o.E b=some u->∃sl,h'.E b=some {u with slots:=sl}:=λb u hb g=>by let(_,o',ho',hd):=I.funs.mem hb;rw[g]at ho';cases ho';show up b u g hd
 let cellK:∀c v,s.o.IsCell c v->h'.IsCell c v:=λc v ⟨o,ho,hd⟩=>by
  let(sl,g):=up c o ho λvs q=>by rw[hd]at q;cases q
  exists _,g,hd
 exists I.ok,I.os,I.bare,{λb o q n hb hx=>?_,λb o q n hb hx=>?_,I.base.free,λb o q hx=>?_,I.base.tups,I.base.frzs,I.base.tbls},?_,λx c q=>?_,I.free,I.freeC,λp hp=>?_,Zz89 I.hok I.stkFree (λb hb=>(hns b hb).2.1) k,I.len
 ·show k b o (Zu2 (I.base.keep b o q n hb hx) (nfs b (noL b o q) hb)<|nns b o q)
 ·let(sl,g):=I.base.slot b o q n hb hx;let(sl',g'):=slot b _ hb g;exists sl',g'
 ·let(u,g):=I.base.there b o q hx;cases hb:b∈X.fs
  ·let(sl,g'):=slot b u hb g;exists _,g'
  ·exists u,k b u<|Zu2 g (nfs b (noL b o q) hb)<|nns b o q
 ·let(m,hn,hl):=I.loc;exists m,up.ns hn,λi x v e1 e2 e3=>?_;let(u,r,l):=hl i x v e1 e2 e3;exists u,r,?_;rcases l with l|⟨kk,c,q,z⟩
  ·show .inl l
  ·show .inr {kk,c,q,cellK c _ z}
 ·let(v,z):=I.cell x c q;exists v,cellK c v z
 ·let(q,n,ne,nf,d):=I.pin p hp;exists k p.1 p.2<|Zu2 q (nfs p.1 ne nf) λz=>(hns p.1 z).2.2 p hp Z,n,ne,nf,d
def Inv.gone(I:Inv X pins σ H s)(hN:X.N.Nodup){i:Nat}{n:Str}{tk:Nat}{m:Str->Option Value}{v:Option Value}(hi:X.N[i]?=some n)(hn:s.o.Ns X.M.locals m)
  (hn':h'.Ns X.M.locals λx=>if x=n then v else m x)(hs:Heap.SameBut X.M.locals s.o h'):Inv X pins (σ.set i none) H {s with heap:=h',toks:=tk}:=by
 let(m0,hn0,hl):=id I.loc;let em:m0=m:=by
  funext x
  let(o,es,ep,ho,hd,_,hf):=hn0;let(o',es',ep',ho',hd',_,hf'):=hn;rw[ho]at ho';cases ho';rw[hd]at hd';cases hd';rw[<-hf,<-hf']
 subst em;let cne:=I.cne
 let hiσ:i<σ.f:=by rw[I.len];show(Yy1.S hi).1
 let(oL,_,_,hoL,_):=id hn;exists I.ok,I.os,I.bare,{λb o q n hb hx=>?_,λb o q n hb hx=>?_,I.base.free,λb o q hx=>?_,I.base.tups,I.base.frzs,I.base.tbls},{_,hn',λj y v' e1 e2 e3=>?_},λy c q=>?_,I.free,I.freeC,λp hp=>?_,λb ob q=>?_,by simpa using I.len
 ·show(hs.2 b<|Yt<|Yr (Yg q) I.ok.above).m (I.base.keep b o q n hb hx)
 ·let(sl,e1):=I.base.slot b o q n hb hx;exists sl,(hs.2 b<|Yt<|Yr (Yg q) I.ok.above).m e1
 ·let(o',e1):=I.base.there b o q hx;exists o',(hs.2 b<|Yt<|Yr (Yg q) I.ok.above).m e1
 ·by_cases hj:j=i
  ·subst hj;rw[Y1T hiσ]at e2;cases e2
  ·rw[Yy27 (Y0f hj)]at e2;let(u',r',q):=hl j y v' e1 e2 e3;exists u',r',?_;rcases q with ⟨k,e⟩|⟨k,c,e,z⟩
   ·show .inl {k,?_}
    have:y≠n:=λe=>hj (Zz54 hN e1<|e▸hi)
    simp[this,e]
   ·show .inr {k,c,e,z.sameBut hs<|cne y c e}
 ·let(w',z):=I.cell y c q;exists w',z.sameBut hs<|cne y c q
 ·let(q,n,ne,nf,d):=I.pin p hp;exists (hs.2 p.1 ne).m q,n,ne,nf,d
 ·show(I.hok b ob q).stay (λc w' hc q'=>(hs.2 c ?_).m q') (λ_ q=>q) λ_ _ q=>q;rintro rfl;rcases hc with z|hc
  ·subst z;rw[I.free]at q;cases q
  ·rw[I.free]at hc;cases hc
end
abbrev ZI11(X:Cx)(pins:List (Addr×Obj))(R:St->XK):Cx:={X with pn:=X.pn++pins,xe:=λev s'=>∃σ H1 s1,Inv X pins σ H1 s1/\CXW X.prog X.w X.stack H1 s1 (R σ) ev s'}
abbrev Zp13(X:Cx)(pins:List (Addr×Obj))(e:Addr)(oe:Obj):Cx:={X with A:=X.A.mark<|some<|.ref e,calm:=false,pn:=X.pn++pins++[(e,oe)],xe:=λ_ _=>False}
section
variable{X:Cx}{pins pins':List (Addr×Obj)}{σ:St}{H:Hp}{s:Shared}{R:St->XK}{e:Addr}{oe:Obj}
def Inv.inTry(I:Inv X pins σ H s):Inv (ZI11 X pins R) [] σ H s:=
 {⟨I.ok.mod,I.ok.kind,I.ok.glob,I.ok.blt,I.ok.above,I.ok.inj,I.ok.has,I.ok.cab,I.ok.hd,I.ok.frames,I.ok.stk,I.ok.exf,I.ok.bs,I.ok.bsz,I.ok.noex,I.ok.exfs,I.ok.funs,I.ok.frf⟩,I.os,I.bare,I.base,I.loc,I.cell,I.free,I.freeC,λp hp=>I.pin p (by simpa using hp),I.hok,I.len}
def Inv.outTry(I:Inv (ZI11 X pins R) pins' σ H s):Inv X pins σ H s:=
 {⟨I.ok.mod,I.ok.kind,I.ok.glob,I.ok.blt,I.ok.above,I.ok.inj,I.ok.has,I.ok.cab,I.ok.hd,I.ok.frames,I.ok.stk,I.ok.exf,I.ok.bs,I.ok.bsz,I.ok.noex,I.ok.exfs,I.ok.funs,I.ok.frf⟩,I.os,I.bare,I.base,I.loc,I.cell,I.free,I.freeC,λp hp=>I.pin p<|YA _ hp,I.hok,I.len}
def SP.outTry{f:Flow}(h:SP (ZI11 X pins R) [] XW f s):SP X pins XW f s:=by
 cases f with
 |next=>let(σ',H',I,q):=h;exists σ',H',I.outTry,q
 |brk=>let(σ',H',I,q):=h;exists σ',H',I.outTry,q
 |cont=>let(σ',H',I,q):=h;exists σ',H',I.outTry,q
 |ret u=>let(v,σ',H',I,r,q):=h;exists v,σ',H',I.outTry,r,q
def Inv.inHan(I:Inv X pins σ H s)(h1:s.o.E e=some oe)(h2:H e=none)(h3:e≠X.M.locals)(h4:e∉X.fs)(h5:∀v,oe.data≠.cell v):Inv (Zp13 X pins e oe) [] σ H s:=
 ⟨{I.ok.mod,I.ok.kind,I.ok.glob,I.ok.blt,I.ok.above,I.ok.inj,I.ok.has,I.ok.cab,(λz=>(nomatch z)),I.ok.frames,I.ok.stk,I.ok.exf,I.ok.bs,I.ok.bsz,I.ok.noex,I.ok.exfs,I.ok.funs,I.ok.frf},I.os,I.bare,I.base,I.loc,I.cell,I.free,I.freeC,λp hp=>by
  rw[YM]at hp;rcases Yb.S hp with z|z
  ·show I.pin p z
  ·rw[Yy2.S z];show⟨h1,h2,h3,h4,h5⟩,I.hok,I.len⟩
def Inv.outHan(hd:X.calm=true->X.A.handled=none)(fr:X.A.frames=some X.stack)(I:Inv (Zp13 X pins e oe) pins' σ H s):Inv X pins σ H s:=
 {⟨I.ok.mod,I.ok.kind,I.ok.glob,I.ok.blt,I.ok.above,I.ok.inj,I.ok.has,I.ok.cab,hd,fr,I.ok.stk,I.ok.exf,I.ok.bs,I.ok.bsz,I.ok.noex,I.ok.exfs,I.ok.funs,I.ok.frf⟩,I.os,I.bare,I.base,I.loc,I.cell,I.free,I.freeC,λp hp=>I.pin p<|YA _<|YA _ hp,I.hok,I.len}
end
def ZA7(CX:CXT)(X:Cx)(R:St->XK):(Prop):=∀pins σ H s e s',Inv X pins σ H s->CX X.stack H s (R σ) e s'->X.xe e s'
def pxT{R:St->XK}(hP:P=X.prog:=by rfl)(hw:w=X.w:=by rfl):ZA7 (CXW P w) (ZI11 X pins R) R:=by subst hP hw;show λ_ σ H s _ _ I h=>⟨σ,H,s,I.outTry,h⟩
def ZE13(sp:Sp)(dvs:List V)(R:St->XK)(t:TA):(TE):=λσ H Q=>t σ H λvs H1=>sp (vs++dvs) H1 Q (R σ)
section
variable{X:Cx}{CX:CXT}{k:Nat}{f:Addr}{fd:FuncData}{ps:List Str}{sp:Sp}{dvs:List V}{ds:List Value}{R:St->XK}{x:Str}{p pos:Pos}{e:Expr}{es:List Expr}{t:TA}
def ZU11(F:FnOk X.prog X.w X.K X.mg X.base CX k f fd ps sp)(hr:Room k X.A)(hb:Binds X.K fd ps ds)(hd:Vals dvs ds)(hx:ZA7 CX X R)
  (I:Inv X pins σ H s)(r:Vals vs us)(h:sp (vs++dvs) H Q (R σ)):wpAny (model X.prog X.w) X.A (call ↑f us) (EP X pins σ Q) X.xe s:=by
 let r2:Vals (vs++dvs) (us++ds):=r.append hd;let hl:(us++ds).f=ps.f:=by rw[<-r2.f];show F.len _ _ _ _ h
 show Yy40 (Y1v (F.run X.A X.stack s H {us,[]} (us++ds) (vs++dvs) Q (R σ) hr I.env0 (hb s us I.kIn hl) r2 h) λr s' hq=>?_);cases r with
 |error e=>show hx pins σ H s e s' I hq
 |ok fl=>
  cases fl with
  |ret u=>show I.after hq
  |next=>show False.elim hq
  |brk=>show False.elim hq
  |cont=>show False.elim hq
def Zk10(F:FnOk X.prog X.w X.K X.mg X.base CX k f fd ps sp)(hr:Room k X.A)(hg:Gl X x)(hm:X.mg x=some ↑f)(hk:PySem.W.keepIn X.K ↑f=true)(hb:Binds X.K fd ps ds)(hd:Vals dvs ds)(hx:ZA7 CX X R)
  (ha:PA X (e::es) t)(hdb:(x == ("__debug__":Str))=false:=by decide)(he:starEach (e::es) X.M=(false,eval e X.M)::starEach es X.M:=by rfl)(hpl:(backTo pos<|starEach es X.M).any (·.1)=false:=by rfl):
  PE X (.Call (.Name x p) (e::es) [] pos) (ZE13 sp dvs R t):=by intro pins s σ H Q I h;show Y0O (Zw3 I hg hm ?_ hdb);show Yy36 (h₀:=X.base) I.ok.mod.kin hk (thn (ha pos pins s σ H _ I h) λus s1 ⟨vs,H1,I1,r,q⟩=>{I1.kIn,?_}) he hpl;show ZU11 F hr hb hd hx I1 r q
end
def Ends.less(XW:Ends)(i:Nat):(Ends):={nx:=λσ H=>XW.nx (σ.set i none) H,rt:=XW.rt,bk:=λσ H=>XW.bk (σ.set i none) H,ct:=λσ H=>XW.ct (σ.set i none) H}
def tTry(K:PySem.W.Q)(W:Addr)(i:Nat)(tb:(St->XK)->TS)(th:Addr->Addr->TS):(TS):=λXW σ H=>
 tb (λσ' c _ H'=>∃C,c=Value.ref C/\PySem.W.exmOne K ↑C ↑W=some true/\∀e:Addr,H' e=none->th e C (XW.less i) (σ'.set i<|some<|.ref e) H') XW σ H
def ZS13{x n:Str}{np hpos pos:Pos}{b₀:Stmt}{suite:List Stmt}{tb:(St->XK)->TS}{th:Addr->Addr->TS}
  (hst:X.stack=X.M::X.outer)(hfr:X.M.frame=some X.M.locals)(hex:X.ex=[])(hN:X.N.Nodup)(hi:X.N[i]?=some n)(hl:X.M.kindOf n=some .local)(hm:X.mg x=some ↑W)(hg:Gl X x)
  (hb:∀R pins,PSs (ZI11 X pins R) body<|tb R)(hs:∀e C oe pins,oe.cls=.ref C->PSs (Zp13 X pins e oe) (b₀::suite) (th e C))(hdb:(x == ("__debug__":Str))=false:=by decide):
  PS X (.Try body [.ExceptHandler (some<|.Name x np) (some n) (b₀::suite) hpos] [] [] pos) (tTry X.K W i tb th):=by
 intro pins s σ H XW I h;show wpAny_Try_except (Yy16 (hb _ pins [] s σ H XW I.inTry h) (λf s1 q=>?_) λev s1 q=>?_)
 ·have q:=SP.outTry q;cases f with
  |next=>show Y2B q
  |brk=>show q
  |cont=>show q
  |ret u=>show q
 ·let(σ1,H1,s0,I0,hcx):=q;let(e,C,H',rfl,XY,F,C',eC,hmt,hR):=I0.flown hcx;cases eC;let hR:=hR e F.free
  let(T,a0,fl,nT,fT):=Zz47 hst XY F;let hns:∀b∈[e,T],X.s₀.o.E b=none/\H' b=none/\(∀p∈X.pn++pins,p.1≠b):=λb hb=>by
   let key:∀b,s0.o.E b=none->H' b=none->X.s₀.o.E b=none/\H' b=none/\(∀p∈X.pn++pins,p.1≠b):=λb n0 f0=>⟨I0.was hex n0,f0,λp hp z=>by
    have:=(I0.pin p hp).1
    rw[z,n0]at this;cases this⟩
   rcases Yf.S hb with rfl|hb
   ·show key _ F.new F.free
   ·rw[Yy2.S hb];show key _ nT fT
  rw[hst]at fl;show wpAny_looks_onW (by rw[XY.ok.frames,hst]) hfr fl λh₄ held₄ up₄=>?_;show wpAny_landsW held₄ λh₅ fl₅ up₅'=>?_;let up₅:=up₄.m up₅'
  let J₅:Inv X pins σ1 H' {s1 with heap:=h₅}:=XY.held (tk:=s1.toks) hns fl₅.1 up₅;let(ob,hob,hobc):=fl₅.there;show wpAny_handleBy_cons (codeAny_handlers_test<|Y2G J₅.ok.kind hg (Calls.loadGlobal_global (by rw[J₅.ok.glob];show J₅.mod.glob.keeps J₅.bk) hm ?_) hdb) (by intro q;cases q);let LT:PySem.W.Looks (model X.prog X.w) h₅ (typeOf<|.ref e) ↑C:=by rw[<-hobc];show(PySem.W.Looks.ld hob).andThen .now
  show(PySem.W.exm_one J₅.kIn LT hmt).here ?_;show codeAny_handlers_suite_as ?_;show lands_againW fl₅ λh₆ fl₆ up₆=>?_;let J₆:Inv X pins σ1 H' {s1 with heap:=h₆}:=XY.held (tk:=s1.toks) hns fl₆.1 (up₅.m up₆)
  let(oe,ws,hoe,hoec,hoed,hoe0):=fl₆.first;let neL:e≠X.M.locals:=λz=>by
   let(m,(o',es,ep,ho',hd',_),_):=J₆.loc;rw[<-z]at ho';let hoe':h₆.E e=some oe:=hoe
   let ho'':h₆.E e=some o':=ho';rw[hoe']at ho'';cases ho'';rw[hoed]at hd';cases hd'
  let nfs:e∉X.fs:=λz=>by
   let(_,o',ho',hd):=J₆.funs.mem z;let hoe':h₆.E e=some oe:=hoe
   let ho'':h₆.E e=some o':=ho';rw[hoe']at ho'';cases ho'';show hd ws hoed
  show ZB4 J₆ hN hi (.inl hl) (v:=.ref e) Z (λs7 J₇ hsb=>?_) (.inr hl);let(a,hsame,ha):=hsb;let hea:e≠a:=by
   rcases ha with rfl|ha
   ·show neL
   ·intro z;let(v,o',ho',hd'):=J₆.cell _ _ ha;rw[<-z]at ho';let hoe':h₆.E e=some oe:=hoe
    let ho'':h₆.E e=some o':=ho';rw[hoe']at ho'';cases ho'';rw[hoed]at hd';cases hd'
  let hoe7:s7.o.E e=some oe:=(hsame.2 e hea).m hoe;let JH:=J₇.inHan (oe:=oe) hoe7 F.free neL nfs (λv z=>by rw[hoed]at z;cases z)
  show Yy16 (hs e C oe pins hoec [] s7 _ H' (XW.less i) JH hR) (λf s8 q=>?_) λ_ _ z=>False.elim z;let hp:(X.M.scope.kind == .class||(X.M.scope.kind == .module&&X.M.locals != X.M.globals))=false:=by rw[XY.ok.kind];rfl
  let fin:∀{σ8:St}{H8:Hp},Inv (Zp13 X pins e oe) [] σ8 H8 s8->∀{Q:Flow->Shared->Prop},(∀s9,Inv X pins (σ8.set i none) H8 s9->Q f s9)->wpAny (model X.prog X.w) X.A (do bindName X.M n .none;unbindBehindTheSuite X.M n hpos) (λ_ s9=>Q f s9) X.xe s8:=λ{σ8 H8} J8 {Q} k=>by let J9:=J8.outHan I.ok.hd I.ok.frames;let(m,hn,_):=id J9.loc;show wpAny_nameGoes_keeps hl hn hp λh' v hn' hsm=>k _ (J9.gone hN hi hn hn' hsm)
  cases f with
  |next=>let(σ8,H8,J8,q):=q;show fin J8 λs9 J9=>{_,H8,J9,q}
  |brk=>let(σ8,H8,J8,q):=q;show fin J8 λs9 J9=>{_,H8,J9,q}
  |cont=>let(σ8,H8,J8,q):=q;show fin J8 λs9 J9=>{_,H8,J9,q}
  |ret u=>let(v,σ8,H8,J8,r,q):=q;show fin J8 λs9 J9=>{v,_,H8,J9,r,q}
end L2
namespace L2
open PySem PySem.Spec PyProof.Rows PySem.W PySem.Calls Builtin Builtin.ObjectAttr Builtin.Getset_descriptor
section
variable{prog:Program}{w:World}{A:Around}{E:Value->Shared->Prop}{K:PySem.W.Q}{x C:Addr}{ox:Obj}
def Zw13{R:Result->Shared->Prop}{s:Shared}{tp:Value}(X:K.In s.o)(hx:s.o.E x=some ox)(hc:ox.cls=.ref C)(hm:mroIn K C (.type "object")=some true)
  (h:R (.ok<|.ret<|.ref C) s):codeAny (model prog w) A (.call (.builtin "getset_descriptor.__get__") {[.builtin "object.__class__",.ref x,tp],[]}) R s:=by
 let(hh,g,dr,t,os):=s;let L0:Looks (model prog w) hh (typeOf<|.ref x) ↑C:=by rw[<-hc];show(Looks.ld hx).andThen .now
 let L1:=looks_mroIn (M:=model prog w) X hm;show Y2l KF.slot_gs.plain KF.entry_gs (KF.slot_gs.check _ _ _ _ _ _ _ _ KF.type_class (KF.args_gs _ _ _) ?_);unfold Builtin.«getset_descriptor.__get__» descrGet;rw[dga_obj];show Yy4 (Yi ?_);unfold descrGetter descrCheckInstance descrNameAndClass isInstance;simp only[KF.owner_class]
 repeat lk
 exists Yy23 _ XT,Yy13 KF.entry_class ?_;unfold Builtin.«object.__class__» shownTypeOf
 repeat lk
 show h
def ZB9{tk:Tok}{Q:Fin->Shared->Prop}(X:K.In s.o)(hx:s.o.E x=some ox)(hc:ox.cls=.ref C)(c:XCls K C)(hq:Q (.done (.ret ↑C)) s):
  wpAny (model prog w) A (Builtin.«object.__getattribute__» {[.ref x,.str "__class__" tk],[]}) Q E s:=by
 let(hh,g,dr,t,os):=s;let L0:Looks (model prog w) hh (typeOf<|.ref x) ↑C:=by rw[<-hc];show(Looks.ld hx).andThen .now
 let L1:=looks_findIn (M:=model prog w) X c.cl;let hT5:(⟨hh,g,dr,t,os⟩:Shared).TypeIs (.builtin "object.__class__") "getset_descriptor":=F.typeOf_object_class
 let f5:=F.typeOf_object_class;let f6:=F.slot_gs_get.R
 let f7:=F.slot_gs_set.R
 repeat (any_goals (first|assumption|(with_reducible show L0.at ?_)|(with_reducible show L1.at ?_)|wp_step))
 show Zw13 (s:=⟨hh,g,dr,t,os⟩) X hx hc c.ob ?_;show Yi hq
def ZC9{nameV:Value}{Q:Unit->Shared->Prop}{s:Shared}(X:K.In s.o)(hx:s.o.E x=some ox)(hc:ox.cls=.ref C)(c:XCls K C)(hq:Q () s):
  wpAny M A (checkBuiltinCall "BaseException.__getattribute__" {[.ref x,nameV],[]}) Q E s:=by
 let(hh,g,dr,t,os):=s;let hk:builtinKind "BaseException.__getattribute__"=some .slot:=XT
 let hsplit:splitId "BaseException.__getattribute__"=some ("BaseException","__getattribute__"):=XT;let ha:=PySem.F.args_bexc_ga ↑x nameV
 let L0:Looks M hh (typeOf<|.ref x) ↑C:=by rw[<-hc];show(Looks.ld hx).andThen .now
 let L1:=looks_mroIn (M:=M) X c.bx;simp only[checkBuiltinCall,hk,hsplit];show Yy4 ?_;show Yy4 (L0.at<|L1.at ?_)
 repeat (any_goals (first|assumption|wp_step))
def Zx11{tk:Tok}{R:Result->Shared->Prop}{s:Shared}(X:K.In s.o)(hx:s.o.E x=some ox)(hc:ox.cls=.ref C)(c:XCls K C)(hq:R (.ok (.ret ↑C)) s):
  codeAny (model prog w) A (.call (.builtin "BaseException.__getattribute__") {[.ref x,.str "__class__" tk],[]}) R s:=
 Y2l Y3Z.ga.plain PySem.F.entry_bexc_ga (ZC9 X hx hc c<|ZB9 X hx hc c hq)
def ZM14{tk:Tok}{Q:Value->Shared->Prop}{s:Shared}(X:K.In s.o)(hx:s.o.E x=some ox)(hc:ox.cls=.ref C)(c:XCls K C)(hq:Q ↑C s):
  wpAny (model prog w) A (getAttrBy ↑x (.str "__class__" tk) false) Q E s:=by
 let(hh,g,dr,t,os):=s;let f3:=Y3Z.ga.bind ↑x
 let hx2:(Value.builtin "BaseException.__getattribute__" == Value.builtin "object.__getattribute__")=false:=XT;let hx1:(onTheHeap (Value.ref C)&&Value.builtin "BaseException.__getattribute__" == Value.builtin "object.__getattribute__")=false:=by rw[hx2];rfl
 let L0:Looks (model prog w) hh (typeOf<|.ref x) ↑C:=by rw[<-hc];show(Looks.ld hx).andThen .now
 let L1:=looks_findIn (M:=model prog w) X c.ga;let L2:=looks_findIn (M:=model prog w) X c.gh
 repeat (any_goals (first|assumption|(with_reducible show L0.at ?_)|(with_reducible show L1.at ?_)|(with_reducible show L2.at ?_)|wp_step))
 show Zx11 (s:=⟨hh,g,dr,t,os⟩) X hx hc c ?_
 repeat (any_goals (first|assumption|wp_step))
def Zy11{Q:Option Value->Shared->Prop}{s:Shared}(X:K.In s.o)(hx:s.o.E x=some ox)(hc:ox.cls=.ref C)(c:XCls K C)(hq:Q (some ↑C) {s with toks:=s.toks+1}):
  wpAny (model prog w) A (getAttr? ↑x "__class__") Q E s:=by
 let(hh,g,dr,t,os):=s;unfold getAttr? getAttrBy?
 repeat (any_goals (first|assumption|with_reducible show ZM14 (s:={hh,g,dr,_,os}) X hx hc c ?_|wp_step))
def ZI10(c:XCls K C)(hcl:(clsIn K C).isSome=true)(hc:ox.cls=.ref C):KitX K ↑x ↑C (λh=>h.E x=some ox) where
 ty:=λ_ _ _ hx=>by rw[<-hc];show(Looks.ld hx).andThen .now
 it:=λ_ _ X _=>by
  unfold clsIn at hcl;split at hcl
  ·rename_i c' d' cd' sl' ho;intro A' Q' E' s' k q;unfold isType loadHead;show Yy4 (wpAny_loadPart (k _ _<|X _ _ ho)<|Yi q)
  ·cases hcl
 ne:=λh tp dd its n sl X htp=>by
  show Bool.eq_false_iff.X λq=>?_;let e:C=tp:=Value.ref.inj (Y1B.S q)
  subst e;unfold clsIn at hcl;split at hcl
  ·rename_i c' d' cd' sl' ho
   have:=X _ _ ho
   rw[htp]at this;cases this
  ·cases hcl
 ca:=λ{_ _ _ _ _ s} X hx hq=>Zy11 X hx hc c hq
end
def XCls.isSome{K:PySem.W.Q}{C:Addr}(c:XCls K C):(clsIn K C).isSome=true:=by
 let q:=c.ex;unfold excIn at q;unfold clsIn;split at q
 ·rename_i dd cd sl ho;rw[ho];rfl
 ·cases q
section
variable{X:Cx}
def Zz93(K:PySem.W.Q){e C:Addr}{oe:Obj}(hp:(e,oe)∈X.pn)(hc:oe.cls=.ref C)(h:X.K=K:=by rfl):Zz02 X (.builtin "isinstance") (λxs H Q=>∃d u b,xs=[.ref e,d]/\(∀z,RelV d z->z=u)/\XCls K C/\kitOne K ↑C u=some b/\Q (.bl b) H):=by
 subst h;intro pins s σ H xs us Q I r h;let(d,u,b,rfl,hd,c,hk,q):=h;let(u1,v,rfl,ru,rv):=ZL3 r;let rfl:u1=Value.ref e:=ru;let rfl:=hd v rv;let hx:=(I.pin (e,oe)<|YA _ hp).1
 show kia_one (ZI10 c c.isSome hc) I.kIn hx hk (λz=>nomatch z) λtk=>{.bl b,H,I.tok tk,Z,q}
end
end L2
namespace L2
open PySem PySem.Spec PyProof.Rows
def ZQ4{a:Int}(h1:-(10^70)<a)(h2:a<10^70):a.natAbs.log2<1920:=by
 let h:a.natAbs<10^70:=B;cases h0:a.natAbs=0
 ·rw[h0];decide
 ·show(Nat.log2_lt h0).X (Nat.lt_trans h XU)
section
def Zb14:4000*100<=sizeLine:=by decide
end
def Zz114:ZI3 (CXW P w) X E0:=λ_ _ _ _ _ _ _ h=>by let(_,_,_,_,_,_,_,_,_,z):=h;show z.elim
end L2
namespace My
open PySem L2
def xI{α:Type}{p:α->Prop}{w:α}(h:p w):∃x,p x:=⟨w,h⟩
end My
namespace L2
open PySem PySem.Spec PyProof.Rows
def Zj1:∀{us:List Value}{ns:List Int},IntsAre us ns->Vals (ns.L V.int) us
 |[],[],_=>.nil
 |_::_,[],h=>by cases h
 |[],_::_,h=>by cases h
 |u::us,n::ns,h=>by
  cases h with
  |cons _ _ t=>show .cons {_,Z} (Zj1 t)
section
variable{X:Cx}
inductive yR2(K:PySem.W.Q)(xs:List V)(H:Hp)(Q:VK):Prop
 |mk (p ns:_) (_:xs=[.ref p]) (_:SqL K H p (ns.L V.int)) (_:ns.f<64) (_:∀ms:List Int,ms.Perm ns->ms.C (·<=·)->∀l,H l=none->Q ↑l (upd H l<|.lst<|ms.L V.int))
def Zh4(K:PySem.W.Q)(hk:X.K=K:=by rfl):Zz02 X (.builtin "sorted") (yR2 K):=by
 subst hk;intro pins s σ H xs us Q I r h;let(p,ns,rfl,hq,hn,q):=h;let(u,rfl,ru):=ZK2 r;let rfl:u=Value.ref p:=ru;let(its,rv,pl,hz):=I.list hq;let hi:=ZI rv
 let hl:its.f=ns.f:=by rw[<-rv.f,Yy7]
 show sorted_ints pl.isList hi J λout ms h1 h2 h3=>?_;let(e,he):=sortedAll_at s.o its out;let hml:ms.f=ns.f:=h2.length_eq
 exists .ref<|(~~~s)+1,_,I.laid (t':=s.toks) (o:=.lst<|ms.L V.int) (λb o g=>sortedAll_old g) (Yy15 _) {?_,out.j,e,Zj1 h1,?_},Z,q ms h2 h3 _<|I.hok.fresh<|Yy15 _
 ·rw[Yy7,hml]
  have:sizeLine=16777216:=Y1l
  lia
 ·show he
end
end L2
namespace My
open PySem L2
def isSet_iff:IsSet m ns↔(∀z∈ns,0<=z/\z<(m:Int))/\ns.C (·<·):=by
 constructor
 ·intro h;exists h.all,?_;rw[Yy04];intro i j hi hj hij
  induction j with
  |zero=>show absurd hij (Y0h i)
  |succ j ih=>
   let hj':j<ns.f:=XS;let key:=(h (j+1) ns[j+1]<|Yy0 hj).2.2 ns[j] J (by rw[Yy37];show Yy0 hj')
   cases e:i=j
   ·subst e;show key
   ·have:=ih hj' J
    lia
 ·rintro⟨ha,hp⟩ i z hz;let(hi,ei):=Yy1.S hz;let hm:=ha z (Yy9 hz)
  exists hm.1,hm.2,λy h0 hy=>?_;let(hi',ei'):=Yy1.S hy
  have:=Yy04.S hp (i-1) i hi' hi J
  rwa[ei,ei']at this
def Zv1{ns:List Int}(h:ns.C (·<·)):ns.Nodup:=h.imp λhab e=>J
def IsSet.nodup(h:IsSet m ns):ns.Nodup:=Zv1 (isSet_iff.S h).2
end My
namespace My
def Zk1{α:Type}{P:List α->Prop}(h0:P [])(h1:∀l x,P l->P (l++[x])):∀l,P l:=by
 intro l;rw[<-List.reverse_reverse l]
 induction l.reverse with
 |nil=>show h0
 |cons x r ih=>
  rw[List.reverse_cons];show h1 _ _ ih
inductive Conn(es:List (Nat×Nat)):Nat->Nat->Prop
 |refl (i:Nat):Conn es i i
 |edge {a b:Nat} (h:(a,b)∈es):Conn es a b
 |symm {i j:Nat}:Conn es i j->Conn es j i
 |trans {i j k:Nat}:Conn es i j->Conn es j k->Conn es i k
def Conn.mono(h:∀e∈es,e∈fs)(c:Conn es i j):Conn fs i j:=by
 induction c with
 |refl i=>show .refl i
 |edge q=>show .edge (h _ q)
 |symm _ ih=>show .symm ih
 |trans _ _ i1 i2=>show .trans i1 i2
def ZV1{n i:Nat}(h:i<n):mk ((List.range n).L λ(i:Nat)=>(i:Int)) i=(i:Int):=by rw[mk_map' h]
where
 mk_map' {n i:Nat} (h:i<n):mk ((List.range n).L λ(i:Nat)=>(i:Int)) i=(i:Int):=by simp[mk,Yy5,Yc,Y0v h]
def InN(n:Nat)(es:List (Nat×Nat)):(Prop):=∀e∈es,e.1<n/\e.2<n
def InN.snoc{e:Nat×Nat}(h:InN n (es++[e])):InN n es/\e.1<n/\e.2<n:={λx hx=>h x<|YA _ hx,h e D}
def ZB10:∀es:List (Nat×Nat),InN n es->∀e∈es,mk (lms n es) e.1=mk (lms n es) e.2:=by
 show Zk1 (λ_ e h=>by cases h) λes x ih hn e he=>?_;let(h1,h2,h3):=hn.snoc;let hl:=Zy n es
 let hx:=hn e he;rw[Zz71];show(ZE6 J J).X ?_;rcases Yb.S he with q|q
 ·show .inl (ih h1 e q)
 ·rw[Yy2.S q];show .inr {.inl Z,.inr Z}
def ZC10:∀es:List (Nat×Nat),InN n es->∀i j,i<n->j<n->mk (lms n es) i=mk (lms n es) j->Conn es i j:=by
 show Zk1 (λ_ i j hi hj h=>?_) λes x ih hn i j hi hj h=>?_
 ·have h:mk ((List.range n).L λ(i:Nat)=>(i:Int)) i=mk ((List.range n).L λ(i:Nat)=>(i:Int)) j:=h;rw[ZV1 hi,ZV1 hj]at h
  have:i=j:=J
  subst this;show .refl i
 ·let(h1,h2,h3):=hn.snoc;let hl:=Zy n es
  let up:∀{i j:Nat},Conn es i j->Conn (es++[x]) i j:=λc=>c.mono λe he=>YA _ he;let ex:Conn (es++[x]) x.1 x.2:=.edge D
  rw[Zz71]at h;rcases(ZE6 J J).S h with q|⟨q1,q2⟩
  ·show up (ih h1 i j hi hj q)
  ·have ci:Conn (es++[x]) i x.1:=by
    rcases q1 with q|q
    ·show up (ih h1 i _ hi h2 q)
    ·show(up<|ih h1 i _ hi h3 q).m ex.symm
   let cj:Conn (es++[x]) j x.1:=by
    rcases q2 with q|q
    ·show up (ih h1 j _ hj h2 q)
    ·show(up<|ih h1 j _ hj h3 q).m ex.symm
   show ci.m cj.symm
def Zg11(hn:InN n es)(c:Conn es i j):i=j\/(i<n/\j<n/\mk (lms n es) i=mk (lms n es) j):=by
 induction c with
 |refl i=>show .inl rfl
 |edge q=>show .inr {(hn _ q).1,(hn _ q).2,ZB10 es hn _ q}
 |symm _ ih=>
  rcases ih with e|⟨a,b,c⟩
  ·show .inl e.symm
  ·show .inr ⟨b,a,c.symm⟩
 |trans _ _ i1 i2=>
  rcases i1 with e|⟨a,b,c⟩
  ·rwa[e]
  ·rcases i2 with e|⟨a',b',c'⟩
   ·rw[<-e];show .inr ⟨a,b,c⟩
   ·show .inr {a,b',c.m c'}
def Zz21(hn:InN n es)(hi:i<n)(hj:j<n):mk (lms n es) i=mk (lms n es) j↔Conn es i j:=by
 constructor
 ·show ZC10 es hn i j hi hj
 ·intro c;rcases Zg11 hn c with e|⟨_,_,e⟩
  ·rw[e]
  ·show e
def ZE2(hn:InN n es)(hi:i<n)(hj:j<n):mk (pms n es) i=mk (pms n es) j↔Conn es i j:=by
 rw[<-Zz21 hn hi hj];let s:=ZU3 (n:=n) (es:=es) hn
 show s.2 i j (by rwa[Zm]) (by rwa[Zm])
def cnt(M:List Int):(Nat):=(fstA M M.f).f
def Zf8(M:List Int):∃p,p<=i/\mk M p=mk M i/\fstB M p=true:=by
 induction i using Nat.strongRecOn with
 |ind i ih=>
  cases h:fstB M i=true
  ·exists i,Yy8 _,Z,h
  ·have:∃j,j<i/\mk M j=mk M i:=by
    cases q:∃j,j<i/\mk M j=mk M i
    ·show q
    ·show absurd (fstB_iff.X λj hj e=>q ⟨j,hj,e⟩) h
   let(j,hj,e):=this;let(p,h1,h2,h3):=ih j hj;exists p,J,h2.m e,h3
def Zm7{p q:Nat->Bool}{x n:Nat}(hx:x<n)(hpx:p x=true)(h:∀y,y<n->q y=(p y && !decide (y=x))):((List.range n).filter q).f+1=((List.range n).filter p).f:=by
 induction n with
 |zero=>show absurd hx (Y0h x)
 |succ n ih=>
  rw[Y0H,Y0E,Y0E,Yy3,Yy3];cases e:x=n
  ·subst e;let e1:(List.range x).filter q=(List.range x).filter p:=Y3e λy hy=>by let hy:=YO.S hy;rw[h y J,show decide (y=x)=false from Y0g J];simp
   let e2:q x=false:=by rw[h x J];simp
   rw[e1];simp[Y0w,e2,hpx]
  ·have hq:q n=p n:=by rw[h n J,show decide (n=x)=false from Y0g λz=>e z.symm];simp
   have:=ih J λy hy=>h y J
   simp only[Y0w,List.filter_nil,hq];lia
def ZZ2(hp:fstB M p=true)(hq:fstB M q=true)(e:mk M p=mk M q):p=q:=by
 rcases Nat.lt_trichotomy p q with h|h|h
 ·show absurd e (fstB_iff.S hq p h)
 ·show h
 ·show absurd e.symm (fstB_iff.S hp q h)
def Zz13(ha:a<m.f)(hb:b<m.f)(hne:mk m a≠mk m b):cnt (lm m a b)+1=cnt m:=by
 let(A,hA1,hA2,hA3):=Zf8 m (i:=a);let(XX,hB1,hB2,hB3):=Zf8 m (i:=b);let hAB:A≠XX:=λe=>hne (by rw[<-hA2,<-hB2,e])
 unfold cnt fstA;rw[Zb2];show Zm7 (x:=max A XX) J ?_ λy hy=>?_
 ·rcases Nat.le_total A XX with h|h
  ·rwa[Nat.max_eq_right h]
  ·rwa[Nat.max_eq_left h]
 ·rw[Y0V,Yy10,fstB_iff,fstB_iff];let key:∀i,i<y->(mk (lm m a b) i=mk (lm m a b) y↔Mrg m a b i y):=λi hi=>ZE6 J hy
  let nmax:(!decide (y=max A XX))=true↔y≠max A XX:=D;rw[nmax];constructor
  ·intro q;exists λi hi e=>q i hi<|(key i hi).X (.inl e),λe=>?_;rcases Nat.lt_or_gt_of_ne hAB with h|h
   ·have ey:y=XX:=J;subst ey;show q A h ((key A h).X (.inr {.inl hA2,.inr hB2}))
   ·have ey:y=A:=J;subst ey;show q XX h ((key XX h).X (.inr {.inr hB2,.inl hA2}))
  ·rintro⟨q1,q2⟩ i hi e;rcases(key i hi).S e with e|⟨e1,e2⟩
   ·show q1 i hi e
   ·have fy:fstB m y=true:=fstB_iff.X q1;rcases e2 with e2|e2
    ·have ey:y=A:=ZZ2 fy hA3 (e2.m hA2.symm);rcases e1 with e1|e1
     ·show q1 i hi (e1.m e2.symm)
     ·let(p,p1,p2,p3):=Zf8 m (i:=i)
      have:p=XX:=ZZ2 p3 hB3 (by rw[p2,e1,hB2])
      lia
    ·have ey:y=XX:=ZZ2 fy hB3 (e2.m hB2.symm);rcases e1 with e1|e1
     ·let(p,p1,p2,p3):=Zf8 m (i:=i)
      have:p=A:=ZZ2 p3 hA3 (by rw[p2,e1,hA2])
      lia
     ·show q1 i hi (e1.m e2.symm)
def Zz23(n:Nat):cnt ((List.range n).L λ(i:Nat)=>(i:Int))=n:=by
 unfold cnt fstA;rw[Yy7,YU];let e:(List.range n).filter (fstB<|(List.range n).L λ(i:Nat)=>(i:Int))=List.range n:=by
  show Y2h.X λp hp=>fstB_iff.X λi hi e=>?_;let hp:=YO.S hp
  rw[ZV1 J,ZV1 hp]at e;lia
 rw[e,YU]
def Zz513(hM:1<=M.f):cnt M=1↔∀i j,i<M.f->j<M.f->mk M i=mk M j:=by
 let e:cnt M=(grp M).f:=by unfold cnt grp;rw[Zc9,Yy7]
 rw[e];show Zb9 hM
end My
namespace My
open PySem L2
def ZK13{i:Int}{n:Nat}(h0:0<=i)(h1:i<(n:Int)):seqIndex? i n=some i.i:=by let e:(if i<0 then i+(n:Int) else i)=i:=if_neg J;unfold seqIndex?;simp only[e];rw[if_pos (by simp;lia)]
def Zo(n:Int)(ps:List (Int×Int))(ns:List Int):(Prop):=IsSet ps.f ns/\ns⁻¹=n-1/\∀i j,i<n.i->j<n.i->Conn (Zz6 ps ns) i j
def ZL(g:ZM n ps)(h:∀z∈ns,0<=z/\z<ps⁻¹):InN n.i (Zz6 ps ns):=λe he=>by
 let(z,hz,rfl):=Yx.S he;let(z0,z1):=h z hz;let hp:ps[z.i]?=some (ps[z.i]'(by lia)):=Yy0 _
 rw[ZS hp];let(b1,b2,b3,b4):=g.2.2.2 _ (Yy9 hp);exists J,J
def ZD(h:∀z∈ns,z∈ms):∀e∈Zz6 ps ns,e∈Zz6 ps ms:=λe he=>by let(z,hz,rfl):=Yx.S he;show Yx.X {z,h z hz,Z}
def Zz34(h:InN n es):(∀i j,i<(lms n es).f->j<(lms n es).f->mk (lms n es) i=mk (lms n es) j)↔∀i j,i<n->j<n->Conn es i j:=by
 rw[Zy];constructor
 ·intro q i j hi hj;show(Zz21 h hi hj).S (q i j hi hj)
 ·intro q i j hi hj;show(Zz21 h hi hj).X (q i j hi hj)
def ZT10(hn:1<=n)(h:InN n es):(grp (pms n es)).f=1↔∀i j,i<n->j<n->Conn es i j:=by rw[Zb9 (by rwa[Zm]),(ZU3 h).one];show Zz34 h
def ZD4(hn:1<=n)(h:InN n es):(L2.seen (lms n es)).f=1↔∀i j,i<n->j<n->Conn es i j:=by rw[ZZ9 (by rwa[Zy])];show Zz34 h
def Zz51(h:∀z,z∈ns↔z∈ms):Conn (Zz6 ps ns) i j↔Conn (Zz6 ps ms) i j:=
 {λc=>c.mono<|ZD λz hz=>(h z).S hz,λc=>c.mono<|ZD λz hz=>(h z).X hz}
section
variable{K:PySem.W.Q}{a:Addr}{xs:List V}{g:TG}{tt:TT}{te:TE}{o:Nat}{fr:List Nat}{σ:St}{H:Hp}{Q:VK}
def ZJ6(Pv:Nat->List V->Hp->Prop)(h0:Pv 0 [] H)(hz:xs.f<sizeLine)(hl:∀i ys H,i<=xs.f->Pv i ys H->SqL K H a xs/\ys.f<=i)
  (hs:∀(i:Nat) x ys H (p:Addr),H p=none->xs[i]?=some x->Pv i ys H->Zm4 Pv g tt te o fr σ i ↑p ys (upd H p<|.tup [.int i,x]))(hd:∀ys H,Pv xs.f ys H->∀p,H p=none->Q ↑p (upd H p<|.lst ys)):LcR (Ite K a) g tt te o fr σ H Q:=by
 exists λi m ys H=>m=xs.f-i/\i<=xs.f/\Pv i ys H,{xs.f,D,Yk _,h0},?_;rintro i m ys H ⟨rfl,hi,p⟩;let(q,hy):=hl i ys H hi p;cases hlt:i<xs.f
 ·show .inr {{xs,xs[i],q,by simp[hlt]},J,λx H' zz=>?_};let(T,y,hT,ex,eH,hyy):=zz;subst ex eH;show hs i y ys H T hT (hyy xs q) p (λj ys H=>∃m',m'<xs.f-i/\m'=xs.f-j/\j<=xs.f/\Pv j ys H) λys H p'=>{xs.f-(i+1),XS,Z,hlt,p'}
 ·have e:i=xs.f:=J;subst e;show .inl {{xs,q,Yy8 _},J,hd ys H p}
end
def Yz5(M:List Int)(ps:List (Int×Int))(i:Nat):(List Int):=((List.range i).filter λk=>decide<|mk M (ps.getD k (0,0)).1.i≠mk M (ps.getD k (0,0)).2.i).L λ(k:Nat)=>(k:Int)
def wo(ns:List Int)(z:Int):(List Int):=ns.filter λy=>decide (y≠z)
def wo_mem{z y:Int}:y∈wo ns z↔y∈ns/\y≠z:=by unfold wo;rw[Ym];simp
def ZO13(n:Int)(ps:List (Int×Int))(ns:List Int)(z:Int)(l:List Int):(List Int):=l.filter λy=>decide (z∈Yz5 (lms n.i<|Zz6 ps<|wo ns y) ps ps.f)
def ZW5{z:Int}(h0:0<=z)(h1:z<ps⁻¹):z∈Yz5 M ps ps.f↔mk M (ps.getD z.i (0,0)).1.i≠mk M (ps.getD z.i (0,0)).2.i:=by
 unfold Yz5;rw[Yx];constructor
 ·rintro⟨k,hk,rfl⟩
  have:=YS (Ym.S hk).2
  rwa[YB]
 ·intro h;exists z.i,Ym.X {YO.X XS,YY h},J
def ZB5{a b:List Int}(h:a.Perm b)(h1:a.C (·<=·))(h2:b.C (·<=·)):a=b:=by
 induction a generalizing b with
 |nil=>show(List.Perm.nil_eq h)
 |cons x a ih=>
  cases b with
  |nil=>show absurd h.length_eq D
  |cons y b=>
   let(hx,ha):=Y0i.S h1;let(hy,hb):=Y0i.S h2;let e:x=y:=by
    let m1:y∈x::a:=h.mem_iff.X Ye;let m2:x∈y::b:=h.mem_iff.S Ye
    rcases Yf.S m1 with e1|e1
    ·show e1.symm
    ·rcases Yf.S m2 with e2|e2
     ·show e2
     ·have:=hx y e1;have:=hy x e2;lia
   subst e;rw[ih (List.Perm.cons_inv h) ha hb]
end My
namespace L2
open PySem PySem.Spec PyProof.Rows
section
variable{X:Cx}
def ZC14(K:PySem.W.Q):(R2):=λx y H Q=>∃a b xs ys,x=.ref a/\y=.ref b/\SqT K H a xs/\SqT K H b ys/\xs.f+ys.f<=sizeLine/\
 (xs=[]->Q ↑b H)/\(xs≠[]->ys=[]->Q ↑a H)/\(xs≠[]->ys≠[]->∀p,H p=none->Q ↑p (upd H p<|.tup<|xs++ys))
def ZR8(K:PySem.W.Q)(hk:X.K=K:=by rfl):OpR X (binaryOp .Add) (ZC14 K):=by
 intro pins s σ H x y v u Q I rx ry h;let(a,b,xs,ys,e1,e2,ha,hb,hz,q0,q1,q2):=id h;cases hx:xs=[]
 ·subst hk e1 e2;cases rx;cases ry;let(its,r1,p1,_):=I.tuple ha;let(its2,r2,p2,_):=I.tuple hb;let hi:its=[]:=r1.nil_iff.X hx
  let((cls,dd,data,sl),ho,hc,n,hd):=id p1;let((cls2,dd2,data2,sl2),ho2,hc2,n2,hd2):=id p2;simp only at hc hd hc2 hd2;subst hc hd hc2 hd2;show concat_meets {_,ho,Z} {_,ho2,Z} Yy41 seq_tuple_add Y2K Y2C (Y2q _ _)
   (tuple_addW0 a b its.t its2.t n n2 dd dd2 sl sl2<|by simp[hi]) {ho,ho2,{.ref b,H,I,Z,q0 hx}}
 ·show Zm10 K hk pins s σ H x y v u Q I rx ry {a,b,xs,ys,e1,e2,ha,hb,hx,hz,q1 hx,q2 hx}
end
end L2
namespace My
open PySem L2
def ZE14(h:mk m a=mk m b):lm m a b=m:=by unfold lm;rw[if_neg λz=>z h]
def Zr7(ha:a<m.f)(hb:b<m.f):cnt m<=cnt (lm m a b)+1:=by
 cases e:mk m a=mk m b
 ·rw[ZE14 e];lia
 ·have:=Zz13 ha hb e;lia
def Zi5:∀es:List (Nat×Nat),InN n es->n<=cnt (lms n es)+es.f:=by
 show Zk1 (λ_=>?_) λes x ih hn=>?_
 ·have:cnt (lms n [])=n:=Zz23 n
  lia
 ·let(h1,h2,h3):=hn.snoc;let hl:=Zy n es
  have:=Zr7 (m:=lms n es) (a:=x.1) (b:=x.2) J J
  have:=ih h1
  rw[Zz71,Yy3,Yu,Y1o];lia
def Zq7(h:1<=M.f):1<=cnt M:=by unfold cnt fstA;show Y1S (a:=0) (Ym.X {YO.X J,fstB_iff.X λi hi=>absurd hi<|Y0h i})
def Za1(hn:1<=n)(h:InN n es):cnt (lms n es)=1↔∀i j,i<n->j<n->Conn es i j:=by rw[Zz513 (by rwa[Zy])];show Zz34 h
def Zu4(hn:ts.Nodup)(ho:o∈ts):(wo ts o).f+1=ts.f:=by
 induction ts with
 |nil=>cases ho
 |cons x r ih=>
  let(h1,h2):=Y0I.S hn;unfold wo;rw[Y0w];cases e:x=o
  ·subst e;rw[if_neg D]
   have:r.filter (λy=>decide<|y≠x)=r:=Y2h.X λy hy=>YY λe=>h1 (e▸hy)
   rw[this];rfl
  ·rw[if_pos (YY e)]
   have:=ih h2 ((Yf.S ho).resolve_left λz=>e z.symm)
   unfold wo at this;rw[Yu,Yu];lia
def Zw(ps:List (Int×Int))(z:Int):(Nat×Nat):=((ps.getD z.i (0,0)).1.i,(ps.getD z.i (0,0)).2.i)
def Zz41(ps:List (Int×Int))(ns:List Int)(z:Int):Zz6 ps (ns++[z])=Zz6 ps ns++[Zw ps z]:=by unfold Zz6 Zw;rw[Yn];rfl
def ZB1(g:ZM n ps)(z0:0<=z)(z1:z<ps⁻¹):(Zw ps z).1<n.i/\(Zw ps z).2<n.i:=by
 have:=ZL (ns:=[z]) g (λy hy=>by rw[Yy2.S hy];exists z0,z1)
 show this (Zw ps z) (by unfold Zz6 Zw;simp)
def ZC11(hT:Zo n ps ts):∀y∈wo ts o,0<=y/\y<ps⁻¹:=λy hy=>hT.1.all y (wo_mem.S hy).1
def exch(g:ZM n ps)(hT:Zo n ps ts)(ho:o∈ts)(z0:0<=z)(z1:z<ps⁻¹):
  (∀i j,i<n.i->j<n.i->Conn (Zz6 ps<|wo ts o++[z]) i j)↔¬Conn (Zz6 ps<|wo ts o) (Zw ps z).1 (Zw ps z).2:=by
 let hn:1<=n.i:=by have:=g.1;lia
 let hw:=Zu4 hT.1.nodup ho;let hl:ts⁻¹=n-1:=hT.2.1
 let i0:InN n.i (Zz6 ps<|wo ts o):=ZL g (ZC11 hT);let hz:=ZB1 g z0 z1
 let ob:=hT.1.all o ho;let hoe:=ZB1 g ob.1 ob.2
 let i1:InN n.i (Zz6 ps (wo ts o)++[Zw ps z]):=λe he=>(Yb.S he).elim (i0 e) λq=>by rwa[Yy2.S q]
 let i2:InN n.i (Zz6 ps (wo ts o)++[Zw ps o]):=λe he=>(Yb.S he).elim (i0 e) λq=>by rwa[Yy2.S q]
 let hL:=Zy n.i (Zz6 ps<|wo ts o);let le:(Zz6 ps<|wo ts o).f=(wo ts o).f:=by unfold Zz6;rw[Yy7]
 rw[Zz41];constructor
 ·intro hc c;let h1:cnt (lms n.i<|Zz6 ps (wo ts o)++[Zw ps z])=1:=(Za1 hn i1).X hc
  rw[Zz71,ZE14 ((Zz21 i0 hz.1 hz.2).X c)]at h1
  have:=Zi5 _ i0
  lia
 ·intro hc;let h2:cnt (lms n.i<|Zz6 ps (wo ts o)++[Zw ps o])=1:=by
   show(Za1 hn i2).X λi j hi hj=>?_;rw[<-Zz41];show(Zz51 λy=>?_).S (hT.2.2 i j hi hj);rw[Yb,wo_mem,Yy2];constructor
   ·intro hy;cases e:y=o
    ·show .inr e
    ·show .inl ⟨hy,e⟩
   ·rintro(q|q)
    ·show q.1
    ·rwa[q]
  rw[Zz71]at h2;let h3:=Zr7 (m:=lms n.i<|Zz6 ps<|wo ts o) (a:=(Zw ps o).1) (b:=(Zw ps o).2) J J
  let h4:=Zz13 (m:=lms n.i<|Zz6 ps<|wo ts o) (a:=(Zw ps z).1) (b:=(Zw ps z).2) J J λe=>hc ((Zz21 i0 hz.1 hz.2).S e);let h5:=Zq7 (M:=lm (lms n.i<|Zz6 ps<|wo ts o) (Zw ps z).1 (Zw ps z).2) (by rw[Zb2];lia)
  show(Za1 hn i1).S ?_;rw[Zz71];lia
def cutT(n:Int)(ps:List (Int×Int))(ts:List Int)(o:Int):(List Int):=Yz5 (lms n.i<|Zz6 ps<|wo ts o) ps ps.f
def Zg3{z:Int}(h:z∈Yz5 M ps i):0<=z/\z<(i:Int):=by
 unfold Yz5 at h;let(k,hk,rfl):=Yx.S h
 have:=YO.S (Ym.S hk).1
 lia
def Zz91(g:ZM n ps)(hT:Zo n ps ts)(z0:0<=z)(z1:z<ps⁻¹):z∈cutT n ps ts o↔¬Conn (Zz6 ps (wo ts o)) (Zw ps z).1 (Zw ps z).2:=by let hz:=ZB1 g z0 z1;unfold cutT;rw[ZW5 z0 z1];show not_congr (Zz21 (ZL g<|ZC11 hT) hz.1 hz.2)
def exg(n:Int)(ps:List (Int×Int))(ts:List Int)(o z:Int):(Prop):=o∈ts/\z≠o/\z∈cutT n ps ts o
instance (n:Int) (ps:List (Int×Int)) (ts:List Int) (o z:Int):Decidable (exg n ps ts o z):=by unfold exg;infer_instance
def Zi9(g:ZM n ps)(hT:Zo n ps ts):
  exg n ps ts o z↔o∈ts/\z∉ts/\0<=z/\z<ps⁻¹/\∀i j,i<n.i->j<n.i->Conn (Zz6 ps<|wo ts o++[z]) i j:=by
 constructor
 ·rintro⟨h1,h2,h3⟩;let(z0,z1):=Zg3 h3;let hc:=(Zz91 g hT z0 z1).S h3
  exists h1,λhz=>hc ?_,z0,z1,(exch g hT h1 z0 z1).X hc;show .edge ?_;show Yx.X {z,wo_mem.X ⟨hz,h2⟩,Z}
 ·rintro⟨h1,h2,z0,z1,hc⟩;exists h1,λe=>h2<|e▸h1,(Zz91 g hT z0 z1).X ((exch g hT h1 z0 z1).S hc)
def PairsV.mut{l:Addr}{ys zs xs:List V}(hP:PairsV H xs ps)(hl:H l=some (.lst ys)):PairsV (upd H l (.lst zs)) xs ps:=by exists hP.1,λj p e=>?_;let(v,e1,tt,e2,e3):=hP.2 j p e;exists v,e1,tt,e2,by rwa[Ze (Zq10 e3 hl (λz=>nomatch z))]
def Zd5{o y:Int}(g:ZM n ps)(hT:Zo n ps ts)(ho:o∈ts)(hy:y∈ts):y∈cutT n ps ts o↔y=o:=by
 let yb:=hT.1.all y hy;rw[Zz91 g hT yb.1 yb.2];constructor
 ·intro h;cases e:y=o
  ·show e
  ·show absurd (.edge<|Yx.X {y,wo_mem.X ⟨hy,e⟩,Z}) h
 ·rintro rfl;show(exch g hT hy yb.1 yb.2).S λi j hi hj=>(Zz51 λz=>?_).S (hT.2.2 i j hi hj);rw[Yb,wo_mem,Yy2];constructor
  ·intro hz;cases e:z=y
   ·show .inr e
   ·show .inl ⟨hz,e⟩
  ·rintro(q|q)
   ·show q.1
   ·rwa[q]
def ringA_mem:y∈ZO13 n ps ts z l↔y∈l/\z∈cutT n ps ts y:=by unfold ZO13;rw[Ym,YQ];show Iff.rfl
def Zz57(g:ZM n ps)(hT:Zo n ps ts)(hx:exg n ps ts o z)(hpm:ms.Perm (wo ts o++[z]))(hpw:ms.C (·<=·)):Zo n ps ms:=by
 let(ho,hz,z0,z1,hc):=(Zi9 g hT).S hx;let nd:(wo ts o++[z]).Nodup:=Zu6 (hT.1.nodup.sublist List.filter_sublist) λh=>hz (wo_mem.S h).1
 let ndm:ms.Nodup:=hpm.nodup_iff.X nd;let hl:=Zu4 hT.1.nodup ho
 let hl2:=hpm.length_eq;rw[Yy3,YX]at hl2;show{isSet_iff.X {λy hy=>?_,(List.pairwise_and_iff.X ⟨hpw,ndm⟩).imp λ{x y} h=>by have:=h.1;have:=h.2;lia},by rw[hl2,hl];show hT.2.1,λi j hi hj=>(Zz51 λy=>hpm.mem_iff).X (hc i j hi hj)};rcases Yb.S (hpm.mem_iff.S hy) with h|h
 ·show hT.1.all y (wo_mem.S h).1
 ·rw[Yy2.S h];exists z0,z1
def grd(n:Nat)(ps:List (Int×Int)):(Nat->List Int)
 |0=>[]
 |k+1=>if mk (lms n<|Zz6 ps<|grd n ps k) (Zw ps (k:Int)).1=mk (lms n<|Zz6 ps<|grd n ps k) (Zw ps (k:Int)).2 then grd n ps k else grd n ps k++[(k:Int)]
def ZX1(n:Nat)(ps:List (Int×Int))(k:Nat):grd n ps (k+1)=if mk (lms n (Zz6 ps (grd n ps k))) (Zw ps (k:Int)).1=mk (lms n (Zz6 ps (grd n ps k))) (Zw ps (k:Int)).2 then grd n ps k else grd n ps k++[(k:Int)]:=rfl
def ZJ5:∀k,∀z∈grd n ps k,0<=z/\z<(k:Int)
 |0,z,h=>by cases h
 |k+1,z,h=>by
  rw[ZX1]at h;split at h
  ·have:=ZJ5 k z h;lia
  ·rcases Yb.S h with h|h
   ·have:=ZJ5 k z h;lia
   ·rw[Yy2.S h];lia
def Zx3:∀k,(grd n ps k).C (·<·)
 |0=>List.C.nil
 |k+1=>by
  rw[ZX1];split
  ·show Zx3 k
  ·rw[Yz];exists Zx3 k,Yy11 ..,λa ha b hb=>by rw[Yy2.S hb];show(ZJ5 k a ha).2
def ZR6(hk:k<=ps.f):IsSet ps.f (grd n ps k):=isSet_iff.X {λz hz=>by have:=ZJ5 k z hz;lia,Zx3 k}
def Zc8(g:ZM n ps)(hk:k<=ps.f):InN n.i (Zz6 ps (grd n.i ps k)):=ZL g (ZR6 hk).all
def ZZ4:∀k,j<=k->∀z,z∈grd n ps j↔z∈grd n ps k/\z<(j:Int)
 |0,h,z=>by
  have:j=0:=J
  subst this;exists λh=>(by cases h),λh=>h.1
 |k+1,h,z=>by
  cases e:j=k+1
  ·subst e;exists λh=>{h,(ZJ5 _ z h).2},λh=>h.1
  ·have ih:=ZZ4 (n:=n) (ps:=ps) (j:=j) k J z;rw[ZX1,ih];split
   ·show Iff.rfl
   ·rw[Yb,Yy2];constructor
    ·rintro⟨h1,h2⟩;exists .inl h1,h2
    ·rintro⟨h1|h1,h2⟩
     ·exists h1,h2
     ·lia
def Zd9(g:ZM n ps)(hk:k<=ps.f)(hj:j<k)(hn:(j:Int)∉grd n.i ps k):Conn (Zz6 ps (grd n.i ps j)) (Zw ps (j:Int)).1 (Zw ps (j:Int)).2:=by
 let he:=ZB1 (z:=(j:Int)) g J J;let h1:(j:Int)∉grd n.i ps (j+1):=λh=>hn ((ZZ4 k hj _).S h).1
 rw[ZX1]at h1;split at h1
 ·rename_i h;show(Zz21 (Zc8 g J) he.1 he.2).S h
 ·show absurd (Yy _<|Yy2.X Z) h1
def Zz05(g:ZM n ps):∀k,k<=ps.f->cnt (lms n.i (Zz6 ps (grd n.i ps k)))+(grd n.i ps k).f=n.i
 |0,_=>Zz23 n.i
 |k+1,hk=>by
  let ih:=Zz05 g k J;let he:=ZB1 (z:=(k:Int)) g J J
  let hl:=Zy n.i (Zz6 ps<|grd n.i ps k);rw[ZX1];split
  ·show ih
  ·rename_i h;rw[Zz41,Zz71,Yy3,YX]
   have:=Zz13 (m:=lms n.i<|Zz6 ps<|grd n.i ps k) J J h
   grind
def ZU6(g:ZM n ps)(ht:∀z∈ts,0<=z/\z<ps⁻¹)(c:Conn (Zz6 ps ts) i j):Conn (Zz6 ps (grd n.i ps ps.f)) i j:=by
 induction c with
 |refl i=>show .refl i
 |symm _ ih=>show .symm ih
 |trans _ _ i1 i2=>show .trans i1 i2
 |@edge a b h=>
  let(z,hz,e):=Yx.S h;let(z0,z1):=ht z hz;let ez:z=((z.i:Nat):Int):=J
  cases hm:z∈grd n.i ps ps.f
  ·show .edge (Yx.X ⟨z,hm,e⟩)
  ·rw[ez]at hm;let c:=Zd9 g (Yy8 _) J hm
   let c2:=c.mono (ZD λy hy=>((ZZ4 ps.f J y).S hy).1);rw[<-ez]at c2;let ea:a=(Zw ps z).1:=(YI Prod.fst e).symm
   let eb:b=(Zw ps z).2:=(YI Prod.snd e).symm;rwa[ea,eb]
def ZQ6(g:ZM n ps)(hT:Zo n ps ts):Zo n ps (grd n.i ps ps.f):=by
 let hc:∀i j,i<n.i->j<n.i->Conn (Zz6 ps<|grd n.i ps ps.f) i j:=λi j hi hj=>ZU6 g hT.1.all (hT.2.2 i j hi hj);let h1:=(Za1 (by have:=g.1;lia)<|Zc8 g<|Yy8 _).X hc
 let h2:=Zz05 g ps.f (Yy8 _);exists ZR6<|Yy8 _,by have:=g.1;grind,hc
def ZT6(g:ZM n ps)(h:¬((grd n.i ps ps.f).f:Int)<n-1):Zo n ps (grd n.i ps ps.f):=by
 let h2:=Zz05 g ps.f (Yy8 _);let h3:=Zq7 (M:=lms n.i<|Zz6 ps<|grd n.i ps ps.f) (by rw[Zy];have:=g.1;grind)
 exists ZR6<|Yy8 _,by have:=g.1;grind,(Za1 (by have:=g.1;grind)<|Zc8 g<|Yy8 _).S J
def ZR4:∀{a b:List Int},a.f=b.f->HT.lexLt a b=true->∃p x y r s,a=p++x::r/\b=p++y::s/\x<y
 |[],[],_,h=>by cases h
 |[],_::_,e,_=>by simp at e
 |_::_,[],e,_=>by simp at e
 |x::xs,y::ys,e,h=>by
  rw[HT.lexLt_cons]at h;cases q:x=y
  ·subst q;rw[if_pos Z]at h;let(p,u,v,r,s,e1,e2,e3):=ZR4 (by simpa using e) h;exists x::p,u,v,r,s,by rw[e1];rfl,by rw[e2];rfl,e3
  ·rw[if_neg q]at h;exists [],x,y,xs,ys,Z,Z,YS h
def lex_eq:∀{a b:List Int},HT.lexLt a b=false->HT.lexLt b a=false->a=b
 |[],[],_,_=>rfl
 |[],_::_,h,_=>by cases h
 |_::_,[],_,h=>by cases h
 |x::xs,y::ys,h1,h2=>by
  rw[HT.lexLt_cons]at h1 h2;cases q:x=y
  ·subst q;rw[if_pos Z]at h1 h2;rw[lex_eq h1 h2]
  ·rw[if_neg q]at h1;rw[if_neg λe=>q e.symm]at h2
   have:=of_decide_eq_false h1
   have:=of_decide_eq_false h2
   lia
def Zb8(g:ZM n ps)(hT:Zo n ps ts):HT.lexLt ts (grd n.i ps ps.f)=false:=by
 let hG:=ZQ6 g hT;cases h:HT.lexLt ts (grd n.i ps ps.f) with
 |false=>rfl
 |true=>
  exfalso;let(p,x,y,r,s,e1,e2,hxy):=ZR4 (by have:=hT.2.1;have:=hG.2.1;lia) h
  let hx:x∈ts:=by rw[e1];simp
  let(x0,x1):=hT.1.all x hx;let at1:=(isSet_iff.S hT.1).2
  let ag:=Zx3 (n:=n.i) (ps:=ps) ps.f;rw[e1,Yz]at at1;rw[e2,Yz]at ag;let px:∀z∈p,z<x:=λz hz=>at1.2.2 z hz x Ye
  let ys:∀z∈y::s,x<z:=λz hz=>by
   rcases Yf.S hz with e|hz
   ·rwa[e]
   ·have:=(Y0i.S ag.2.1).1 z hz;lia
  let ex:x=((x.i:Nat):Int):=J;let hn:((x.i:Nat):Int)∉grd n.i ps ps.f:=by
   rw[<-ex,e2,Yb];rintro(h|h)
   ·have:=px x h;lia
   ·have:=ys x h;omega
  let c:=Zd9 g (Yy8 _) XS hn;let c2:Conn (Zz6 ps<|wo ts x) (Zw ps x).1 (Zw ps x).2:=by
   rw[<-ex]at c;show c.mono (ZD λz hz=>?_);let(h1,h2):=(ZZ4 ps.f J z).S hz;rw[<-ex]at h2;rw[e2,Yb]at h1;rcases h1 with h1|h1
   ·show wo_mem.X {by rw[e1];show YA _ h1,J}
   ·have:=ys z h1;lia
  show(Zz91 g hT x0 x1).S ((Zd5 g hT hx hx).X Z) c2
def lex_trans:∀{a b c:List Int},HT.lexLt a b=true->HT.lexLt b c=true->HT.lexLt a c=true
 |[],[],_,h,_=>by cases h
 |[],_::_,[],_,h=>by cases h
 |[],_::_,_::_,_,_=>rfl
 |_::_,[],_,h,_=>by cases h
 |_::_,_::_,[],_,h=>by cases h
 |x::xs,y::ys,z::zs,h1,h2=>by
  rw[HT.lexLt_cons]at h1 h2 ⊢;cases e1:x=y
  ·subst e1;rw[if_pos Z]at h1;cases e2:x=z
   ·subst e2;rw[if_pos Z]at h2 ⊢;show lex_trans h1 h2
   ·rw[if_neg e2]at h2 ⊢;show h2
  ·rw[if_neg e1]at h1;let h1:=YS h1
   cases e2:y=z
   ·subst e2;rw[if_neg e1];show YY h1
   ·rw[if_neg e2]at h2;let h2:=YS h2
    rw[if_neg J];show YY B
def lex_irrefl:∀a:List Int,HT.lexLt a a=false
 |[]=>rfl
 |x::xs=>by rw[HT.lexLt_cons,if_pos Z];show lex_irrefl xs
def TupV(H:Hp)(v:V)(l:List Int):(Prop):=∃a,v=.ref a/\H a=some (.tup<|IL l)
def TupsV(H:Hp)(xs:List V)(L:List (List Int)):(Prop):=xs.f=L.f/\∀(i:Nat)(l:List Int),L[i]?=some l->∃v,xs[i]?=some v/\TupV H v l
def TupsV.same(s:Same H H')(h:TupsV H xs L):TupsV H' xs L:={h.1,λi l e=>by let(v,e1,a,e2,e3):=h.2 i l e;exists v,e1,a,e2,s _ _ e3}
def TupsV.at(h:TupsV H xs L){i:Nat}{v:V}(e:xs[i]?=some v):∃l,L[i]?=some l/\TupV H v l:=by
 let hi:i<xs.f:=(Yy1.S e).1;let hp:i<L.f:=by rwa[<-h.1]
 let(v',e1,q):=h.2 i L[i] (Yy0 hp);rw[e]at e1;cases e1;exists _,Yy0 hp,q
def TupsV.nil:TupsV H [] []:={Z,λi p e=>by simp at e}
def TupsV.app(h:TupsV H xs L)(h2:TupsV H ys M):TupsV H (xs++ys) (L++M):=by
 show{by rw[Yy3,Yy3,h.1,h2.1],λi l e=>?_};cases hi:i<L.f
 ·rw[Yp hi]at e;let(v,e1,q):=h.2 i l e;exists v,by rw[Yp (by rwa[h.1])];show e1,q
 ·rw[Yj J]at e;let(v,e1,q):=h2.2 _ l e;exists v,by rw[Yj (by rw[h.1];omega),h.1];show e1,q
def TupsV.one(q:TupV H v l):TupsV H [v] [l]:=⟨Z,λi m e=>by
 cases i with
 |zero=>have e:l=m:=(by simpa using e);exists v,Z,e▸q
 |succ i=>simp at e⟩
def TupsV.snoc(h:TupsV H xs L)(q:TupV H v l):TupsV H (xs++[v]) (L++[l]):=h.app (.one q)
def TupsV.mut{d:Addr}{ys zs xs:List V}(hP:TupsV H xs L)(hl:H d=some (.lst ys)):TupsV (upd H d (.lst zs)) xs L:=by exists hP.1,λj p e=>?_;let(v,e1,tt,e2,e3):=hP.2 j p e;exists v,e1,tt,e2,by rwa[Ze (Zq10 e3 hl (λz=>nomatch z))]
def Zz211(hx:TupV H x a)(hy:TupV H y b):EqD K H 1 x y (decide (a=b)):=by let(t,rfl,ht):=hx;let(u,rfl,hu):=hy;show Zz65 (SqT.of ht) (SqT.of hu)
def Zk8(hp:SqL K H p xs)(hq:SqL K H q ys)(h1:TupsV H xs L)(h2:TupsV H ys M):EqD K H 2 ↑p ↑q (decide (L=M)):=
 Zd2 (R:=TupV H) hp hq h1 h2 λ_ _ _ _=>Zz211
def nxt(s:List Int):(Int):=match s.getLast? with|none=>0|some x=>x+1
def ext1(m:Int)(s:List Int):(List (List Int)):=(List.range (m-nxt s).i).L λ(i:Nat)=>s++[nxt s+(i:Int)]
def cmb(m:Int):(Nat->List (List Int))
 |0=>[[]]
 |k+1=>(cmb m k).flatMap (ext1 m)
def Zn10(s:List Int)(x:Int):nxt (s++[x])=x+1:=by unfold nxt;rw[List.getLast?_append];rfl
def ext1_mem{s l:List Int}:l∈ext1 m s↔∃t,nxt s<=t/\t<m/\l=s++[t]:=by
 unfold ext1;rw[Yx];constructor
 ·rintro⟨i,hi,rfl⟩
  have:=YO.S hi
  exists _,J,B,Z
 ·rintro⟨t,h1,h2,rfl⟩;exists (t-nxt s).i,YO.X J,by rw[show nxt s+(((t-nxt s).i:Nat):Int)=t by lia]
def asc_snoc{t:Int}:IsSet m (s++[t])↔IsSet m s/\nxt s<=t/\0<=t/\t<(m:Int):=by
 rw[isSet_iff,isSet_iff,Yz];let last:(∀a∈s,∀b∈[t],a<b)/\s.C (·<·)->nxt s<=t\/t<0:=by
  rintro⟨h,_⟩;unfold nxt;cases e:s.getLast? with
  |none=>by_cases h0:0<=t;show .inl h0;show .inr J
  |some x=>have:=h x (Y1y e) t D;show .inl (by change x+1<=t;lia)
 constructor
 ·rintro⟨h1,h2,_,h3⟩;let ht:=h1 t D
  exists {λz hz=>h1 z<|YA _ hz,h2},?_,ht;rcases last ⟨h3,h2⟩ with h|h
  ·show h
  ·omega
 ·rintro⟨⟨h1,h2⟩,h3,h4,h5⟩;exists λz hz=>?_,h2,Yy11 ..,λa ha b hb=>?_
  ·rcases Yb.S hz with h|h
   ·show h1 z h
   ·rw[Yy2.S h];exists h4,h5
  ·rw[Yy2.S hb];let key:∀{s:List Int}{a:Int},s.C (·<·)->a∈s->a<nxt s:=by
    show λ{s}=>Zk1 (P:=λs=>∀{a:Int},s.C (·<·)->a∈s->a<nxt s) (λ{a} _ h=>by cases h) (λl x ih {a} hp h=>?_) s;rw[Zn10];rw[Yz]at hp;rcases Yb.S h with h|h
    ·have:=hp.2.2 a h x D;lia
    ·rw[Yy2.S h];lia
   have:=key h2 ha
   lia
def cmb_mem{m:Nat}:∀{k:Nat}{l:List Int},l∈cmb (m:Int) k↔l.f=k/\IsSet m l
 |0,l=>by
  change l∈[[]]↔_;rw[Yy2];constructor
  ·rintro rfl;exists Z,λi z e=>by simp at e
  ·rintro⟨h,_⟩;show Yy07.S h
 |k+1,l=>by
  change l∈(cmb (m:Int) k).flatMap (ext1 m)↔_;rw[List.mem_flatMap];constructor
  ·rintro⟨s,hs,hl⟩;let(t,h1,h2,rfl):=ext1_mem.S hl;let(e,hI):=cmb_mem.S hs;let n0:0<=nxt s:=by
    unfold nxt;cases q:s.getLast? with
    |none=>show Y1e 0
    |some x=>have:=(hI.all x<|Y1y q).1;change 0<=x+1;lia
   exists by rw[Yy3,e];rfl,asc_snoc.X ⟨hI,h1,J,h2⟩
  ·rintro⟨e,hI⟩;let hne:l≠[]:=λz=>by rw[z]at e;simp at e
   obtain⟨s,t,rfl⟩:∃s t,l=s++[t]:={l.dropLast,l.getLast hne,(Y3p hne).symm};let(h1,h2,h3,h4):=asc_snoc.S hI;exists s,cmb_mem.X {by rw[Yy3]at e;simpa using e,h1},ext1_mem.mpr ⟨t,h2,h4,Z⟩
def Zz111(h:IsSet m s):(ext1 (m:Int) s).f<=m:=by
 unfold ext1;rw[Yy7,YU];let n0:0<=nxt s:=by
  unfold nxt;cases q:s.getLast? with
  |none=>show Y1e 0
  |some x=>have:=(h.all x<|Y1y q).1;change 0<=x+1;lia
 omega
def Zz03:∀L:List (List Int),(∀s∈L,IsSet m s)->(L.flatMap (ext1 (m:Int))).f<=m*L.f
 |[],_=>Yk _
 |s::L,h=>by
  have:=Zz03 L λx hx=>h x (Yd _ hx)
  have:=Zz111 (h s Ye)
  rw[List.flatMap_cons,Yy3,Yu,Nat.mul_succ];lia
def Zv9{m:Nat}(hm:m<=9):∀k,(cmb (m:Int) k).f<=9^k
 |0=>Yy8 1
 |k+1=>by
  let h1:=Zz03 (m:=m) (cmb (m:Int) k) λs hs=>(cmb_mem.S hs).2;let h2:=Zv9 hm k
  let h3:m*(cmb (m:Int) k).f<=9*9^k:=Y1t hm h2;rw[Nat.pow_succ,Y2W];show Yv h1 h3
def Zz45{α β:Type}{l:List α}{f:α->List β}{y:α}(h:l[i]?=some y):(l.G (i+1)).flatMap f=(l.G i).flatMap f++f y:=by
 rw[YN,h,List.flatMap_append];congr 1;change List.flatMap f [y]=_
 simp
def Yz3{α:Type}{l:List α}{f:α->Bool}{y:α}(h:l[i]?=some y):(l.G (i+1)).filter f=(l.G i).filter f++(if f y=true then [y] else []):=by
 rw[YN,h,Y0E];congr 1;cases e:f y=true
 ·rw[if_pos e];change List.filter _ [y]=_;rw[Y0w,if_pos e];rfl
 ·rw[if_neg e];change List.filter _ [y]=_;rw[Y0w,if_neg e];rfl
def ZH3:∀{w t:List Int},t.C (·<·)->w.C (·<·)->(∀z∈t,z∈w)->t.Sublist w
 |[],[],_,_,_=>List.Sublist.slnil
 |[],x::t,_,_,h=>absurd (h x Ye) D
 |y::w,[],_,_,_=>List.nil_sublist _
 |y::w,x::t,ht,hw,h=>by
  let(h1,h2):=Y0i.S ht;let(h3,h4):=Y0i.S hw;cases e:x=y
  ·subst e;show List.Sublist.cons₂ _ (ZH3 h2 h4 λz hz=>?_);rcases Yf.S (h z<|Yd _ hz) with q|q
   ·have:=h1 z hz;lia
   ·show q
  ·have hx:x∈w:=(Yf.S<|h x Ye).resolve_left e;show List.Sublist.cons _ (ZH3 ht h4 λz hz=>?_);rcases Yf.S (h z hz) with q|q
   ·have:=h3 x hx
    rcases Yf.S hz with q2|q2
    ·rwa[q2]
    ·have:=h1 z q2;lia
   ·show q
def pmf(M:List Int)(es:List (Nat×Nat)):(List Int):=es.foldl (λm e=>pm m e.1 e.2) M
def Zd10(M:List Int)(es:List (Nat×Nat))(e:Nat×Nat):pmf M (es++[e])=pm (pmf M es) e.1 e.2:=by unfold pmf;rw[Y1V];rfl
def Zj6(M:List Int):∀es:List (Nat×Nat),(pmf M es).f=M.f:=by
 intro es;unfold pmf
 induction es generalizing M with
 |nil=>rfl
 |cons e l ih=>rw[Y2i,ih,ZK1]
def Zk7{i:Int}(h0:0<=i):cutV xs none (some i)=xs.G i.i:=by
 let e:HT.sIx xs.f xs.f (some i)=min i.i xs.f:=by change(if i<0 then (i+xs⁻¹).i else min i.i xs.f)=_;rw[if_neg J]
 unfold cutV;rw[e,HT.sIx_none,Y1G,Y2V];cases h:i.i<=xs.f
 ·rw[Y3B h]
 ·rw[Nat.min_eq_right J,YF<|Yy8 _,YF B]
def rgL(m:Nat):(List Int):=(List.range m).L λ(i:Nat)=>(i:Int)
def rgL_mem{z:Int}:z∈rgL m↔0<=z/\z<(m:Int):=by
 unfold rgL;rw[Yx];constructor
 ·rintro⟨i,hi,rfl⟩
  have:=YO.S hi
  lia
 ·intro h;exists z.i,YO.X J,J
def Zd1(m:Nat):(rgL m).f=m:=by unfold rgL;simp
def Zc6(m:Nat):(rgL m).C (·<·):=by unfold rgL;rw[Y1m];show Y1r.imp λh=>B
def Zz22(m:Nat):IsSet m (rgL m):=isSet_iff.X {λz hz=>rgL_mem.S hz,Zc6 m}
def Zz310(m:Nat):rngI 0 (m:Int)=rgL m:=by unfold rngI rgL;rw[Y3q,YB];show YW λi _=>J
def ZO5(n:Int)(ps:List (Int×Int)):(Prop):=∀i j,i<n.i->j<n.i->Conn (Zz6 ps<|rgL ps.f) i j
end My
namespace L2
open PySem PySem.Spec PyProof.Rows
section
variable{prog:Program}{w:World}{A:Around}{E:Value->Shared->Prop}{s:Shared}
def ZL5{r:Addr}{a b c:Int}{t u v:Tok}{n:Nat}{Q:List Value->Shared->Prop}(hh:A.handled=none)(hr:IsRange s.o r a b c t u v)(hm:Builtin.Range.small a b c=true)(hn:Builtin.Range.rangeSize a b c=n)(hl:n<=2^24)
  (k:∀h' tk acc,(∀b o,s.o.E b=some o->h'.E b=some o)->ItemsOf (λi v=>∃t,v=.int (a+i*c) t) acc n->Q acc.j {s with heap:=h',toks:=tk}):wpAny (model prog w) A (collect<|.ref r) Q E s:=by
 let hL1:(s.o.push<|seqObj "list" #[] 0).E (~~~s)=some (seqObj "list" #[] 0):=Yo _ rfl;unfold collect;show Yy4 (Y3i<|Yy13 entry_proto_collect' ?_);change wpAny _ A.in1 (do again (.builtin "list.__iadd__" {[<-newList [],.ref r],[]})) _ _ s
 show Yy4 (Yy33<|Yi ⟨Yy23 _ XT,Yy13 entry_list_iadd' ?_⟩);change wpAny _ A.in1 (Builtin.List.listExtendWith (.ref (~~~s)) ↑r<|.ref (~~~s)) _ _ {s with heap:=s.o.push (seqObj "list" #[] 0)}
 show Yy16 (wpAny_extend_range (A:=A) (R:=λx s'=>∃h' tk acc c',x=.ok (.ret<|.ref (~~~s))/\s'={s with heap:=h',toks:=tk}/\(∀b o,s.o.E b=some o->h'.E b=some o)/\
   h'.E (~~~s)=some {cls:=.type "list",dict:=none,data:=.seq acc c',slots:=#[]}/\ItemsOf (λi v=>∃t,v=.int (a+i*c) t) acc n)
  (s:={s with heap:=s.o.push (seqObj "list" #[] 0)}) hh (Yy6 _ hr) hm hn hl _ _ 0 hL1 λh' tk acc c' k1 k2 k3=>{h',tk,acc,c',Z,Z,λb o e=>k1 b o (Yt<|Yg e)<|Yy6 _ e,k2,k3}) (λfin s' z=>?_) (λe s' z=>?_)
 ·cases fin with
  |done f=>
   let(h',tk,acc,c',e,rfl,k1,k2,k3):=z;cases e;show Yy4 (wpAny_load k2 ?_);show Yi (k h' tk acc k1 k3)
  |again c'=>
   exists z.1,Y1v z.2 λx s2 z=>?_;let(h',tk,acc,c',rfl,rfl,k1,k2,k3):=z;show Yy4 (wpAny_load k2 ?_);show Yi (k h' tk acc k1 k3)
 ·let(h',tk,acc,c',e,_):=z;cases e
def Zt3{r:Addr}{a b c:Int}{t u v:Tok}{n:Nat}(hm:Builtin.Range.small a b c=true)(hn:Builtin.Range.rangeSize a b c=n)(hl:n<=2^24):
  Meets (Builtin.«tuple.__new__» {[.type "tuple",.ref r],[]}) (λA R s=>A.handled=none/\IsRange s.o r a b c t u v/\∀(h':Heap)(tk:Nat)(acc:Array Value),(∀b o,s.o.E b=some o->h'.E b=some o)->ItemsOf (λi v=>∃t,v=.int (a+i*c) t) acc n->
   R (.ok<|.ret<|.ref h'.objs.l) {s with heap:=h'.push<|seqObj "tuple" acc 0,toks:=tk}):=
 .of_wp λprog w A R s h=>by
  let(hh,hr,h):=h;let e1:=sub_tuple_self
  let e2:=init_tuple_lookup;let e3:=madeHere_tuple
  let hT:s.TypeIs ↑r "range":={_,hr,Z};let hh1:A.in1.handled=none:=hh
  wp_walk using wpAny_typeOf hT,ZL5 hh1 hr hm hn hl
  intro h' tk acc hk hacc;change wpAny _ _ (Builtin.Tuple.tupleExact acc.j.t >>= ret) _ _ _
  unfold Builtin.Tuple.tupleExact;let e:acc.j.t=acc:=D
  rw[e];show Yy4 (Y0F ?_<|by change acc.l<=sizeLine;rwa[hacc.1,Y1l]);show Yi {_,Z,h h' tk acc hk hacc}
def Yz2{r:Addr}{a b c:Int}{t u v:Tok}{n:Nat}{Q:Value->Shared->Prop}(hh:A.handled=none)(hr:IsRange s.o r a b c t u v)(hm:Builtin.Range.small a b c=true)(hn:Builtin.Range.rangeSize a b c=n)(hl:n<=2^24)
  (k:∀(h':Heap)(tk:Nat)(acc:Array Value),(∀b o,s.o.E b=some o->h'.E b=some o)->ItemsOf (λi v=>∃t,v=.int (a+i*c) t) acc n->Q (.ref h'.objs.l) {s with heap:=h'.push<|seqObj "tuple" acc 0,toks:=tk}):wpAny (model prog w) A (call (.type "tuple") [.ref r]) Q E s:=
 callType_new F.called_tuple XU (F.typeCall_tuple_1 _) (F.newCall_tuple_1 _) (λo=>F.args_object_init_2 o _) F.entry_tuple_new (Zt3 (t:=t) (u:=u) (v:=v) hm hn hl)
  {hh,hr,λh' tk acc hk hacc=>{{_,Yo _ Z,Z},k h' tk acc hk hacc}}
end
section
variable{X:Cx}
def Zz53(hc:X.calm=true):Zz02 X (.type "tuple") (λxs H Q=>∃p lo hi,xs=[.ref p]/\H p=some (.rng lo hi)/\(-(2^62)<=lo/\lo<2^62/\-(2^62)<=hi/\hi<2^62)/\(hi-lo).i<=16777216/\
  ∀l,H l=none->Q ↑l (upd H l<|.tup<|(rngI lo hi).L V.int)):=by
 intro pins s σ H xs us Q I r h;let(p,lo,hi,rfl,hp,(b1,b2,b3,b4),hz,q):=h;let(u,rfl,ru):=ZK2 r;let rfl:u=Value.ref p:=ru;let(t,u,v,e):=(show ObjOk X.prog X.w H s.o p (.rng lo hi) from I.hok p _ hp);let hn:Builtin.Range.rangeSize lo hi 1=(((hi-lo).i:Nat):Int):=by rw[rangeSize_one];split<;>grind
 show Yz2 (I.ok.hd hc) (t:=t) (u:=u) (v:=v) e (small_one b1 b2 b3 b4) hn hz λh' tk acc hk ha=>?_;let hl:acc.j.f=(hi-lo).i:=by rw[YD];show ha.1
 let rv:Vals ((rngI lo hi).L V.int) acc.j:=ZU5 (lo:=lo) hl λj w ew=>by let(t,e):=ha.2 j w (by simpa using ew);exists t,by rw[e,Y1N]
 let I1:Inv X pins σ H {s with heap:=h',toks:=tk}:=I.kept (t':=tk) hk;let hz2:((rngI lo hi).L V.int).f<=sizeLine:=by
  rw[Yy7,ZD2]
  have:sizeLine=16777216:=Y1l
  lia
 let I2:Inv X pins σ (upd H h'.objs.l<|.tup<|(rngI lo hi).L V.int) {s with heap:=h'.push<|seqObj "tuple" acc.j.t 0,toks:=tk}:=
  I1.laid (t':=tk) (λb o e=>Yy6 _ e) (Yy8 _) (show ObjOk X.prog X.w _ _ _ (.tup<|(rngI lo hi).L V.int) from{hz2,acc.j,rv,IsTup.new _ _})
 let ea:acc.j.t=acc:=D;rw[ea]at I2;exists .ref h'.objs.l,_,I2,Z,q _<|I1.hok.fresh<|Yy8 _
end
end L2
namespace My
open PySem L2
def gst(n:Nat)(ps:List (Int×Int))(G:List Int)(z:Int):(List Int):=if mk (lms n<|Zz6 ps G) (Zw ps z).1=mk (lms n<|Zz6 ps G) (Zw ps z).2 then G else G++[z]
def grw(n:Nat)(ps:List (Int×Int))(zs:List Int):(List Int):=zs.foldl (gst n ps) []
def ZH1(n:Nat)(ps:List (Int×Int))(zs:List Int)(z:Int):grw n ps (zs++[z])=gst n ps (grw n ps zs) z:=by unfold grw;rw[Y1V];rfl
def ZL12(n:Nat)(ps:List (Int×Int))(zs:List Int):∀ys,∃us,grw n ps (zs++ys)=grw n ps zs++us/\us.Sublist ys:=by
 show Zk1 {[],D} λys y ih=>?_;let(us,e,s):=ih;rw[<-Yw,ZH1,e];unfold gst;split
 ·exists us,Z,s.m<|List.sublist_append_left _ _
 ·exists us++[y],by rw[Yw],s.append<|List.Sublist.refl _
def Zz99(n:Nat)(ps:List (Int×Int))(zs:List Int):(grw n ps zs).Sublist zs:=by let(us,e,s):=ZL12 n ps [] zs;rw[Y1b]at e;rwa[e]
def ZX4(n:Nat)(ps:List (Int×Int)):∀k,grw n ps ((List.range k).L λ(i:Nat)=>(i:Int))=grd n ps k
 |0=>rfl
 |k+1=>by rw[Y0H,Yn,Yy38,ZH1,ZX4 n ps k,ZX1];rfl
def ZM12(h:∀z∈zs,0<=z/\z<ps⁻¹):∀z∈grw n ps zs,0<=z/\z<ps⁻¹:=λz hz=>h z ((Zz99 n ps zs).subset hz)
def ZR10(g:ZM n ps)(h:∀z∈zs,0<=z/\z<ps⁻¹):InN n.i (Zz6 ps (grw n.i ps zs)):=ZL g (ZM12 h)
def ZP6(g:ZM n ps):∀zs:List Int,(∀z∈zs,0<=z/\z<ps⁻¹)->cnt (lms n.i (Zz6 ps (grw n.i ps zs)))+(grw n.i ps zs).f=n.i:=by
 show Zk1 (λ_=>Zz23 n.i) λzs z ih h=>?_;let h1:∀z∈zs,0<=z/\z<ps⁻¹:=λy hy=>h y (YA _ hy)
 let ih:=ih h1;let(z0,z1):=h z (Yy _<|Yy2.X Z);let he:=ZB1 (z:=z) g z0 z1
 let hl:=Zy n.i (Zz6 ps<|grw n.i ps zs);rw[ZH1];unfold gst;split
 ·show ih
 ·rename_i h;rw[Zz41,Zz71,Yy3,YX]
  have:=Zz13 (m:=lms n.i<|Zz6 ps<|grw n.i ps zs) J J h
  lia
def Za9(g:ZM n ps)(h:∀z∈zs,0<=z/\z<ps⁻¹):(grw n.i ps zs).f<=14:=by
 have:=ZP6 g zs h
 have:=g.2.1
 lia
def ZS10(g:ZM n ps):∀zs:List Int,(∀z∈zs,0<=z/\z<ps⁻¹)->∀{i j:Nat},Conn (Zz6 ps zs) i j->Conn (Zz6 ps (grw n.i ps zs)) i j:=by
 show Zk1 (λ_ _ _ c=>c) λzs z IH h i j c=>?_;let h1:∀z∈zs,0<=z/\z<ps⁻¹:=λy hy=>h y (YA _ hy)
 let(z0,z1):=h z (Yy _<|Yy2.X Z);let he:=ZB1 (z:=z) g z0 z1
 let up:∀{a b:Nat},Conn (Zz6 ps<|grw n.i ps zs) a b->Conn (Zz6 ps<|grw n.i ps<|zs++[z]) a b:=λc=>by
  rw[ZH1];unfold gst;split
  ·show c
  ·show c.mono (ZD λy hy=>YA _ hy)
 let own:Conn (Zz6 ps<|grw n.i ps<|zs++[z]) (Zw ps z).1 (Zw ps z).2:=by
  rw[ZH1];unfold gst;split
  ·rename_i e;show(Zz21 (ZR10 g h1) he.1 he.2).S e
  ·rw[Zz41];show .edge (Yy _<|Yy2.X Z)
 induction c with
 |refl i=>show .refl i
 |symm _ ih=>show .symm ih
 |trans _ _ i1 i2=>show .trans i1 i2
 |@edge a b e=>
  rw[Zz41]at e;rcases Yb.S e with e|e
  ·show up (IH h1<|.edge e)
  ·have e:=Yy2.S e;let ea:a=(Zw ps z).1:=YI Prod.fst e
   let eb:b=(Zw ps z).2:=YI Prod.snd e;rwa[ea,eb]
def ZS6(g:ZM n ps):ZO5 n ps↔¬((grd n.i ps ps.f).f:Int)<n-1:=by
 constructor
 ·intro h;let hc:∀i j,i<n.i->j<n.i->Conn (Zz6 ps<|grd n.i ps ps.f) i j:=λi j hi hj=>ZU6 g (λz hz=>rgL_mem.S hz) (h i j hi hj)
  let h1:=(Za1 (by have:=g.1;lia)<|Zc8 g<|Yy8 _).X hc;let h2:=Zz05 g ps.f (Yy8 _)
  have:=g.1
  lia
 ·intro h i j hi hj;show((ZT6 g h).2.2 i j hi hj).mono (ZD λz hz=>rgL_mem.X (by have:=ZJ5 ps.f z hz;lia))
end My
namespace PyProof.Rows
open PySem
def ZG2:(Bool->Keyed->Array Keyed->Nat->Nat->Nat->StateT SortSt Sem (Option Nat)):=sortPriv% PySem.Builtin.gallop
def Zw6:(Array Keyed->Array Keyed->StateT SortSt Sem (Array Keyed)):=sortPriv% PySem.Builtin.mergeLo
def Zx6:(Array Keyed->Array Keyed->StateT SortSt Sem (Array Keyed)):=sortPriv% PySem.Builtin.mergeHi
def LtOk(M:Model)(A:Around)(E:Value->Shared->Prop)(s:Shared)(O:KeyOrd)(key:Keyed->O.α)(kd:SortKind)(S:Keyed->Prop):(Prop):=
 ∀x y st Q,S x->S y->kindOf st=kd->Q (some<|O.blt (key x)<|key y) st->wpS M A E s (lt' x y) Q st
abbrev dK:Keyed:=(Value.none,Value.none)
section
variable{M:Model}{A:Around}{E:Value->Shared->Prop}{s:Shared}{O:KeyOrd}{key:Keyed->O.α}{kd:SortKind}{S:Keyed->Prop}
def ke(key:Keyed->O.α)(arr:Array Keyed)(i:Nat):(O.α):=key (arr.getD i dK)
def Zq2{p:Keyed}(h:arr[i]?=some p):ke key arr i=key p:=by unfold ke;rw[Y0c,h];rfl
def Zr{p:Keyed}{Q:Keyed->SortSt->Prop}{st:SortSt}(h:arr[i]?=some p)(q:Q p st):wpS M A E s (elem' arr i) Q st:=by rw[elem'_eq,h];show YG q
def beyB(O:KeyOrd)(key:Keyed->O.α)(left:Bool)(kx:Keyed)(arr:Array Keyed)(j:Nat):(Bool):=if left then O.blt (ke key arr j) (key kx) else !O.blt (key kx) (ke key arr j)
def Zn11(h:O.kle (ke key arr i) (ke key arr j))(hb:beyB O key left kx arr j=true):beyB O key left kx arr i=true:=by
 unfold beyB at *;cases left with
 |true=>
  simp only[if_true]at *;show KeyOrd.klt_of_kle_of_klt h hb
 |false=>
  simp only[Y0t,Y2H,Y1X]at *;show Yy03 h hb
def Zb1(L:LtOk M A E s O key kd S){st:SortSt}{Q:Option Nat->SortSt->Prop}(hk:kindOf st=kd)(hS:S kx)(hA:∀i,i<n->∃p,arr[base+i]?=some p/\S p)(hh:hint<n)
  (hm:∀i j,i<=j->j<n->O.kle (ke key arr<|base+i) (ke key arr<|base+j))
  (h:∀k,k<=n->(∀i,i<k->beyB O key left kx arr (base+i)=true)->(∀i,k<=i->i<n->beyB O key left kx arr (base+i)=false)->Q (some k) st):wpS M A E s (ZG2 left kx arr base n hint) Q st:=by
 let bok:∀i,i<n->∀Q,Q (some<|beyB O key left kx arr<|base+i) st->
   wpS M A E s (do let x <-elem' arr (base+i);if left=true then lt' x kx else do let r <-lt' kx x;pure (Option.L (λx=>!x) r)) Q st:=λi hi Q q=>by
  let(p,e,hp):=hA i hi;show Yq (Zr e ?_);unfold beyB at q;rw[Zq2 e]at q;cases left with
  |true=>
   rw[if_pos Z];show L _ _ _ _ hp hS hk q
  |false=>
   rw[if_neg D];show Yq (L _ _ _ _ hS hp hk<|YG q)
 let dn:∀{i j:Nat},i<=j->j<n->beyB O key left kx arr (base+j)=true->beyB O key left kx arr (base+i)=true:=λhij hj hb=>Zn11 (hm _ _ hij hj) hb;let up:∀{i j:Nat},i<=j->j<n->beyB O key left kx arr (base+i)=false->beyB O key left kx arr (base+j)=false:=λ{i j} hij hj hb=>by
  cases e:beyB O key left kx arr (base+j) with
  |false=>rfl
  |true=>rw[dn hij hj e]at hb;cases hb
 generalize hB:(λj=>beyB O key left kx arr<|base+j)=XX at *;let eB:∀j,beyB O key left kx arr (base+j)=XX j:=λj=>congrFun hB j
 simp only[eB]at bok dn up h;let last:∀lo hi,lo<=hi->hi<=n->(∀i,i<lo->XX i=true)->(∀i,hi<=i->i<n->XX i=false)->∀f,(∀lo hi,f (none,lo,hi)=pure (some hi))->
   wpS M A E s (forIn [0:n] ((none,lo,hi):Option (Option Nat)×Nat×Nat) (λ_ r=>if r.2.1 >= r.2.2 then pure (ForInStep.done (none,r.2.1,r.2.2)) else do
    let x <-(do let x <-elem' arr (base+(r.2.1+(r.2.2-r.2.1)/2));if left=true then lt' x kx else do let r <-lt' kx x;pure (Option.L (λx=>!x) r))
    match x with
    |some more=>if more=true then pure (ForInStep.yield (none,r.2.1+(r.2.2-r.2.1)/2+1,r.2.2)) else pure (ForInStep.yield (none,r.2.1,r.2.1+(r.2.2-r.2.1)/2))
    |_=>pure<|ForInStep.done (some none,r.2.1,r.2.2)) >>= f) Q st:=by
  intro lo hi h1 h2 h3 h4 f hf;show Yq (Y2k (Y0A (I:=λx c st'=>st'=st/\∃l r,c=(none,l,r)/\l<=r/\r<=n/\r-l<=n-x/\(∀i,i<l->XX i=true)/\(∀i,r<=i->i<n->XX i=false))
   (Q:=λc st'=>st'=st/\∃r,c=(none,r,r)/\r<=n/\(∀i,i<r->XX i=true)/\(∀i,r<=i->i<n->XX i=false)) ?_ ?_ ⟨Z,lo,hi,Z,h1,h2,XS,h3,h4⟩) ?_)
  ·rintro x c st' _ hx ⟨rfl,l,r,rfl,a1,a2,a3,a4,a5⟩;dsimp only;cases hc:l >= r
   ·rw[if_pos hc]
    have:l=r:=J
    subst this;show YG ⟨Z,l,Z,a2,a4,a5⟩
   ·rw[if_neg hc];show Yq (bok _ XS _ ?_);dsimp only;cases e:XX (l+(r-l)/2) with
    |true=>
     rw[if_pos Z];show YG {Z,_,_,Z,XS,a2,XS,λi hi=>dn (j:=l+(r-l)/2) J XS e,a5}
    |false=>
     rw[if_neg D];show YG {Z,_,_,Z,J,XS,XS,a4,λi hi hin=>up (i:=l+(r-l)/2) hi hin e}
  ·rintro c st' ⟨rfl,l,r,rfl,a1,a2,a3,a4,a5⟩
   have:l=r:=XS
   subst this;exists Z,l,Z,a2,a4,a5
  ·rintro c st' ⟨rfl,r,rfl,a2,a4,a5⟩;rw[hf];show YG (h r a2 a4 a5)
 unfold ZG2;show Yq (bok hint hh _ ?_);dsimp only;cases e0:XX hint with
 |true=>
  rw[if_pos Z];show Yq (Y2k (Y0A (I:=λx c st'=>st'=st/\∃l o,c=(none,l,o)/\l<o/\hint+l<n/\x+1<=o/\XX (hint+l)=true)
   (Q:=λc st'=>st'=st/\∃l o,c=(none,l,o)/\l<o/\hint+l<n/\XX (hint+l)=true/\(n-hint<=o\/XX (hint+o)=false)) ?_ ?_ ⟨Z,0,1,Z,B,J,J,e0⟩) ?_)
  ·rintro x c st' _ hx ⟨rfl,l,o,rfl,a1,a2,a3,a4⟩;dsimp only;cases hc:o >= n-hint
   ·rw[if_pos hc];show YG {Z,l,o,Z,a1,a2,a4,.inl hc}
   ·rw[if_neg hc];show Yq (bok _ J _ ?_);dsimp only;cases e:XX (hint+o) with
    |false=>
     rw[if_pos XU];show YG {Z,l,o,Z,a1,a2,a4,.inr e}
    |true=>
     rw[if_neg XU];show YG {Z,o,2*o+1,Z,J,B,J,e}
  ·rintro c st' ⟨rfl,l,o,rfl,a1,a2,a3,a4⟩;exists Z,l,o,Z,a1,a2,a4,.inl J
  ·rintro c st' ⟨rfl,l,o,rfl,a1,a2,a4,a5⟩;dsimp only;show last _ _ J J (λi hi=>dn (j:=hint+l) J a2 a4) (λi hi hin=>?_) _ λ_ _=>rfl;rcases a5 with a5|a5
   ·lia
   ·by_cases h9:n-hint<=o
    ·omega
    ·show up (i:=hint+o) XS hin a5
 |false=>
  rw[if_neg D];show Yq (Y2k (Y0A (I:=λx c st'=>st'=st/\∃l o,c=(none,l,o)/\l<o/\l<=hint/\x+1<=o/\XX (hint-l)=false)
   (Q:=λc st'=>st'=st/\∃l o,c=(none,l,o)/\l<o/\l<=hint/\XX (hint-l)=false/\(hint+1<=o\/(o<=hint/\XX (hint-o)=true))) ?_ ?_ ⟨Z,0,1,Z,B,J,B,e0⟩) ?_)
  ·rintro x c st' _ hx ⟨rfl,l,o,rfl,a1,a2,a3,a4⟩;dsimp only;cases hc:o >= hint+1
   ·rw[if_pos hc];show YG {Z,l,o,Z,a1,a2,a4,.inl hc}
   ·rw[if_neg hc];show Yq (bok _ XS _ ?_);dsimp only;cases e:XX (hint-o) with
    |true=>
     rw[if_pos Z];show YG {Z,l,o,Z,a1,a2,a4,.inr ⟨J,e⟩}
    |false=>
     rw[if_neg D];show YG {Z,o,2*o+1,Z,B,B,B,e}
  ·rintro c st' ⟨rfl,l,o,rfl,a1,a2,a3,a4⟩;exists Z,l,o,Z,a1,a2,a4,.inl J
  ·rintro c st' ⟨rfl,l,o,rfl,a1,a2,a4,a5⟩;dsimp only;show last _ _ B XS (λi hi=>?_) (λi hi hin=>up (i:=hint-l) J hin a4) _ λ_ _=>rfl;rcases a5 with a5|⟨a5,a6⟩
   ·lia
   ·show dn (j:=hint-o) XS XS a6
def RK(O:KeyOrd)(key:Keyed->O.α)(x y:Keyed):(Prop):=O.kle (key x) (key y)
structure MI(O:KeyOrd)(key:Keyed->O.α)(la lb:List Keyed)(out:Array Keyed)(ia ib:Nat):Prop where
 so:out.j.C (RK O key)
 oa:∀x∈out.j,∀y∈la.drop ia,RK O key x y
 ob:∀x∈out.j,∀y∈lb.drop ib,RK O key x y
 pm:(out.j++la.drop ia++lb.drop ib).Perm (la++lb)
def ZZ1(O:KeyOrd)(key:Keyed->O.α)(la lb:List Keyed)(r:Array Keyed):(Prop):=r.j.C (RK O key)/\r.j.Perm (la++lb)
def Zz412{la:List Keyed}(h:la.C (RK O key))(i k:Nat):((la.drop i).G k).C (RK O key)/\∀x∈(la.drop i).G k,∀y∈la.drop (i+k),RK O key x y:=by let h1:(la.drop i).C (RK O key):=h.sublist (Y1W i la);rw[<-Y0o k (la.drop i),Yz,Y2v]at h1;exists h1.1,h1.2.2
def Zz75{α:Type}{la:List α}{i k:Nat}{y:α}(h:y∈la.drop (i+k)):y∈la.drop i:=by rw[<-Y2v]at h;show Y0l h
def MI.a(h:MI O key la lb out ia ib)(sa:la.C (RK O key))(k:Nat)(hx:∀x∈(la.drop ia).G k,∀y∈lb.drop ib,RK O key x y)(e:out'.j=out.j++(la.drop ia).G k):MI O key la lb out' (ia+k) ib:=by
 let(p1,p2):=Zz412 sa ia k;exists ?_,?_,?_,?_
 ·rw[e,Yz];exists h.so,p1,λx hx y hy=>h.oa x hx y<|Yy00 hy
 ·intro x hx' y hy;rw[e,Yb]at hx';rcases hx' with hx'|hx'
  ·show h.oa x hx' y (Zz75 hy)
  ·show p2 x hx' y hy
 ·intro x hx' y hy;rw[e,Yb]at hx';rcases hx' with hx'|hx'
  ·show h.ob x hx' y hy
  ·show hx x hx' y hy
 ·rw[e,Yw out.j,<-Y2v,Y0o];show h.pm
def MI.b(h:MI O key la lb out ia ib)(sb:lb.C (RK O key))(k:Nat)(hx:∀x∈(lb.drop ib).G k,∀y∈la.drop ia,RK O key x y)(e:out'.j=out.j++(lb.drop ib).G k):MI O key la lb out' ia (ib+k):=by
 let(p1,p2):=Zz412 sb ib k;exists ?_,?_,?_,?_
 ·rw[e,Yz];exists h.so,p1,λx hx y hy=>h.ob x hx y<|Yy00 hy
 ·intro x hx' y hy;rw[e,Yb]at hx';rcases hx' with hx'|hx'
  ·show h.oa x hx' y hy
  ·show hx x hx' y hy
 ·intro x hx' y hy;rw[e,Yb]at hx';rcases hx' with hx'|hx'
  ·show h.ob x hx' y (Zz75 hy)
  ·show p2 x hx' y hy
 ·show List.Perm.m ?_ h.pm;rw[e,<-Y2v];show List.Perm.m (l₂:=out.j++la.drop ia++((lb.drop ib).G k++(lb.drop ib).drop k)) ?_ (by rw[Y0o]);rw[Yw,Yw,Yw];show Y0j _ ?_;rw[<-Yw,<-Yw];show Y1s _ Y1u
def Zj8(a:Array Keyed)(i:Nat):(a.H i a.l).j=a.j.drop i:=by rw[Y1k,Y0P];show YF D
def Zj9(a:Array Keyed)(i k:Nat):(a.H i (i+k)).j=(a.j.drop i).G k:=by rw[Y1k,Y0P,Y2D]
def MI.last{a b out:Array Keyed}(h:MI O key a.j b.j out ia ib)(sa:a.j.C (RK O key))(sb:b.j.C (RK O key))(hx:∀x∈b.j.drop ib,∀y∈a.j.drop ia,RK O key x y):ZZ1 O key a.j b.j (out++b.H ib b.l++a.H ia a.l):=by
 let e1:(b.j.drop ib).G b.l=b.j.drop ib:=YF D;let e2:(a.j.drop ia).G a.l=a.j.drop ia:=YF D
 let d1:b.j.drop (ib+b.l)=[]:=YH D;let d2:a.j.drop (ia+a.l)=[]:=YH D
 let h1:=h.b sb b.l (by rwa[e1]) (out':=out++b.H ib b.l) (by rw[Yy02,Zj8,e1]);let h2:=h1.a sa a.l (by rw[d1];intro _ _ _ hy;cases hy) (out':=out++b.H ib b.l++a.H ia a.l) (by rw[Yy02,Zj8,e2])
 let p:=h2.pm;rw[d1,d2,YM,YM]at p;exists h2.so,p
def MI.done{a b out:Array Keyed}(h:MI O key a.j b.j out ia ib)(sa:a.j.C (RK O key))(sb:b.j.C (RK O key))(hx:b.j.drop ib=[]\/a.j.drop ia=[]):ZZ1 O key a.j b.j (out++a.H ia a.l++b.H ib b.l):=by
 let e1:(b.j.drop ib).G b.l=b.j.drop ib:=YF D;let e2:(a.j.drop ia).G a.l=a.j.drop ia:=YF D
 let d1:b.j.drop (ib+b.l)=[]:=YH D;let d2:a.j.drop (ia+a.l)=[]:=YH D
 let h1:=h.a sa a.l (by rw[e2];intro x hx' y hy;rcases hx with hx|hx;(rw[hx]at hy;cases hy);(rw[hx]at hx';cases hx')) (out':=out++a.H ia a.l) (by rw[Yy02,Zj8,e2])
 let h2:=h1.b sb b.l (by rw[d2];intro _ _ _ hy;cases hy) (out':=out++a.H ia a.l++b.H ib b.l) (by rw[Yy02,Zj8,e1]);let p:=h2.pm
 rw[d1,d2,YM,YM]at p;exists h2.so,p
def Zz98{a:Array Keyed}{p:Keyed}(h:a[i]?=some p):(a.j.drop i).G 1=[p]:=by
 let h':a.j[i]?=some p:=by simpa using h
 let(hi,e):=Yy1.S h';rw[Y0s hi,e];rfl
def Zo13{a:Array Keyed}{p:Keyed}(sa:a.j.C (RK O key))(h:a[i]?=some p):∀y∈a.j.drop i,RK O key p y:=by
 let h':a.j[i]?=some p:=by simpa using h
 let(hi,e):=Yy1.S h';let h1:(a.j.drop i).C (RK O key):=sa.sublist (Y1W i _)
 rw[Y0s hi,e]at h1 ⊢;intro y hy;rcases Yf.S hy with rfl|hy
 ·show Y0N _
 ·show(Y0i.S h1).1 y hy
def Zz413{a:Array Keyed}{i k:Nat}{x:Keyed}(h:x∈(a.j.drop i).G k):∃j,j<k/\a[i+j]?=some x:=by
 let(j,hj):=YC h;let hjl:=(Yy1.S hj).1
 rw[Yh]at hjl;rw[Y0D,if_pos XS,Y0W]at hj;exists j,B,by simpa using hj
def Zm9{a:Array Keyed}{x:Keyed}(h:x∈a.j.drop i):∃j,i<=j/\j<a.l/\a[j]?=some x:=by
 let(j,hj):=YC h;rw[Y0W]at hj;let hjl:=(Yy1.S hj).1
 exists i+j,J,by simpa using hjl,by simpa using hj
def Zz46(sa:a.j.C (RK O key))(hij:i<=j)(hj:j<a.l):O.kle (ke key a i) (ke key a j):=by
 let hi:i<a.l:=J;rw[Zq2 (Y0m a i hi),Zq2 (Y0m a j hj)];cases e:i=j
 ·subst e;show Y0N _
 ·have:=Yy04.S sa i j (by simpa using hi) (by simpa using hj) J
  simpa[RK] using this
def ZS11:(Nat->StateT SortSt Sem Unit):=sortPriv% PySem.Builtin.setMinGallop
def ZJ2{E:Value->Shared->Prop}{st:SortSt}{Q:Unit->SortSt->Prop}(h:Q () (SortSt.mk' (kindOf st) (arrOf st) (pendingOf st) g (failedOf st))):wpS M A E s (ZS11 g) Q st:=Y2a h
abbrev LoS:=Option (Array Keyed)×Array Keyed×Nat×Nat×Nat×Nat×Nat
def Zk13(a b out:Array Keyed)(ia ib g ac bc:Nat):(StateT SortSt Sem (ForInStep LoS)):=elem' a ia >>= λx=>
 if (ia+1+1 == a.l)=true then pure (.done (some<|out.push x++b.H ib b.l++a.H (ia+1) a.l,out.push x,ia+1,ib,g,ac,bc))
 else if (decide (ac<7)&&decide (bc<7))=true then pure (.done (none,out.push x,ia+1,ib,g,ac,bc)) else pure (.yield (none,out.push x,ia+1,ib,g,ac,bc))
def Zl13(a b out:Array Keyed)(ia ib g ac bc:Nat):(StateT SortSt Sem (ForInStep LoS)):=elem' b ib >>= λx=>
 if (ib+1 == b.l)=true then pure (.done (some<|out.push x++a.H ia a.l++b.H (ib+1) b.l,out.push x,ia,ib+1,g,ac,bc))
 else elem' a ia >>= λy=>ZG2 true y b (ib+1) (b.l-(ib+1)) 0 >>= λr=>match r with
  |some k=>if k>0 then
    if (ib+1+k == b.l)=true then pure (.done (some<|out.push x++b.H (ib+1) (ib+1+k)++a.H ia a.l++b.H (ib+1+k) b.l,out.push x++b.H (ib+1) (ib+1+k),ia,ib+1+k,g,ac,k))
    else Zk13 a b (out.push x++b.H (ib+1) (ib+1+k)) ia (ib+1+k) g ac k
   else Zk13 a b (out.push x) ia (ib+1) g ac k
  |_=>pure (.done (some<|out.push x++a.H ia a.l++b.H (ib+1) b.l,out.push x,ia,ib+1,g,ac,bc))
def Zt12(a b out:Array Keyed)(ia ib g ac bc:Nat):(StateT SortSt Sem (ForInStep LoS)):=ZS11 g >>= λ_=>elem' b ib >>= λx=>ZG2 false x a ia (a.l-ia) 0 >>= λr=>match r with
 |some k=>if k>0 then
   if (ia+k+1 == a.l)=true then pure (.done (some<|out++a.H ia (ia+k)++b.H ib b.l++a.H (ia+k) a.l,out++a.H ia (ia+k),ia+k,ib,g,k,bc))
   else if (ia+k == a.l)=true then pure (.done (some<|out++a.H ia (ia+k)++a.H (ia+k) a.l++b.H ib b.l,out++a.H ia (ia+k),ia+k,ib,g,k,bc))
   else Zl13 a b (out++a.H ia (ia+k)) (ia+k) ib g k bc
  else Zl13 a b out ia ib g k bc
 |_=>pure (.done (some<|out++a.H ia a.l++b.H ib b.l,out,ia,ib,g,ac,bc))
def Zt{α σ:Type}{c:Prop}[Decidable c]{x y:StateT σ Sem α}{Q:α->σ->Prop}{st:σ}(hc:c)(h:wpS M A E s x Q st):wpS M A E s (if c then x else y) Q st:=by rwa[if_pos hc]
def ZN{α σ:Type}{c:Prop}[Decidable c]{x y:StateT σ Sem α}{Q:α->σ->Prop}{st:σ}(hc:¬c)(h:wpS M A E s y Q st):wpS M A E s (if c then x else y) Q st:=by rwa[if_neg hc]
section
variable{a b out:Array Keyed}{ia ib:Nat}{st:SortSt}{R:ForInStep LoS->SortSt->Prop}
def Zn4{pa:Keyed}(sa:a.j.C (RK O key))(sb:b.j.C (RK O key))(h2:∀x∈b.j,∀y∈a.j.drop (a.l-1),RK O key x y)(ea:a[ia]?=some pa)(hia:ia+1<a.l)(hib:ib<b.l)(m:MI O key a.j b.j out ia ib)(below:∀y∈b.j.drop ib,RK O key pa y)
  (hd:∀r z,ZZ1 O key a.j b.j r->R (.done (some r,z)) st)(hn:∀o2 i2 j2 g3 a3 b3,MI O key a.j b.j o2 i2 j2->i2+1<a.l->j2<b.l->a.l-i2+(b.l-j2)<=a.l-ia+(b.l-ib)->R (.done (none,o2,i2,j2,g3,a3,b3)) st/\R (.yield (none,o2,i2,j2,g3,a3,b3)) st):wpS M A E s (Zk13 a b out ia ib g ac bc) R st:=by
 unfold Zk13;show Yq (Zr ea ?_);let m5:MI O key a.j b.j (out.push pa) (ia+1) ib:=m.a sa 1 (by rw[Zz98 ea];intro x hx y hy;rw[Yy2.S hx];show below y hy) (by rw[Zz98 ea,Yy09])
 cases d5:ia+1+1=a.l
 ·show Zt (by simpa using d5) (YG<|hd _ _<|m5.last sa sb λx hx y hy=>h2 x (Y0l hx) y<|by rwa[show a.l-1=ia+1 by lia])
 ·show ZN (by simpa using d5) ?_;let z:=λg3 a3 b3=>hn _ _ _ g3 a3 b3 m5 J hib XS
  split
  ·show YG (z _ _ _).1
  ·show YG (z _ _ _).2
def Zp4(L:LtOk M A E s O key kd S){pb:Keyed}(hk:kindOf st=kd)(hSa:∀x∈a.j,S x)(hSb:∀x∈b.j,S x)(sa:a.j.C (RK O key))(sb:b.j.C (RK O key))(h2:∀x∈b.j,∀y∈a.j.drop (a.l-1),RK O key x y)(eb:b[ib]?=some pb)(hia:ia+1<a.l)(hib:ib<b.l)(m:MI O key a.j b.j out ia ib)(above:∀y∈a.j.drop ia,RK O key pb y)
  (hd:∀r z,ZZ1 O key a.j b.j r->R (.done (some r,z)) st)(hn:∀o2 i2 j2 g3 a3 b3,MI O key a.j b.j o2 i2 j2->i2+1<a.l->j2<b.l->a.l-i2+(b.l-j2)<=a.l-ia+(b.l-ib)->R (.done (none,o2,i2,j2,g3,a3,b3)) st/\R (.yield (none,o2,i2,j2,g3,a3,b3)) st):wpS M A E s (Zl13 a b out ia ib g ac bc) R st:=by
 let endB:∀{i},i=b.l->b.j.drop i=[]:=λe=>YH (by simp[e]);unfold Zl13;show Yq (Zr eb ?_);let m3:MI O key a.j b.j (out.push pb) ia (ib+1):=m.b sb 1 (by rw[Zz98 eb];intro x hx y hy;rw[Yy2.S hx];show above y hy) (by rw[Zz98 eb,Yy09])
 cases d3:ib+1=b.l
 ·show Zt (by simpa using d3) (YG<|hd _ _<|m3.done sa sb<|.inl<|endB d3)
 show ZN (by simpa using d3) ?_;let ea:a[ia]?=some a[ia]:=Y0m a ia B
 let ha':S a[ia]:=hSa _ D;show Yq (Zr ea ?_);show Yq (Zb1 L hk ha' (λi hi=>{b[ib+1+i],Y0m b _ B,hSb _ D}) XS (λi j hij hj=>Zz46 sb J XS) λkk hkk hl2 hr2'=>?_);dsimp only;let below:∀y∈b.j.drop (ib+1+kk),RK O key a[ia] y:=λy hy=>by
  let(j,j1,j2,ey):=Zm9 hy
  have:=hr2' (j-(ib+1)) J B
  unfold beyB at this;rwa[show ib+1+(j-(ib+1))=j by lia,Zq2 ey]at this
 cases hkk0:kk>0
 ·show Zt hkk0 ?_;let m4:MI O key a.j b.j (out.push pb++b.H (ib+1) (ib+1+kk)) ia (ib+1+kk):=m3.b sb kk (λx hx y hy=>by
   let(j,hj,ex):=Zz413 hx
   have:=hl2 j hj
   unfold beyB at this;rw[Zq2 ex]at this;show Yy03 (Y0p this)<|Zo13 sa ea y hy) (by rw[Yy02,Zj9])
  cases d4:ib+1+kk=b.l
  ·show Zt (by simpa using d4) (YG<|hd _ _<|m4.done sa sb<|.inl<|endB d4)
  ·show ZN (by simpa using d4) (Zn4 sa sb h2 ea hia XS m4 below hd λo2 i2 j2 g3 a3 b3 m' e1 e2 e3=>hn o2 i2 j2 g3 a3 b3 m' e1 e2 XS)
 ·show ZN hkk0 (Zn4 sa sb h2 ea hia J m3 (λy hy=>below y<|by rwa[show kk=0 by lia]) hd λo2 i2 j2 g3 a3 b3 m' e1 e2 e3=>hn o2 i2 j2 g3 a3 b3 m' e1 e2 XS)
def Zo4(L:LtOk M A E s O key kd S)(hk:kindOf st=kd)(hSa:∀x∈a.j,S x)(hSb:∀x∈b.j,S x)(sa:a.j.C (RK O key))(sb:b.j.C (RK O key))(h2:∀x∈b.j,∀y∈a.j.drop (a.l-1),RK O key x y)(hia:ia+1<a.l)(hib:ib<b.l)(m:MI O key a.j b.j out ia ib)
  (hd:∀r z,ZZ1 O key a.j b.j r->R (.done (some r,z)) (SortSt.mk' (kindOf st) (arrOf st) (pendingOf st) g<|failedOf st))(hn:∀o2 i2 j2 g3 a3 b3,MI O key a.j b.j o2 i2 j2->i2+1<a.l->j2<b.l->a.l-i2+(b.l-j2)<=a.l-ia+(b.l-ib)->R (.done (none,o2,i2,j2,g3,a3,b3)) (SortSt.mk' (kindOf st) (arrOf st) (pendingOf st) g<|failedOf st)/\R (.yield (none,o2,i2,j2,g3,a3,b3)) (SortSt.mk' (kindOf st) (arrOf st) (pendingOf st) g<|failedOf st)):wpS M A E s (Zt12 a b out ia ib g ac bc) R st:=by
 unfold Zt12;show Yq (ZJ2 ?_);let eb:b[ib]?=some b[ib]:=Y0m b ib hib
 show Yq (Zr eb ?_);show Yq (Zb1 L hk (hSb _ D) (λi hi=>{a[ia+i],Y0m a _ B,hSa _ D}) J (λi j hij hj=>Zz46 sa J J) λk hkn hl hr2=>?_);dsimp only;let above:∀y∈a.j.drop (ia+k),RK O key b[ib] y:=λy hy=>by
  let(j,j1,j2,ey):=Zm9 hy
  have:=hr2 (j-ia) J J
  unfold beyB at this;rw[show ia+(j-ia)=j by lia,Zq2 ey]at this;simp only[Y0t,Y2H,Y3a]at this;show Y0p this
 cases hk0:k>0
 ·show Zt hk0 ?_;let m2:MI O key a.j b.j (out++a.H ia (ia+k)) (ia+k) ib:=m.a sa k (λx hx y hy=>by
   let(j,hj,ex):=Zz413 hx
   have:=hl j hj
   unfold beyB at this;rw[Zq2 ex]at this;simp only[Y0t,Y2H,Y1X]at this;show Yy03 this<|Zo13 sb eb y hy) (by rw[Yy02,Zj9])
  cases d1:ia+k+1=a.l
  ·show Zt (by simpa using d1) (YG<|hd _ _<|m2.last sa sb λx hx y hy=>h2 x (Y0l hx) y<|by rwa[show a.l-1=ia+k by lia])
  show ZN (by simpa using d1) ?_;cases d2:ia+k=a.l
  ·show Zt (by simpa using d2) (YG<|hd _ _<|m2.done sa sb<|.inr<|YH<|by simp[d2])
  ·show ZN (by simpa using d2) (Zp4 L hk hSa hSb sa sb h2 eb XS hib m2 above hd λo2 i2 j2 g3 a3 b3 m' e1 e2 e3=>hn o2 i2 j2 g3 a3 b3 m' e1 e2 XS)
 ·show ZN hk0 (Zp4 L hk hSa hSb sa sb h2 eb hia hib m (λy hy=>above y<|by rwa[show k=0 by omega]) hd λo2 i2 j2 g3 a3 b3 m' e1 e2 e3=>hn o2 i2 j2 g3 a3 b3 m' e1 e2 J)
end
abbrev LoT:=Option (Array Keyed)×Array Keyed×Nat×Nat×Nat×Nat
def loB1(a b:Array Keyed)(g:Nat)(c:LoT):(StateT SortSt Sem (ForInStep LoT)):=elem' b c.2.2.2.1 >>= λy=>elem' a c.2.2.1 >>= λx=>lt' y x >>= λr=>match r with
 |some t=>if t=true then elem' b c.2.2.2.1 >>= λy=>
    if (c.2.2.2.1+1 == b.l)=true then pure (.done (some<|c.2.1.push y++a.H c.2.2.1 a.l++b.H (c.2.2.2.1+1) b.l,c.2.1.push y,c.2.2.1,c.2.2.2.1+1,0,c.2.2.2.2.2+1))
    else if c.2.2.2.2.2+1 >= g then pure (.done (none,c.2.1.push y,c.2.2.1,c.2.2.2.1+1,0,c.2.2.2.2.2+1)) else pure (.yield (none,c.2.1.push y,c.2.2.1,c.2.2.2.1+1,0,c.2.2.2.2.2+1))
   else elem' a c.2.2.1 >>= λx=>
    if (c.2.2.1+1+1 == a.l)=true then pure (.done (some<|c.2.1.push x++b.H c.2.2.2.1 b.l++a.H (c.2.2.1+1) a.l,c.2.1.push x,c.2.2.1+1,c.2.2.2.1,c.2.2.2.2.1+1,0))
    else if c.2.2.2.2.1+1 >= g then pure (.done (none,c.2.1.push x,c.2.2.1+1,c.2.2.2.1,c.2.2.2.2.1+1,0)) else pure (.yield (none,c.2.1.push x,c.2.2.1+1,c.2.2.2.1,c.2.2.2.2.1+1,0))
 |_=>pure (.done (some<|c.2.1++a.H c.2.2.1 a.l++b.H c.2.2.2.1 b.l,c.2.1,c.2.2.1,c.2.2.2.1,c.2.2.2.2.1,c.2.2.2.2.2))
abbrev LoU:=Option (Array Keyed)×Array Keyed×Nat×Nat×Nat
def ZA10(a b:Array Keyed)(c:LoS):(StateT SortSt Sem (ForInStep LoS)):=if c.2.2.2.2.1>1 then Zt12 a b c.2.1 c.2.2.1 c.2.2.2.1 (c.2.2.2.2.1-1) c.2.2.2.2.2.1 c.2.2.2.2.2.2 else Zt12 a b c.2.1 c.2.2.1 c.2.2.2.1 c.2.2.2.2.1 c.2.2.2.2.2.1 c.2.2.2.2.2.2
def Zz515(c:LoS):(StateT SortSt Sem (ForInStep LoU)):=match c.1 with
 |some r=>pure (.done (some r,c.2.1,c.2.2.1,c.2.2.2.1,c.2.2.2.2.1))
 |none=>ZS11 (c.2.2.2.2.1+1) >>= λ_=>pure (.yield (none,c.2.1,c.2.2.1,c.2.2.2.1,c.2.2.2.2.1+1))
def Zs12(a b:Array Keyed)(g:Nat)(c:LoT):(StateT SortSt Sem (ForInStep LoU)):=match c.1 with
 |some r=>pure (.done (some r,c.2.1,c.2.2.1,c.2.2.2.1,g))
 |none=>liftM (rule "list.sort.gallop") >>= λ_=>forIn [0:a.l+b.l] ((none,c.2.1,c.2.2.1,c.2.2.2.1,g+1,c.2.2.2.2.1,c.2.2.2.2.2):LoS) (λ_ s=>ZA10 a b s) >>= Zz515
def ZY7(a b:Array Keyed)(c:LoU):(StateT SortSt Sem (ForInStep LoU)):=forIn [0:a.l+b.l] ((none,c.2.1,c.2.2.1,c.2.2.2.1,0,0):LoT) (λ_ s=>loB1 a b c.2.2.2.2 s) >>= Zs12 a b c.2.2.2.2
def Zz415(c:LoU):(StateT SortSt Sem (Array Keyed)):=match c.1 with
 |some r=>pure r
 |none=>liftM (unsupported "internal:list.sort.merge-bound":Sem (Array Keyed))
def Za14(a b:Array Keyed):(StateT SortSt Sem (Array Keyed)):=liftM (rule "list.sort.merge-lo") >>= λ_=>elem' b 0 >>= λx=>
 if (1 == b.l)=true then pure (#[x]++a.H 0 a.l++b.H 1 b.l) else if (0+1 == a.l)=true then pure (#[x]++b.H 1 b.l++a.H 0 a.l)
 else get >>= λst=>forIn [0:a.l+b.l] ((none,#[x],0,1,gallopOf st):LoU) (λ_ c=>ZY7 a b c) >>= Zz415
def Zw11{α β γ:Type _}(f:α->β->γ){a a':α}{b b':β}(h:a=a')(k:b=b'):f a b=f a' b':=by subst h k;rfl
def ZW1{α:Type _}{c:Prop}[Decidable c]{a a' b b':α}(h:a=a')(k:b=b'):(if c then a else b)=if c then a' else b':=by subst h k;rfl
def Zz315(a b:Array Keyed):Zw6 a b=Za14 a b:=by
 unfold Za14;show YI (Bind.bind _) (funext λ_=>YI (Bind.bind _)<|funext λx=>?_);show ZW1 Z (ZW1 Z<|YI (Bind.bind _)<|funext λst=>?_);show Zw11 Bind.bind (YI (forIn _ _)<|funext λ_=>funext λc=>?_) ?_
 ·unfold ZY7;show Zw11 Bind.bind (YI (forIn _ _)<|funext λ_=>funext λc=>?_) ?_
  ·unfold loB1;show YI (Bind.bind _) (funext λ_=>YI (Bind.bind _)<|funext λ_=>YI (Bind.bind _)<|funext λr=>?_);cases r with
   |none=>rfl
   |some r=>rfl
  ·funext c
   unfold Zs12;let(c1,c2):=c;cases c1 with
   |some r=>rfl
   |none=>
    show YI (Bind.bind _) (funext λ_=>Zw11 Bind.bind (YI (forIn _ _)<|funext λ_=>funext λc=>?_) ?_)
    ·unfold ZA10;show ZW1 ?_ ?_
     ·unfold Zt12;show YI (Bind.bind _) (funext λ_=>YI (Bind.bind _)<|funext λ_=>YI (Bind.bind _)<|funext λr=>?_);cases r with
      |none=>rfl
      |some r=>rfl
     ·rfl
    ·funext c
     let(c1,c2):=c;cases c1<;>rfl
 ·funext c
  let(c1,c2):=c;cases c1<;>rfl
section
variable{a b:Array Keyed}{st:SortSt}
def ZE9(L:LtOk M A E s O key kd S){out:Array Keyed}{ja jb ac bc g:Nat}{R:ForInStep LoT->SortSt->Prop}(hk:kindOf st=kd)(hSa:∀x∈a.j,S x)(hSb:∀x∈b.j,S x)(sa:a.j.C (RK O key))(sb:b.j.C (RK O key))(h2:∀x∈b.j,∀y∈a.j.drop (a.l-1),RK O key x y)(hja:ja+1<a.l)(hjb:jb<b.l)(m:MI O key a.j b.j out ja jb)
  (hd:∀r z,ZZ1 O key a.j b.j r->R (.done (some r,z)) st)(hn:∀o2 i2 j2 a3 b3,MI O key a.j b.j o2 i2 j2->i2+1<a.l->j2<b.l->i2+j2=ja+jb+1->R (.done (none,o2,i2,j2,a3,b3)) st/\R (.yield (none,o2,i2,j2,a3,b3)) st):wpS M A E s (loB1 a b g (none,out,ja,jb,ac,bc)) R st:=by
 let ea:a[ja]?=some a[ja]:=Y0m a ja B;let eb:b[jb]?=some b[jb]:=Y0m b jb hjb
 unfold loB1;show Yq (Zr eb<|Yq<|Zr ea<|Yq<|L _ _ _ _ (hSb _ D) (hSa _ D) hk ?_);dsimp only;cases hc:O.blt (key b[jb]) (key a[ja]) with
 |true=>
  show Zt Z (Yq<|Zr eb ?_);let m':MI O key a.j b.j (out.push b[jb]) ja (jb+1):=m.b sb 1 (by rw[Zz98 eb];intro x hx y hy;rw[Yy2.S hx];show Yy03 (Y0p hc)<|Zo13 sa ea y hy) (by rw[Zz98 eb,Yy09])
  cases d1:jb+1=b.l
  ·show Zt (by simpa using d1) (YG<|hd _ _<|m'.done sa sb<|.inl<|YH<|by simp[d1])
  ·show ZN (by simpa using d1) ?_;let z:=λa3 b3=>hn _ _ _ a3 b3 m' hja J J
   cases d2:bc+1 >= g
   ·show Zt d2 (YG (z _ _).1)
   ·show ZN d2 (YG (z _ _).2)
 |false=>
  show ZN D (Yq<|Zr ea ?_);let m':MI O key a.j b.j (out.push a[ja]) (ja+1) jb:=m.a sa 1 (by rw[Zz98 ea];intro x hx y hy;rw[Yy2.S hx];show Yy03 hc<|Zo13 sb eb y hy) (by rw[Zz98 ea,Yy09])
  cases d1:ja+1+1=a.l
  ·show Zt (by simpa using d1) (YG<|hd _ _<|m'.last sa sb λx hx y hy=>h2 x (Y0l hx) y<|by rwa[show a.l-1=ja+1 by omega])
  ·show ZN (by simpa using d1) ?_;let z:=λa3 b3=>hn _ _ _ a3 b3 m' B hjb J
   cases d2:ac+1 >= g
   ·show Zt d2 (YG (z _ _).1)
   ·show ZN d2 (YG (z _ _).2)
def Zc3(st st':SortSt):(Prop):=kindOf st'=kindOf st/\arrOf st'=arrOf st/\pendingOf st'=pendingOf st/\failedOf st'=failedOf st
def ZR5(L:LtOk M A E s O key kd S){st':SortSt}{out:Array Keyed}{ia ib g:Nat}{R:ForInStep LoU->SortSt->Prop}(hk:kindOf st=kd)(hSa:∀x∈a.j,S x)(hSb:∀x∈b.j,S x)(sa:a.j.C (RK O key))(sb:b.j.C (RK O key))(h2:∀x∈b.j,∀y∈a.j.drop (a.l-1),RK O key x y)(hia:ia+1<a.l)(hib:ib<b.l)(m:MI O key a.j b.j out ia ib)(ks:Zc3 st st')
  (hd:∀r z st2,ZZ1 O key a.j b.j r->Zc3 st st2->R (.done (some r,z)) st2)(hn:∀o2 i2 j2 g3 st2,MI O key a.j b.j o2 i2 j2->i2+1<a.l->j2<b.l->ia+ib+1<=i2+j2->Zc3 st st2->R (.yield (none,o2,i2,j2,g3)) st2):wpS M A E s (ZY7 a b (none,out,ia,ib,g)) R st':=by
 unfold ZY7;show Yq (Y2k (Y0A
  (I:=λy c st2=>st2=st'/\∃out ja jb ac bc,c=(none,out,ja,jb,ac,bc)/\MI O key a.j b.j out ja jb/\ja+1<a.l/\jb<b.l/\ja+jb=ia+ib+y)
  (Q:=λc st2=>st2=st'/\((∃r z,c=(some r,z)/\ZZ1 O key a.j b.j r)\/∃out ja jb ac bc,c=(none,out,ja,jb,ac,bc)/\MI O key a.j b.j out ja jb/\ja+1<a.l/\jb<b.l/\ia+ib+1<=ja+jb)) ?_ ?_ {Z,_,_,_,_,_,Z,m,hia,hib,Z}) ?_)
 ·rintro y c st2 _ hy ⟨rfl,out,ja,jb,ac,bc,rfl,m,hja,hjb,hr⟩;show ZE9 L (ks.1.m hk) hSa hSb sa sb h2 hja hjb m (λr z hr=>{Z,.inl ⟨r,z,Z,hr⟩}) λo2 i2 j2 a3 b3 m' e1 e2 e3=>{{Z,.inr {_,_,_,_,_,Z,m',e1,e2,J}},{Z,_,_,_,_,_,Z,m',e1,e2,J}}
 ·rintro c st2 ⟨rfl,out,ja,jb,ac,bc,rfl,m,hja,hjb,hr⟩;exists Z,.inr {_,_,_,_,_,Z,m,hja,hjb,J}
 rintro c st2 ⟨rfl,hcase⟩;rcases hcase with ⟨r,z,rfl,hr⟩|⟨out,ja,jb,ac,bc,rfl,m,hja,hjb,hr⟩
 ·show YG (hd r _ _ hr ks)
 show Yq (wpS_lift<|Y1Q ⟨Z,?_⟩);show Yq (Y2k (Y0A
  (I:=λy c st3=>Zc3 st st3/\∃out ia' ib' g ac bc,c=(none,out,ia',ib',g,ac,bc)/\MI O key a.j b.j out ia' ib'/\ia'+1<a.l/\ib'<b.l/\a.l-ia'+(b.l-ib')<=a.l-ja+(b.l-jb))
  (Q:=λc st3=>Zc3 st st3/\((∃r z,c=(some r,z)/\ZZ1 O key a.j b.j r)\/∃out ia' ib' g ac bc,c=(none,out,ia',ib',g,ac,bc)/\MI O key a.j b.j out ia' ib'/\ia'+1<a.l/\ib'<b.l/\a.l-ia'+(b.l-ib')<=a.l-ja+(b.l-jb))) ?_ (λc st3 z=>{z.1,.inr z.2}) {ks,_,_,_,_,_,_,Z,m,hja,hjb,Yy8 _}) ?_)
 ·rintro y c st3 _ hy ⟨k1,out,ia',ib',g',ac',bc',rfl,m,hia',hib',hr'⟩;unfold ZA10;cases hg:g'>1
  ·show Zt hg (Zo4 L (k1.1.m hk) hSa hSb sa sb h2 hia' hib' m (λr z hr=>{k1,.inl ⟨r,z,Z,hr⟩}) λo2 i2 j2 g3 a3 b3 m3 e1 e2 e3=>{{k1,.inr {o2,i2,j2,g3,a3,b3,Z,m3,e1,e2,Yv e3 hr'}},{k1,o2,i2,j2,g3,a3,b3,Z,m3,e1,e2,Yv e3 hr'}})
  ·show ZN hg (Zo4 L (k1.1.m hk) hSa hSb sa sb h2 hia' hib' m (λr z hr=>{k1,.inl ⟨r,z,Z,hr⟩}) λo2 i2 j2 g3 a3 b3 m3 e1 e2 e3=>{{k1,.inr {o2,i2,j2,g3,a3,b3,Z,m3,e1,e2,Yv e3 hr'}},{k1,o2,i2,j2,g3,a3,b3,Z,m3,e1,e2,Yv e3 hr'}})
 ·rintro c st3 ⟨k1,hcase⟩;rcases hcase with ⟨r,z,rfl,hr3⟩|⟨out3,ia3,ib3,g3,ac3,bc3,rfl,m3,hia3,hib3,hr3⟩
  ·show YG (hd r _ _ hr3 k1)
  ·show Yq (ZJ2<|YG<|hn out3 ia3 ib3 (g3+1) _ m3 hia3 hib3 J k1)
def Zv5(L:LtOk M A E s O key kd S){Q:Array Keyed->SortSt->Prop}(hk:kindOf st=kd)(hSa:∀x∈a.j,S x)(hSb:∀x∈b.j,S x)(sa:a.j.C (RK O key))(sb:b.j.C (RK O key))(ha:1<=a.l)(hb:1<=b.l)
  (h1:∀x∈b.j.G 1,∀y∈a.j,RK O key x y)(h2:∀x∈b.j,∀y∈a.j.drop (a.l-1),RK O key x y)
  (h:∀r g,ZZ1 O key a.j b.j r->Q r (SortSt.mk' (kindOf st) (arrOf st) (pendingOf st) g<|failedOf st)):wpS M A E s (Zw6 a b) Q st:=by
 let bump:∀st',Zc3 st st'->∀r,ZZ1 O key a.j b.j r->Q r st':=λst' ⟨e1,e2,e3,e4⟩ r hr=>by
  have:=h r (gallopOf st') hr
  rwa[<-e1,<-e2,<-e3,<-e4]at this
 let k0:Zc3 st st:=⟨Z,Z,Z,Z⟩;let e0:b[0]?=some b[0]:=Y0m b 0 hb
 let m0:MI O key a.j b.j #[] 0 0:={List.C.nil,λ_ h=>(by cases h),λ_ h=>(by cases h),D};let m1:MI O key a.j b.j #[b[0]] 0 1:=m0.b sb 1 (by rwa[Y1G,Y1G]) (by rw[Zz98 e0];rfl)
 rw[Zz315];unfold Za14;show Yq (wpS_lift<|Y1Q ⟨Z,?_⟩);show Yq (Zr e0 ?_);cases c1:1=b.l
 ·show Zt (by simpa using c1) (YG<|bump st k0 _<|m1.done sa sb<|.inl<|YH<|by simp[<-c1])
 show ZN (by simpa using c1) ?_;cases c2:0+1=a.l
 ·show Zt (by simpa using c2) (YG<|bump st k0 _<|m1.last sa sb λx hx y hy=>h2 x (Y0l hx) y<|by rwa[show a.l-1=0 by lia])
 show ZN (by simpa using c2) (Yq<|Y3v ?_);show Yq (Y2k (Y0A
  (I:=λx c st'=>Zc3 st st'/\∃out ia ib g,c=(none,out,ia,ib,g)/\MI O key a.j b.j out ia ib/\ia+1<a.l/\ib<b.l/\x<=ia+ib)
  (Q:=λc st'=>Zc3 st st'/\∃r,c.1=some r/\ZZ1 O key a.j b.j r) ?_ ?_ {k0,_,_,_,_,Z,m1,J,J,J}) ?_)
 ·rintro x c st' _ hx ⟨k1,out,ia,ib,g,rfl,m,hia,hib,hrem⟩;show ZR5 L hk hSa hSb sa sb h2 hia hib m k1 (λr z st2 hr k2=>⟨k2,r,Z,hr⟩) λo2 i2 j2 g3 st2 m' e1 e2 e3 k2=>{k2,_,_,_,_,Z,m',e1,e2,J}
 ·rintro c st' ⟨k1,out,ia,ib,g,rfl,m,hia,hib,hrem⟩;lia
 ·rintro⟨c1,c2⟩ st' ⟨k1,r,hc,hr⟩;cases hc;show YG (bump st' k1 r hr)
end
end
section
variable{M:Model}{A:Around}{E:Value->Shared->Prop}{s:Shared}{O:KeyOrd}{key:Keyed->O.α}{kd:SortKind}{S:Keyed->Prop}
structure MH(O:KeyOrd)(key:Keyed->O.α)(la lb:List Keyed)(out:Array Keyed)(na nb:Nat):Prop where
 so:out.j.C λx y=>RK O key y x
 oa:∀x∈la.G na,∀y∈out.j,RK O key x y
 ob:∀x∈lb.G nb,∀y∈out.j,RK O key x y
 pm:(la.G na++lb.G nb++out.j).Perm (la++lb)
def Zy4{α:Type}{la:List α}(hi:i<=n){y:α}(h:y∈la.G i):y∈la.G n:=by rw[show i=min i n by lia,<-Y3T]at h;show Yy00 h
def Zi2{la:List Keyed}(hi:i<=n):la.G n=la.G i++(la.G n).drop i:=by let e:=(Y0o i<|la.G n).symm;rwa[Y3T,show min i n=i by lia]at e
def ZI8{la:List Keyed}(h:la.C (RK O key))(hi:i<=n):((la.G n).drop i).C (RK O key)/\∀x∈la.G i,∀y∈(la.G n).drop i,RK O key x y:=by let h1:(la.G n).C (RK O key):=h.sublist (Y0Q n la);rw[Zi2 hi,Yz]at h1;exists h1.2.1,h1.2.2
def MH.a(h:MH O key la lb out na nb)(sa:la.C (RK O key))(hi:i<=na)(hx:∀x∈lb.G nb,∀y∈(la.G na).drop i,RK O key x y)(e:out'.j=out.j++((la.G na).drop i).reverse):MH O key la lb out' i nb:=by
 let(p1,p2):=ZI8 sa hi;exists ?_,?_,?_,?_
 ·rw[e,Yz];exists h.so,Y1Y.X p1,λx hx y hy=>h.oa y (Y0l<|Y0u.S hy) x hx
 ·intro x hx' y hy;rw[e,Yb,Y0u]at hy;rcases hy with hy|hy
  ·show h.oa x (Zy4 hi hx') y hy
  ·show p2 x hx' y hy
 ·intro x hx' y hy;rw[e,Yb,Y0u]at hy;rcases hy with hy|hy
  ·show h.ob x hx' y hy
  ·show hx x hx' y hy
 ·show List.Perm.m ?_ h.pm;rw[e]
  conv=>rhs;rw[Zi2 hi]
  rw[Yw,Yw,Yw];show Y0j _ ?_;show List.Perm.m (l₂:=lb.G nb++(((la.G na).drop i)++out.j)) ?_ ?_
  ·show Y0j _ (Y1u.m<|(Y2y _).append_right _)
  ·rw[<-Yw,<-Yw];show Y1s _ Y1u
def MH.b(h:MH O key la lb out na nb)(sb:lb.C (RK O key))(hi:i<=nb)(hx:∀x∈la.G na,∀y∈(lb.G nb).drop i,RK O key x y)(e:out'.j=out.j++((lb.G nb).drop i).reverse):MH O key la lb out' na i:=by
 let(p1,p2):=ZI8 sb hi;exists ?_,?_,?_,?_
 ·rw[e,Yz];exists h.so,Y1Y.X p1,λx hx y hy=>h.ob y (Y0l<|Y0u.S hy) x hx
 ·intro x hx' y hy;rw[e,Yb,Y0u]at hy;rcases hy with hy|hy
  ·show h.oa x hx' y hy
  ·show hx x hx' y hy
 ·intro x hx' y hy;rw[e,Yb,Y0u]at hy;rcases hy with hy|hy
  ·show h.ob x (Zy4 hi hx') y hy
  ·show p2 x hx' y hy
 ·show List.Perm.m ?_ h.pm;rw[e]
  conv=>rhs;rw[Zi2 hi]
  rw[Yw,Yw,Yw];show Y0j _ (Y0j _ ?_);show Y1u.m ((Y2y _).append_right _)
def Zq13(a:Array Keyed)(n:Nat):(a.H 0 n).j=a.j.G n:=by rw[Y1k,Y0P,Y1G,Y2V]
def Zk9(a:Array Keyed)(i n:Nat):((a.H i n).reverse).j=((a.j.G n).drop i).reverse:=by rw[Yy32,Y1k,Y0P,List.drop_take]
def MH.ab{a b out:Array Keyed}(h:MH O key a.j b.j out na nb)(sa:a.j.C (RK O key))(sb:b.j.C (RK O key))(hx:∀x∈a.j.G na,∀y∈b.j.G nb,RK O key x y):ZZ1 O key a.j b.j (a.H 0 na++b.H 0 nb++out.reverse):=by
 unfold ZZ1;rw[Yy02,Yy02,Zq13,Zq13,Yy32];exists ?_,(Y0j _<|Y2y _).m h.pm;rw[Yz,Yz];exists {sa.sublist<|Y0Q _ _,sb.sublist<|Y0Q _ _,hx},Y1Y.X h.so,λx hx' y hy=>?_;rw[Yb]at hx';rcases hx' with hx'|hx'
 ·show h.oa x hx' y (Y0u.S hy)
 ·show h.ob x hx' y (Y0u.S hy)
def MH.ba{a b out:Array Keyed}(h:MH O key a.j b.j out na nb)(sa:a.j.C (RK O key))(sb:b.j.C (RK O key))(hx:∀x∈b.j.G nb,∀y∈a.j.G na,RK O key x y):ZZ1 O key a.j b.j (b.H 0 nb++a.H 0 na++out.reverse):=by
 unfold ZZ1;rw[Yy02,Yy02,Zq13,Zq13,Yy32];exists ?_,((Y0j _<|Y2y _).m (Y1s _ Y1u)).m h.pm;rw[Yz,Yz];exists {sb.sublist<|Y0Q _ _,sa.sublist<|Y0Q _ _,hx},Y1Y.X h.so,λx hx' y hy=>?_;rw[Yb]at hx';rcases hx' with hx'|hx'
 ·show h.ob x hx' y (Y0u.S hy)
 ·show h.oa x hx' y (Y0u.S hy)
def Zt11{a:Array Keyed}{i n:Nat}{p:Keyed}(hn:n=i+1)(h:a[i]?=some p):((a.j.G n).drop i).reverse=[p]:=by
 subst hn;let h':a.j[i]?=some p:=by simpa using h
 rw[List.drop_take,Y2D];let(hi,e):=Yy1.S h';rw[Y0s hi,e];rfl
def ZE7{a:Array Keyed}{i n:Nat}{p y:Keyed}(hn:n=i+1)(h:a[i]?=some p)(hy:y∈(a.j.G n).drop i):y=p:=by
 have:=Zt11 hn h
 rw[<-Y0u,this]at hy;show Yy2.S hy
def Zz06{a:Array Keyed}{x:Keyed}(h:x∈a.j.G n):∃j,j<n/\j<a.l/\a[j]?=some x:=by
 let(j,hj):=YC h;let hjl:=(Yy1.S hj).1
 rw[Yh]at hjl;rw[Y0D,if_pos XS]at hj;exists j,B,by simp at hjl;lia,by simpa using hj
def Zz813{a:Array Keyed}{i n:Nat}{x:Keyed}(h:x∈(a.j.G n).drop i):∃j,i<=j/\j<n/\j<a.l/\a[j]?=some x:=by
 let(j,hj):=YC h;let hjl:=(Yy1.S hj).1
 rw[YV,Yh]at hjl;rw[Y0W,Y0D,if_pos XS]at hj;exists i+j,J,B,by simp at hjl;grind,by simpa using hj
def Zh13{a:Array Keyed}{i n:Nat}{p:Keyed}(sa:a.j.C (RK O key))(hn:n=i+1)(h:a[i]?=some p):∀x∈a.j.G n,RK O key x p:=λx hx=>by
 let(j,j1,j2,ej):=Zz06 hx;let hi:i<a.l:=(Y3J.S h).1
 have:=Zz46 sa (i:=j) (j:=i) J hi
 rwa[Zq2 ej,Zq2 h]at this
abbrev HiS:=Option (Array Keyed)×Nat×Nat×Array Keyed×Nat×Nat×Nat
def Zm13(a b out:Array Keyed)(na nb g ac bc:Nat):(StateT SortSt Sem (ForInStep HiS)):=elem' a (na-1) >>= λx=>
 if (na-1 == 0)=true then pure (.done (some<|a.H 0 (na-1)++b.H 0 nb++(out.push x).reverse,na-1,nb,out.push x,g,ac,bc))
 else if (decide (ac<7)&&decide (bc<7))=true then pure (.done (none,na-1,nb,out.push x,g,ac,bc)) else pure (.yield (none,na-1,nb,out.push x,g,ac,bc))
def Zn13(a b out:Array Keyed)(na nb g ac bc:Nat):(StateT SortSt Sem (ForInStep HiS)):=elem' b (nb-1) >>= λx=>
 if (nb-1 == 1)=true then pure (.done (some<|b.H 0 (nb-1)++a.H 0 na++(out.push x).reverse,na,nb-1,out.push x,g,ac,bc))
 else elem' a (na-1) >>= λy=>ZG2 true y b 0 (nb-1) (nb-1-1) >>= λr=>match r with
  |some k=>if nb-1-k>0 then
    if (k == 1)=true then pure (.done (some<|b.H 0 k++a.H 0 na++(out.push x++(b.H k<|nb-1).reverse).reverse,na,k,out.push x++(b.H k<|nb-1).reverse,g,ac,nb-1-k))
    else if (k == 0)=true then pure (.done (some<|a.H 0 na++b.H 0 k++(out.push x++(b.H k<|nb-1).reverse).reverse,na,k,out.push x++(b.H k<|nb-1).reverse,g,ac,nb-1-k))
    else Zm13 a b (out.push x++(b.H k<|nb-1).reverse) na k g ac (nb-1-k)
   else Zm13 a b (out.push x) na (nb-1) g ac (nb-1-k)
  |_=>pure (.done (some<|a.H 0 na++b.H 0 (nb-1)++(out.push x).reverse,na,nb-1,out.push x,g,ac,bc))
def ZK12(a b out:Array Keyed)(na nb g ac bc:Nat):(StateT SortSt Sem (ForInStep HiS)):=ZS11 g >>= λ_=>elem' b (nb-1) >>= λx=>ZG2 false x a 0 na (na-1) >>= λr=>match r with
 |some k=>if na-k>0 then
   if (k == 0)=true then pure (.done (some<|a.H 0 k++b.H 0 nb++(out++(a.H k na).reverse).reverse,k,nb,out++(a.H k na).reverse,g,na-k,bc))
   else Zn13 a b (out++(a.H k na).reverse) k nb g (na-k) bc
  else Zn13 a b out na nb g (na-k) bc
 |_=>pure (.done (some<|a.H 0 na++b.H 0 nb++out.reverse,na,nb,out,g,ac,bc))
section
variable{a b out:Array Keyed}{na nb:Nat}{st:SortSt}{R:ForInStep HiS->SortSt->Prop}
def Zq4{pa:Keyed}(sa:a.j.C (RK O key))(sb:b.j.C (RK O key))(ea:a[na-1]?=some pa)(hna:1<=na)(hna1:na<=a.l)(hnb:2<=nb)(hnb1:nb<=b.l)(m:MH O key a.j b.j out na nb)(below:∀x∈b.j.G nb,RK O key x pa)
  (hd:∀r z,ZZ1 O key a.j b.j r->R (.done (some r,z)) st)(hn:∀i2 j2 o2 g3 a3 b3,MH O key a.j b.j o2 i2 j2->1<=i2->i2<=a.l->2<=j2->j2<=b.l->i2+j2<=na+nb->R (.done (none,i2,j2,o2,g3,a3,b3)) st/\R (.yield (none,i2,j2,o2,g3,a3,b3)) st):wpS M A E s (Zm13 a b out na nb g ac bc) R st:=by
 let en:na=na-1+1:=XS;unfold Zm13;show Yq (Zr ea ?_);let m5:MH O key a.j b.j (out.push pa) (na-1) nb:=m.a sa J (λx hx y hy=>by rw[ZE7 en ea hy];show below x hx) (by rw[Zt11 en ea,Yy09])
 cases d5:na-1=0
 ·show Zt (by simpa using d5) (YG<|hd _ _<|m5.ab sa sb<|by rw[d5];intro _ h;cases h)
 ·show ZN (by simpa using d5) ?_;let z:=λg3 a3 b3=>hn _ _ _ g3 a3 b3 m5 J J hnb hnb1 J
  split
  ·show YG (z _ _ _).1
  ·show YG (z _ _ _).2
def Zs4(L:LtOk M A E s O key kd S){pb:Keyed}(hk:kindOf st=kd)(hSa:∀x∈a.j,S x)(hSb:∀x∈b.j,S x)(sa:a.j.C (RK O key))(sb:b.j.C (RK O key))(h1:∀x∈b.j.G 1,∀y∈a.j,RK O key x y)(eb:b[nb-1]?=some pb)(hna:1<=na)(hna1:na<=a.l)(hnb:2<=nb)(hnb1:nb<=b.l)(m:MH O key a.j b.j out na nb)(above:∀x∈a.j.G na,RK O key x pb)
  (hd:∀r z,ZZ1 O key a.j b.j r->R (.done (some r,z)) st)(hn:∀i2 j2 o2 g3 a3 b3,MH O key a.j b.j o2 i2 j2->1<=i2->i2<=a.l->2<=j2->j2<=b.l->i2+j2<=na+nb->R (.done (none,i2,j2,o2,g3,a3,b3)) st/\R (.yield (none,i2,j2,o2,g3,a3,b3)) st):wpS M A E s (Zn13 a b out na nb g ac bc) R st:=by
 let firstB:∀{i j},i=1->∀x∈b.j.G i,∀y∈a.j.G j,RK O key x y:=λ{i j} e x hx y hy=>h1 x (by rwa[e]at hx) y (Yy00 hy);let en:nb=nb-1+1:=XS
 unfold Zn13;show Yq (Zr eb ?_);let m3:MH O key a.j b.j (out.push pb) na (nb-1):=m.b sb J (λx hx y hy=>by rw[ZE7 en eb hy];show above x hx) (by rw[Zt11 en eb,Yy09])
 cases d3:nb-1=1
 ·show Zt (by simpa using d3) (YG<|hd _ _<|m3.ba sa sb<|firstB d3)
 show ZN (by simpa using d3) ?_;let ha:na-1<a.l:=XS
 let ea:a[na-1]?=some a[na-1]:=Y0m a _ ha;let en2:na=na-1+1:=B
 show Yq (Zr ea ?_);show Yq (Zb1 L hk (hSa _ D) (λi hi=>{b[0+i],Y0m b _ B,hSb _ D}) J (λi j hij hj=>Zz46 sb J J) λkk hkk hl2 hr2'=>?_);dsimp only;let below:∀x∈b.j.G kk,RK O key x a[na-1]:=λx hx=>by
  let(j,j1,j2,ex):=Zz06 hx
  have:=hl2 j j1
  unfold beyB at this;rw[Y0n,Zq2 ex]at this;show Y0p this
 cases hkk0:nb-1-kk>0
 ·show Zt hkk0 ?_;let m4:MH O key a.j b.j (out.push pb++(b.H kk<|nb-1).reverse) na kk:=m3.b sb hkk (λx hx y hy=>by
   let(j,j1,j2,j3,ey):=Zz813 hy
   have:=hr2' j j1 j2
   unfold beyB at this;rw[Y0n,Zq2 ey]at this;show Yy03 (Zh13 sa en2 ea x hx) this) (by rw[Yy02,Zk9])
  cases d4:kk=1
  ·show Zt (by simpa using d4) (YG<|hd _ _<|m4.ba sa sb<|firstB d4)
  show ZN (by simpa using d4) ?_;cases d6:kk=0
  ·show Zt (by simpa using d6) (YG<|hd _ _<|m4.ab sa sb<|by rw[d6];intro _ _ _ h;cases h)
  ·show ZN (by simpa using d6) (Zq4 sa sb ea hna hna1 J J m4 below hd λi2 j2 o2 g3 a3 b3 m' e1 e2 e3 e4 e5=>hn i2 j2 o2 g3 a3 b3 m' e1 e2 e3 e4 J)
 ·have ekk:kk=nb-1:=J;show ZN hkk0 (Zq4 sa sb ea hna hna1 J J m3 (λx hx=>below x<|by rwa[ekk]) hd λi2 j2 o2 g3 a3 b3 m' e1 e2 e3 e4 e5=>hn i2 j2 o2 g3 a3 b3 m' e1 e2 e3 e4 J)
def Zr4(L:LtOk M A E s O key kd S)(hk:kindOf st=kd)(hSa:∀x∈a.j,S x)(hSb:∀x∈b.j,S x)(sa:a.j.C (RK O key))(sb:b.j.C (RK O key))(h1:∀x∈b.j.G 1,∀y∈a.j,RK O key x y)(hna:1<=na)(hna1:na<=a.l)(hnb:2<=nb)(hnb1:nb<=b.l)(m:MH O key a.j b.j out na nb)
  (hd:∀r z,ZZ1 O key a.j b.j r->R (.done (some r,z)) (SortSt.mk' (kindOf st) (arrOf st) (pendingOf st) g<|failedOf st))(hn:∀i2 j2 o2 g3 a3 b3,MH O key a.j b.j o2 i2 j2->1<=i2->i2<=a.l->2<=j2->j2<=b.l->i2+j2<=na+nb->R (.done (none,i2,j2,o2,g3,a3,b3)) (SortSt.mk' (kindOf st) (arrOf st) (pendingOf st) g<|failedOf st)/\R (.yield (none,i2,j2,o2,g3,a3,b3)) (SortSt.mk' (kindOf st) (arrOf st) (pendingOf st) g<|failedOf st)):wpS M A E s (ZK12 a b out na nb g ac bc) R st:=by
 unfold ZK12;show Yq (ZJ2 ?_);let hb:nb-1<b.l:=XS
 let eb:b[nb-1]?=some b[nb-1]:=Y0m b _ hb;let en:nb=nb-1+1:=B
 show Yq (Zr eb ?_);show Yq (Zb1 L hk (hSb _ D) (λi hi=>{a[0+i],Y0m a _ B,hSa _ D}) B (λi j hij hj=>Zz46 sa B J) λk hkn hl hr2=>?_);dsimp only;let above:∀x∈a.j.G k,RK O key x b[nb-1]:=λx hx=>by
  let(j,j1,j2,ex):=Zz06 hx
  have:=hl j j1
  unfold beyB at this;rw[Y0n,Zq2 ex]at this;simp only[Y0t,Y2H,Y1X]at this;show this
 cases hk0:na-k>0
 ·show Zt hk0 ?_;let m2:MH O key a.j b.j (out++(a.H k na).reverse) k nb:=m.a sa hkn (λx hx y hy=>by
   let(j,j1,j2,j3,ey):=Zz813 hy
   have:=hr2 j j1 j2
   unfold beyB at this;rw[Y0n,Zq2 ey]at this;simp only[Y0t,Y2H,Y3a]at this;show Yy03 (Zh13 sb en eb x hx)<|Y0p this) (by rw[Yy02,Zk9])
  cases d1:k=0
  ·show Zt (by simpa using d1) (YG<|hd _ _<|m2.ab sa sb<|by rw[d1];intro _ h;cases h)
  ·show ZN (by simpa using d1) (Zs4 L hk hSa hSb sa sb h1 eb J J hnb hnb1 m2 above hd λi2 j2 o2 g3 a3 b3 m' e1 e2 e3 e4 e5=>hn i2 j2 o2 g3 a3 b3 m' e1 e2 e3 e4 J)
 ·have ek:k=na:=XS;show ZN hk0 (Zs4 L hk hSa hSb sa sb h1 eb hna hna1 hnb hnb1 m (λx hx=>above x<|by rwa[ek]) hd hn)
end
abbrev HiT:=Option (Array Keyed)×Nat×Nat×Array Keyed×Nat×Nat
def hiB1(a b:Array Keyed)(g:Nat)(c:HiT):(StateT SortSt Sem (ForInStep HiT)):=elem' b (c.2.2.1-1) >>= λy=>elem' a (c.2.1-1) >>= λx=>lt' y x >>= λr=>match r with
 |some t=>if t=true then elem' a (c.2.1-1) >>= λx=>
    if (c.2.1-1 == 0)=true then pure (.done (some<|a.H 0 (c.2.1-1)++b.H 0 c.2.2.1++(c.2.2.2.1.push x).reverse,c.2.1-1,c.2.2.1,c.2.2.2.1.push x,c.2.2.2.2.1+1,0))
    else if c.2.2.2.2.1+1 >= g then pure (.done (none,c.2.1-1,c.2.2.1,c.2.2.2.1.push x,c.2.2.2.2.1+1,0)) else pure (.yield (none,c.2.1-1,c.2.2.1,c.2.2.2.1.push x,c.2.2.2.2.1+1,0))
   else elem' b (c.2.2.1-1) >>= λy=>
    if (c.2.2.1-1 == 1)=true then pure (.done (some<|b.H 0 (c.2.2.1-1)++a.H 0 c.2.1++(c.2.2.2.1.push y).reverse,c.2.1,c.2.2.1-1,c.2.2.2.1.push y,0,c.2.2.2.2.2+1))
    else if c.2.2.2.2.2+1 >= g then pure (.done (none,c.2.1,c.2.2.1-1,c.2.2.2.1.push y,0,c.2.2.2.2.2+1)) else pure (.yield (none,c.2.1,c.2.2.1-1,c.2.2.2.1.push y,0,c.2.2.2.2.2+1))
 |_=>pure (.done (some<|a.H 0 c.2.1++b.H 0 c.2.2.1++c.2.2.2.1.reverse,c.2.1,c.2.2.1,c.2.2.2.1,c.2.2.2.2.1,c.2.2.2.2.2))
abbrev HiU:=Option (Array Keyed)×Nat×Nat×Array Keyed×Nat
def ZQ10(a b:Array Keyed)(c:HiS):(StateT SortSt Sem (ForInStep HiS)):=if c.2.2.2.2.1>1 then ZK12 a b c.2.2.2.1 c.2.1 c.2.2.1 (c.2.2.2.2.1-1) c.2.2.2.2.2.1 c.2.2.2.2.2.2 else ZK12 a b c.2.2.2.1 c.2.1 c.2.2.1 c.2.2.2.2.1 c.2.2.2.2.2.1 c.2.2.2.2.2.2
def Zd15(c:HiS):(StateT SortSt Sem (ForInStep HiU)):=match c.1 with
 |some r=>pure (.done (some r,c.2.1,c.2.2.1,c.2.2.2.1,c.2.2.2.2.1))
 |none=>ZS11 (c.2.2.2.2.1+1) >>= λ_=>pure (.yield (none,c.2.1,c.2.2.1,c.2.2.2.1,c.2.2.2.2.1+1))
def ZJ12(a b:Array Keyed)(g:Nat)(c:HiT):(StateT SortSt Sem (ForInStep HiU)):=match c.1 with
 |some r=>pure (.done (some r,c.2.1,c.2.2.1,c.2.2.2.1,g))
 |none=>liftM (rule "list.sort.gallop") >>= λ_=>forIn [0:a.l+b.l] ((none,c.2.1,c.2.2.1,c.2.2.2.1,g+1,c.2.2.2.2.1,c.2.2.2.2.2):HiS) (λ_ s=>ZQ10 a b s) >>= Zd15
def Zz88(a b:Array Keyed)(c:HiU):(StateT SortSt Sem (ForInStep HiU)):=forIn [0:a.l+b.l] ((none,c.2.1,c.2.2.1,c.2.2.2.1,0,0):HiT) (λ_ s=>hiB1 a b c.2.2.2.2 s) >>= ZJ12 a b c.2.2.2.2
def Zc15(c:HiU):(StateT SortSt Sem (Array Keyed)):=match c.1 with
 |some r=>pure r
 |none=>liftM (unsupported "internal:list.sort.merge-bound":Sem (Array Keyed))
def Zl14(a b:Array Keyed):(StateT SortSt Sem (Array Keyed)):=liftM (rule "list.sort.merge-hi") >>= λ_=>elem' a (a.l-1) >>= λx=>
 if (a.l-1 == 0)=true then pure (a.H 0 (a.l-1)++b.H 0 b.l++(#[x]:Array Keyed).reverse) else if (b.l == 1)=true then pure (b.H 0 b.l++a.H 0 (a.l-1)++(#[x]:Array Keyed).reverse)
 else get >>= λst=>forIn [0:a.l+b.l] ((none,a.l-1,b.l,#[x],gallopOf st):HiU) (λ_ c=>Zz88 a b c) >>= Zc15
def Zb15(a b:Array Keyed):Zx6 a b=Zl14 a b:=by
 unfold Zl14;show YI (Bind.bind _) (funext λ_=>YI (Bind.bind _)<|funext λx=>?_);show ZW1 Z (ZW1 Z<|YI (Bind.bind _)<|funext λst=>?_);show Zw11 Bind.bind (YI (forIn _ _)<|funext λ_=>funext λc=>?_) ?_
 ·unfold Zz88;show Zw11 Bind.bind (YI (forIn _ _)<|funext λ_=>funext λc=>?_) ?_
  ·unfold hiB1;show YI (Bind.bind _) (funext λ_=>YI (Bind.bind _)<|funext λ_=>YI (Bind.bind _)<|funext λr=>?_);cases r with
   |none=>rfl
   |some r=>rfl
  ·funext c
   unfold ZJ12;let(c1,c2):=c;cases c1 with
   |some r=>rfl
   |none=>
    show YI (Bind.bind _) (funext λ_=>Zw11 Bind.bind (YI (forIn _ _)<|funext λ_=>funext λc=>?_) ?_)
    ·unfold ZQ10;show ZW1 ?_ ?_
     ·unfold ZK12;show YI (Bind.bind _) (funext λ_=>YI (Bind.bind _)<|funext λ_=>YI (Bind.bind _)<|funext λr=>?_);cases r with
      |none=>rfl
      |some r=>rfl
     ·rfl
    ·funext c
     let(c1,c2):=c;cases c1<;>rfl
 ·funext c
  let(c1,c2):=c;cases c1<;>rfl
section
variable{a b:Array Keyed}{st:SortSt}
def ZF9(L:LtOk M A E s O key kd S){out:Array Keyed}{ja jb ac bc g:Nat}{R:ForInStep HiT->SortSt->Prop}(hk:kindOf st=kd)(hSa:∀x∈a.j,S x)(hSb:∀x∈b.j,S x)(sa:a.j.C (RK O key))(sb:b.j.C (RK O key))(h1:∀x∈b.j.G 1,∀y∈a.j,RK O key x y)(hja:1<=ja)(hja1:ja<=a.l)(hjb:2<=jb)(hjb1:jb<=b.l)(m:MH O key a.j b.j out ja jb)
  (hd:∀r z,ZZ1 O key a.j b.j r->R (.done (some r,z)) st)(hn:∀i2 j2 o2 a3 b3,MH O key a.j b.j o2 i2 j2->1<=i2->i2<=a.l->2<=j2->j2<=b.l->i2+j2+1=ja+jb->R (.done (none,i2,j2,o2,a3,b3)) st/\R (.yield (none,i2,j2,o2,a3,b3)) st):wpS M A E s (hiB1 a b g (none,ja,jb,out,ac,bc)) R st:=by
 let ha:ja-1<a.l:=B;let hb:jb-1<b.l:=B
 let ea:a[ja-1]?=some a[ja-1]:=Y0m a _ ha;let eb:b[jb-1]?=some b[jb-1]:=Y0m b _ hb
 let en:ja=ja-1+1:=XS;let en2:jb=jb-1+1:=B
 unfold hiB1;show Yq (Zr eb<|Yq<|Zr ea<|Yq<|L _ _ _ _ (hSb _ D) (hSa _ D) hk ?_);dsimp only;cases hc:O.blt (key b[jb-1]) (key a[ja-1]) with
 |true=>
  show Zt Z (Yq<|Zr ea ?_);let m':MH O key a.j b.j (out.push a[ja-1]) (ja-1) jb:=m.a sa B (λx hx y hy=>by rw[ZE7 en ea hy];show Yy03 (Zh13 sb en2 eb x hx)<|Y0p hc) (by rw[Zt11 en ea,Yy09])
  cases d1:ja-1=0
  ·show Zt (by simpa using d1) (YG<|hd _ _<|m'.ab sa sb<|by rw[d1];intro _ h;cases h)
  ·show ZN (by simpa using d1) ?_;let z:=λa3 b3=>hn _ _ _ a3 b3 m' J B hjb hjb1 J
   cases d2:ac+1 >= g
   ·show Zt d2 (YG (z _ _).1)
   ·show ZN d2 (YG (z _ _).2)
 |false=>
  show ZN D (Yq<|Zr eb ?_);let m':MH O key a.j b.j (out.push b[jb-1]) ja (jb-1):=m.b sb B (λx hx y hy=>by rw[ZE7 en2 eb hy];show Yy03 (Zh13 sa en ea x hx) hc) (by rw[Zt11 en2 eb,Yy09])
  cases d1:jb-1=1
  ·show Zt (by simpa using d1) (YG<|hd _ _<|m'.ba sa sb λx hx y hy=>h1 x (by rwa[d1]at hx) y<|Yy00 hy)
  ·show ZN (by simpa using d1) ?_;let z:=λa3 b3=>hn _ _ _ a3 b3 m' hja hja1 J J J
   cases d2:bc+1 >= g
   ·show Zt d2 (YG (z _ _).1)
   ·show ZN d2 (YG (z _ _).2)
def ZS5(L:LtOk M A E s O key kd S){st':SortSt}{out:Array Keyed}{na nb g:Nat}{R:ForInStep HiU->SortSt->Prop}(hk:kindOf st=kd)(hSa:∀x∈a.j,S x)(hSb:∀x∈b.j,S x)(sa:a.j.C (RK O key))(sb:b.j.C (RK O key))(h1:∀x∈b.j.G 1,∀y∈a.j,RK O key x y)(hna:1<=na)(hna1:na<=a.l)(hnb:2<=nb)(hnb1:nb<=b.l)(m:MH O key a.j b.j out na nb)(ks:Zc3 st st')
  (hd:∀r z st2,ZZ1 O key a.j b.j r->Zc3 st st2->R (.done (some r,z)) st2)(hn:∀i2 j2 o2 g3 st2,MH O key a.j b.j o2 i2 j2->1<=i2->i2<=a.l->2<=j2->j2<=b.l->i2+j2+1<=na+nb->Zc3 st st2->R (.yield (none,i2,j2,o2,g3)) st2):wpS M A E s (Zz88 a b (none,na,nb,out,g)) R st':=by
 unfold Zz88;show Yq (Y2k (Y0A
  (I:=λy c st2=>st2=st'/\∃ja jb out ac bc,c=(none,ja,jb,out,ac,bc)/\MH O key a.j b.j out ja jb/\1<=ja/\ja<=a.l/\2<=jb/\jb<=b.l/\ja+jb+y=na+nb)
  (Q:=λc st2=>st2=st'/\((∃r z,c=(some r,z)/\ZZ1 O key a.j b.j r)\/∃ja jb out ac bc,c=(none,ja,jb,out,ac,bc)/\MH O key a.j b.j out ja jb/\1<=ja/\ja<=a.l/\2<=jb/\jb<=b.l/\ja+jb+1<=na+nb)) ?_ ?_ {Z,_,_,_,_,_,Z,m,hna,hna1,hnb,hnb1,Z}) ?_)
 ·rintro y c st2 _ hy ⟨rfl,ja,jb,out,ac,bc,rfl,m,hja,hja1,hjb,hjb1,hr⟩;show ZF9 L (ks.1.m hk) hSa hSb sa sb h1 hja hja1 hjb hjb1 m (λr z hr=>{Z,.inl ⟨r,z,Z,hr⟩}) λi2 j2 o2 a3 b3 m' e1 e2 e3 e4 e5=>{{Z,.inr {_,_,_,_,_,Z,m',e1,e2,e3,e4,J}},{Z,_,_,_,_,_,Z,m',e1,e2,e3,e4,J}}
 ·rintro c st2 ⟨rfl,ja,jb,out,ac,bc,rfl,m,hja,hja1,hjb,hjb1,hr⟩;exists Z,.inr {_,_,_,_,_,Z,m,hja,hja1,hjb,hjb1,J}
 rintro c st2 ⟨rfl,hcase⟩;rcases hcase with ⟨r,z,rfl,hr⟩|⟨ja,jb,out,ac,bc,rfl,m,hja,hja1,hjb,hjb1,hr⟩
 ·show YG (hd r _ _ hr ks)
 show Yq (wpS_lift<|Y1Q ⟨Z,?_⟩);show Yq (Y2k (Y0A
  (I:=λy c st3=>Zc3 st st3/\∃na' nb' out g ac bc,c=(none,na',nb',out,g,ac,bc)/\MH O key a.j b.j out na' nb'/\1<=na'/\na'<=a.l/\2<=nb'/\nb'<=b.l/\na'+nb'<=ja+jb)
  (Q:=λc st3=>Zc3 st st3/\((∃r z,c=(some r,z)/\ZZ1 O key a.j b.j r)\/∃na' nb' out g ac bc,c=(none,na',nb',out,g,ac,bc)/\MH O key a.j b.j out na' nb'/\1<=na'/\na'<=a.l/\2<=nb'/\nb'<=b.l/\na'+nb'<=ja+jb)) ?_ (λc st3 z=>{z.1,.inr z.2}) {ks,_,_,_,_,_,_,Z,m,hja,hja1,hjb,hjb1,Yy8 _}) ?_)
 ·rintro y c st3 _ hy ⟨k1,na',nb',out,g',ac',bc',rfl,m,hna',hna1',hnb',hnb1',hr'⟩;unfold ZQ10;cases hg:g'>1
  ·show Zt hg (Zr4 L (k1.1.m hk) hSa hSb sa sb h1 hna' hna1' hnb' hnb1' m (λr z hr=>{k1,.inl ⟨r,z,Z,hr⟩}) λi2 j2 o2 g3 a3 b3 m3 e1 e2 e3 e4 e5=>{{k1,.inr {i2,j2,o2,g3,a3,b3,Z,m3,e1,e2,e3,e4,Yv e5 hr'}},{k1,i2,j2,o2,g3,a3,b3,Z,m3,e1,e2,e3,e4,Yv e5 hr'}})
  ·show ZN hg (Zr4 L (k1.1.m hk) hSa hSb sa sb h1 hna' hna1' hnb' hnb1' m (λr z hr=>{k1,.inl ⟨r,z,Z,hr⟩}) λi2 j2 o2 g3 a3 b3 m3 e1 e2 e3 e4 e5=>{{k1,.inr {i2,j2,o2,g3,a3,b3,Z,m3,e1,e2,e3,e4,Yv e5 hr'}},{k1,i2,j2,o2,g3,a3,b3,Z,m3,e1,e2,e3,e4,Yv e5 hr'}})
 ·rintro c st3 ⟨k1,hcase⟩;rcases hcase with ⟨r,z,rfl,hr3⟩|⟨na3,nb3,out3,g3,ac3,bc3,rfl,m3,e1,e2,e3,e4,hr3⟩
  ·show YG (hd r _ _ hr3 k1)
  ·show Yq (ZJ2<|YG<|hn na3 nb3 out3 (g3+1) _ m3 e1 e2 e3 e4 J k1)
def Zw5(L:LtOk M A E s O key kd S){Q:Array Keyed->SortSt->Prop}(hk:kindOf st=kd)(hSa:∀x∈a.j,S x)(hSb:∀x∈b.j,S x)(sa:a.j.C (RK O key))(sb:b.j.C (RK O key))(ha:1<=a.l)(hb:1<=b.l)
  (h1:∀x∈b.j.G 1,∀y∈a.j,RK O key x y)(h2:∀x∈b.j,∀y∈a.j.drop (a.l-1),RK O key x y)
  (h:∀r g,ZZ1 O key a.j b.j r->Q r (SortSt.mk' (kindOf st) (arrOf st) (pendingOf st) g<|failedOf st)):wpS M A E s (Zx6 a b) Q st:=by
 let bump:∀st',Zc3 st st'->∀r,ZZ1 O key a.j b.j r->Q r st':=λst' ⟨e1,e2,e3,e4⟩ r hr=>by
  have:=h r (gallopOf st') hr
  rwa[<-e1,<-e2,<-e3,<-e4]at this
 let k0:Zc3 st st:=⟨Z,Z,Z,Z⟩;let hl:a.l-1<a.l:=B
 let e0:a[a.l-1]?=some a[a.l-1]:=Y0m a _ hl;let ta:a.j.G a.l=a.j:=YF D
 let tb:b.j.G b.l=b.j:=YF D;let m0:MH O key a.j b.j #[] a.l b.l:={List.C.nil,λ_ _ _ h=>(by cases h),λ_ _ _ h=>(by cases h),by rw[ta,tb];simp}
 let m1:MH O key a.j b.j #[a[a.l-1]] (a.l-1) b.l:=m0.a sa J (by rwa[ta,tb]) (by rw[Zt11 XS e0];rfl);rw[Zb15];unfold Zl14;show Yq (wpS_lift<|Y1Q ⟨Z,?_⟩);show Yq (Zr e0 ?_);cases c1:a.l-1=0
 ·show Zt (by simpa using c1) (YG<|bump st k0 _<|m1.ab sa sb<|by rw[c1];intro _ h;cases h)
 show ZN (by simpa using c1) ?_;cases c2:b.l=1
 ·show Zt (by simpa using c2) (YG<|bump st k0 _<|m1.ba sa sb λx hx y hy=>h1 x (by rwa[c2]at hx) y<|Yy00 hy)
 show ZN (by simpa using c2) (Yq<|Y3v ?_);show Yq (Y2k (Y0A
  (I:=λx c st'=>Zc3 st st'/\∃na nb out g,c=(none,na,nb,out,g)/\MH O key a.j b.j out na nb/\1<=na/\na<=a.l/\2<=nb/\nb<=b.l/\na+nb+x<=a.l+b.l)
  (Q:=λc st'=>Zc3 st st'/\∃r,c.1=some r/\ZZ1 O key a.j b.j r) ?_ ?_ {k0,_,_,_,_,Z,m1,J,B,J,Yy8 _,J}) ?_)
 ·rintro x c st' _ hx ⟨k1,na,nb,out,g,rfl,m,e1,e2,e3,e4,hrem⟩;show ZS5 L hk hSa hSb sa sb h1 e1 e2 e3 e4 m k1 (λr z st2 hr k2=>⟨k2,r,Z,hr⟩) λi2 j2 o2 g3 st2 m' f1 f2 f3 f4 f5 k2=>{k2,_,_,_,_,Z,m',f1,f2,f3,f4,J}
 ·rintro c st' ⟨k1,na,nb,out,g,rfl,m,e1,e2,e3,e4,hrem⟩;lia
 ·rintro⟨c1,c2⟩ st' ⟨k1,r,hc,hr⟩;cases hc;show YG (bump st' k1 r hr)
end
end
section
variable{M:Model}{A:Around}{E:Value->Shared->Prop}{s:Shared}{O:KeyOrd}{key:Keyed->O.α}{kd:SortKind}{S:Keyed->Prop}
def ZB11{σ:Type}{st x:σ}{Q:PUnit->σ->Prop}(h:Q ⟨⟩ x):wpS M A E s (set x:StateT σ Sem PUnit) Q st:=by unfold wpS;rw[StateT.run_set];show Yi ⟨Z,h⟩
def Zz37:∀(r:List Keyed)(o k:Nat)(arr:Array Keyed),o+k+r.f<=arr.l->
  ((r.zipIdx k).foldl (λa x=>match x with|(p,j)=>a.setIfInBounds (o+j) p) arr).j=arr.j.G (o+k)++r++arr.j.drop (o+k+r.f)
 |[],o,k,arr,h=>D
 |p::r,o,k,arr,h=>by
  rw[Yu]at h;let ih:=Zz37 r o (k+1) (arr.setIfInBounds (o+k) p) (by rw[Array.size_setIfInBounds];lia)
  rw[List.zipIdx_cons,Y2i];show ih.m ?_;rw[Y3I,Yu];let hl:o+k<arr.j.f:=by simp;lia
  rw[List.drop_set_of_lt J,show o+(k+1)=o+k+1 by lia,List.take_set,List.take_succ_eq_append_getElem hl,Y2P _ _ (by rw[Yh];lia)];simp[show o+k+1+r.length=o+k+(r.length+1) by lia,Y3B (by simpa using Y1x hl:o+k<=arr.size)]
def Zx5(L:LtOk M A E s O key kd S){st:SortSt}{i sa na sb nb pw pw2:Nat}{P X Y T:List Keyed}{PA PB:List (Nat×Nat×Nat)}{Q:Bool->SortSt->Prop}(hk:kindOf st=kd)(hf:failedOf st=none)(ea:(arrOf st).j=P++X++Y++T)(hS:∀x∈(arrOf st).j,S x)
  (ep:(pendingOf st).j=PA++(sa,na,pw)::(sb,nb,pw2)::PB)(hi:PA.f=i)(h1:P.f=sa)(h2:X.f=na)(h3:sb=sa+na)(h4:Y.f=nb)(h5:1<=na)(h6:1<=nb)(sX:X.C (RK O key))(sY:Y.C (RK O key))
  (h:∀XZ st',XZ.C (RK O key)->XZ.Perm (X++Y)->(arrOf st').j=P++XZ++T->(pendingOf st').j=PA++(sa,na+nb,pw)::PB->kindOf st'=kd->failedOf st'=none->Q true st'):wpS M A E s (mergeAt' i) Q st:=by
 let hsz:(arrOf st).l=P.f+X.f+Y.f+T.f:=by rw[<-YD,ea];simp;lia
 let atX:∀j,j<na->∃p,(arrOf st)[sa+j]?=some p/\X[j]?=some p/\S p:=λj hj=>by let e:X[j]?=some X[j]:=Yy0 B;show{X[j],?_,e,hS _<|by rw[ea];simp};rw[<-YJ,ea,Yw,Yw,Yj J,Yp J,show sa+j-P.f=j by lia,e]
 let atY:∀j,j<nb->∃p,(arrOf st)[sb+j]?=some p/\Y[j]?=some p/\S p:=λj hj=>by let e:Y[j]?=some Y[j]:=Yy0 B;show{Y[j],?_,e,hS _<|by rw[ea];simp};rw[<-YJ,ea,Yw,Yj (by simp;lia),Yp (by simp;lia),show sb+j-(P++X).f=j by simp;lia,e]
 let srtL:∀{l:List Keyed}(_:l.C (RK O key)){i j:Nat}{p q:Keyed},i<=j->l[i]?=some p->l[j]?=some q->RK O key p q:=λ{l} sl {i j p q} hij ei ej=>by
  let(h1,rfl):=Yy1.S ei;let(h2,rfl):=Yy1.S ej;cases e:i=j
  ·subst e;show Y0N _
  ·show Yy04.S sl i j h1 h2 J
 let keX:∀{j p},X[j]?=some p->j<na->ke key (arrOf st) (sa+j)=key p:=λ{j p} e hj=>by let(q,e1,e2,_):=atX j hj;rw[e]at e2;cases e2;show Zq2 e1
 let keY:∀{j p},Y[j]?=some p->j<nb->ke key (arrOf st) (sb+j)=key p:=λ{j p} e hj=>by let(q,e1,e2,_):=atY j hj;rw[e]at e2;cases e2;show Zq2 e1
 let pe:((((pendingOf st).setIfInBounds i (sa,na+nb,pw)).eraseIdxIfInBounds (i+1)).j)=PA++(sa,na+nb,pw)::PB:=by
  let e1:((pendingOf st).setIfInBounds i (sa,na+nb,pw)).j=PA++(sa,na+nb,pw)::(sb,nb,pw2)::PB:=by rw[Y3I,ep,Y2P _ _ J,hi,Yy19];rfl
  unfold Array.eraseIdxIfInBounds;let hlt:i+1<((pendingOf st).setIfInBounds i (sa,na+nb,pw)).l:=by rw[<-YD,e1];simp;lia
  rw[dif_pos hlt,Array.toList_eraseIdx,e1,List.eraseIdx_append_of_length_le J,show i+1-PA.f=1 by grind];rfl
 let gi:(pendingOf st)[i]?=some (sa,na,pw):=by rw[<-YJ,ep,Yj B,show i-PA.f=0 by grind];rfl
 let gi1:(pendingOf st)[i+1]?=some (sb,nb,pw2):=by rw[<-YJ,ep,Yj J,show i+1-PA.f=1 by grind];rfl
 let(p0,q1,q2,q3):=atY 0 h6;let fY:∀y∈Y,RK O key p0 y:=λy hy=>by let(j,ej):=YC hy;show srtL sY (Yk j) q2 ej
 unfold mergeAt';show Yq (Y3v ?_);rw[gi,gi1];dsimp only;show Yq (ZB11 ?_);show Yq (Zr q1 ?_);show Yq (Zb1 L hk q3 (λj hj=>by let(p,a,_,b):=atX j hj;exists p,a,b) J (λj l hjl hl=>?_) λk hkn hl hr=>?_)
 ·let(p,e1,e2,_):=atX j J;let(q,e3,e4,_):=atX l hl;rw[Zq2 e1,Zq2 e3];show srtL sX hjl e2 e4
 dsimp only;let lowX:∀x∈X.G k,RK O key x p0:=λx hx=>by
  let(j,ej):=YC hx;let hj:=(Yy1.S ej).1
  rw[Yh]at hj;rw[Y0D,if_pos J]at ej
  have:=hl j B
  unfold beyB at this;rw[keX ej XS]at this;simp only[Y0t,Y2H,Y1X]at this;show this
 let highX:∀x∈X.drop k,RK O key p0 x:=λx hx=>by
  let(j,ej):=YC hx;let hj:=(Yy1.S ej).1
  rw[YV]at hj;rw[Y0W]at ej
  have:=hr (k+j) J XS
  unfold beyB at this;rw[keX ej B]at this;simp only[Y0t,Y2H,Y3a]at this;show Y0p this
 cases c1:na-k=0
 ·rw[if_pos (by simpa using c1)];show YG (h (X++Y) _ ?_ (List.Perm.refl _) (by change(arrOf st).j=_;rw[ea];simp) pe hk hf);rw[Yz];exists sX,sY,λx hx y hy=>Yy03 (lowX x<|by rwa[YF XS])<|fY y hy
 rw[if_neg (by simpa using c1)];let(pz,z1,z2,z3):=atX (na-1) XS;rw[show sa+(na-1)=sa+k+(na-k)-1 by lia]at z1;show Yq (Zr z1 ?_);show Yq (Zb1 L hk z3 (λj hj=>by let(p,a,_,b):=atY j hj;exists p,a,b) XS (λj l hjl hl=>?_) λkb hkb hl2 hr2=>?_)
 ·let(p,e1,e2,_):=atY j J;let(q,e3,e4,_):=atY l hl;rw[Zq2 e1,Zq2 e3];show srtL sY hjl e2 e4
 dsimp only;let lastX:∀x∈X,RK O key x pz:=λx hx=>by
  let(j,ej):=YC hx;let hj:=(Yy1.S ej).1
  show srtL sX XS ej z2
 let lowY:∀y∈Y.G kb,RK O key y pz:=λy hy=>by
  let(j,ej):=YC hy;let hj:=(Yy1.S ej).1
  rw[Yh]at hj;rw[Y0D,if_pos J]at ej
  have:=hl2 j B
  unfold beyB at this;rw[keY ej XS]at this;show Y0p this
 let highY:∀y∈Y.drop kb,RK O key pz y:=λy hy=>by
  let(j,ej):=YC hy;let hj:=(Yy1.S ej).1
  rw[YV]at hj;rw[Y0W]at ej
  have:=hr2 (kb+j) J XS
  unfold beyB at this;rwa[keY ej B]at this
 cases c2:kb=0
 ·rw[if_pos (by simpa using c2)];show YG (h (X++Y) _ ?_ (List.Perm.refl _) (by change(arrOf st).j=_;rw[ea];simp) pe hk hf);rw[Yz];exists sX,sY,λx hx y hy=>Yy03 (lastX x hx)<|highY y<|by rwa[c2,Y1G]
 rw[if_neg (by simpa using c2)];let eX:((arrOf st).H (sa+k) sb).j=X.drop k:=by rw[Y1k,Y0P,ea,Yw,Yw,Y3o,YH J,Y1b,Yy21 J,Y0U (by rw[YV];grind),show sa+k-P.f=k by grind];show YF (by rw[YV];omega)
 let eY:((arrOf st).H sb (sb+kb)).j=Y.G kb:=by rw[Y1k,Y0P,ea,Yw,Y3o,YH (by simp;omega),Y1b,show sb-(P++X).f=0 by simp;omega,Y1G,Y0U B,Y2D]
 let zX:((arrOf st).H (sa+k) sb).l=na-k:=by rw[<-YD,eX,YV];omega
 let zY:((arrOf st).H sb (sb+kb)).l=kb:=by rw[<-YD,eY,Yh];omega
 let pX:=Y0o k X;let pY:=Y0o kb Y
 let sX2:(X.drop k).C (RK O key):=sX.sublist (Y1W _ _);let sY1:(Y.G kb).C (RK O key):=sY.sublist (Y0Q _ _)
 let cX:∀x∈X.G k,∀y∈X.drop k,RK O key x y:=by
  have:=sX
  rw[<-pX,Yz]at this;show this.2.2
 let cY:∀x∈Y.G kb,∀y∈Y.drop kb,RK O key x y:=by
  have:=sY
  rw[<-pY,Yz]at this;show this.2.2
 let hd1:∀x∈((arrOf st).H sb (sb+kb)).j.G 1,∀y∈((arrOf st).H (sa+k) sb).j,RK O key x y:=λx hx y hy=>by
  rw[eY,Y3T,show min 1 kb=1 by omega]at hx;rw[eX]at hy
  have:x=p0:=by
   obtain⟨y0,l,e⟩:∃y0 l,Y=y0::l:=by
    cases hY:Y with
    |nil=>rw[hY]at h4;simp at h4;omega
    |cons y0 l=>exists y0,l,Z
   rw[e]at hx q2;simp at hx q2;rw[hx,q2]
  rw[this];show highX y hy
 let hd2:∀x∈((arrOf st).H sb (sb+kb)).j,∀y∈((arrOf st).H (sa+k) sb).j.drop (((arrOf st).H (sa+k) sb).l-1),RK O key x y:=λx hx y hy=>by
  rw[eY]at hx;rw[eX,zX,Y2v,show k+(na-k-1)=na-1 by omega]at hy
  have:y=pz:=by let(hlt,ez):=Yy1.S z2;rw[Y0s hlt,ez,YH B]at hy;show Yy2.S hy
  rw[this];show lowY x hx
 let fin:∀(r:Array Keyed)(g:Nat)(ar:Array Keyed),ar=arrOf st->ZZ1 O key ((arrOf st).H (sa+k) sb).j ((arrOf st).H sb (sb+kb)).j r->
   Q true (SortSt.mk' (kindOf st) (List.foldl (λa x=>match x with|(p,j)=>a.setIfInBounds (sa+k+j) p) ar r.j.zipIdx) (((pendingOf st).setIfInBounds i (sa,na+nb,pw)).eraseIdxIfInBounds (i+1)) g<|failedOf st):=by
  rintro r g _ rfl ⟨gs,gp⟩;rw[eX,eY]at gp;let rl:r.j.f=na-k+kb:=by rw[gp.length_eq,Yy3,YV,Yh];omega
  show h (X.G k++r.j++Y.drop kb) _ ?_ ?_ ?_ pe hk hf
  ·rw[Yz,Yz];exists {sX.sublist<|Y0Q _ _,gs,λx hx y hy=>?_},sY.sublist<|Y1W _ _,λx hx y hy=>?_
   ·rcases Yb.S (gp.mem_iff.S hy) with hy|hy
    ·show cX x hx y hy
    ·show Yy03 (lowX x hx) (fY y<|Yy00 hy)
   ·rcases Yb.S hx with hx|hx
    ·show Yy03 (lastX x<|Yy00 hx) (highY y hy)
    ·rcases Yb.S (gp.mem_iff.S hx) with hx|hx
     ·show Yy03 (lastX x<|Y0l hx) (highY y hy)
     ·show cY x hx y hy
  ·have p1:(X.G k++r.j++Y.drop kb).Perm (X.G k++(X.drop k++Y.G kb)++Y.drop kb):=Y1s _ (Y0j _ gp);show p1.m (List.Perm.of_eq ?_);rw[<-Yw,pX,Yw,pY]
  ·have e:=Zz37 r.j (sa+k) 0 (arrOf st) (by rw[rl];omega);show e.m ?_;rw[Nat.add_zero,rl,ea];let t1:(P++X++Y++T).G (sa+k)=P++X.G k:=by rw[Yw,Yw,List.take_append,YF B,Y0U B,show sa+k-P.f=k by omega]
   let t2:(P++X++Y++T).drop (sa+k+(na-k+kb))=Y.drop kb++T:=by rw[Yw,Y3o,YH (by simp;omega),Y1b,show sa+k+(na-k+kb)-(P++X).f=kb by simp;omega,Yy21 B]
   rw[t1,t2];simp
 let hSx:∀x∈((arrOf st).H (sa+k) sb).j,S x:=λx hx=>hS x (by rw[eX]at hx;rw[ea];simp[Y0l hx]);let hSy:∀x∈((arrOf st).H sb (sb+kb)).j,S x:=λx hx=>hS x (by rw[eY]at hx;rw[ea];simp[Yy00 hx])
 let sx:((arrOf st).H (sa+k) sb).j.C (RK O key):=by rwa[eX]
 let sy:((arrOf st).H sb (sb+kb)).j.C (RK O key):=by rwa[eY]
 split
 ·show Yq (Zv5 L hk hSx hSy sx sy (by rw[zX];omega) (by rw[zY];omega) hd1 hd2 λr g hg=>?_);show Yq (Y2a<|Yq<|Y3v<|YG ?_);change Q (failedOf st).isNone _
  rw[hf]
  have:=fin r g _ Z hg
  rwa[hf]at this
 ·show Yq (Zw5 L hk hSx hSy sx sy (by rw[zX];omega) (by rw[zY];omega) hd1 hd2 λr g hg=>?_);show Yq (Y2a<|Yq<|Y3v<|YG ?_);change Q (failedOf st).isNone _
  rw[hf]
  have:=fin r g _ Z hg
  rwa[hf]at this
def Stp(lo:Nat)(st st':SortSt):(Prop):=kindOf st'=kindOf st/\failedOf st'=failedOf st/\pendingOf st'=pendingOf st/\(arrOf st').Perm (arrOf st)/\∀i,i<lo->(arrOf st')[i]?=(arrOf st)[i]?
def Stp.refl(lo:Nat)(st:SortSt):Stp lo st st:={Z,Z,Z,Y3K _,λ_ _=>rfl}
def Stp.trans{lo:Nat}{a b c:SortSt}(h:Stp lo a b)(k:Stp lo b c):Stp lo a c:={k.1.m h.1,k.2.1.m h.2.1,k.2.2.1.m h.2.2.1,k.2.2.2.1.m h.2.2.2.1,λi hi=>(k.2.2.2.2 i hi).m (h.2.2.2.2 i hi)}
def Stp.size{lo:Nat}{a b:SortSt}(h:Stp lo a b):(arrOf b).l=(arrOf a).l:=h.2.2.2.1.size_eq
def Stp.all{lo:Nat}{a b:SortSt}(h:Stp lo a b)(hS:∀x∈(arrOf a).j,S x):∀x∈(arrOf b).j,S x:=λx hx=>hS x ((Y0K.S h.2.2.2.1).mem_iff.S hx)
def Stp.mirror{lo i j:Nat}{st:SortSt}(hi:lo<=i)(hj:j<=(arrOf st).l):Stp lo st (setArr st (PyProof.Rows.mirror (arrOf st) i j ((j-i)/2))):=
 {Z,Z,Z,mirror_perm _ _ _ _,λk hk=>by change(PyProof.Rows.mirror (arrOf st) i j<|(j-i)/2)[k]?=_;rw[getElem?_mirror_all hj,if_neg J]}
def Stp.bubble{lo src d:Nat}{st:SortSt}(hs:src<(arrOf st).l)(hd:d<=src)(hlo:lo<=src-d):Stp lo st (setArr st (PyProof.Rows.bubble (arrOf st) src d)):=
 {Z,Z,Z,bubble_perm _ _ _,λk hk=>by change(PyProof.Rows.bubble (arrOf st) src d)[k]?=_;rw[getElem?_bubble hs d hd,if_neg J,if_neg J]}
def Zr2(h:xs[i]?=ys[j]?):ke key xs i=ke key ys j:=by unfold ke;rw[Y0c,Y0c,h]
def Zz01(hj:j<=xs.l)(k:Nat):ke key (mirror xs i j ((j-i)/2)) k=if i<=k/\k<j then ke key xs (i+j-1-k) else ke key xs k:=by
 let e:=getElem?_mirror_all (i:=i) hj k;split
 ·rename_i h;rw[if_pos h]at e;show Zr2 e
 ·rename_i h;rw[if_neg h]at e;show Zr2 e
def ZU4(hs:src<xs.l)(hd:d<=src)(k:Nat):ke key (bubble xs src d) k=if k=src-d then ke key xs src else if src-d<k/\k<=src then ke key xs (k-1) else ke key xs k:=by
 let e:=getElem?_bubble hs d hd k;split
 ·rename_i h;rw[if_pos h]at e;show Zr2 e
 ·rename_i h;rw[if_neg h]at e;split
  ·rename_i h;rw[if_pos h]at e;show Zr2 e
  ·rename_i h;rw[if_neg h]at e;show Zr2 e
def Zd3(L:LtOk M A E s O key kd S){st:SortSt}{Q:Option Bool->SortSt->Prop}(hk:kindOf st=kd)(hS:∀x∈(arrOf st).j,S x)(hi:i<(arrOf st).l)(hj:j<(arrOf st).l)
  (h:Q (some<|O.blt (ke key (arrOf st) i)<|ke key (arrOf st) j) st):wpS M A E s (ltAt' i j) Q st:=by
 let e1:=Y0m (arrOf st) i hi;let e2:=Y0m (arrOf st) j hj
 rw[Zq2 e1,Zq2 e2]at h;rw[ltAt'_eq];show Yq (Y3v ?_);show Yq (Zr e1<|Yq<|Zr e2 ?_);show L _ _ _ _ (hS _ D) (hS _ D) hk h
def Zz12{st:SortSt}{Q:Unit->SortSt->Prop}(h:Q () (setArr st (mirror (arrOf st) i j ((j-i)/2)))):wpS M A E s (reverseSlice' i j) Q st:=by rw[reverseSlice'_eq];show Y2a h
def SrtI(O:KeyOrd)(key:Keyed->O.α)(arr:Array Keyed)(lo k:Nat):(Prop):=∀i j,i<=j->j<k->O.kle (ke key arr<|lo+i) (ke key arr<|lo+j)
def NonI(O:KeyOrd)(key:Keyed->O.α)(arr:Array Keyed)(lo k:Nat):(Prop):=∀i j,i<=j->j<k->O.kle (ke key arr<|lo+j) (ke key arr<|lo+i)
def ascL(lo a nrem:Nat):(StateT SortSt Sem (Option (Option Nat)×Nat)):=forIn [a:nrem] ((none,a):Option (Option Nat)×Nat) λ_ r=>do
 let x <-ltAt' (lo+r.2) (lo+r.2-1)
 match x with
 |some b=>if b=true then pure (.done (none,r.2)) else pure (.yield (none,r.2+1))
 |_=>pure (.done (some none,r.2))
def Zh2(L:LtOk M A E s O key kd S){st:SortSt}{lo a nrem:Nat}{Q:Option (Option Nat)×Nat->SortSt->Prop}(hk:kindOf st=kd)(hS:∀x∈(arrOf st).j,S x)(hn:lo+nrem<=(arrOf st).l)(ha:1<=a)(han:a<=nrem)(hs:SrtI O key (arrOf st) lo a)
  (h:∀n,a<=n->n<=nrem->SrtI O key (arrOf st) lo n->(n=nrem\/O.klt (ke key (arrOf st)<|lo+n) (ke key (arrOf st)<|lo+n-1))->Q (none,n) st):wpS M A E s (ascL lo a nrem) Q st:=by
 unfold ascL;show Y0A (I:=λx c st'=>st'=st/\c=(none,x)/\SrtI O key (arrOf st) lo x) ?_ ?_ ⟨Z,Z,hs⟩
 ·rintro x c st' hax hxn ⟨rfl,rfl,hs'⟩;show Yq (Zd3 L hk hS J J ?_);dsimp only;cases e:O.blt (ke key (arrOf st')<|lo+x) (ke key (arrOf st')<|lo+x-1) with
  |true=>
   rw[if_pos Z];show YG (h x hax J hs'<|.inr e)
  |false=>
   rw[if_neg D];show YG {Z,Z,λi j hij hj=>?_};cases hjx:j<x
   ·show hs' i j hij hjx
   ·have hj':j=x:=J;subst hj';cases hi':i=j
    ·subst hi';show Y0N _
    ·have:=hs' i (j-1) J J
     rw[show lo+(j-1)=lo+j-1 by lia]at this;show Yy03 this e
 ·rintro c st' ⟨rfl,rfl,hs'⟩;rw[show max a nrem=nrem by lia]at hs' ⊢;show h nrem han (Yy8 _) hs' (.inl Z)
def ZJ14(lo n nrem:Nat):(StateT SortSt Sem (Option (Option Nat)×Nat×Nat)):=forIn [n:nrem] ((none,n,0):Option (Option Nat)×Nat×Nat) λ_ r=>do
 let x <-ltAt' (lo+r.2.1) (lo+r.2.1-1)
 match x with
 |some b=>
  if b=true then
   if r.2.2>0 then do
    reverseSlice' (lo+r.2.1-(r.2.2+1)) (lo+r.2.1)
    pure (.yield (none,r.2.1+1,0))
   else pure (.yield (none,r.2.1+1,0))
  else do
   let y <-ltAt' (lo+r.2.1-1) (lo+r.2.1)
   match y with
   |some c=>if c=true then pure (.done (none,r.2.1,r.2.2)) else pure (.yield (none,r.2.1+1,r.2.2+1))
   |_=>pure (.done (some none,r.2.1,r.2.2))
 |_=>pure (.done (some none,r.2.1,r.2.2))
def ZB(hj:j<=xs.l)(he:∀k,i<=k->k<j->ke key xs k=ke key xs (j-1))(k:Nat):ke key (mirror xs i j ((j-i)/2)) k=ke key xs k:=by
 rw[Zz01 hj];split
 ·rw[he _ B B,he k J J]
 ·rfl
def Zt4(L:LtOk M A E s O key kd S){st:SortSt}{lo n nrem:Nat}{Q:Option (Option Nat)×Nat×Nat->SortSt->Prop}(hk:kindOf st=kd)(hS:∀x∈(arrOf st).j,S x)(hn:lo+nrem<=(arrOf st).l)(h1:1<=n)(hnn:n<=nrem)(hs:NonI O key (arrOf st) lo n)
  (h:∀m neq st',Stp lo st st'->n<=m->m<=nrem->NonI O key (arrOf st') lo m->neq+1<=m->(∀i,lo+m-(neq+1)<=i->i<lo+m->ke key (arrOf st') i=ke key (arrOf st') (lo+m-1))->Q (none,m,neq) st'):wpS M A E s (ZJ14 lo n nrem) Q st:=by
 unfold ZJ14;show Y0A (I:=λx c st'=>∃neq,c=(none,x,neq)/\Stp lo st st'/\NonI O key (arrOf st') lo x/\neq+1<=x/\(∀i,lo+x-(neq+1)<=i->i<lo+x->ke key (arrOf st') i=ke key (arrOf st') (lo+x-1))) ?_ ?_ {0,Z,Stp.refl _ _,hs,J,λi h1 h2=>by congr 1;lia}
 ·rintro x c st' hax hxn ⟨neq,rfl,hst,hs',hq,he⟩;let hk':=hst.1.m hk
  let hS':=hst.all hS;let hz:=hst.l
  dsimp only;show Yq (Zd3 L hk' hS' J J ?_);dsimp only;cases e:O.blt (ke key (arrOf st')<|lo+x) (ke key (arrOf st')<|lo+x-1) with
  |true=>
   rw[if_pos Z];let non:∀ar,(∀k,k<=lo+x->ke key ar k=ke key (arrOf st') k)->NonI O key ar lo (x+1):=λar hke i j hij hj=>by
    rw[hke _ J,hke _ J];cases hjx:j<x
    ·show hs' i j hij hjx
    ·have hj':j=x:=J;subst hj';cases hi':i=j
     ·subst hi';show Y0N _
     ·have:=hs' i (j-1) J J
      rw[show lo+(j-1)=lo+j-1 by lia]at this;show Yy03 (Y0p e) this
   cases c:neq>0
   ·rw[if_pos c];show Yq (Zz12<|YG ⟨0,Z,hst.m<|Stp.mirror J J,?_,J,λi h1 h2=>by congr 1;lia⟩);show non _ λk hk=>ZB J he k
   ·rw[if_neg c];show YG {0,Z,hst,non _ λ_ _=>rfl,B,λi h1 h2=>by congr 1;omega}
  |false=>
   rw[if_neg D];show Yq (Zd3 L hk' hS' B B ?_);dsimp only;cases e2:O.blt (ke key (arrOf st')<|lo+x-1) (ke key (arrOf st')<|lo+x) with
   |true=>
    rw[if_pos Z];show YG (h x neq st' hst hax J hs' hq he)
   |false=>
    rw[if_neg D];let eq:ke key (arrOf st') (lo+x-1)=ke key (arrOf st') (lo+x):=O.total _ _ e2 e
    show YG {neq+1,Z,hst,λi j hij hj=>?_,J,λi h1 h2=>?_}
    ·by_cases hjx:j<x
     ·show hs' i j hij hjx
     ·have hj':j=x:=B;subst hj';cases hi':i=j
      ·subst hi';show Y0N _
      ·have:=hs' i (j-1) B B
       rwa[show lo+(j-1)=lo+j-1 by omega,eq]at this
    ·rw[show lo+(x+1)-1=lo+x by lia,<-eq];cases hi:i<lo+x
     ·show he i J hi
     ·rw[show i=lo+x by lia,eq]
 ·rintro c st' ⟨neq,rfl,hst,hs',hq,he⟩;rw[show max n nrem=nrem by lia]at *;show h nrem neq st' hst hnn (Yy8 _) hs' hq he
def ZT5(L:LtOk M A E s O key kd S){st:SortSt}{lo nrem:Nat}{Q:Option Nat->SortSt->Prop}(hk:kindOf st=kd)(hS:∀x∈(arrOf st).j,S x)(hn:lo+nrem<=(arrOf st).l)(h1:1<=nrem)
  (h:∀m st',Stp lo st st'->1<=m->m<=nrem->SrtI O key (arrOf st') lo m->Q (some m) st'):wpS M A E s (countRun' lo nrem) Q st:=by
 rw[countRun'_eq];let one:SrtI O key (arrOf st) lo 1:=λi j hij hj=>by
  have:i=j:=J
  subst this;show Y0N _
 show Yq (Zh2 L hk hS hn (Yy8 _) h1 one λn hn1 hn2 hs hx=>?_);dsimp only;cases c1:n=nrem
 ·rw[if_pos (by simpa using c1)];show YG (h n st (Stp.refl _ _) hn1 hn2 hs)
 rw[if_neg (by simpa using c1)];let hlt:O.klt (ke key (arrOf st)<|lo+n) (ke key (arrOf st)<|lo+n-1):=hx.resolve_left c1
 cases c2:n>1
 ·rw[if_pos c2];show Yq (Zd3 L hk hS J J ?_);dsimp only;cases e:O.blt (ke key (arrOf st) lo) (ke key (arrOf st)<|lo+n-1) with
  |true=>
   rw[if_pos Z];show YG (h n st (Stp.refl _ _) hn1 hn2 hs)
  |false=>
   rw[if_neg D];show Yq (Zz12 ?_);let t1:Stp lo st (setArr st<|mirror (arrOf st) lo (lo+n)<|(lo+n-lo)/2):=Stp.mirror (Yy8 _) J
   let eqs:∀k,lo<=k->k<lo+n->ke key (arrOf st) k=ke key (arrOf st) (lo+n-1):=λk k1 k2=>by
    let a1:=hs (k-lo) (n-1) XS J;let a2:=hs 0 (k-lo) J XS
    rw[show lo+(k-lo)=k by grind,show lo+(n-1)=lo+n-1 by lia]at a1;rw[show lo+(k-lo)=k by omega,Nat.add_zero]at a2;show KeyOrd.kle_antisymm a1 (Yy03 e a2)
   let non1:NonI O key (mirror (arrOf st) lo (lo+n)<|(lo+n-lo)/2) lo (n+1):=λi j hij hj=>by
    rw[ZB J eqs,ZB B eqs];cases hjn:j<n
    ·rw[eqs (lo+i) J J,eqs (lo+j) J J];show Y0N _
    ·have hj':j=n:=J;subst hj';cases hi':i=j
     ·subst hi';show Y0N _
     ·rw[eqs (lo+i) J J];show Y0p hlt
   obtain⟨st1,e1⟩:∃st1,st1=setArr st (mirror (arrOf st) lo (lo+n)<|(lo+n-lo)/2):={_,Z};let non1:NonI O key (arrOf st1) lo (n+1):=by rwa[e1]
   rw[<-e1]at t1 ⊢;show Yq (wpS_lift<|Y1Q ⟨Z,?_⟩);show Yq (Zt4 L (t1.1.m hk) (t1.all hS) (by have:=t1.l;lia) J J non1 λm neq st2 t12 hm1 hm2 non2 hneq heq=>?_);dsimp only;let t2:=t1.m t12
   cases c3:neq>0
   ·rw[if_pos c3];show Yq (Zz12 ?_);let t3:Stp lo st (setArr st2<|mirror (arrOf st2) (lo+m-(neq+1)) (lo+m)<|(lo+m-(lo+m-(neq+1)))/2):=t2.m (Stp.mirror J (by have:=t2.l;lia))
    let non3:NonI O key (mirror (arrOf st2) (lo+m-(neq+1)) (lo+m)<|(lo+m-(lo+m-(neq+1)))/2) lo m:=λi j hij hj=>by rw[ZB (by have:=t2.l;lia) heq,ZB (by have:=t2.l;omega) heq];show non2 i j hij hj
    obtain⟨st3,e3⟩:∃st3,st3=setArr st2 (mirror (arrOf st2) (lo+m-(neq+1)) (lo+m)<|(lo+m-(lo+m-(neq+1)))/2):={_,Z};let non3:NonI O key (arrOf st3) lo m:=by rwa[e3]
    rw[<-e3]at t3 ⊢;show Yq (Zz12 ?_);let t4:Stp lo st (setArr st3<|mirror (arrOf st3) lo (lo+m)<|(lo+m-lo)/2):=t3.m (Stp.mirror (Yy8 _) (by have:=t3.l;lia))
    show Yq (Zh2 L (t4.1.m hk) (t4.all hS) (by have:=t4.l;lia) J hm2 ?_ λq hq1 hq2 hsq _=>?_)
    ·intro i j hij hj;change O.kle (ke key (mirror (arrOf st3) lo (lo+m)<|(lo+m-lo)/2)<|lo+i) (ke key (mirror (arrOf st3) lo (lo+m)<|(lo+m-lo)/2)<|lo+j)
     rw[Zz01 (by have:=t3.l;lia),Zz01 (by have:=t3.l;omega),if_pos J,if_pos J,show lo+(lo+m)-1-(lo+i)=lo+(m-1-i) by lia,show lo+(lo+m)-1-(lo+j)=lo+(m-1-j) by lia];show non3 _ _ XS XS
    ·show YG (h q _ t4 J hq2 hsq)
   ·rw[if_neg c3];let t3:=t2
    let non3:=non2;obtain⟨st3,e3⟩:∃st3,st3=st2:={_,Z};rw[<-e3]at t3 non3 ⊢;show Yq (Zz12 ?_);let t4:Stp lo st (setArr st3<|mirror (arrOf st3) lo (lo+m)<|(lo+m-lo)/2):=t3.m (Stp.mirror (Yy8 _) (by have:=t3.l;omega))
    show Yq (Zh2 L (t4.1.m hk) (t4.all hS) (by have:=t4.l;omega) J hm2 ?_ λq hq1 hq2 hsq _=>?_)
    ·intro i j hij hj;change O.kle (ke key (mirror (arrOf st3) lo (lo+m)<|(lo+m-lo)/2)<|lo+i) (ke key (mirror (arrOf st3) lo (lo+m)<|(lo+m-lo)/2)<|lo+j)
     rw[Zz01 (by have:=t3.l;omega),Zz01 (by have:=t3.l;omega),if_pos B,if_pos B,show lo+(lo+m)-1-(lo+i)=lo+(m-1-i) by omega,show lo+(lo+m)-1-(lo+j)=lo+(m-1-j) by omega];show non3 _ _ B B
    ·show YG (h q _ t4 J hq2 hsq)
 ·rw[if_neg c2];let t1:=Stp.refl lo st
  let non1:NonI O key (arrOf st) lo (n+1):=λi j hij hj=>by
   cases hi':i=j
   ·subst hi';show Y0N _
   ·have h3:i=0:=J;let h4:j=n:=J
    subst h3 h4;rw[show lo+0=lo+j-1 by lia];show Y0p hlt
  obtain⟨st1,e1⟩:∃st1,st1=st:={_,Z};let non1:NonI O key (arrOf st1) lo (n+1):=by rwa[e1]
  let t1:Stp lo st st1:=by rwa[e1]
  rw[<-e1];show Yq (wpS_lift<|Y1Q ⟨Z,?_⟩);show Yq (Zt4 L (t1.1.m hk) (t1.all hS) (by have:=t1.l;omega) J J non1 λm neq st2 t12 hm1 hm2 non2 hneq heq=>?_);dsimp only;let t2:=t1.m t12
  cases c3:neq>0
  ·rw[if_pos c3];show Yq (Zz12 ?_);let t3:Stp lo st (setArr st2<|mirror (arrOf st2) (lo+m-(neq+1)) (lo+m)<|(lo+m-(lo+m-(neq+1)))/2):=t2.m (Stp.mirror B (by have:=t2.l;omega))
   let non3:NonI O key (mirror (arrOf st2) (lo+m-(neq+1)) (lo+m)<|(lo+m-(lo+m-(neq+1)))/2) lo m:=λi j hij hj=>by rw[ZB (by have:=t2.l;omega) heq,ZB (by have:=t2.l;omega) heq];show non2 i j hij hj
   obtain⟨st3,e3⟩:∃st3,st3=setArr st2 (mirror (arrOf st2) (lo+m-(neq+1)) (lo+m)<|(lo+m-(lo+m-(neq+1)))/2):={_,Z};let non3:NonI O key (arrOf st3) lo m:=by rwa[e3]
   rw[<-e3]at t3 ⊢;show Yq (Zz12 ?_);let t4:Stp lo st (setArr st3<|mirror (arrOf st3) lo (lo+m)<|(lo+m-lo)/2):=t3.m (Stp.mirror (Yy8 _) (by have:=t3.l;omega))
   show Yq (Zh2 L (t4.1.m hk) (t4.all hS) (by have:=t4.l;omega) J hm2 ?_ λq hq1 hq2 hsq _=>?_)
   ·intro i j hij hj;change O.kle (ke key (mirror (arrOf st3) lo (lo+m)<|(lo+m-lo)/2)<|lo+i) (ke key (mirror (arrOf st3) lo (lo+m)<|(lo+m-lo)/2)<|lo+j)
    rw[Zz01 (by have:=t3.l;omega),Zz01 (by have:=t3.l;omega),if_pos B,if_pos B,show lo+(lo+m)-1-(lo+i)=lo+(m-1-i) by omega,show lo+(lo+m)-1-(lo+j)=lo+(m-1-j) by omega];show non3 _ _ B B
   ·show YG (h q _ t4 B hq2 hsq)
  ·rw[if_neg c3];let t3:=t2
   let non3:=non2;obtain⟨st3,e3⟩:∃st3,st3=st2:={_,Z};rw[<-e3]at t3 non3 ⊢;show Yq (Zz12 ?_);let t4:Stp lo st (setArr st3<|mirror (arrOf st3) lo (lo+m)<|(lo+m-lo)/2):=t3.m (Stp.mirror (Yy8 _) (by have:=t3.l;omega))
   show Yq (Zh2 L (t4.1.m hk) (t4.all hS) (by have:=t4.l;omega) B hm2 ?_ λq hq1 hq2 hsq _=>?_)
   ·intro i j hij hj;change O.kle (ke key (mirror (arrOf st3) lo (lo+m)<|(lo+m-lo)/2)<|lo+i) (ke key (mirror (arrOf st3) lo (lo+m)<|(lo+m-lo)/2)<|lo+j)
    rw[Zz01 (by have:=t3.l;omega),Zz01 (by have:=t3.l;omega),if_pos B,if_pos B,show lo+(lo+m)-1-(lo+i)=lo+(m-1-i) by omega,show lo+(lo+m)-1-(lo+j)=lo+(m-1-j) by omega];show non3 _ _ B B
   ·show YG (h q _ t4 B hq2 hsq)
def Zy5(L:LtOk M A E s O key kd S){st:SortSt}{lo n ok:Nat}{Q:Bool->SortSt->Prop}(hk:kindOf st=kd)(hS:∀x∈(arrOf st).j,S x)(hn:lo+n<=(arrOf st).l)(hok:ok<=n)(hs:SrtI O key (arrOf st) lo ok)
  (h:∀st',Stp lo st st'->SrtI O key (arrOf st') lo n->Q true st'):wpS M A E s (binarySort' lo n ok) Q st:=by
 rw[binarySort'_eq];show Yq (Y2k (Y0A (I:=λk c st'=>c=(none,())/\Stp lo st st'/\SrtI O key (arrOf st') lo (min k n))
  (Q:=λc st'=>c=(none,())/\Stp lo st st'/\SrtI O key (arrOf st') lo n) ?_ ?_ ?_) ?_)
 ·rintro k c st' hak hkn ⟨rfl,hst,hs'⟩;rw[show min k n=k by lia]at hs';let hz:=hst.l
  let hk':=hst.1.m hk;let hS':=hst.all hS
  show Yq (Y2k (Y0A (I:=λx c st''=>st''=st'/\∃l r,c=(none,l,r)/\l<=r/\r<=k/\r-l<=k-x/\
    (∀i,i<l->O.kle (ke key (arrOf st')<|lo+i) (ke key (arrOf st')<|lo+k))/\(∀i,r<=i->i<k->O.klt (ke key (arrOf st')<|lo+k) (ke key (arrOf st')<|lo+i)))
   (Q:=λc st''=>st''=st'/\∃l r,c=(none,l,r)/\l<=k/\
    (∀i,i<l->O.kle (ke key (arrOf st')<|lo+i) (ke key (arrOf st')<|lo+k))/\(∀i,l<=i->i<k->O.klt (ke key (arrOf st')<|lo+k) (ke key (arrOf st')<|lo+i))) ?_ ?_ {Z,0,k,Z,J,J,J,λi hi=>J,λi h1 h2=>J}) ?_)
  ·rintro x c st'' _ hxk ⟨rfl,l,r,rfl,hlr,hrk,hm,hlo,hhi⟩;dsimp only;cases hge:l >= r
   ·rw[if_pos hge]
    have:l=r:=J
    subst this;show YG ⟨Z,l,l,Z,hrk,hlo,hhi⟩
   ·rw[if_neg hge];show Yq (Zd3 L hk' hS' J J ?_);dsimp only;cases hless:O.blt (ke key (arrOf st'')<|lo+k) (ke key (arrOf st'')<|lo+(l+r)/2) with
    |true=>
     rw[if_pos Z];show YG {Z,l,(l+r)/2,Z,J,J,XS,hlo,λi h1 h2=>?_};show KeyOrd.klt_of_klt_of_kle hless (hs' _ _ h1 h2)
    |false=>
     rw[if_neg D];show YG {Z,(l+r)/2+1,r,Z,J,J,XS,λi h1=>?_,hhi};show Yy03 (hs' i ((l+r)/2) J J) (show O.kle _ _ from hless)
  ·rintro c st'' ⟨rfl,l,r,rfl,hlr,hrk,hm,hlo,hhi⟩
   have:l=r:=XS
   subst this;exists Z,l,l,Z,hrk,hlo,hhi
  ·rintro c st'' ⟨rfl,l,r,rfl,hlk,hlo,hhi⟩;dsimp only;rw[moveDown'_eq];show Yq (Y2a<|YG ⟨Z,hst.m<|Stp.bubble J XS J,?_⟩);rw[show min (k+1) n=k+1 by lia];let hks:lo+k<(arrOf st'').l:=B
   intro i j hij hj;change O.kle (ke key (bubble (arrOf st'') (lo+k)<|lo+k-(lo+l))<|lo+i) (ke key (bubble (arrOf st'') (lo+k)<|lo+k-(lo+l))<|lo+j)
   rw[ZU4 hks XS,ZU4 hks B,show lo+k-(lo+k-(lo+l))=lo+l by grind];let shf:∀i,l<i->lo+i-1=lo+(i-1):=λi hi=>J
   repeat' split
   all_goals first
    | (exfalso;omega)
    |show Y0N _
    |show hlo _ B
    |show hs' _ _ B B
    | (rw[shf j XS];show Y0p<|hhi _ J J)
    | (rw[shf j B];show hs' _ _ B B)
    | (rw[shf i XS,shf j XS];show hs' _ _ J J)
    | (rw[shf i B];show hs' _ _ B B)
 ·rintro c st' ⟨hc,hst,hs'⟩;exists hc,hst,?_
  rwa[show min (max (max ok 1) n) n=n by lia]at hs'
 ·exists Z,Stp.refl _ _,λi j hij hj=>?_;cases h1:ok=0
  ·have:i=j:=J
   subst this;show Y0N _
  ·show hs i j hij J
 ·rintro c st' ⟨rfl,hst,hs'⟩;show YG (h st' hst hs')
def offs:(List (List Keyed)->Nat->List (Nat×Nat))
 |[],_=>[]
 |g::gs,o=>(o,g.f)::offs gs (o+g.f)
def ZG1:∀a b o,offs (a++b) o=offs a o++offs b (o+a.flatten.f)
 |[],b,o=>by simp[offs]
 |g::gs,b,o=>by simp[offs,ZG1 gs b,Nat.add_assoc]
def Zz44:∀a o,(offs a o).f=a.f
 |[],o=>rfl
 |g::gs,o=>by simp[offs,Zz44 gs]
structure PI(O:KeyOrd)(key:Keyed->O.α)(kd:SortKind)(a₀:Array Keyed)(st:SortSt)(segs:List (List Keyed))(rest:List Keyed):Prop where
 kind:kindOf st=kd
 fail:failedOf st=none
 perm:(arrOf st).Perm a₀
 arr:(arrOf st).j=segs.flatten++rest
 srt:∀g∈segs,1<=g.f/\g.C (RK O key)
 pend:(pendingOf st).j.L (λp=>(p.1,p.2.1))=offs segs 0
def PI.psize{st:SortSt}(h:PI O key kd a₀ st segs rest):(pendingOf st).l=segs.f:=by
 have:=YI List.f h.pend
 rwa[Yy7,Zz44,YD]at this
def PI.size{st:SortSt}(h:PI O key kd a₀ st segs rest):a₀.l=segs.flatten.f+rest.f:=by rw[<-h.perm.size_eq,<-YD,h.arr,Yy3]
def Zb6:∀{segs:List (List Keyed)},(∀g∈segs,1<=g.f/\g.C (RK O key))->segs.f<=segs.flatten.f
 |[],_=>Yy8 _
 |g::gs,h=>by
  have:=Zb6 (segs:=gs) λx hx=>h x (Yd _ hx)
  have:=(h g Ye).1
  simp;simp at *
  lia
def ZS1(L:LtOk M A E s O key kd S)(hS:∀x∈a₀.j,S x){st:SortSt}{Q:Bool->SortSt->Prop}(h:PI O key kd a₀ st segs rest)(hi:i+1<segs.f)
  (q:∀st' segs',PI O key kd a₀ st' segs' rest->segs'.f+1=segs.f->segs'.flatten.f=segs.flatten.f->Q true st'):wpS M A E s (mergeAt' i) Q st:=by
 obtain⟨S1,X,Y,S2,e,hl⟩:∃S1 X Y S2,segs=S1++X::Y::S2/\S1.f=i:=by show{segs.G i,segs[i],segs[i+1],segs.drop<|i+2,?_,by rw[Yh];lia};rw[<-Y0s (i:=i+1) J,<-Y0s (i:=i) B,Y0o]
 subst e;let hp:=h.pend
 rw[ZG1,Y0n]at hp;let(PA,PR,e1,e2,e3):=List.map_eq_append_iff.S hp;simp only[offs]at e3;let(p1,PR1,e4,e5,e6):=List.map_eq_cons_iff.S e3;let(p2,PB,e7,e8,e9):=List.map_eq_cons_iff.S e6;let(sa,na,pw):=p1;let(sb,nb,pw2):=p2;cases e5;cases e8;let hPA:PA.f=i:=by
  have:=YI List.f e2
  rw[Yy7,Zz44]at this;lia
 let hX:=h.srt X D;let hY:=h.srt Y D
 let ep:(pendingOf st).j=PA++(S1.flatten.f,X.f,pw)::(S1.flatten.f+X.f,Y.f,pw2)::PB:=by rw[e1,e4,e7];rfl
 show Zx5 (P:=S1.flatten) (X:=X) (Y:=Y) (T:=S2.flatten++rest) L h.kind h.fail (by rw[h.arr];simp) (λx hx=>hS x<|(Y0K.S h.perm).mem_iff.S hx) ep hPA Z Z Z Z hX.1 hY.1 hX.2 hY.2 λXZ st' z1 z2 z3 z4 z5 z6=>?_;let zl:XZ.f=X.f+Y.f:=by rw[z2.length_eq,Yy3]
 show q st' (S1++XZ::S2) {z5,z6,?_,by rw[z3];simp,?_,?_} (by simp;omega) (by simp;omega)
 ·show Y0K.X (List.Perm.m ?_<|Y0K.S h.perm);rw[z3,h.arr];let e:(S1++X::Y::S2).flatten++rest=S1.flatten++(X++Y)++(S2.flatten++rest):=D
  rw[e];show Y1s _ (Y0j _ z2)
 ·intro g hg;rcases Yb.S hg with hg|hg
  ·show h.srt g (by simp[hg])
  ·rcases Yf.S hg with rfl|hg
   ·exists by have:=hX.1;omega,z1
   ·show h.srt g (by simp[hg])
 ·rw[z4,Yn,Yy01,e2,e9,ZG1,Y0n];simp only[offs];rw[zl,Nat.add_assoc]
def Zz210{arr:Array Keyed}{lo n:Nat}(h:SrtI O key arr lo n):((arr.j.drop lo).G n).C (RK O key):=by
 rw[Yy04];intro i j hi hj hij;rw[Yh,YV]at hi hj;let a1:arr[lo+i]?=some ((arr.j.drop lo).G n)[i]:=by rw[<-YJ];simp
 let a2:arr[lo+j]?=some ((arr.j.drop lo).G n)[j]:=by rw[<-YJ];simp
 have:=h i j J J
 rwa[Zq2 a1,Zq2 a2]at this
def PI.push{st st':SortSt}(h:PI O key kd a₀ st segs rest)(hr:n<=rest.f)(t:Stp segs.flatten.f st st')(hs:SrtI O key (arrOf st') segs.flatten.f n):
  ∃run rest',run.f=n/\rest'.f+n=rest.f/\PI O key kd a₀ st' segs (run++rest')/\run.C (RK O key):=by
 let hz:=t.l;let hz2:(arrOf st).l=segs.flatten.f+rest.f:=by rw[<-YD,h.arr,Yy3]
 let e0:(arrOf st').j.G segs.flatten.f=segs.flatten:=by
  apply Yy08;intro i;cases hi:i<segs.flatten.f
  ·rw[Y0D,if_pos hi,YJ,t.2.2.2.2 i hi,<-YJ,h.arr,Yp hi]
  ·rw[YE (by rw[Yh];grind),YE J]
 let e1:=Y0o segs.flatten.f (arrOf st').j;let e2:=Y0o n ((arrOf st').j.drop segs.flatten.f)
 exists ((arrOf st').j.drop segs.flatten.f).G n,((arrOf st').j.drop segs.flatten.f).drop n,?_,?_,{t.1.m h.kind,t.2.1.m h.fail,t.2.2.2.1.m h.perm,?_,h.srt,?_},Zz210 hs
 ·rw[Yh,YV,YD];lia
 ·rw[YV,YV,YD];lia
 ·rw[e2];rw[e0]at e1;show e1.symm
 ·rw[t.2.2.1];show h.pend
def ZD9(L:LtOk M A E s O key kd S){a₀:Array Keyed}(hS:∀x∈a₀.j,S x){st:SortSt}{Q:Unit->SortSt->Prop}(hk:kindOf st=kd)(hf:failedOf st=none)(ha:arrOf st=a₀)(hp:pendingOf st=#[])
  (h:∀st',(arrOf st').Perm a₀->failedOf st'=none->(arrOf st').j.C (RK O key)->Q () st'):wpS M A E s sortRuns' Q st:=by
 rw[sortRuns'_eq];show Yq (Y3v ?_);dsimp only;rw[ha];let pi0:PI O key kd a₀ st [] a₀.j:={hk,hf,ha▸Y3K _,by rw[ha];rfl,λ_ h=>(by cases h),by rw[hp];rfl}
 show Yq (Y2k (Y0A
  (I:=λx c st'=>∃lo,c=(none,lo)/\∃segs rest,lo=segs.flatten.f/\PI O key kd a₀ st' segs rest/\(x<=lo\/a₀.l<=lo))
  (Q:=λc st'=>∃lo,c=(none,lo)/\∃segs rest,lo=segs.flatten.f/\PI O key kd a₀ st' segs rest/\a₀.l<=lo) ?_ ?_ {0,Z,[],a₀.j,Z,pi0,.inl<|Yy8 _}) ?_)
 ·rintro x c st' _ hx ⟨lo,rfl,segs,rest,rfl,pi,hxl⟩;dsimp only;cases c1:segs.flatten.f >= a₀.l
  ·rw[if_pos c1];show YG {_,Z,segs,rest,Z,pi,c1}
  rw[if_neg c1];let hz:=pi.l
  let hS1:∀x∈(arrOf st').j,S x:=λx hx=>hS x ((Y0K.S pi.perm).mem_iff.S hx);let hsz:=pi.perm.size_eq
  show Yq (ZT5 L pi.kind hS1 XS XS λm st2 t2 hm1 hm2 hs2=>?_);dsimp only;let hz2:=t2.l
  cases c2:m<minRun' a₀.l a₀.l 0
  ·rw[if_pos c2];show Yq (wpS_lift<|Y1Q ⟨Z,?_⟩);show Yq (Zy5 L (t2.1.m pi.kind) (t2.all hS1) XS XS hs2 λst3 t3 hs3=>?_);rw[if_neg D];let n1:1<=min (a₀.l-segs.flatten.f) (minRun' a₀.l a₀.l 0):=XS
   let n2:min (a₀.l-segs.flatten.f) (minRun' a₀.l a₀.l 0)<=rest.f:=XS;let(run,rest',hrl,hrl2,pi4,hrun):=pi.push n2 (t2.m t3) hs3;generalize min (a₀.l-segs.flatten.f) (minRun' a₀.l a₀.l 0)=n at *;obtain⟨st4,e4⟩:∃st4,st4=st3:={_,Z};rw[<-e4]at pi4 ⊢;show Yq (Y3v ?_);cases hback:(pendingOf st4).back? with
   |none=>
    dsimp only;let pi5:=pi4
    let hfl5:segs.flatten.f=segs.flatten.f:=rfl;obtain⟨segs5,e5⟩:∃segs5,segs5=segs:={_,Z};obtain⟨st5,es5⟩:∃st5,st5=st4:={_,Z};rw[<-e5,<-es5]at pi5;let hfl5:segs5.flatten.f=segs.flatten.f:=by rw[e5]
    rw[<-es5];show Yq (Y2a<|YG ?_);exists _,Z,segs5++[run],rest',by rw[Y2g,Yy3,Y0S,Y2M,YM];lia,{pi5.kind,pi5.fail,pi5.perm,?_,?_,?_},J
    ·show(arrOf st5).j=_;rw[pi5.arr];simp
    ·intro g hg;rcases Yb.S hg with hg|hg
     ·show pi5.srt g hg
     ·rw[Yy2.S hg];exists J,hrun
    ·show((pendingOf st5).push _).j.L _=_;rw[Yy09,Yn,pi5.pend,ZG1,Y0n,hfl5];simp[offs,hrl]
   |some p=>
    let(s1,n1,p1):=p;dsimp only;show Yq (Y2k (Y0A (I:=λ_ c st5=>c=(none,())/\∃segs5,PI O key kd a₀ st5 segs5 (run++rest')/\segs5.flatten.f=segs.flatten.f)
     (Q:=λc st5=>c=(none,())/\∃segs5,PI O key kd a₀ st5 segs5 (run++rest')/\segs5.flatten.f=segs.flatten.f) ?_ (λ_ _ z=>z) ⟨Z,segs,pi4,Z⟩) ?_)
    ·rintro y c st5 _ _ ⟨rfl,segs5,pi5,hfl5⟩;show Yq (Y3v ?_);cases c5:(pendingOf st5).l>1
     ·rw[if_pos c5];cases hp:(pendingOf st5)[(pendingOf st5).l-2]? with
      |none=>show YG ⟨Z,segs5,pi5,hfl5⟩
      |some pp=>
       let(w1,w2,w3):=pp;dsimp only;split
       ·show YG ⟨Z,segs5,pi5,hfl5⟩
       ·show Yq (ZS1 L hS pi5 (by rw[<-pi5.psize];lia) λst6 segs6 pi6 l6 f6=>?_);rw[if_neg D];show YG {Z,segs6,pi6,f6.m hfl5}
     ·rw[if_neg c5];show YG ⟨Z,segs5,pi5,hfl5⟩
    ·rintro c st5 ⟨rfl,segs5,pi5',hfl5⟩;dsimp only;show Yq (Y2a ?_);let pi5:PI O key kd a₀ (setPending st5<|(pendingOf st5).modify ((pendingOf st5).l-1) λx=>(x.1,x.2.1,power' a₀.l (2*s1+n1) (2*s1+n1+n1+n) a₀.l)) segs5 (run++rest'):=by
      exists pi5'.kind,pi5'.fail,pi5'.perm,pi5'.arr,pi5'.srt,?_;change((pendingOf st5).modify _ _).j.L _=_
      rw[<-pi5'.pend,Array.toList_modify];apply Yy08;intro i;rw[Yc,Yc,List.getElem?_modify];cases (pendingOf st5).j[i]? with
      |none=>rfl
      |some x=>
       simp only[Y1O];split<;>rfl
     generalize setPending st5 ((pendingOf st5).modify ((pendingOf st5).l-1) λx=>(x.1,x.2.1,power' a₀.l (2*s1+n1) (2*s1+n1+n1+n) a₀.l))=st5 at *;show Yq (Y2a<|YG ?_);exists _,Z,segs5++[run],rest',by rw[Y2g,Yy3,Y0S,Y2M,YM];omega,{pi5.kind,pi5.fail,pi5.perm,?_,?_,?_},B
     ·show(arrOf st5).j=_;rw[pi5.arr];simp
     ·intro g hg;rcases Yb.S hg with hg|hg
      ·show pi5.srt g hg
      ·rw[Yy2.S hg];exists B,hrun
     ·show((pendingOf st5).push _).j.L _=_;rw[Yy09,Yn,pi5.pend,ZG1,Y0n,hfl5];simp[offs,hrl]
  ·rw[if_neg c2];let(run,rest',hrl,hrl2,pi4,hrun):=pi.push XS t2 hs2;obtain⟨n,en⟩:∃n,n=m:={_,Z};rw[<-en]at hrl hrl2 ⊢;obtain⟨st4,e4⟩:∃st4,st4=st2:={_,Z};rw[<-e4]at pi4 ⊢;show Yq (Y3v ?_);cases hback:(pendingOf st4).back? with
   |none=>
    dsimp only;let pi5:=pi4
    let hfl5:segs.flatten.f=segs.flatten.f:=rfl;obtain⟨segs5,e5⟩:∃segs5,segs5=segs:={_,Z};obtain⟨st5,es5⟩:∃st5,st5=st4:={_,Z};rw[<-e5,<-es5]at pi5;let hfl5:segs5.flatten.f=segs.flatten.f:=by rw[e5]
    rw[<-es5];show Yq (Y2a<|YG ?_);exists _,Z,segs5++[run],rest',by rw[Y2g,Yy3,Y0S,Y2M,YM];lia,{pi5.kind,pi5.fail,pi5.perm,?_,?_,?_},XS
    ·show(arrOf st5).j=_;rw[pi5.arr];simp
    ·intro g hg;rcases Yb.S hg with hg|hg
     ·show pi5.srt g hg
     ·rw[Yy2.S hg];exists J,hrun
    ·show((pendingOf st5).push _).j.L _=_;rw[Yy09,Yn,pi5.pend,ZG1,Y0n,hfl5];simp[offs,hrl]
   |some p=>
    let(s1,n1,p1):=p;dsimp only;show Yq (Y2k (Y0A (I:=λ_ c st5=>c=(none,())/\∃segs5,PI O key kd a₀ st5 segs5 (run++rest')/\segs5.flatten.f=segs.flatten.f)
     (Q:=λc st5=>c=(none,())/\∃segs5,PI O key kd a₀ st5 segs5 (run++rest')/\segs5.flatten.f=segs.flatten.f) ?_ (λ_ _ z=>z) ⟨Z,segs,pi4,Z⟩) ?_)
    ·rintro y c st5 _ _ ⟨rfl,segs5,pi5,hfl5⟩;show Yq (Y3v ?_);cases c5:(pendingOf st5).l>1
     ·rw[if_pos c5];cases hp:(pendingOf st5)[(pendingOf st5).l-2]? with
      |none=>show YG ⟨Z,segs5,pi5,hfl5⟩
      |some pp=>
       let(w1,w2,w3):=pp;dsimp only;split
       ·show YG ⟨Z,segs5,pi5,hfl5⟩
       ·show Yq (ZS1 L hS pi5 (by rw[<-pi5.psize];omega) λst6 segs6 pi6 l6 f6=>?_);rw[if_neg D];show YG {Z,segs6,pi6,f6.m hfl5}
     ·rw[if_neg c5];show YG ⟨Z,segs5,pi5,hfl5⟩
    ·rintro c st5 ⟨rfl,segs5,pi5',hfl5⟩;dsimp only;show Yq (Y2a ?_);let pi5:PI O key kd a₀ (setPending st5<|(pendingOf st5).modify ((pendingOf st5).l-1) λx=>(x.1,x.2.1,power' a₀.l (2*s1+n1) (2*s1+n1+n1+n) a₀.l)) segs5 (run++rest'):=by
      exists pi5'.kind,pi5'.fail,pi5'.perm,pi5'.arr,pi5'.srt,?_;change((pendingOf st5).modify _ _).j.L _=_
      rw[<-pi5'.pend,Array.toList_modify];apply Yy08;intro i;rw[Yc,Yc,List.getElem?_modify];cases (pendingOf st5).j[i]? with
      |none=>rfl
      |some x=>
       simp only[Y1O];split<;>rfl
     generalize setPending st5 ((pendingOf st5).modify ((pendingOf st5).l-1) λx=>(x.1,x.2.1,power' a₀.l (2*s1+n1) (2*s1+n1+n1+n) a₀.l))=st5 at *;show Yq (Y2a<|YG ?_);exists _,Z,segs5++[run],rest',by rw[Y2g,Yy3,Y0S,Y2M,YM];omega,{pi5.kind,pi5.fail,pi5.perm,?_,?_,?_},B
     ·show(arrOf st5).j=_;rw[pi5.arr];simp
     ·intro g hg;rcases Yb.S hg with hg|hg
      ·show pi5.srt g hg
      ·rw[Yy2.S hg];exists B,hrun
     ·show((pendingOf st5).push _).j.L _=_;rw[Yy09,Yn,pi5.pend,ZG1,Y0n,hfl5];simp[offs,hrl]
 ·rintro c st' ⟨lo,rfl,segs,rest,e,pi,hxl⟩;exists lo,Z,segs,rest,e,pi,J
 ·rintro c st' ⟨lo,rfl,segs,rest,e,pi,hxl⟩;dsimp only;show Yq (Y2k (Y0A
   (I:=λx c st2=>c=(none,())/\∃segs,PI O key kd a₀ st2 segs rest/\a₀.l<=segs.flatten.f/\(segs.f+x<=a₀.l\/segs.f<=1))
   (Q:=λc st2=>c=(none,())/\∃segs,PI O key kd a₀ st2 segs rest/\a₀.l<=segs.flatten.f/\segs.f<=1) ?_ ?_ {Z,segs,pi,J,.inl (by have:=Zb6 pi.srt;have:=pi.l;lia)}) ?_)
  ·rintro x c st2 _ hx ⟨rfl,segs2,pi2,hl2,hc⟩;show Yq (Y3v ?_);cases c1:(pendingOf st2).l<=1
   ·rw[if_pos c1];show YG {Z,segs2,pi2,hl2,by rwa[<-pi2.psize]}
   ·rw[if_neg c1];let hps:=pi2.psize
    show Yq (ZS1 L hS pi2 ?_ λst3 segs3 pi3 l3 f3=>?_)
    ·have two:∀bb:Bool,(if bb=true then (pendingOf st2).l-2-1 else (pendingOf st2).l-2)+1<segs2.f:=λbb=>by cases bb<;>simp<;>lia
     show two _
    ·rw[if_neg D];show YG ⟨Z,segs3,pi3,J,XS⟩
  ·rintro c st2 ⟨rfl,segs2,pi2,hl2,hc⟩;exists Z,segs2,pi2,hl2,?_;rcases hc with hc|hc
   ·lia
   ·show hc
  ·rintro c st2 ⟨rfl,segs2,pi2,hl2,hc⟩;show YG (h st2 pi2.perm pi2.fail ?_);let hr:rest=[]:=by have:=pi2.l;show Yy07.S J
   rw[pi2.arr,hr,YM]
   match segs2,hc,pi2.srt with
   |[],_,_=>show List.C.nil
   |[g],_,hg=>simpa using (hg g Ye).2
end
end PyProof.Rows
namespace L2
open PySem PySem.Spec PyProof.Rows
section
variable{prog:Program}{w:World}{A:Around}{E:Value->Shared->Prop}{s:Shared}
def Zz710{α:Type}{R:α->α->Prop}:∀{l:List α},l.f<2->l.C R
 |[],_=>List.C.nil
 |[_],_=>Yy11 ..
 |_::_::_,h=>absurd h D
def sameBut(a:Addr)(h h':Heap):(Prop):=∀b o,b≠a->h.E b=some o->h'.E b=some o
def ZQ9{key:Keyed->O.α}{kd:SortKind}{P:Fin->Shared->Prop}(ho:s.o.E a=some (seqObj "list" vs.t n))(hz:vs.f<=1000000)
  (hkk:∀h':Heap,sameBut a s.o h'->2<=vs.f->∀Q:SortKind->Shared->Prop,Q kd {s with heap:=h'}->wpAny (model prog w) A (keyKind' vs.t) Q E {s with heap:=h'})
  (L:∀h':Heap,sameBut a s.o h'->LtOk (model prog w) A E {s with heap:=h'} O key kd λx=>x∈(pairsOf vs).j)
  (h:∀out:Array Keyed,out.Perm (pairsOf vs)->out.j.C (RK O key)->P (.done<|.ret .none) {s with heap:=sortedHeap s.o a vs (out.L (·.2))}):wpAny (model prog w) A (Builtin.«list.sort» {[.ref a],[]}) P E s:=by
 let hsl:sizeLine=16777216:=Y1l;let ha:a<(~~~s):=Yg ho
 obtain⟨e1,ho1⟩:∃e1,(s.o.update a<|Obj.mapSeq λ_=>(#[]:Array Value)).E a=some (seqObj "list" #[] e1):={_,get?_update_seq ho λ_=>#[]};rw[list_sort_plain];show Yy4 (listItems_at ho Z<|Yy4<|Y3w ho Z ?_ (by rw[Ya];lia)<|Yk _);show Yy4 (seqEpoch_at ho1 Z<|Yy4<|wpAny_newTuple ?_<|by simp;omega);show Yy4 (Yy33<|Y1p ?_);let sm:sameBut a s.o (((s.o.update a<|Obj.mapSeq λ_=>#[]).push (seqObj "tuple" vs.t 0)).push (seqObj "list" #[] 0)):=λb o hb e=>Yy6 _ (Yy6 _<|(Y1g _ _<|Y0f hb).m e)
 let ho6:(((s.o.update a<|Obj.mapSeq λ_=>#[]).push (seqObj "tuple" vs.t 0)).push (seqObj "list" #[] 0)).E a=some (seqObj "list" #[] e1):=Yy6 _ (Yy6 _ ho1);change wpAny (model prog w) A _ P E {s with heap:=((s.o.update a<|Obj.mapSeq λ_=>#[]).push (seqObj "tuple" vs.t 0)).push (seqObj "list" #[] 0)}
 dsimp only;let hs2:vs.t.l=vs.f:=D
 cases h2:vs.t.l<2
 ·rw[if_pos h2,if_pos h2];show Yy4 (Yi ?_);rw[StateT.run_pure];show Yy4 (Yi ?_);dsimp only;show Yy4 (seqEpoch_at ho6 Z<|Yy4<|Y3w ho6 Z ?_ (Yk _)<|by rw[Array.size_map];change(pairsOf vs).l<=sizeLine+1;rw[pairsOf_size];lia);simp only[bne_self_eq_false,Y0t,Y2H];show Yi (h (pairsOf vs) (Y3K _) ?_);show Zz710 (by rw[YD,pairsOf_size];lia)
 ·rw[if_neg h2,if_neg h2];show Yy4 (hkk _ sm J _ ?_);show Yy4 (Yy16 (ZD9 (L _ sm) (a₀:=pairsOf vs) (λx hx=>hx) (st:=SortSt.mk' kd (vs.t.zip vs.t) #[] 7 none)
   (Q:=λ_ st'=>(arrOf st').Perm (pairsOf vs)/\failedOf st'=none/\(arrOf st').j.C (RK O key)) Z Z Z Z λst' a1 a2 a3=>⟨a1,a2,a3⟩) ?_ λ_ _ e=>e)
  rintro⟨⟨⟩,st'⟩ s' ⟨rfl,hp,hf,hs⟩;dsimp only;let hsz:(arrOf st').l=vs.f:=hp.size_eq.m (pairsOf_size _)
  show Yy4 (seqEpoch_at ho6 Z<|Yy4<|Y3w ho6 Z ?_ (Yk _)<|by show Yv (Y3n<|(Array.size_map ..).m hsz) ?_;lia);rw[hf];simp only[bne_self_eq_false,Y0t,Y2H];show Yi (h _ hp hs)
def Zz56{key:Keyed->O.α}{kd:SortKind}{Q:Value->Shared->Prop}(hl:s.o.IsList l vs.t)(hz:vs.f<=1000000)
  (hkk:∀A h',(∀b o,s.o.E b=some o->h'.E b=some o)->2<=vs.f->∀E Q,Q kd {s with heap:=h'}->wpAny (model prog w) A (keyKind' vs.t) Q E {s with heap:=h'})
  (L:∀A' h' E,A'.units<=A.units+4->(∀b o,s.o.E b=some o->h'.E b=some o)->LtOk (model prog w) A' E {s with heap:=h'} O key kd λx=>x∈(pairsOf vs).j)
  (h:∀out:Array Keyed,out.Perm (pairsOf vs)->out.j.C (RK O key)->Q (.ref<|(~~~s)+1) {s with heap:=sortedAll s.o vs (out.L (·.2))}):wpAny (model prog w) A (call (.builtin "sorted") [.ref l]) Q E s:=by
 let hsz:((s.o.push<|seqObj "list" #[] 0).update (~~~s) (Obj.mapSeq (·++vs.t))).objs.l=(~~~s)+1:=by rw[Heap.size_update,size_push']
 let hoL:(((s.o.push<|seqObj "list" #[] 0).update (~~~s) (Obj.mapSeq (·++vs.t))).push (seqObj "list" vs.t 0)).E ((~~~s)+1)=some (seqObj "list" vs.t 0):=hsz▸Yo _ rfl;let hsl:sizeLine=16777216:=Y1l
 show Calls.call_function_entry kind_sorted plain_sorted entry_sorted (args_sorted1 _) ?_;unfold Builtin.«sorted»;show Yy4 (m:=checkCount "sorted" 1 1 _) (Yi<|Yy4<|collect_list hl ?_ J);show Yy4 (Yy33 ?_ B);change wpAny _ _ _ _ _ {s with heap:=((s.o.push<|seqObj "list" #[] 0).update (~~~s) (Obj.mapSeq (·++vs.t))).push (seqObj "list" vs.t 0)}
 rw[hsz];let old:∀b o,s.o.E b=some o->(((s.o.push<|seqObj "list" #[] 0).update (~~~s) (Obj.mapSeq (·++vs.t))).push (seqObj "list" vs.t 0)).E b=some o:=λb o e=>
  Yy6 _ ((Y1g _ _<|Y0f<|Yt<|Yg e).m (Yy6 _ e))
 let ne:∀b o,s.o.E b=some o->b≠(~~~s)+1:=λb o e=>Yt (Yy14<|Yg e);show Yy4 (Y1p<|Y0B slot_list_sort ⟨_,hoL,rfl⟩ entry_list_sort (ZQ9 (O:=O) (key:=key) (kd:=kd) hoL hz (λh' k h2 Q q=>hkk _ h' (λb o e=>k b o (ne b o e)<|old b o e) h2 _ Q q) (λh' k=>L _ h' _ (by first|(show A.units+1<=A.units+4;omega)|(show A.units+1+1<=A.units+4;lia)|(show A.units<=A.units+4;omega)) λb o e=>k b o (ne b o e)<|old b o e) λout a1 a2=>{_,rfl,?_})<|args_list_sort _)
 show Yi {_,Z,h out a1 a2}
def lexO:(KeyOrd) where
 α:=List Int
 blt:=HT.lexLt
 irrefl:=My.lex_irrefl
 trans a b c:=My.lex_trans
 negTrans a b c h:=by
  cases e:HT.lexLt a b with
  |true=>show .inl rfl
  |false=>
   show .inr ?_;cases e2:HT.lexLt b a with
   |true=>show My.lex_trans e2 h
   |false=>
    have:=My.lex_eq e e2
    subst this;show h
 total a b h1 h2:=My.lex_eq h1 h2
end
end L2
namespace L2
open PySem PySem.Spec PyProof.Rows My
def ints_uniq:∀{vs:List Value}{ns ms:List Int},IntsAre vs ns->IntsAre vs ms->ns=ms
 |_,_,_,.nil,.nil=>rfl
 |_,_,_,.cons n t h,.cons _ _ k=>by rw[ints_uniq h k]
end L2
namespace My
open PySem L2
abbrev lexS(a b:List Int):Prop:=HT.lexLt a b=true
def ZZ8:∀p a b,HT.lexLt (p++a) (p++b)=HT.lexLt a b
 |[],a,b=>rfl
 |x::p,a,b=>by rw[Yy28,Yy28,HT.lexLt_cons,if_pos Z,ZZ8 p]
def ZY8:∀{s t:List Int}(a b:List Int),s.f=t.f->HT.lexLt s t=true->HT.lexLt (s++a) (t++b)=true
 |[],[],a,b,_,h=>by cases h
 |[],_::_,a,b,e,_=>by simp at e
 |_::_,[],a,b,e,_=>by simp at e
 |x::s,y::t,a,b,e,h=>by
  rw[HT.lexLt_cons]at h;rw[Yy28,Yy28,HT.lexLt_cons];split
  ·rename_i q;rw[if_pos q]at h;show ZY8 a b (by simpa using e) h
  ·rename_i q;rwa[if_neg q]at h
def Zv12(h:lexS a b):a≠b:=λe=>by subst e;have:=lex_irrefl a;rw[h]at this;cases this
def ZG6{a:List (List Int)}(h:a.C lexS):a.Nodup:=h.imp λh=>Zv12 h
def Zf4(m:Int):∀k,∀l∈cmb m k,l.f=k
 |0,l,h=>by rw[Yy2.S h];rfl
 |k+1,l,h=>by let(s,hs,hl):=List.mem_flatMap.S h;let(t,_,_,rfl):=ext1_mem.S hl;rw[Yy3,Zf4 m k s hs];rfl
def Zs7(m:Int):∀k,(cmb m k).C lexS
 |0=>Yy11 ..
 |k+1=>by
  change((cmb m k).flatMap (ext1 m)).C lexS;rw[List.pairwise_flatMap];exists λs _=>?_,Y3W (λ{s t} hs ht hst=>?_)<|Zs7 m k
  ·unfold ext1;rw[Y1m];show Y1r.imp λ{i j} hij=>?_;change HT.lexLt _ _=true
   rw[ZZ8,HT.lexLt_cons,if_neg J];show YY J
  ·intro x hx y hy;let(u,_,_,rfl):=ext1_mem.S hx;let(v,_,_,rfl):=ext1_mem.S hy;show ZY8 _ _ (by rw[Zf4 m k s hs,Zf4 m k t ht]) hst
def Zz26{α:Type}[DecidableEq α]:∀{l m:List α},l.Nodup->(∀x∈l,x∈m)->l.f<=m.f
 |[],m,_,_=>Yk _
 |x::l,m,h,hs=>by
  let(h1,h2):=Y0I.S h;let hx:=hs x Ye
  have:=Zz26 (l:=l) (m:=m.erase x) h2 λy hy=>(Y2Y λ(e:y=x)=>h1<|e▸hy).X (hs y<|Yd _ hy)
  rw[Y2u hx]at this
  have:=Y1S hx
  rw[Yu];lia
def ZH4(g:ZM n ps)(hT:Zo n ps T)(z0:0<=z)(z1:z<ps⁻¹):Conn (Zz6 ps (ZO13 n ps T z T)) (Zw ps z).1 (Zw ps z).2:=by
 let he:=ZB1 (z:=z) g z0 z1;let key:∀XW:List Int,(∀o∈XW,o∈T/\z∉cutT n ps T o)->Conn (Zz6 ps<|T.filter λy=>decide<|y∉XW) (Zw ps z).1 (Zw ps z).2:=by
  intro XW
  induction XW with
  |nil=>
   intro _;let e:(T.filter λy=>decide<|y∉([]:List Int))=T:=Y2h.X λy _=>D
   rw[e];show hT.2.2 _ _ he.1 he.2
  |cons o XW ih=>
   intro hD;let c:=ih λy hy=>hD y (Yd _ hy)
   let(hoT,hoc):=hD o Ye;cases hoD:o∈XW
   ·show c.mono (ZD λy hy=>?_);let(h1,h2):=Ym.S hy;let h2:=YS h2
    show Ym.X {h1,YY λh=>(Yf.S h).elim (λe=>h2<|e▸hoD) h2}
   ·show YK λhno=>?_;let hsub:∀y,y∈(T.filter λy=>decide<|y∉o::XW)->y∈wo T o:=λy hy=>by
     let(h1,h2):=Ym.S hy;let h2:=YS h2
     show wo_mem.X {h1,λe=>h2<|by rw[e];show Ye}
    let c2:Conn (Zz6 ps<|(T.filter λy=>decide<|y∉o::XW)++[o]) (Zw ps z).1 (Zw ps z).2:=(Zz51 λy=>by
     rw[Yb,Ym,Ym,Yy2];simp only[Y3d,Yf,not_or];constructor
     ·rintro⟨h1,h2⟩;cases e:y=o
      ·show .inr e
      ·show .inl ⟨h1,e,h2⟩
     ·rintro(⟨h1,_,h2⟩|e)
      ·exists h1,h2
      ·rw[e];exists hoT,hoD).S c
    let hall:∀y∈(T.filter λy=>decide<|y∉o::XW),0<=y/\y<ps⁻¹:=λy hy=>hT.1.all y (Ym.S hy).1;let(o0,o1):=hT.1.all o hoT;let hin:InN n.i (Zz6 ps<|T.filter λy=>decide<|y∉o::XW):=ZL g hall
    let hin1:InN n.i (Zz6 ps<|(T.filter λy=>decide<|y∉o::XW)++[o]):=ZL g λy hy=>by
     rcases Yb.S hy with h|h
     ·show hall y h
     ·rw[Yy2.S h];exists o0,o1
    let hoe:=ZB1 (z:=o) g o0 o1;let hl:=Zy n.i (Zz6 ps<|T.filter λy=>decide<|y∉o::XW)
    let own:¬Conn (Zz6 ps<|wo T o) (Zw ps o).1 (Zw ps o).2:=(Zz91 g hT o0 o1).S ((Zd5 g hT hoT hoT).X Z);let cw:Conn (Zz6 ps<|wo T o) (Zw ps z).1 (Zw ps z).2:=YK λh=>hoc ((Zz91 g hT z0 z1).X h)
    let up:∀{i j:Nat},i<n.i->j<n.i->mk (lms n.i<|Zz6 ps<|T.filter λy=>decide<|y∉o::XW) i=mk (lms n.i<|Zz6 ps<|T.filter λy=>decide<|y∉o::XW) j->Conn (Zz6 ps<|wo T o) i j:=λhi hj e=>((Zz21 hin hi hj).S e).mono (ZD hsub);let m:=(Zz21 hin1 he.1 he.2).X c2
    rw[Zz41,Zz71,ZE6 J J]at m;rcases m with m|⟨m1,m2⟩
    ·show hno ((Zz21 hin he.1 he.2).S m)
    ·rcases m1 with m1|m1<;>rcases m2 with m2|m2
     ·show hno ((Zz21 hin he.1 he.2).S (m1.m m2.symm))
     ·show own (((up he.1 hoe.1 m1).symm.m cw).m (up he.2 hoe.2 m2))
     ·show own (((up he.2 hoe.1 m2).symm.m cw.symm).m (up he.1 hoe.2 m1))
     ·show hno ((Zz21 hin he.1 he.2).S (m1.m m2.symm))
 let c:=key (T.filter λy=>decide<|z∉cutT n ps T y) λo ho=>by let(h1,h2):=Ym.S ho;exists h1,YS h2
 show c.mono (ZD λy hy=>?_);let(h1,h2):=Ym.S hy;let h2:=YS h2
 show ringA_mem.X {h1,YK λh=>h2<|Ym.X {h1,YY h}}
def Zy9{a b:List Int}(ha:a.C (·<·))(hb:b.C (·<·))(h:∀z,z∈a↔z∈b):a=b:=
 (ZH3 ha hb λz hz=>(h z).S hz).eq_of_length (Y3C (ZH3 ha hb λz hz=>(h z).S hz).length_le (ZH3 hb ha λz hz=>(h z).X hz).length_le)
def Ze5{i:Int}(h0:0<=i):cutV xs (some i) none=xs.drop i.i:=by
 let e:HT.sIx xs.f 0 (some i)=min i.i xs.f:=by change(if i<0 then (i+xs⁻¹).i else min i.i xs.f)=_;rw[if_neg J]
 unfold cutV;rw[e,HT.sIx_none,YF (by rw[YV];show Yy8 _)];cases h:i.i<=xs.f
 ·rw[Y3B h]
 ·rw[Nat.min_eq_right J,YH<|Yy8 _,YH B]
def cutz{α:Type}(l:List α)(z:Int):(List α):=l.G z.i++l.drop (z.i+1)
def Zj15{z:Int}(h0:0<=z):cutV xs none (some z)++cutV xs (some (z+1)) none=cutz xs z:=by rw[Zk7 h0,Ze5 J,show(z+1).i=z.i+1 by lia];rfl
def Zd11{α:Type}(l:List α)(z:Int):(cutz l z).f<=l.f:=by unfold cutz;rw[Yy3,Yh,YV];grind
def dn(lo hi i:Int):(Int):=if i=hi then lo else if i<hi then i else i-1
def Zz012{n i:Nat}(h:i<n):(rgL n)[i]?=some (i:Int):=by unfold rgL;rw[Yc,Y0v h];rfl
def Zz510(i:Nat):rgL (i+1)=rgL i++[(i:Int)]:=by unfold rgL;rw[Y0H,Yn];rfl
end My
namespace L2
open PySem PySem.Spec PyProof.Rows
section
variable{X:Cx}
def rIxQ(K:PySem.W.Q):(R2):=λx y H Q=>∃k p xs i v,x=.ref p/\y=.int i/\My.SqK k K H p xs/\atI xs i=some v/\Q v H
def ZB12(K:PySem.W.Q)(h:X.K=K:=by rfl):IxR X (rIxQ K):=by
 intro value slice pins s σ H x y v u Q I rx ry h1 hs;let(k,p,xs,i,z,e1,e2,hq,he,q):=h1;cases k with
 |false=>show Zg K h value slice pins s σ H x y v u Q I rx ry ⟨p,xs,i,z,e1,e2,hq,he,q⟩ hs
 |true=>show ZG K h value slice pins s σ H x y v u Q I rx ry ⟨p,xs,i,z,e1,e2,hq,he,q⟩ hs
end
def Zz714{N a b:St->Hp->Prop}{r:VK}{σ:St}{H:Hp}(h:N σ H):Ends.nx {nx:=N,rt:=r,bk:=a,ct:=b} σ H:=h
end L2
namespace My
def len1{α:Type}{l:List α}(h:l.f=1):∃a,l=[a]:=by
 cases l with
 |nil=>cases h
 |cons a l=>cases l with
  |nil=>exists a,Z
  |cons b l=>simp at h
def len2{α:Type}{l:List α}(h:l.f=2):∃a b,l=[a,b]:=by
 cases l with
 |nil=>cases h
 |cons a l=>
  let(b,rfl):=len1 (Yy24 h);exists a,b,Z
def len3{α:Type}{l:List α}(h:l.f=3):∃a b c,l=[a,b,c]:=by
 cases l with
 |nil=>cases h
 |cons a l=>
  let(b,c,rfl):=len2 (Yy24 h);exists a,b,c,Z
def len4{α:Type}{l:List α}(h:l.f=4):∃a b c d,l=[a,b,c,d]:=by
 cases l with
 |nil=>cases h
 |cons a l=>
  let(b,c,d,rfl):=len3 (Yy24 h);exists a,b,c,d,Z
end My
namespace My
open PySem L2
def Conn.lift(h:∀e∈es,Conn fs e.1 e.2)(c:Conn es i j):Conn fs i j:=by
 induction c with
 |refl i=>show .refl i
 |edge e=>show h _ e
 |symm _ ih=>show ih.symm
 |trans _ _ ih1 ih2=>show ih1.m ih2
def Zo6(g:ZM n ps)(hT:Zo n ps T)(hW:Zo n ps W)(hz:z∈T)(hzW:z∉W):∃y,exg n ps T z y/\exg n ps W y z:=by
 let(z0,z1):=hT.1.all z hz;show YK λhno=>?_;show(Zz91 g hT z0 z1).S ((Zd5 g hT hz hz).X Z) ((ZH4 g hW z0 z1).lift λe he=>?_);unfold Zz6 at he;let(y,hy,rfl):=Yx.S he;let(hyW,hyc):=ringA_mem.S hy;let(y0,y1):=hW.1.all y hyW;let hyz:y≠z:=λe=>hzW (e▸hyW)
 have:=(Zz91 (o:=z) g hT y0 y1)
 show YK λh=>hno {y,{hz,hyz,this.X h},{hyW,Y0f hyz,hyc}}
def Zw8(g:ZM n ps)(hD:IsSet ps.f XW)(hc:∀i j,i<n.i->j<n.i->Conn (Zz6 ps XW) i j):∃T,Zo n ps T/\∀y∈T,y∈XW:=by
 let hs:=Zz99 n.i ps XW;let hall:=hD.all
 let hG:=ZR10 g hall;let hcc:∀i j,i<n.i->j<n.i->Conn (Zz6 ps<|grw n.i ps XW) i j:=λi j hi hj=>ZS10 g XW hall (hc i j hi hj)
 let h1:=(Za1 (by have:=g.1;lia) hG).X hcc;let h2:=ZP6 g XW hall
 exists grw n.i ps XW,{isSet_iff.X {λz hz=>hall z<|hs.subset hz,(isSet_iff.S hD).2.sublist hs},by have:=g.1;grind,hcc},λy hy=>hs.subset hy
def ZC8(l:List Int):∃m:List Int,m.Perm l/\m.C (·<=·):=by
 induction l with
 |nil=>exists [],.refl _,.nil
 |cons x l ih=>
  let(m,h1,h2):=ih;let key:∀m:List Int,m.C (·<=·)->∃k:List Int,k.Perm (x::m)/\k.C (·<=·):=by
   intro m
   induction m with
   |nil=>intro _;exists [x],.refl _,Yy11 _ _
   |cons y m ih2=>
    intro hp;let(hy,hm):=Y0i.S hp;cases hxy:x<=y
    ·exists x::y::m,.refl _,Y0i.X {λz hz=>?_,hp};rcases Yf.S hz with e|e
     ·rwa[e]
     ·show Y2w hxy (hy z e)
    ·let(k,k1,k2):=ih2 hm;exists y::k,(k1.cons y).m (List.Perm.swap x y m),Y0i.X {λz hz=>?_,k2};rcases Yf.S (k1.mem_iff.S hz) with e|e
     ·rw[e];lia
     ·show hy z e
  let(k,k1,k2):=key m h2;exists k,k1.m<|h1.cons x,k2
def Zj11(s:SameP M N):cnt M=cnt N:=by
 unfold cnt fstA;rw[<-s.1];show YI List.f (Y3e λp hp=>?_);let hp:=YO.S hp
 rw[Y0V,fstB_iff,fstB_iff];constructor
 ·intro h i hi e;show h i hi ((s.2 i p J hp).X e)
 ·intro h i hi e;show h i hi ((s.2 i p J hp).S e)
def ZO6(g:ZM n ps)(hU:Zo n ps U):∀V:List Int,V.Nodup->(∀z∈V,z∈U)->grw n.i ps V=V:=by
 show Zk1 (λ_ _=>rfl) λV z ih hn hs=>?_;let hn':=Y1n.S hn
 let hV:∀y∈V,y∈U:=λy hy=>hs y (YA _ hy);let hz:z∈U:=hs z (Yy _<|Yy2.X Z)
 let hzV:z∉V:=λh=>hn'.2.2 z h z (Yy2.X Z) rfl;let(z0,z1):=hU.1.all z hz;let he:=ZB1 (z:=z) g z0 z1
 rw[ZH1,ih hn'.1 hV];unfold gst;rw[if_neg];intro e;let c:=(Zz21 (ZL g λy hy=>hU.1.all y<|hV y hy) he.1 he.2).S e
 show(Zz91 g hU z0 z1).S ((Zd5 g hU hz hz).X Z) (c.mono<|ZD λy hy=>wo_mem.X {hV y hy,λe'=>hzV<|by rwa[<-e']})
def Fr(n:Nat)(ps:List (Int×Int))(l:List Int):(Bool):=decide (grw n ps l=l)
def frs(n:Nat)(ps:List (Int×Int))(k:Nat):(List (List Int)):=(cmb ps⁻¹ k).filter (Fr n ps)
def ZX10(g:ZM n ps):l∈frs n.i ps (n-1).i↔Zo n ps l:=by
 unfold frs;rw[Ym,cmb_mem];let g1:=g.1
 constructor
 ·rintro⟨⟨h1,h2⟩,h3⟩;let e:grw n.i ps l=l:=YS h3
  let c:=ZP6 g l h2.all;rw[e]at c;exists h2,J,(Za1 XS<|ZL g h2.all).S XS
 ·intro h;exists {by have:=h.2.1;lia,h.1},YY<|ZO6 g h l h.1.nodup λz hz=>hz
def srt_strict{a:List Int}(h:a.C (·<=·))(hn:a.Nodup):a.C (·<·):=(h.and hn).imp λh=>by have:=h.1;have:=h.2;lia
def Zv8{p r:List Int}{x:Int}(h:(p++x::r).C (·<·)):(∀z∈p,z<x)/\∀z∈x::r,x<=z:=by
 let a:=Yz.S h;exists λz hz=>a.2.2 z hz x Ye,λz hz=>?_;rcases Yf.S hz with h|h
 ·rw[h];show Y1e _
 ·show Y3t ((Y0i.S a.2.1).1 z h)
def TC(n:Int)(ps:List (Int×Int))(c:Nat):(Prop):=∃L:List (List Int),L.Nodup/\(∀l,l∈L↔Zo n ps l)/\L.f=c
def TC.uniq(h1:TC n ps c)(h2:TC n ps d):c=d:=by let(L,a1,a2,rfl):=h1;let(M,b1,b2,rfl):=h2;show((Y1a a1 b1).X λl=>by rw[a2,b2]).length_eq
def set_snoc:IsSet (m+1) (T++[(m:Int)])↔IsSet m T:=by
 constructor
 ·intro h;let a:=isSet_iff.S h
  let b:=Yz.S a.2;show isSet_iff.X {λz hz=>?_,b.1};let c:=a.1 z (YA _ hz)
  let d:=b.2.2 z hz m (Yy2.X Z);omega
 ·show λh=>h.snoc
def Za6(h:IsSet (m+1) T):IsSet m T\/∃T',T=T'++[(m:Int)]/\IsSet m T':=by
 let a:=isSet_iff.S h;cases hm:(m:Int)∈T
 ·let(p,r,e):=List.append_of_mem hm;let b:=Zv8 (e▸a.2)
  cases r with
  |nil=>show .inr {p,e,set_snoc.S<|e▸h}
  |cons y r=>
   let h1:=a.1 y (by rw[e];simp);let h2:=(Y0i.S (Yz.S<|e▸a.2).2.1).1 y Ye
   omega
 ·show .inl (isSet_iff.X {λz hz=>?_,a.2});let h1:=a.1 z hz
  let h2:z≠(m:Int):=λe=>hm (e▸hz);lia
def Zg5{es:List (Nat×Nat)}{a b i j:Nat}(c:Conn (es++[(a,b)]) i j):Conn (es++[(b,a)]) i j:=c.lift λe he=>by
 rcases Yb.S he with q|q
 ·show .edge (YA _ q)
 ·rw[Yy2.S q];show .symm (.edge D)
def PairsV.set(h:PairsV H xs ps)(i:Nat)(q:PairV H v p):PairsV H (xs.set i v) (ps.set i p):=by
 show{by rw[Y0J,Y0J];show h.1,λj x e=>?_};let hl:=h.1
 cases c:i=j
 ·subst c;rw[Y0R]at e;rw[if_pos Z]at e;cases hlt:i<ps.f
  ·rw[if_pos hlt]at e;let rfl:=Yl e;exists v,by rw[Y0R,if_pos Z,if_pos J],q
  ·rw[if_neg hlt]at e;cases e
 ·rw[Y0R,if_neg c]at e;let(w,e1,r):=h.2 j x e;exists w,by rw[Y0R,if_neg c];show e1,r
end My
namespace L2
open PySem PySem.Spec PyProof.Rows
def Itz(K:PySem.W.Q)(a b:Addr):(It):=
 ⟨λi H=>∃xs ys x y,SqL K H a xs/\SqL K H b ys/\xs[i]?=some x/\ys[i]?=some y,λi H v H'=>∃T x y,H T=none/\v=.ref T/\H'=upd H T (.tup [x,y])/\(∀xs,SqL K H a xs->xs[i]?=some x)/\∀ys,SqL K H b ys->ys[i]?=some y,
  λi H=>∃xs ys,SqL K H a xs/\SqL K H b ys/\(xs.f<=i\/ys.f<=i)⟩
def ZI9{P:Program}{w:World}{K:PySem.W.Q}{elts:List Expr}{x1:Nat}{pos:Pos}(a b z TI TO i1 i2:Addr)(XW:ZipApart z TI TO i1 i2 a b):
  Turn P w K (.Tuple elts x1 pos) (Itz K a b) [z,TI,TO,i1,i2] z (λi h=>IsZip h z TI TO .none/\IsPair h TI ↑i1 ↑i2/\(∃c d,IsPair h TO c d)/\h.IsListIter i1 a i/\h.IsListIter i2 b i) where
 mem:=D
 obj:=λi h st c hc=>by
  let(hz,hTI,(u,v,hTO),(o1,e1,_,d1),(o2,e2,_,d2)):=st;let hc':c=z\/c=TI\/c=TO\/c=i1\/c=i2:=by simpa using hc
  rcases hc' with rfl|rfl|rfl|rfl|rfl
  ·exists _,hz,λv q=>by let q':Data.fields _=Data.cell v:=q;cases q'
  ·exists _,hTI,λv q=>by let q':Data.seq _ _=Data.cell v:=q;cases q'
  ·exists _,hTO,λv q=>by let q':Data.seq _ _=Data.cell v:=q;cases q'
  ·exists o1,e1,λv q=>by rw[d1]at q;cases q
  ·exists o2,e2,λv q=>by rw[d2]at q;cases q
 keep:=λi h h' st k=>by let(hz,hTI,(u,v,hTO),h1,h2):=st;exists k z D _ hz,k TI D _ hTI,{u,v,k TO D _ hTO},h1.at λo e=>k i1 D o e,h2.at λo e=>k i2 D o e
 item:=by
  intro X hP hw hK hc i pins s σ H E I hf st hg;subst hP hw hK;let(xs,ys,x,y,hq,hq2,hx,hy):=hg;let(hz,hTI,(u0,v0,hTO),h1,h2):=st;let(its,rv,p,_):=I.list hq;let(u,hu,ru):=rv.get hx;let(its2,rv2,p2,_):=I.list hq2;let(v,hv,rv'):=rv2.get hy;let fz:=hf z D
  let fTO:=hf TO D;let fi1:=hf i1 D
  let fi2:=hf i2 D;let hT0:H (~~~s)=none:=I.hok.fresh (Yy8 _)
  show wpAny_pyNext_zip_item XW hz hTI hTO h1 h2 p.isList p2.isList (x:=u) (y:=v) (by simpa using hu) (by simpa using hv) λh' a1 a2 a3 a4 a5 hsz hk=>?_;let ltT:∀b ob,s.o.E b=some ob->b≠(~~~s):=λb ob z=>Yt (Yg z)
  let ltH:∀b ob,H b=some ob->b≠(~~~s):=λb ob z=>Yt (I.hok.lt z);let nof:∀c ob,H c=some ob->c≠z/\c≠TO/\c≠i1/\c≠i2:=λc ob q=>{λe=>(by rw[e,fz.1]at q;cases q),λe=>(by rw[e,fTO.1]at q;cases q),λe=>(by rw[e,fi1.1]at q;cases q),λe=>(by rw[e,fi2.1]at q;cases q)}
  let hkc:∀c o,c∉[z,TO,i1,i2]->s.o.E c=some o->h'.E c=some o:=λc o hcx q=>hk c o (λe=>hcx<|by simp[e]) (λe=>hcx<|by simp[e]) (λe=>hcx<|by simp[e]) (λe=>hcx<|by simp[e]) q;let I1:Inv X pins σ (upd H (~~~s)<|.tup [x,y]) {s with heap:=h'}:=by
   show I.step (g':=s.gens) (d':=s.drawn) (t':=s.toks) (ch:=[z,TO,i1,i2]) (λc hb=>?_) (λc o _ _ hcx q _=>hkc c o hcx q) (λc o _ _ hcx q _=>{o.slots,hkc c o hcx q})
    (λc o _ q n=>by rwa[Ze (ltT c o q)]) (λc o hcx q=>{o,hkc c o hcx q}) (λc ys q=>by rwa[Ze (ltH c _ q)]) (λc o v q=>by rwa[Ze (ltH c _ q)])
    (λc ps q=>{#[],by rw[Ze (ltH c _ q),q];simp}) (λm hm=>?_) (λc v' q=>?_) I.bare
   ·have hc':c=z\/c=TO\/c=i1\/c=i2:=by simpa using hb
    rcases hc' with rfl|rfl|rfl|rfl
    ·exists fz.2.2.2.1,fz.2.1,fz.2.2.2.2.1,fz.2.2.2.2.2
    ·exists fTO.2.2.2.1,fTO.2.1,fTO.2.2.2.2.1,fTO.2.2.2.2.2
    ·exists fi1.2.2.2.1,fi1.2.1,fi1.2.2.2.2.1,fi1.2.2.2.2.2
    ·exists fi2.2.2.2.1,fi2.2.1,fi2.2.2.2.2.1,fi2.2.2.2.2.2
   ·let(o,es,ep,ho',r):=hm;exists o,es,ep,hk _ o (Y0f fz.2.1) (Y0f fTO.2.1) (Y0f fi1.2.1) (Y0f fi2.2.1) ho',r
   ·by_cases hb:c=(~~~s)
    ·subst hb;rw[Zz1]at q;cases q;exists by change 2<=sizeLine;decide,[u,v],.cons ru<|.cons rv' .nil,{_,a5,Z,_,Z}
    ·rw[Ze hb]at q;show(I.hok c v' q).stay (λe w' hc' q'=>?_) (λe q=>by rwa[Ze (ltH e _ q)]) λe ys q=>by rwa[Ze (ltH e _ q)]
     rcases hc' with rfl|hc'
     ·have:=nof e _ q
      show hk e w' this.1 this.2.1 this.2.2.1 this.2.2.2 q'
     ·have:=nof e _ hc'
      show hk e w' this.1 this.2.1 this.2.2.1 this.2.2.2 q'
  exists _,Z,wpAny_letOwnedTupleGo_zip a1 λh2 hz2 hs2=>?_;let fT:z≠(~~~s):=ltT z _ hz
  let I2:Inv X pins σ (upd H (~~~s)<|.tup [x,y]) {s with heap:=h2}:=Inv.turned (s:={s with heap:=h'}) (h':=h2) (t':=s.toks) (it:=z) I1 (λb o hb q=>hs2.extBut b o hb q) (by rw[Ze fT];show fz.1) fz.2.1 fz.2.2.2.1 fz.2.2.2.2.1 fz.2.2.2.2.2;show⟨.ref (~~~s),_,I2,Z,{_,x,y,hT0,Z,Z,λys hy'=>by rw[I.list_inj hy' hq];show hx,λys hy'=>by rwa[I.list_inj hy' hq2]},
   {hz2,hs2.extBut _ _ XW.TIz (hkc _ _ (by have:=XW.TIz;have:=XW.TITO;have:=XW.TIi1;have:=XW.TIi2;simp;exists XW.TIz,XW.TITO,XW.TIi1,XW.TIi2) hTI),⟨u,v,hs2.extBut _ _ XW.TOz a2⟩,a3.at λo q=>hs2.extBut i1 o XW.i1z q,a4.at λo q=>hs2.extBut i2 o XW.i2z q},λc hc=>?_⟩
  let hc':c=z\/c=TI\/c=TO\/c=i1\/c=i2:=by simpa using hc
  let hn:=(hf c hc).1;rcases hc' with rfl|rfl|rfl|rfl|rfl
  ·rwa[Ze fT]
  ·rwa[Ze (ltT _ _ hTI)]
  ·rwa[Ze (ltT _ _ hTO)]
  ·let(o,eo,_):=h1;rwa[Ze (ltT _ o eo)]
  ·let(o,eo,_):=h2;rwa[Ze (ltT _ o eo)]
 done:=by
  intro X hP hw hK hc i pins s σ H E I hf st hg;subst hP hw hK;let(xs,ys,hq,hq2,hend):=hg;let(hz,hTI,(u0,v0,hTO),h1,h2):=st;let(its,rv,p,_):=I.list hq;let(its2,rv2,p2,_):=I.list hq2;let l1:=rv.f
  let l2:=rv2.f;let fz:=hf z D
  let fTO:=hf TO D;let fi1:=hf i1 D
  let fi2:=hf i2 D;show wpAny_pyNext_zip_end (I.ok.hd hc) XW hz hTI hTO h1 h2 p.isList p2.isList (by
   rcases hend with e|e
   ·show .inl (by simp;lia)
   ·show .inr<|by simp;lia) λh' hk=>{Z,?_}
  let hkc:∀c o,c∉[z,TO,i1,i2]->s.o.E c=some o->h'.E c=some o:=λc o hcx q=>hk c o (λe=>hcx<|by simp[e]) (λe=>hcx<|by simp[e]) (λe=>hcx<|by simp[e]) (λe=>hcx<|by simp[e]) q;let nof:∀c ob,H c=some ob->c≠z/\c≠TO/\c≠i1/\c≠i2:=λc ob q=>{λe=>(by rw[e,fz.1]at q;cases q),λe=>(by rw[e,fTO.1]at q;cases q),λe=>(by rw[e,fi1.1]at q;cases q),λe=>(by rw[e,fi2.1]at q;cases q)}
  show I.step (g':=s.gens) (d':=s.drawn) (t':=s.toks) (ch:=[z,TO,i1,i2]) (λc hb=>?_) (λc o _ _ hcx q _=>hkc c o hcx q) (λc o _ _ hcx q _=>{o.slots,hkc c o hcx q})
   (λc o _ q n=>n) (λc o hcx q=>{o,hkc c o hcx q}) (λc ys q=>q) (λc o v q=>q)
   (λc ps q=>{#[],by rw[q];simp}) (λm hm=>?_) (λc v' q=>?_) I.bare
  ·have hc':c=z\/c=TO\/c=i1\/c=i2:=by simpa using hb
   rcases hc' with rfl|rfl|rfl|rfl
   ·exists fz.2.2.2.1,fz.2.1,fz.2.2.2.2.1,fz.2.2.2.2.2
   ·exists fTO.2.2.2.1,fTO.2.1,fTO.2.2.2.2.1,fTO.2.2.2.2.2
   ·exists fi1.2.2.2.1,fi1.2.1,fi1.2.2.2.2.1,fi1.2.2.2.2.2
   ·exists fi2.2.2.2.1,fi2.2.1,fi2.2.2.2.2.1,fi2.2.2.2.2.2
  ·let(o,es,ep,ho',r):=hm;exists o,es,ep,hk _ o (Y0f fz.2.1) (Y0f fTO.2.1) (Y0f fi1.2.1) (Y0f fi2.2.1) ho',r
  ·show(I.hok c v' q).stay (λe w' hc' q'=>?_) (λe q=>q) λe ys q=>q;rcases hc' with rfl|hc'
   ·have:=nof e _ q
    show hk e w' this.1 this.2.1 this.2.2.1 this.2.2.2 q'
   ·have:=nof e _ hc'
    show hk e w' this.1 this.2.1 this.2.2.1 this.2.2.2 q'
 self:=λ_ _ _ _ _ st h=>wpAny_pyIter_zip st.1 h
def iZip(K:PySem.W.Q)(ta:TA):(TI):=λσ H R=>ta σ H λvs H1=>∃a b,vs=[.ref a,.ref b]/\(∃xs ys,SqL K H1 a xs/\SqL K H1 b ys)/\R (Itz K a b) H1
section
variable{X:Cx}
def Zf10(K:PySem.W.Q){elts:List Expr}{x1:Nat}{tpos:Pos}{e f:Expr}{ta:TA}{p pos:Pos}(hg:Gl X "zip")(hm:X.mg "zip"=none)(ha:PA X [e,f] ta)(hs:starEach [e,f] X.M=(false,eval e X.M)::starEach [f] X.M:=by rfl)(hpl:(backTo pos<|starEach [f] X.M).any (·.1)=false:=by rfl)(hk:X.K=K:=by rfl):
  PI X (.Tuple elts x1 tpos) (.Call (.Name "zip" p) [e,f] [] pos) (iZip K ta):=by
 subst hk;intro pins s σ H R I h;show Call_ (Zz82 I hg hm Boot.«zip»<|Y0b (thn (ha pos pins s σ H _ I h) λus s1 hz0=>?_) hs hpl);let(vs,H1,I1,r1,q1):=hz0;let(a,b,ev,(xs,ys,hq,hq2),q):=q1;subst ev;let(u,u',rfl,ru,ru'):=Zy13 r1;let rfl:u=Value.ref a:=ru;let rfl:u'=Value.ref b:=ru';let(its,rv,pl,_):=I1.list hq;let(its2,rv2,pl2,_):=I1.list hq2;let lt1:a<(~~~s1):=by let(_,_,e,_):=pl;show Yg e
 let lt2:b<(~~~s1):=by let(_,_,e,_):=pl2;show Yg e
 let XW:ZipApart ((~~~s1)+4) ((~~~s1)+2) ((~~~s1)+3) (~~~s1) ((~~~s1)+1) a b:=by
  let key:∀n x y:Nat,x<n->y<n->ZipApart (n+4) (n+2) (n+3) n (n+1) x y:=λn x y h1 h2=>by constructor<;>(intro q;let q':(_:Nat)=_:=q;lia)
  show key _ _ _ lt1 lt2
 show call_zip_2 pl.isList pl2.isList λh' hz hTI hTO hi1 hi2 hsz hk=>?_;show wpAny_pyIter_zip (s:={s1 with heap:=h'}) hz ?_;exists (~~~s1)+4,[(~~~s1)+4,(~~~s1)+2,(~~~s1)+3,(~~~s1),(~~~s1)+1],_,_,H1,Z,I1.kept (t':=s1.toks) hk,ZI9 a b _ _ _ _ _ XW,{hz,hTI,{_,_,hTO},hi1,hi2},λc hc=>?_,q;let hle:(~~~s1)<=c:=by
  let hc':c=(~~~s1)+4\/c=(~~~s1)+2\/c=(~~~s1)+3\/c=(~~~s1)\/c=(~~~s1)+1:=by simpa using hc
  rcases hc' with e|e|e|e|e<;>rw[e]<;>first|show Yy8 _|show Nat.le_add_right _ _
 show I1.fpOk hle (I1.hok.fresh hle)
end
end L2
namespace My
open PySem L2
section
variable{K:PySem.W.Q}{a b:Addr}{xs ys:List V}{g:TG}{tt:TT}{te:TE}{o:Nat}{fr:List Nat}{σ:St}{H:Hp}{Q:VK}
def Zx12(Pv:Nat->List V->Hp->Prop)(h0:Pv 0 [] H)(hxy:xs.f=ys.f)(hz:xs.f<sizeLine)(hl:∀i zs H,i<=xs.f->Pv i zs H->SqL K H a xs/\SqL K H b ys/\zs.f<=i)
  (hs:∀(i:Nat) x y zs H (p:Addr),H p=none->xs[i]?=some x->ys[i]?=some y->Pv i zs H->Zm4 Pv g tt te o fr σ i ↑p zs (upd H p<|.tup [x,y]))(hd:∀zs H,Pv xs.f zs H->∀p,H p=none->Q ↑p (upd H p<|.lst zs)):LcR (Itz K a b) g tt te o fr σ H Q:=by
 exists λi m zs H=>m=xs.f-i/\i<=xs.f/\Pv i zs H,{xs.f,D,Yk _,h0},?_;rintro i m zs H ⟨rfl,hi,p⟩;let(q,q2,hy):=hl i zs H hi p;cases hlt:i<xs.f
 ·show .inr {{xs,ys,xs[i],ys[i]'(by lia),q,q2,by simp[hlt],Yy0 B},J,λx H' ⟨T,u,v,hT,ex,eH,hu,hv⟩=>?_};subst ex eH;show hs i u v zs H T hT (hu xs q) (hv ys q2) p (λj zs H=>∃m',m'<xs.f-i/\m'=xs.f-j/\j<=xs.f/\Pv j zs H) λzs H p'=>{xs.f-(i+1),XS,Z,hlt,p'}
 ·have e:i=xs.f:=J;subst e;show .inl {{xs,ys,q,q2,.inl<|Yy8 _},J,hd zs H p}
end
end My
namespace My
abbrev Mx:=Nat->Nat->Int
def sm:(Nat->(Nat->Int)->Int)
 |0,_=>0
 |n+1,f=>sm n f+f n
def ZC{f g:Nat->Int}:∀{n:Nat},(∀i,i<n->f i=g i)->sm n f=sm n g
 |0,_=>rfl
 |n+1,h=>by change sm n f+f n=sm n g+g n;rw[ZC λi hi=>h i J,h n J]
def ZS3{f g:Nat->Int}:∀{n:Nat},sm n (λi=>f i+g i)=sm n f+sm n g
 |0=>rfl
 |n+1=>by change sm n (λi=>f i+g i)+(f n+g n)=sm n f+f n+(sm n g+g n);rw[ZS3];lia
def ZC5{c:Int}{f:Nat->Int}:∀{n:Nat},sm n (λi=>c*f i)=c*sm n f
 |0=>(Y0y c).symm
 |n+1=>by change sm n (λi=>c*f i)+c*f n=c*(sm n f+f n);rw[ZC5,Y2p]
def sm_zero:∀{n:Nat},sm n (λ_=>0)=0
 |0=>rfl
 |n+1=>by change sm n (λ_=>0)+0=0;rw[sm_zero];rfl
def Zj2{f:Nat->Int}(h:∀i,i<n->f i=0):sm n f=0:=by rw[ZC h];show sm_zero
def Zk2{f:Nat->Int}:∀{n:Nat},sm (n+1) f=f 0+sm n (λi=>f (i+1))
 |0=>by change 0+f 0=f 0+0;lia
 |n+1=>by change sm (n+1) f+f (n+1)=f 0+(sm n (λi=>f<|i+1)+f (n+1));rw[Zk2];lia
def Zz66{f:Nat->Nat->Int}:∀{n:Nat},sm n (λi=>sm m (f i))=sm m (λj=>sm n λi=>f i j)
 |0=>sm_zero.symm
 |n+1=>by change sm n (λi=>sm m<|f i)+sm m (f n)=sm m λj=>sm n (λi=>f i j)+f n j;rw[Zz66,ZS3]
def sk(j k:Nat):(Nat):=if k<j then k else k+1
def mn(A:Mx)(j:Nat):(Mx):=λi k=>A (i+1) (sk j k)
def sg(j:Nat):(Int):=if j%2=0 then 1 else -1
def ZC4(j:Nat):sg (j+1)=- sg j:=by
 unfold sg;cases h:j%2=0
 ·rw[if_pos h,if_neg B]
 ·rw[if_neg h,if_pos J];rfl
def det:(Nat->Mx->Int)
 |0,_=>1
 |n+1,A=>sm (n+1) λj=>sg j*A 0 j*det n (mn A j)
def Zz76{j k n:Nat}(h:k<n):sk j k<n+1:=by unfold sk;split<;>lia
def Zj:∀{n:Nat}{A XX:Mx},(∀i j,i<n->j<n->A i j=XX i j)->det n A=det n XX
 |0,_,_,_=>rfl
 |n+1,A,XX,h=>ZC λj hj=>by rw[h 0 j J hj,Zj (A:=mn A j) (XX:=mn XX j) λi k hi hk=>h (i+1) (sk j k) J (Zz76 hk)]
def Zx2:∀{n:Nat}{A XX C:Mx}{c:Int}{i:Nat},i<n->(∀r j,r<n->j<n->r≠i->A r j=XX r j/\A r j=C r j)->(∀j,j<n->A i j=c*XX i j+C i j)->det n A=c*det n XX+det n C
 |0,_,_,_,_,_,hi,_,_=>absurd hi (Y0h _)
 |n+1,A,XX,C,c,i,hi,h1,h2=>by
  change sm (n+1) (λj=>sg j*A 0 j*det n (mn A j))=c*sm (n+1) (λj=>sg j*XX 0 j*det n (mn XX j))+sm (n+1) λj=>sg j*C 0 j*det n (mn C j);rw[<-ZC5,<-ZS3];show ZC λj hj=>?_;cases i with
  |zero=>
   let e1:det n (mn XX j)=det n (mn A j):=Zj λr k hr hk=>(h1 (r+1) (sk j k) B (Zz76 hk) J).1.symm;let e2:det n (mn C j)=det n (mn A j):=Zj λr k hr hk=>(h1 (r+1) (sk j k) J (Zz76 hk) J).2.symm
   rw[e1,e2,h2 j hj];generalize det n (mn A j)=d;generalize sg j=s;rw[Y2p,Y3O,<-Yy05 s c,Y0z s c,Yy05 c s,Yy05 c]
  |succ i=>
   let e:=Zx2 (n:=n) (A:=mn A j) (XX:=mn XX j) (C:=mn C j) (c:=c) (i:=i) J (λr k hr hk hne=>h1 (r+1) (sk j k) J (Zz76 hk) J) λk hk=>h2 (sk j k) (Zz76 hk);let e0:=h1 0 j J hj J
   rw[e,<-e0.1,<-e0.2];generalize det n (mn XX j)=d;generalize det n (mn C j)=d';generalize sg j*A 0 j=s;rw[Y2p,<-Yy05,<-Yy05,Y0z s c]
def Zz115(h:j<=k):mn (mn A j) k i l=mn (mn A (k+1)) j i l:=by
 change A (i+1+1) (sk j<|sk k l)=A (i+1+1) (sk (k+1)<|sk j l);show YI _ ?_;unfold sk;cases h1:l<j
 ·rw[if_pos (show l<k by lia),if_pos h1,if_pos (show l<k+1 by lia)]
 ·rw[if_neg h1];cases h2:l<k
  ·rw[if_pos h2,if_neg h1,if_pos (show l+1<k+1 by lia)]
  ·rw[if_neg h2,if_neg (show ¬l+1<j by lia),if_neg (show ¬l+1<k+1 by lia)]
def Zc4:∀{n:Nat}{A:Mx}{i:Nat},i+1<n->(∀j,j<n->A i j=A (i+1) j)->det n A=0
 |0,_,_,hi,_=>absurd hi (Y0h _)
 |n+1,A,i+1,hi,h=>Zj2 λj hj=>by rw[Zc4 (A:=mn A j) (i:=i) J λk hk=>h (sk j k)<|Zz76 hk,Y0y]
 |1,_,0,hi,_=>absurd hi B
 |n+2,A,0,_,h=>by
  obtain⟨t,ht⟩:∃t:Nat->Nat->Int,t=λj k=>sg j*A 0 j*(sg k*A 1 (sk j k)*det n (mn (mn A j) k)):={_,Z};let e1:det (n+2) A=sm (n+2) λj=>sm (n+1) (t j):=ZC λj hj=>by rw[ht,ZC5];rfl
  let e2:∀j k,j<=k->k<n+1->t (k+1) j=- t j k:=λj k hjk hk=>by
   rw[ht];change sg (k+1)*A 0 (k+1)*(sg j*A 1 (sk (k+1) j)*det n (mn (mn A<|k+1) j))=- (sg j*A 0 j*(sg k*A 1 (sk j k)*det n (mn (mn A j) k)))
   let f1:sk (k+1) j=j:=by unfold sk;rw[if_pos J]
   let f2:sk j k=k+1:=by unfold sk;rw[if_neg J]
   let f3:det n (mn (mn A<|k+1) j)=det n (mn (mn A j) k):=Zj λi l _ _=>(Zz115 hjk).symm;rw[f1,f2,f3,ZC4,<-h j J,<-h (k+1) J];generalize det n (mn (mn A j) k)=d;generalize A 0 j=x;generalize A 0 (k+1)=y;generalize sg j=s;generalize sg k=u;simp only[Y3L,Int.neg_inj];simp only[Y0z,Y2A,Yy05]
  let e3:sm (n+2) (λj=>sm (n+1)<|t j)=sm (n+2) (λj=>sm (n+1) λk=>if k<j then t j k else 0)+sm (n+2) (λj=>sm (n+1) λk=>if k<j then 0 else t j k):=by rw[<-ZS3];show ZC λj _=>?_;rw[<-ZS3];show ZC λk _=>?_;split<;>lia
  let e4:sm (n+2) (λj=>sm (n+1) λk=>if k<j then t j k else 0)=sm (n+1) (λk=>sm (n+1) λj=>if k<=j then t (j+1) k else 0):=by
   rw[Zz66];show ZC λk _=>?_;rw[Zk2,if_neg J,Y1i];show ZC λj _=>?_;cases c:k<=j
   ·rw[if_pos c,if_pos B]
   ·rw[if_neg c,if_neg J]
  let e5:sm (n+2) (λj=>sm (n+1) λk=>if k<j then 0 else t j k)=sm (n+1) (λj=>sm (n+1) λk=>if j<=k then t j k else 0):=by
   change sm (n+1) (λj=>sm (n+1) λk=>if k<j then 0 else t j k)+sm (n+1) (λk=>if k<n+1 then 0 else t (n+1) k)=_;rw[Zj2 (f:=λk=>if k<n+1 then 0 else t (n+1) k) λk hk=>if_pos hk,Y0Z];show ZC λj _=>ZC λk _=>?_;cases c:j<=k
   ·rw[if_pos c,if_neg J]
   ·rw[if_neg c,if_pos J]
  rw[e1,e3,e4,e5,<-ZS3];show Zj2 λj hj=>?_;rw[<-ZS3];show Zj2 λk hk=>?_;cases c:j<=k
  ·rw[if_pos c,if_pos c,e2 j k c hk];lia
  ·rw[if_neg c,if_neg c];rfl
def put2(A:Mx)(i:Nat)(x y:Nat->Int):(Mx):=λr=>if r=i then x else if r=i+1 then y else A r
def Zb11{x x' y:Nat->Int}(hi:i+1<n):det n (put2 A i (λj=>x j+x' j) y)=det n (put2 A i x y)+det n (put2 A i x' y):=by
 have:=Zx2 (n:=n) (A:=put2 A i (λj=>x j+x' j) y) (XX:=put2 A i x y) (C:=put2 A i x' y) (c:=1) (i:=i) J (λr j _ _ hne=>by unfold put2;rw[if_neg hne,if_neg hne,if_neg hne];exists Z,Z) (λj _=>by unfold put2;rw[if_pos Z,if_pos Z,if_pos Z,Y0X])
 rw[this,Y0X]
def Zz95{x y y':Nat->Int}(hi:i+1<n):det n (put2 A i x λj=>y j+y' j)=det n (put2 A i x y)+det n (put2 A i x y'):=by
 let ne:¬i+1=i:=J
 have:=Zx2 (n:=n) (A:=put2 A i x λj=>y j+y' j) (XX:=put2 A i x y) (C:=put2 A i x y') (c:=1) (i:=i+1) J (λr j _ _ hne=>by unfold put2;rw[if_neg hne,if_neg hne,if_neg hne];exists Z,Z) (λj _=>by unfold put2;rw[if_neg ne,if_neg ne,if_neg ne,if_pos Z,if_pos Z,if_pos Z,Y0X])
 rw[this,Y0X]
def Zb4{x:Nat->Int}(hi:i+1<n):det n (put2 A i x x)=0:=Zc4 hi λj _=>by unfold put2;rw[if_pos Z,if_neg J,if_pos Z]
def Za11{x y:Nat->Int}(hi:i+1<n):det n (put2 A i y x)=- det n (put2 A i x y):=by let h:=Zb4 (A:=A) (x:=λj=>x j+y j) hi;rw[Zb11 hi,Zz95 hi,Zz95 hi,Zb4 hi,Zb4 hi]at h;lia
def Za10:put2 A i (A i) (A (i+1))=A:=by
 funext r
 unfold put2;cases h:r=i
 ·rw[if_pos h,h]
 ·rw[if_neg h];cases h2:r=i+1
  ·rw[if_pos h2,h2]
  ·rw[if_neg h2]
def Zz97(hi:i+1<n):det n (put2 A i (A (i+1)) (A i))=- det n A:=by
 have:=Za11 (A:=A) (x:=A i) (y:=A<|i+1) hi
 rwa[Za10]at this
def Ze2:∀{d:Nat}{A:Mx},a+d+1<n->(∀j,j<n->A a j=A (a+d+1) j)->det n A=0
 |0,A,hn,h=>Zc4 hn h
 |d+1,A,hn,h=>by
  let e:=Zz97 (n:=n) (A:=A) (i:=a+d+1) J;let z:det n (put2 A (a+d+1) (A<|a+d+1+1)<|A<|a+d+1)=0:=by show Ze2 (a:=a) (d:=d) J λj hj=>?_;unfold put2;rw[if_neg J,if_neg J,if_pos Z];show h j hj
  lia
def rotN(k t i:Nat):(Nat):=if i<k then i else if i=k then k+t else if i<=k+t then i-1 else i
def ZK7(k i:Nat):rotN k 0 i=i:=by
 unfold rotN;cases h:i<k
 ·rw[if_pos h]
 ·rw[if_neg h];cases h2:i=k
  ·rw[if_pos h2,h2];rfl
  ·rw[if_neg h2,if_neg J]
def Zb7:∀{t:Nat}{A:Mx},k+t<n->det n (λi=>A (rotN k t i))=sg t*det n A
 |0,A,_=>by rw[show sg 0=1 from Z,Y0X];show Zj λi j _ _=>by rw[ZK7]
 |t+1,A,h=>by
  let e:=Zb7 (n:=n) (k:=k) (t:=t) (A:=put2 A (k+t) (A<|k+t+1)<|A<|k+t) J;rw[Zz97 J]at e;let f:det n (λi=>A<|rotN k (t+1) i)=det n (λi=>put2 A (k+t) (A<|k+t+1) (A<|k+t)<|rotN k t i):=Zj λi j _ _=>by
   show congrFun ?_ j;let r1:rotN k (t+1) i=if i<k then i else if i=k then k+(t+1) else if i<=k+(t+1) then i-1 else i:=rfl
   let r2:rotN k t i=if i<k then i else if i=k then k+t else if i<=k+t then i-1 else i:=rfl
   unfold put2;cases h1:i<k
   ·rw[if_pos h1]at r1 r2;rw[r1,r2,if_neg J,if_neg J]
   ·rw[if_neg h1]at r1 r2;cases h2:i=k
    ·rw[if_pos h2]at r1 r2;rw[r1,r2,if_pos Z];rfl
    ·rw[if_neg h2]at r1 r2;cases h3:i<=k+t
     ·rw[if_pos J]at r1;rw[if_pos h3]at r2;rw[r1,r2,if_neg J,if_neg J]
     ·rw[if_neg h3]at r2;cases h4:i=k+t+1
      ·rw[if_pos J]at r1;rw[r1,r2,if_neg J,if_pos h4];show YI A J
      ·rw[if_neg J]at r1;rw[r1,r2,if_neg J,if_neg h4]
  rw[f,e,ZC4,Int.mul_neg,Y3L]
def Zd4:∀{n:Nat}{A:Mx},(∀i,i<n+1->A i 0=0)->det (n+1) A=0
 |0,A,h=>by change 0+sg 0*A 0 0*1=0;rw[h 0 B,Y0y];rfl
 |n+1,A,h=>Zj2 λj hj=>by
  cases j with
  |zero=>rw[h 0 J,Y0y,Yy30]
  |succ j=>
   rw[Zd4 (A:=mn A<|j+1) λi hi=>?_,Y0y];change A (i+1) (sk (j+1) 0)=0
   rw[show sk (j+1) 0=0 from Z];show h (i+1) J
def Zp8(h:∀i,i<n->A (i+1) 0=0):det (n+1) A=A 0 0*det n (λi j=>A (i+1) (j+1)):=by
 change sm (n+1) (λj=>sg j*A 0 j*det n (mn A j))=_;rw[Zk2,Zj2 λj hj=>?_]
 ·rw[Y0Z,show sg 0=1 from Z,Y0X];show YI (A 0 0 * ·) (Zj λi j _ _=>?_);rfl
 ·cases n with
  |zero=>show absurd hj (Y0h _)
  |succ n=>
   rw[Zd4 (A:=mn A<|j+1) λi hi=>?_,Y0y];show h i hi
def Za7{i:Nat}(hi:i<n)(h:∀j,j<n->A i j=0):det n A=0:=by
 have:=Zx2 (A:=A) (XX:=A) (C:=A) (c:=1) hi (λr j _ _ _=>⟨Z,Z⟩) (λj hj=>by rw[h j hj];rfl)
 lia
def Zz85{c:Int}:∀{n:Nat}{A:Mx},det n (λi j=>c*A i j)=c^n*det n A
 |0,_=>by change(1:Int)=c^0*1;rw[Yy29];rfl
 |n+1,A=>by
  change sm (n+1) (λj=>sg j*(c*A 0 j)*det n (mn (λi j=>c*A i j) j))=c^(n+1)*sm (n+1) λj=>sg j*A 0 j*det n (mn A j);rw[<-ZC5];show ZC λj _=>?_;let e:det n (mn (λi j=>c*A i j) j)=c^n*det n (mn A j):=Zz85 (A:=mn A j)
  rw[e,Yy31];generalize det n (mn A j)=d;generalize c^n=p;generalize sg j=s;generalize A 0 j=x;simp only[Y0z,Y2A,Yy05]
def offN(R:Mx):(Mx):=λi j=>R 0 0*R (i+1) (j+1)-R (i+1) 0*R 0 (j+1)
def offB(R:Mx)(k:Nat):(Mx):=λr j=>if r=0 then R 0 j else if r<=k then R 0 0*R r j-R r 0*R 0 j else R r j
def Ze7{m:Nat}:∀{k:Nat},k<m+1->det (m+1) (offB R k)=R 0 0^k*det (m+1) R
 |0,_=>by
  rw[Yy29,Y0X];show Zj λi j _ _=>?_;unfold offB;cases h:i=0
  ·rw[if_pos h,h]
  ·rw[if_neg h,if_neg J]
 |k+1,hk=>by
  let ih:=Ze7 (m:=m) (R:=R) (k:=k) J;obtain⟨C,hC⟩:∃C:Mx,C=λr j=>if r=k+1 then-R (k+1) 0*R 0 j else offB R k r j:={_,Z}
  obtain⟨XX,hB⟩:∃XX:Mx,XX=λr j=>if r=k+1 then R 0 j else offB R k r j:={_,Z}
  obtain⟨XZ,hZ⟩:∃XZ:Mx,XZ=λr j=>if r=k+1 then 0 else offB R k r j:={_,Z}
  let hBz:det (m+1) XX=0:=Ze2 (n:=m+1) (a:=0) (d:=k) J λj hj=>by
   rw[hB];change(if 0=k+1 then _ else offB R k 0 j)=if 0+k+1=k+1 then _ else _
   rw[if_neg J,if_pos J];rfl
  let hZz:det (m+1) XZ=0:=Za7 (i:=k+1) hk λj hj=>by rw[hZ];show if_pos rfl
  let hCz:det (m+1) C=0:=by
   have:=Zx2 (A:=C) (XX:=XX) (C:=XZ) (c:=- R (k+1) 0) hk (λr j _ _ hne=>by
    rw[hC,hB,hZ];change(if r=k+1 then _ else offB R k r j)=(if r=k+1 then _ else offB R k r j)/\(if r=k+1 then _ else offB R k r j)=(if r=k+1 then _ else offB R k r j)
    rw[if_neg hne,if_neg hne,if_neg hne];exists Z,Z) (λj _=>by
    rw[hC,hB,hZ];change(if k+1=k+1 then _ else _)=_*(if k+1=k+1 then _ else _)+(if k+1=k+1 then _ else _)
    rw[if_pos Z,if_pos Z,if_pos Z,Y0Z])
   rw[this,hBz,hZz,Y0y];rfl
  have:=Zx2 (A:=offB R<|k+1) (XX:=offB R k) (C:=C) (c:=R 0 0) hk (λr j _ _ hne=>by
   let e1:offB R (k+1) r j=offB R k r j:=by
    unfold offB;cases h0:r=0
    ·rw[if_pos h0,if_pos h0]
    ·rw[if_neg h0,if_neg h0];cases h1:r<=k
     ·rw[if_pos h1,if_pos J]
     ·rw[if_neg h1,if_neg J]
   exists e1,?_;rw[hC,e1];change _=if r=k+1 then _ else _
   rw[if_neg hne]) (λj _=>by
   let e1:offB R (k+1) (k+1) j=R 0 0*R (k+1) j-R (k+1) 0*R 0 j:=by unfold offB;rw[if_neg J,if_pos J]
   let e2:offB R k (k+1) j=R (k+1) j:=by unfold offB;rw[if_neg B,if_neg J]
   rw[e1,e2,hC];change _=_+(if k+1=k+1 then-R (k+1) 0*R 0 j else _)
   rw[if_pos Z,Y3L]
   rfl)
  rw[this,hCz,ih,Y0Z,Yy31];rw[<-Yy05,Y0z (R 0 0)]
def ZY12:R 0 0*det m (offN R)=R 0 0^m*det (m+1) R:=by
 rw[<-Ze7 (k:=m) J,Zp8 λi hi=>?_]
 ·have e0:offB R m 0 0=R 0 0:=if_pos rfl;rw[e0];show YI (R 0 0 * ·) (Zj λi j hi hj=>?_);unfold offB offN;rw[if_neg J,if_pos J]
 ·unfold offB;rw[if_neg J,if_pos J,Y0z];lia
def ex(k:Nat)(r:Nat->Nat)(i:Nat):(Nat):=if i<k then i else k+r (i-k)
def Bar(A:Mx)(k M:Nat)(R:Mx)(last:Int):(Prop):=last≠0/\∀m r c,(∀i,i<m+1->r i<M/\c i<M)->
 det (m+1) (λi j=>R (r i)<|c j)=det (k+m+1) (λi j=>A (ex k r i)<|ex k c j)*last^m
def Zs8(A:Mx)(n:Nat):Bar A 0 n A 1:={XU,λm r c _=>by rw[Int.one_pow,Y1N,Y0n];show Zj λi j _ _=>?_;unfold ex;rw[if_neg (Y0h _),if_neg<|Y0h _,Y0n,Y0n,Y2V,Y2V]}
def Zc10{p:Int}(h:p≠0):∀n:Nat,p^n≠0
 |0=>by rw[Yy29];decide
 |n+1=>by rw[Yy31];show Int.mul_ne_zero (Zc10 h n) h
def bef(r:Nat->Nat):(Nat->Nat)
 |0=>0
 |i+1=>r i+1
def ZR12(k:Nat)(r:Nat->Nat)(i:Nat):ex k (bef r) i=ex (k+1) r i:=by
 unfold ex;cases h:i<k
 ·rw[if_pos h,if_pos J]
 ·rw[if_neg h];cases h2:i=k
  ·rw[if_pos J,h2,Yy19];rfl
  ·rw[if_neg J];obtain⟨d,rfl⟩:∃d,i=k+d+1:={i-k-1,XS};rw[show k+d+1-k=d+1 by lia,show k+d+1-(k+1)=d by lia];change k+(r d+1)=k+1+r d
   lia
def Zw9{k M:Nat}(h:Bar A k (M+1) R last)(hp:R 0 0≠0){m:Nat}{r c:Nat->Nat}(hb:∀i,i<m+1->r i<M/\c i<M):
  det (m+1) (λi j=>offN R (r i)<|c j)=R 0 0^m*(last^(m+1)*det (k+1+m+1) λi j=>A (ex (k+1) r i)<|ex (k+1) c j):=by
 let e1:=ZY12 (m:=m+1) (R:=λi j=>R (bef r i)<|bef c j);let e2:=h.2 (m+1) (bef r) (bef c) λi hi=>by
  cases i with
  |zero=>exists Nat.succ_pos _,Nat.succ_pos _
  |succ i=>have:=hb i J;exists Nat.succ_lt_succ this.1,Nat.succ_lt_succ this.2
 let e3:det (m+1) (offN λi j=>R (bef r i)<|bef c j)=det (m+1) (λi j=>offN R (r i)<|c j):=rfl;let e4:det (k+(m+1)+1) (λi j=>A (ex k (bef r) i)<|ex k (bef c) j)=det (k+1+m+1) (λi j=>A (ex (k+1) r i)<|ex (k+1) c j):=by rw[show k+(m+1)+1=k+1+m+1 by lia];show Zj λi j _ _=>by rw[ZR12,ZR12]
 rw[e3]at e1;rw[e4]at e2;let e5:R (bef r 0) (bef c 0)=R 0 0:=rfl
 rw[e5,e2]at e1;generalize det (m+1) (λi j=>offN R (r i)<|c j)=x at *;generalize det (k+1+m+1) (λi j=>A (ex (k+1) r i)<|ex (k+1) c j)=y at *;rw[Yy31]at e1;show Y3N hp ?_;rw[e1,Y0z y,Y0z<|R 0 0^m,Yy05]
def Zd7(A:Mx):det 1 A=A 0 0:=by change 0+sg 0*A 0 0*1=A 0 0;rw[show sg 0=1 from Z];lia
def Za13{k M:Nat}(h:Bar A k (M+1) R last)(hp:R 0 0≠0)(hi:i<M)(hj:j<M):
  offN R i j=last*det (k+2) (λa b=>A (ex (k+1) (λ_=>i) a)<|ex (k+1) (λ_=>j) b):=by
 have:=Zw9 h hp (m:=0) (r:=λ_=>i) (c:=λ_=>j) λ_ _=>⟨hi,hj⟩
 rwa[Zd7,Yy29,Y0X,Yy31,Yy29,Y0X]at this
def Zp11(h:Bar A k (M+1) R last)(hp:R 0 0≠0)(hR:∀i j,i<M->j<M->R' i j=(offN R i j).fdiv last):Bar A (k+1) M R' (R 0 0):=by
 exists hp,λm r c hb=>?_;let ex1:∀i j,i<M->j<M->offN R i j=last*R' i j:=λi j hi hj=>by rw[hR i j hi hj,Za13 h hp hi hj,Y1j _ h.1]
 let e1:=Zw9 h hp hb;let e2:det (m+1) (λi j=>offN R (r i)<|c j)=last^(m+1)*det (m+1) (λi j=>R' (r i)<|c j):=by rw[<-Zz85];show Zj λi j hi hj=>ex1 _ _ (hb i hi).1 (hb j hj).2
 rw[e2]at e1;show Y3N (Zc10 h.1<|m+1) ?_;rw[e1];generalize det (k+1+m+1) (λi j=>A (ex (k+1) r i)<|ex (k+1) c j)=y;rw[Y2A,Y0z y]
def Zz913(h:Bar A k M R last)(ht:t<M):Bar (λi=>A (rotN k t i)) k M (λi=>R (rotN 0 t i)) last:=by
 exists h.1,λm r c hb=>?_;let e:=h.2 m (λi=>rotN 0 t<|r i) c λi hi=>⟨by
  have:=(hb i hi).1
  unfold rotN;rw[if_neg J];split
  ·lia
  ·split<;>lia,(hb i hi).2⟩
 rw[e];show YI (· * last^m) (Zj λi j _ _=>?_);show YI (λa=>A a<|ex k c j) ?_;unfold ex;cases hi:i<k
 ·rw[if_pos hi,if_pos hi];unfold rotN;rw[if_pos hi]
 ·rw[if_neg hi,if_neg hi];change k+rotN 0 t (r<|i-k)=rotN k t (k+r (i-k))
  generalize r (i-k)=a;let r1:rotN 0 t a=if a<0 then a else if a=0 then 0+t else if a<=0+t then a-1 else a:=rfl
  let r2:rotN k t (k+a)=if k+a<k then k+a else if k+a=k then k+t else if k+a<=k+t then k+a-1 else k+a:=rfl
  rw[if_neg J]at r1 r2;cases h1:a=0
  ·rw[if_pos h1]at r1;rw[if_pos J]at r2;rw[r1,r2];lia
  ·rw[if_neg h1]at r1;rw[if_neg J]at r2;cases h2:a<=t
   ·rw[if_pos J]at r1;rw[if_pos J]at r2;rw[r1,r2];lia
   ·rw[if_neg J]at r1;rw[if_neg J]at r2;rw[r1,r2]
def Zr13(k i:Nat):ex k (λi=>i) i=i:=by
 unfold ex;cases h:i<k
 ·rw[if_pos h]
 ·rw[if_neg h];change k+(i-k)=i
  grind
def Zq11{k M:Nat}(h:Bar A k (M+1) R last)(h0:∀i,i<M+1->R i 0=0):det (k+M+1) A=0:=by
 let e:=h.2 M (λi=>i) (λi=>i) λi hi=>⟨hi,hi⟩;rw[Zd4 (A:=λi j=>R i j) h0]at e;let e2:det (k+M+1) (λi j=>A (ex k (λi=>i) i)<|ex k (λi=>i) j)=det (k+M+1) A:=Zj λi j _ _=>by rw[Zr13,Zr13]
 rw[e2]at e;rcases Int.mul_eq_zero.S e.symm with z|z
 ·show z
 ·show absurd z (Zc10 h.1 M)
def Zb13(h:Bar A k 1 R last):R 0 0=det (k+1) A:=by
 let e:=h.2 0 (λi=>i) (λi=>i) λi hi=>⟨J,B⟩;rw[Zd7,Yy29,Y1N]at e;let e2:det (k+0+1) (λi j=>A (ex k (λi=>i) i)<|ex k (λi=>i) j)=det (k+1) A:=Zj λi j _ _=>by rw[Zr13,Zr13]
 rwa[e2]at e
end My
namespace L2
open PySem PySem.Spec PyProof.Rows
def Zl15(i j:Int):(Prop):=i.natAbs<2^9000/\j.natAbs<2^9000
def Zy14(i j:Int):(Prop):=j≠0/\j.natAbs<2^9000
def Zn5(h:a.natAbs<2^9000):Builtin.Int.intBits a<=9000:=PySem.intBits_le_iff.X h
section
variable{X:Cx}
def Zq6:OpR X (binaryOp .Mult) (rI Zl15 λi j=>.int (i*j)):=opI λ_ _ _ _ _ _ _ hc q=>mul_int q (.of_bits (Yv (Zn5 hc.1) XU)<|Yv (Zn5 hc.2) XU)
def Zz24:OpR X (binaryOp .FloorDiv) (rI Zy14 λi j=>.int (i.fdiv j)):=opI λ_ _ _ _ _ _ _ hc q=>floordiv_int hc.1 q (.inl<|PyProof.noPylong_of_log2<|(Nat.log2_lt (by have:=hc.1;lia)).X hc.2)
end
end L2
namespace My
def fnL(L:List (List Int)):(Mx):=λi j=>(L.getD i []).getD j 0
def ZC2{l:List Int}{x:Int}(h:L[i]?=some l)(h2:l[j]?=some x):fnL L i j=x:=by
 let e:L.getD i []=l:=by rw[Yy5,h];rfl
 unfold fnL;rw[e,Yy5,h2];rfl
def bnd(XX:Nat):(Nat->Nat)
 |0=>1
 |n+1=>(n+1)*(XX*bnd XX n)
def ZO11{f:Nat->Int}{C:Nat}:∀{n:Nat},(∀i,i<n->(f i).natAbs<=C)->(sm n f).natAbs<=n*C
 |0,_=>by change(0:Int).natAbs<=0*C;rw[Nat.zero_mul];show Yy8 0
 |n+1,h=>by
  let h1:=ZO11 (n:=n) λi hi=>h i J;let h2:=h n J
  let h3:(sm n f+f n).natAbs<=(sm n f).natAbs+(f n).natAbs:=Y2z ..;change(sm n f+f n).natAbs<=(n+1)*C
  rw[Y3m];lia
def Zq9:∀{n:Nat}{A:Mx},(∀i j,i<n->j<n->(A i j).natAbs<=XX)->(det n A).natAbs<=bnd XX n
 |0,_,_=>Yy8 1
 |n+1,A,h=>by
  show ZO11 λj hj=>?_;let e:(sg j).natAbs=1:=by unfold sg;split<;>rfl
  rw[Yy22,Yy22,e,Nat.one_mul];show Y1t (h 0 j J hj) (Zq9 λi k hi hk=>h (i+1) (sk j k) J<|Zz76 hk)
def Zz713{b:Nat}:∀{n:Nat},n<=16->bnd (2^b) n<=2^((b+4)*n)
 |0,_=>by change 1<=2^((b+4)*0);rw[Nat.mul_zero];show Yy8 1
 |n+1,h=>by
  let ih:=Zz713 (b:=b) (n:=n) J;let e:2^((b+4)*(n+1))=16*(2^b*2^((b+4)*n)):=by rw[Nat.mul_succ,Nat.pow_add,Nat.pow_add,Y2W<|2^((b+4)*n),Y2W (2^b)<|2^4,Nat.mul_assoc]
  rw[e];change(n+1)*(2^b*bnd (2^b) n)<=_
  show Y1t h (Y1t (Yy8 _) ih)
def Zo8(hn:n<=16)(h:∀i j,i<n->j<n->(A i j).natAbs<=2^400):(det n A).natAbs<2^9000:=by
 let h1:=Zq9 h;let h2:=Zz713 (b:=400) hn
 let h3:2^((400+4)*n)<=2^(404*16):=Yy25 XU (Y1t (Yy8 _) hn);let h4:2^(404*16)<2^9000:=Nat.pow_lt_pow_right XU XU
 show Y1L (Yv h1<|Yv h2 h3) h4
def Zw14(h:Bar A k M R last){i j:Nat}(hi:i<M)(hj:j<M):R i j=det (k+1) (λa b=>A (ex k (λ_=>i) a) (ex k (λ_=>j) b)):=by
 have:=h.2 0 (λ_=>i) (λ_=>j) λ_ _=>⟨hi,hj⟩
 rwa[Zd7,Yy29,Y1N]at this
def Zt8{k M n:Nat}(h:Bar A k M R last)(hn:k+M=n)(hn16:n<=16)(hA:∀i j,i<n->j<n->(A i j).natAbs<=2^400){i j:Nat}(hi:i<M)(hj:j<M):(R i j).natAbs<2^9000:=by
 rw[Zw14 h hi hj];show Zo8 J λa b ha hb=>hA _ _ ?_ ?_
 ·have e:ex k (λ_=>i) a=if a<k then a else k+i:=rfl
  rw[e];split<;>lia
 ·have e:ex k (λ_=>j) b=if b<k then b else k+j:=rfl
  rw[e];split<;>lia
def ZW11{L:List (List Int)}{l:List Int}(h:L[t]?=some l)(i:Nat):(l::L.eraseIdx t)[i]?=L[rotN 0 t i]?:=by
 let ht:=(Yy1.S h).1;let r:rotN 0 t i=if i<0 then i else if i=0 then 0+t else if i<=0+t then i-1 else i:=rfl
 rw[if_neg J]at r;cases i with
 |zero=>
  rw[if_pos Z,Y0n]at r;rw[r,h];rfl
 |succ i=>
  rw[if_neg J,Y0n]at r;rw[r,List.getElem?_cons_succ,Y2L];cases c:i+1<=t
  ·rw[if_pos c,if_pos J];rfl
  ·rw[if_neg c,if_neg J]
def ZX11{l:List Int}(h:L[t]?=some l):fnL (l::L.eraseIdx t)=λi=>fnL L (rotN 0 t i):=by
 funext i j
 change((l::L.eraseIdx t).getD i []).getD j 0=(L.getD (rotN 0 t i) []).getD j 0;show YI (λr:List Int=>r.getD j 0) ?_;rw[Yy5,Yy5,ZW11 h]
def tkn(y:Int)(p:List Int)(last:Int)(l:List Int):(List Int):=List.zipWith (λown other=>(y*own-l.headD 0*other).fdiv last) l.tail p
def Zx8(h:l.f=p.f+1):(tkn y p last l).f=p.f:=by unfold tkn;rw[Y1D,List.length_tail];lia
def ZJ11{L:List (List Int)}{M:Nat}(hp:p.f=M)(hL:L.f=M)(hl:∀l∈L,l.f=M+1){i j:Nat}(hi:i<M)(hj:j<M):
  fnL (L.L<|tkn y p last) i j=(offN (fnL<|(y::p)::L) i j).fdiv last:=by
 obtain⟨l,hli⟩:∃l,L[i]?=some l:={_,Yy0 J};let hll:=hl l (Yy9 hli)
 obtain⟨x,l',rfl⟩:∃x l',l=x::l':=by
  cases l with
  |nil=>cases hll
  |cons x l'=>exists x,l',Z
 let hl':l'.f=M:=by rw[Yu]at hll;lia
 obtain⟨u,hu⟩:∃u,l'[j]?=some u:={_,Yy0 J};obtain⟨v,hv⟩:∃v,p[j]?=some v:={_,Yy0 J};let e1:fnL (L.L<|tkn y p last) i j=(y*u-x*v).fdiv last:=ZC2 (l:=tkn y p last<|x::l') (by rw[Yc,hli];rfl) (by
  change(List.zipWith _ l' p)[j]?=_;rw[Y1c,hu,hv]
  rfl)
 let e2:fnL ((y::p)::L) 0 0=y:=rfl;let e3:fnL ((y::p)::L) (i+1) (j+1)=u:=ZC2 (l:=x::l') hli hu
 let e4:fnL ((y::p)::L) (i+1) 0=x:=ZC2 (l:=x::l') hli rfl;let e5:fnL ((y::p)::L) 0 (j+1)=v:=ZC2 (l:=y::p) Z hv
 rw[e1];unfold offN;rw[e2,e3,e4,e5]
end My
namespace My
open PySem L2
def RowV(K:PySem.W.Q)(H:Hp)(v:V)(l:List Int):(Prop):=∃r k,v=.ref r/\SqK k K H r (IL l)
def LiV(d:Addr)(H:Hp)(v:V)(l:List Int):(Prop):=∃r,v=.ref r/\H r=some (.lst<|IL l)/\r≠d
def LiV.same(s:Same H H')(h:LiV d H v l):LiV d H' v l:=by let(r,e,h,n):=h;exists r,e,s _ _ h,n
def LiV.mut(h:LiV d H v l):LiV d (upd H d o) v l:=by let(r,e,h,n):=h;exists r,e,by rw[Ze n];show h,n
def LiV.list(h:LiV d H v l):ZB7 H v l:=by let(r,e,h,_):=h;exists r,e,h
def Bears.erase{α:Type}[DecidableEq α]{R:V->α->Prop}{xs:List V}{l:List α}(h:Bears R xs l)(t:Nat):Bears R (xs.eraseIdx t) (l.eraseIdx t):=by
 let hl:=h.1;show{by rw[Y2Z,Y2Z,hl],λi a e=>?_};rw[Y2L]at e;rw[Y2L];split at e
 ·next c=>rw[if_pos c];show h.2 _ _ e
 ·next c=>rw[if_neg c];show h.2 _ _ e
def Zl7(x:Int)(l:List Int):cutV (IL (x::l)) (some 1) none=IL l:=by rw[Ze5 XU];rfl
def ZT14(t:Nat):sg t*sg t=1:=by unfold sg;split<;>rfl
end My
namespace My
def ZR9{f:Nat->Nat->Int}:sm n (λi=>sm m λj=>f i j)=sm m (λj=>sm n λi=>f i j):=Zz66
def Zp9:∀{n:Nat}{A:Mx},det (n+1) A=sm (n+1) λi=>sg i*A i 0*det n (λr c=>A (sk i r) (c+1))
 |0,A=>rfl
 |n+1,A=>by
  let e1:det (n+2) A=sg 0*A 0 0*det (n+1) (mn A 0)+sm (n+1) λj=>sg (j+1)*A 0 (j+1)*det (n+1) (mn A<|j+1):=Zk2;let e2:sm (n+2) (λi=>sg i*A i 0*det (n+1) λr c=>A (sk i r)<|c+1)=sg 0*A 0 0*det (n+1) (λr c=>A (sk 0 r)<|c+1)+sm (n+1) λi=>sg (i+1)*A (i+1) 0*det (n+1) (λr c=>A (sk (i+1) r)<|c+1):=Zk2
  rw[e1,e2];let e3:det (n+1) (mn A 0)=det (n+1) (λr c=>A (sk 0 r)<|c+1):=Zj λr c _ _=>rfl
  rw[e3];show YI (λz:Int=>sg 0*A 0 0*det (n+1) (λr c=>A (sk 0 r)<|c+1)+z) ?_;obtain⟨XW,hD⟩:∃XW:Nat->Nat->Int,XW=λi j=>det n (λr c=>A (sk i r+1)<|sk (j+1)<|c+1):={_,Z};let e4:∀j,j<n+1->det (n+1) (mn A<|j+1)=sm (n+1) λi=>sg i*A (i+1) 0*XW i j:=λj _=>by rw[Zp9,hD];rfl
  let e5:∀i,i<n+1->det (n+1) (λr c=>A (sk (i+1) r)<|c+1)=sm (n+1) λj=>sg j*A 0 (j+1)*XW i j:=λi hi=>by
   change sm (n+1) (λj=>sg j*A (sk (i+1) 0) (j+1)*det n (mn (λr c=>A (sk (i+1) r)<|c+1) j))=_;show ZC λj _=>?_;rw[hD];change sg j*A (sk (i+1) 0) (j+1)*det n (mn (λr c=>A (sk (i+1) r)<|c+1) j)=sg j*A 0 (j+1)*det n (λr c=>A (sk i r+1)<|sk (j+1)<|c+1)
   rw[show sk (i+1) 0=0 from Z];show YI (sg j*A 0 (j+1) * ·) (Zj λr c _ _=>?_);change A (sk (i+1)<|r+1) (sk j c+1)=A (sk i r+1) (sk (j+1)<|c+1)
   let f1:sk (i+1) (r+1)=sk i r+1:=by
    unfold sk;cases h:r<i
    ·rw[if_pos h,if_pos J]
    ·rw[if_neg h,if_neg J]
   let f2:sk j c+1=sk (j+1) (c+1):=by
    unfold sk;cases h:c<j
    ·rw[if_pos h,if_pos J]
    ·rw[if_neg h,if_neg J]
   rw[f1,f2]
  let e6:sm (n+1) (λj=>sg (j+1)*A 0 (j+1)*det (n+1) (mn A<|j+1))=sm (n+1) λj=>sm (n+1) λi=>sg (j+1)*A 0 (j+1)*(sg i*A (i+1) 0*XW i j):=ZC λj hj=>by rw[e4 j hj,ZC5]
  let e7:sm (n+1) (λi=>sg (i+1)*A (i+1) 0*det (n+1) λr c=>A (sk (i+1) r)<|c+1)=sm (n+1) λi=>sm (n+1) λj=>sg (i+1)*A (i+1) 0*(sg j*A 0 (j+1)*XW i j):=ZC λi hi=>by rw[e5 i hi,ZC5]
  rw[e6,e7,ZR9];show ZC λi _=>ZC λj _=>?_;rw[ZC4,ZC4];generalize XW i j=d;generalize A 0 (j+1)=x;generalize A (i+1) 0=y;generalize sg i=s;generalize sg j=u;simp only[Y3L,Int.neg_inj];simp only[Y0z,Y2A,Yy05]
def det_T:∀{n:Nat}{A:Mx},det n (λi j=>A j i)=det n A
 |0,_=>rfl
 |n+1,A=>by
  rw[Zp9 (A:=A)];show ZC λj _=>?_;change sg j*A j 0*det n (λi k=>A (sk j k)<|i+1)=sg j*A j 0*det n (λr c=>A (sk j r)<|c+1)
  rw[<-det_T (A:=λr c=>A (sk j r)<|c+1)]
def ZW12{n a b:Nat}(ha:a<n)(hb:b<n)(hne:a≠b)(h:∀j,j<n->A a j=A b j):det n A=0:=by
 rcases Nat.lt_or_gt_of_ne hne with c|c
 ·obtain⟨d,rfl⟩:∃d,b=a+d+1:={b-a-1,XS};show Ze2 hb h
 ·obtain⟨d,rfl⟩:∃d,a=b+d+1:={a-b-1,XS};show Ze2 ha λj hj=>(h j hj).symm
def putr(A:Mx)(i:Nat)(x:Nat->Int):(Mx):=λr=>if r=i then x else A r
def Zc7{c:Int}{x y:Nat->Int}(hi:i<n):det n (putr A i λj=>c*x j+y j)=c*det n (putr A i x)+det n (putr A i y):=
 Zx2 hi (λr j _ _ hne=>by unfold putr;rw[if_neg hne,if_neg hne,if_neg hne];exists Z,Z) (λj _=>by unfold putr;rw[if_pos Z,if_pos Z,if_pos Z])
def Zf6:putr A i (A i)=A:=by
 funext r
 unfold putr;cases h:r=i
 ·rw[if_pos h,h]
 ·rw[if_neg h]
def Zg7{n a b:Nat}{c:Int}(ha:a<n)(hb:b<n)(hne:a≠b):det n (putr A a λj=>A a j+c*A b j)=det n A:=by
 let e:(λj=>A a j+c*A b j)=λj=>c*A b j+A a j:=by funext j;lia
 rw[e,Zc7 ha,Zf6,ZW12 ha hb hne (A:=putr A a<|A b) λj _=>?_,Y0y,Y1i];unfold putr;rw[if_pos Z,if_neg (Y0f hne)]
def ZN13(a i:Nat):rotN 0 a (i+1)=sk a i:=by
 let r:rotN 0 a (i+1)=if i+1<0 then i+1 else if i+1=0 then 0+a else if i+1<=0+a then i+1-1 else i+1:=rfl
 rw[if_neg J,if_neg J]at r;rw[r];unfold sk;cases h:i<a
 ·rw[if_pos h,if_pos J];lia
 ·rw[if_neg h,if_neg J]
def ZD8{f:Nat->Int}{a:Nat}:∀{n:Nat},a<n->(∀j,j<n->j≠a->f j=0)->sm n f=f a
 |0,h,_=>absurd h (Y0h _)
 |n+1,h,h0=>by
  change sm n f+f n=f a;cases c:a=n
  ·rw[Zj2 λi hi=>h0 i XS J,c,Y1i]
  ·rw[ZD8 (n:=n) J λj hj hne=>h0 j J hne,h0 n J J,Y0Z]
def Zz911(ha:a<n+1):det (n+1) (putr A a λj=>if j=a then 1 else 0)=det n (λi j=>A (sk a i) (sk a j)):=by
 let e:=Zb7 (n:=n+1) (k:=0) (t:=a) (A:=putr A a λj=>if j=a then 1 else 0) J;let r0:rotN 0 a 0=a:=by change(if 0<0 then 0 else if 0=0 then 0+a else _)=a;rw[if_neg J,if_pos Z,Y0n]
 let top:det (n+1) (λi=>putr A a (λj=>if j=a then 1 else 0)<|rotN 0 a i)=sg a*det n (λi j=>A (sk a i)<|sk a j):=by
  change sm (n+1) (λj=>sg j*putr A a (λj=>if j=a then 1 else 0) (rotN 0 a 0) j*det n (mn (λi=>putr A a (λj=>if j=a then 1 else 0)<|rotN 0 a i) j))=_;rw[ZD8 ha λj _ hne=>?_]
  ·rw[r0];let e1:putr A a (λj=>if j=a then 1 else 0) a a=1:=by unfold putr;rw[if_pos Z,if_pos Z]
   rw[e1,Y1N];show YI (sg a * ·) (Zj λi j _ _=>?_);change putr A a (λj=>if j=a then 1 else 0) (rotN 0 a<|i+1) (sk a j)=A (sk a i) (sk a j)
   rw[ZN13];unfold putr;rw[if_neg (by unfold sk;split<;>lia)]
  ·rw[r0];let e1:putr A a (λj=>if j=a then 1 else 0) a j=0:=by unfold putr;rw[if_pos Z,if_neg hne]
   rw[e1,Y0y,Yy30]
 rw[top]at e;let h:=YI (sg a * ·) e
 simp only[<-Yy05]at h;rw[show sg a*sg a=1 by unfold sg;split<;>rfl,Y0X,Y0X]at h
 show h.symm
def Zf7{w:Int}(ha:a<n+1):det (n+1) (λi j=>A i j+w*((if i=a then 1 else 0)*(if j=a then 1 else 0)))=det (n+1) A+w*det n (λi j=>A (sk a i) (sk a j)):=by
 let e:det (n+1) (λi j=>A i j+w*((if i=a then 1 else 0)*(if j=a then 1 else 0)))=det (n+1) (putr A a λj=>w*(λj=>if j=a then 1 else 0) j+A a j):=Zj λi j _ _=>by
  unfold putr;cases h:i=a
  ·subst h;rw[if_pos Z,if_pos Z,Y0X];change A i j+w*(if j=i then 1 else 0)=w*(if j=i then 1 else 0)+A i j
   show Int.add_comm ..
  ·rw[if_neg h,if_neg h,Yy30,Y0y,Y0Z]
 rw[e,Zc7 ha,Zf6,Zz911 ha];lia
def ind(u v i:Nat):(Int):=(if i=u then 1 else 0)-(if i=v then 1 else 0)
def ZQ5(A:Mx)(a b:Nat):(Mx):=λi j=>(A i j+(if i=b then A a j else 0))+(if j=b then A i a+(if i=b then A a a else 0) else 0)
def Za5(ha:a<n)(hb:b<n)(hne:a≠b):det n (ZQ5 A a b)=det n A:=by
 let e1:det n A=det n (putr A b λj=>A b j+1*A a j):=(Zg7 hb ha<|Y0f hne).symm;obtain⟨R,hR⟩:∃R:Mx,R=putr A b (λj=>A b j+1*A a j):={_,Z};let e2:det n R=det n (putr (λi j=>R j i) b λj=>(λi j=>R j i) b j+1*(λi j=>R j i) a j):=by rw[Zg7 (A:=λi j=>R j i) hb ha (Y0f hne)];show det_T.symm
 rw[e1,<-hR,e2,<-det_T (A:=putr (λi j=>R j i) b λj=>(λi j=>R j i) b j+1*(λi j=>R j i) a j)];show Zj λi j _ _=>?_;let rv:∀r c,R r c=A r c+(if r=b then A a c else 0):=λr c=>by
  rw[hR];unfold putr;cases h:r=b
  ·rw[if_pos h,if_pos h,h];lia
  ·rw[if_neg h,if_neg h];lia
 unfold ZQ5;change _=(putr (λi j=>R j i) b λj=>R j b+1*R j a) j i
 unfold putr;cases h:j=b
 ·rw[if_pos h,if_pos h,rv,rv,h];cases h2:i=b
  ·rw[if_pos h2,if_pos h2];lia
  ·rw[if_neg h2,if_neg h2];lia
 ·rw[if_neg h,if_neg h];change _=R i j
  rw[rv];lia
def ZX12{w:Int}(ha:a<n+1)(hb:b<n+1)(hne:a≠b):det (n+1) (λi j=>A i j+w*(ind a b i*ind a b j))=det (n+1) A+w*det n (λi j=>ZQ5 A a b (sk a i) (sk a j)):=by
 let e1:=Za5 (A:=λi j=>A i j+w*(ind a b i*ind a b j)) ha hb hne;let e2:det (n+1) (ZQ5 (λi j=>A i j+w*(ind a b i*ind a b j)) a b)=det (n+1) (λi j=>ZQ5 A a b i j+w*((if i=a then 1 else 0)*(if j=a then 1 else 0))):=Zj λi j _ _=>by
  let na:¬a=b:=hne;let nb:¬b=a:=Y0f hne
  unfold ZQ5 ind;cases hi:i=b
  ·subst hi;cases hj:j=i
   ·subst hj;simp[na,nb];lia
   ·by_cases hj2:j=a
    ·subst hj2;simp[na,nb,hj];lia
    ·simp[na,nb,hj,hj2]
  ·by_cases hi2:i=a
   ·subst hi2;cases hj:j=b
    ·subst hj;simp[na,nb];lia
    ·by_cases hj2:j=i
     ·subst hj2;simp[na,nb]
     ·simp[na,nb,hj,hj2]
   ·by_cases hj:j=b
    ·subst hj;simp[na,nb,hi,hi2]
    ·by_cases hj2:j=a
     ·subst hj2;simp[na,nb,hi,hi2]
     ·simp[na,nb,hi,hi2,hj,hj2]
 rw[<-e1,e2,Zf7 ha,Za5 ha hb hne]
end My
namespace My
open PySem L2
abbrev Ed:=Nat×Nat×Int
def lapE:(List Ed->Mx)
 |[]=>λ_ _=>0
 |e::E=>λi j=>e.2.2*(ind e.1 e.2.1 i*ind e.1 e.2.1 j)+lapE E i j
def ZW2(E:List Ed)(e:Ed)(i j:Nat):lapE (E++[e]) i j=lapE E i j+e.2.2*(ind e.1 e.2.1 i*ind e.1 e.2.1 j):=by
 induction E with
 |nil=>show _+0=0+_;lia
 |cons f E ih=>
  change _+lapE (E++[e]) i j=_+lapE E i j+_;rw[ih];lia
def edE(E:List Ed)(z:Int):(Nat×Nat):=((E.getD z.i (0,0,0)).1,(E.getD z.i (0,0,0)).2.1)
def wtE(E:List Ed):(List Int->Int)
 |[]=>1
 |z::T=>(E.getD z.i (0,0,0)).2.2*wtE E T
def ZA11(E:List Ed)(S T:List Int):wtE E (S++T)=wtE E S*wtE E T:=by
 induction S with
 |nil=>show _=1*_;rw[Y0X];rfl
 |cons z S ih=>show _*wtE E (S++T)=_*_*_;rw[ih,Yy05]
def IsT(k:Nat)(E:List Ed)(T:List Int):(Prop):=IsSet E.f T/\T.f=k/\∀i j,i<k+1->j<k+1->Conn (T.L<|edE E) i j
def TW(k:Nat)(E:List Ed)(s:Int):(Prop):=∃L:List (List Int),L.Nodup/\(∀T,T∈L↔IsT k E T)/\(L.L<|wtE E).sum=s
def Zf9{E:List Ed}{e:Ed}{z:Int}(h0:0<=z)(h1:z<E⁻¹):(E++[e]).getD z.i (0,0,0)=E.getD z.i (0,0,0):=by rw[Yy5,Yy5,Yp J]
def Zz15(E:List Ed)(e:Ed):(E++[e]).getD (E.f:Int).i (0,0,0)=e:=by rw[Yy5,YB,Yj<|Yy8 _,Yy19];rfl
def Zx10{e:Ed}(h:IsSet E.f T):T.L (edE (E++[e]))=T.L (edE E):=YW λz hz=>by
 have:=h.all z hz
 unfold edE;rw[Zf9 this.1 this.2]
def Zx13{e:Ed}(h:∀z∈T,0<=z/\z<E⁻¹):wtE (E++[e]) T=wtE E T:=by
 induction T with
 |nil=>rfl
 |cons z T ih=>
  let hz:=h z Ye;change _*wtE (E++[e]) T=_*wtE E T
  rw[Zf9 hz.1 hz.2,ih λy hy=>h y (Yd _ hy)]
def Zz48{e:Ed}(h:IsSet E.f T):IsT k (E++[e]) T↔IsT k E T:=by
 let h2:IsSet (E++[e]).f T:=by rw[Yy3];show h.up
 constructor
 ·rintro⟨_,a,b⟩;exists h,a,by rwa[Zx10 h]at b
 ·rintro⟨_,a,b⟩;exists h2,a,by rwa[Zx10 h]
def Zy6{e:Ed}(h:IsSet E.f T):(T++[E⁻¹]).L (edE (E++[e]))=T.L (edE E)++[(e.1,e.2.1)]:=by
 rw[Yn,Zx10 h];change _++[edE (E++[e]) E⁻¹]=_
 unfold edE;rw[Zz15]
def sh(a x:Nat):(Nat):=if x<a then x else x-1
def dl(a b x:Nat):(Nat):=if x=a then sh a b else sh a x
def ZI13(a y:Nat):sh a (sk a y)=y:=by
 unfold sk;cases h:y<a
 ·rw[if_pos h];unfold sh;rw[if_pos h]
 ·rw[if_neg h];unfold sh;rw[if_neg J];lia
def ZB14(a y:Nat):sk a y≠a:=by unfold sk;split<;>lia
def Zi13(h:x≠a):sk a (sh a x)=x:=by
 unfold sh;cases c:x<a
 ·rw[if_pos c];unfold sk;rw[if_pos c]
 ·rw[if_neg c];unfold sk;rw[if_neg J];lia
def Zs13(a b y:Nat):dl a b (sk a y)=y:=by unfold dl;rw[if_neg (ZB14 a y),ZI13]
def ZV9(hx:x≠a)(hy:y≠a)(h:sh a x=sh a y):x=y:=by
 have:=YI (sk a) h
 rwa[Zi13 hx,Zi13 hy]at this
def Ze15(hne:b≠a)(h:dl a b x=dl a b y):x=y\/(x=a/\y=b)\/(x=b/\y=a):=by
 unfold dl at h;cases hx:x=a
 ·rw[if_pos hx]at h;cases hy:y=a
  ·show .inl (hx.m hy.symm)
  ·rw[if_neg hy]at h;show .inr (.inl {hx,(ZV9 hne hy h).symm})
 ·rw[if_neg hx]at h;cases hy:y=a
  ·rw[if_pos hy]at h;show .inr (.inr {ZV9 hx hne h,hy})
  ·rw[if_neg hy]at h;show .inl (ZV9 hx hy h)
def Zf15(a b:Nat)(hne:b≠a):dl a b a=dl a b b:=by unfold dl;rw[if_pos Z,if_neg hne]
def Zl11{es:List (Nat×Nat)}{i j:Nat}(hne:b≠a)(c:Conn (es++[(a,b)]) i j):Conn (es.L λe=>(dl a b e.1,dl a b e.2)) (dl a b i) (dl a b j):=by
 induction c with
 |refl i=>show .refl _
 |edge q=>
  rcases Yb.S q with q|q
  ·show .edge (Yx.X {_,q,Z})
  ·have e:=Yy2.S q;injection e with e1 e2
   rw[e1,e2,Zf15 a b hne];show .refl _
 |symm _ ih=>show .symm ih
 |trans _ _ a b=>show .trans a b
def Zk11{es:List (Nat×Nat)}{u v:Nat}(hne:b≠a)(c:Conn (es.L λe=>(dl a b e.1,dl a b e.2)) u v):∀i j,dl a b i=u->dl a b j=v->Conn (es++[(a,b)]) i j:=by
 let he:Conn (es++[(a,b)]) a b:=.edge D;let same:∀i j,dl a b i=dl a b j->Conn (es++[(a,b)]) i j:=λi j e=>by
  rcases Ze15 hne e with e|⟨e1,e2⟩|⟨e1,e2⟩
  ·rw[e];show .refl _
  ·rwa[e1,e2]
  ·rw[e1,e2];show he.symm
 induction c with
 |refl u=>show λi j e1 e2=>same i j (e1.m e2.symm)
 |edge q=>
  intro i j e1 e2;let((x,y),hxy,e):=Yx.S q;injection e with x1 x2
  show(same i x<|e1.m x1.symm).m (.trans (.edge<|YA _ hxy)<|same y j<|x2.m e2.symm)
 |symm _ ih=>show λi j e1 e2=>(ih j i e2 e1).symm
 |@trans x y z _ _ ih1 ih2=>show λi j e1 e2=>(ih1 i (sk a y) e1<|Zs13 a b y).m (ih2 (sk a y) j (Zs13 a b y) e2)
def Zt13{a b x k:Nat}(ha:a<k+1)(hb:b<k+2)(hne:b≠a)(hx:x<k+2):dl a b x<k+1:=by
 unfold dl sh;cases h:x=a
 ·rw[if_pos h];split<;>lia
 ·rw[if_neg h];split<;>lia
def cdl{a b k:Nat}{es:List (Nat×Nat)}(ha:a<k+1)(hb:b<k+2)(hne:b≠a):(∀i j,i<k+2->j<k+2->Conn (es++[(a,b)]) i j)↔∀i j,i<k+1->j<k+1->Conn (es.L λe=>(dl a b e.1,dl a b e.2)) i j:=by
 constructor
 ·intro c i j h1 h2
  have:=Zl11 hne (c (sk a i) (sk a j) (Zz76 h1)<|Zz76 h2)
  rwa[Zs13,Zs13]at this
 ·show λc i j h1 h2=>Zk11 hne (c _ _ (Zt13 ha hb hne h1)<|Zt13 ha hb hne h2) i j Z rfl
def drE(a b:Nat)(E:List Ed):(List Ed):=E.L λe=>(dl a b e.1,dl a b e.2.1,e.2.2)
def Zo9{z:Int}(h0:0<=z)(h1:z<E⁻¹):(drE a b E).getD z.i (0,0,0)=(dl a b (E.getD z.i (0,0,0)).1,dl a b (E.getD z.i (0,0,0)).2.1,(E.getD z.i (0,0,0)).2.2):=by unfold drE;rw[Yy5,Yy5,Yc,Yy0 B];rfl
def Zn9(h:IsSet E.f T):T.L (edE (drE a b E))=(T.L (edE E)).L λe=>(dl a b e.1,dl a b e.2):=by
 rw[Y1M];show YW λz hz=>?_
 have:=h.all z hz
 unfold edE;rw[Zo9 this.1 this.2];rfl
def Zo14(h:∀z∈T,0<=z/\z<E⁻¹):wtE (drE a b E) T=wtE E T:=by
 induction T with
 |nil=>rfl
 |cons z T ih=>
  let hz:=h z Ye;change _*wtE (drE a b E) T=_*wtE E T
  rw[Zo9 hz.1 hz.2,ih λy hy=>h y (Yd _ hy)]
def ZD12{e:Ed}(ha:a<k+1)(hb:b<k+2)(hne:b≠a)(he:(e.1=a/\e.2.1=b)\/(e.1=b/\e.2.1=a))(h:IsSet E.f T):IsT (k+1) (E++[e]) (T++[E⁻¹])↔IsT k (drE a b E) T:=by
 let hl:(drE a b E).f=E.f:=Yy7 ..;let hc:(∀i j,i<k+2->j<k+2->Conn ((T++[E⁻¹]).L (edE<|E++[e])) i j)↔∀i j,i<k+2->j<k+2->Conn (T.L (edE E)++[(a,b)]) i j:=by
  rw[Zy6 h];rcases he with ⟨e1,e2⟩|⟨e1,e2⟩
  ·rw[e1,e2]
  ·rw[e1,e2];exists λc i j x y=>Zg5<|c i j x y,λc i j x y=>Zg5<|c i j x y
 let h2:IsSet (E++[e]).f (T++[E⁻¹]):=by rw[Yy3];show h.snoc
 constructor
 ·rintro⟨_,x,y⟩;exists hl▸h,?_,?_
  ·rw[Yy3,YX]at x;lia
  ·rw[Zn9 h];show(cdl ha hb hne).S (hc.S y)
 ·rintro⟨_,x,y⟩;rw[Zn9 h]at y;exists h2,by rw[Yy3,YX,x],hc.X<|(cdl ha hb hne).X y
def ZL10{E:List Ed}{e:Ed}(hE:∀f∈E,f.1<k+1/\f.2.1<k+1)(he:e.1=e.2.1)(h:IsSet E.f T):¬IsT k (E++[e]) (T++[E⁻¹]):=by
 rintro⟨_,x,y⟩;rw[Zy6 h]at y;let hcov:∀i j,i<k+1->j<k+1->Conn (T.L<|edE E) i j:=λi j hi hj=>(y i j hi hj).lift λf hf=>by
  rcases Yb.S hf with q|q
  ·show .edge q
  ·rw[Yy2.S q,he];show .refl _
 let hin:InN (k+1) (T.L<|edE E):=λf hf=>by
  let(z,hz,rfl):=Yx.S hf
  have:=h.all z hz
  unfold edE;rw[Yy5,Yy0 J];show hE _ (Y0Y _)
 let h2:=(Za1 J hin).X hcov;let h3:=Zi5 _ hin
 rw[Yy7]at h3;rw[Yy3,YX]at x;lia
def ZH11{e:Ed}(hE:∀f∈E,f.1<k+1/\f.2.1<k+1)(he:e.1=e.2.1)(h:TW k E s):TW k (E++[e]) s:=by
 let(L,a1,a2,a3):=h;exists L,a1,λT=>?_,?_
 ·rw[a2];constructor
  ·show λh=>(Zz48 h.1).X h
  ·intro h;let hs:=h.1
   rw[Yy3]at hs;rcases Za6 hs with c|⟨T',c,c2⟩
   ·show(Zz48 c).S h
   ·show absurd (c▸h) (ZL10 hE he c2)
 ·rw[<-a3];show YI List.sum (YW λT hT=>Zx13 ((a2 T).S hT).1.all)
def ZM11(a b:List Int):(a++b).sum=a.sum+b.sum:=by
 induction a with
 |nil=>rw[Y1b,List.sum_nil,Y1i]
 |cons x a ih=>rw[Yy28,Yy17,Yy17,ih];lia
def ZH7(w:Int)(l:List (List Int))(f:List Int->Int):(l.L λT=>f T*w).sum=w*(l.L f).sum:=by
 induction l with
 |nil=>rw[List.map_nil,List.map_nil,List.sum_nil,Y0y]
 |cons x l ih=>rw[Yy01,Yy01,Yy17,Yy17,ih,Y2p,Y0z]
def ZG11{e:Ed}(ha:a<k+1)(hb:b<k+2)(hne:b≠a)(he:(e.1=a/\e.2.1=b)\/(e.1=b/\e.2.1=a))(h1:TW (k+1) E s1)(h2:TW k (drE a b E) s2):TW (k+1) (E++[e]) (s1+e.2.2*s2):=by
 let(L,a1,a2,a3):=h1;let(M,b1,b2,b3):=h2;let hl:(drE a b E).f=E.f:=Yy7 ..
 exists L++M.L (·++[E⁻¹]),Y1n.X {a1,?_,λx hx y hy c=>?_},λT=>?_,?_
 ·show List.C.L _ (λx y h c=>h<|List.append_cancel_right c) b1
 ·let(z,hz,c2):=Yx.S hy
  have:=((a2 x).S hx).1.all E⁻¹ (by rw[c,<-c2];simp)
  lia
 ·rw[Yb,a2,Yx];constructor
  ·rintro(h|⟨T',hT,rfl⟩)
   ·show(Zz48 h.1).X h
   ·have:=(b2 T').S hT
    show(ZD12 ha hb hne he<|hl▸this.1).X this
  ·intro h;let hs:=h.1
   rw[Yy3]at hs;rcases Za6 hs with c|⟨T',c,c2⟩
   ·show .inl ((Zz48 c).S h)
   ·show .inr {T',(b2 T').X ((ZD12 ha hb hne he c2).S (c▸h)),c.symm}
 ·rw[Yn,ZM11,Y1M];let e1:L.L (wtE<|E++[e])=L.L (wtE E):=YW λT hT=>Zx13 ((a2 T).S hT).1.all
  let e2:M.L (wtE (E++[e])∘(·++[E⁻¹]))=M.L λT=>wtE (drE a b E) T*e.2.2:=YW λT hT=>by
   let hs:IsSet E.f T:=hl▸((b2 T).S hT).1;change wtE (E++[e]) (T++[E⁻¹])=_
   rw[ZA11,Zx13 hs.all,Zo14 hs.all];change _*(((E++[e]).getD (E.f:Int).i (0,0,0)).2.2*1)=_
   rw[Zz15,Y1N]
  rw[e1,e2,a3,ZH7,b3]
def ZG12(hne:b≠a):ind (dl a b u) (dl a b v) i=ind u v (sk a i)+(if sk a i=b then ind u v a else 0):=by
 let key:∀x:Nat,((if i=dl a b x then 1 else 0:Int))=(if sk a i=x then 1 else 0)+(if sk a i=b then (if a=x then 1 else 0) else 0):=λx=>by
  unfold dl;cases hx:x=a
  ·rw[if_pos hx,if_neg<|show ¬sk a i=x from hx▸ZB14 a i,Y1i];cases h:sk a i=b
   ·rw[if_pos h,if_pos hx.symm,if_pos];rw[<-h,ZI13]
   ·rw[if_neg h,if_neg];intro e;show h (by rw[e,Zi13 hne])
  ·rw[if_neg hx];let e2:(if sk a i=b then (if a=x then 1 else 0:Int) else 0)=0:=by rw[if_neg (Y0f hx)];split<;>rfl
   rw[e2,Y0Z];cases h:sk a i=x
   ·rw[if_pos h,if_pos];rw[<-h,ZI13]
   ·rw[if_neg h,if_neg];intro e;show h (by rw[e,Zi13 hx])
 unfold ind;rw[key u,key v];cases h:sk a i=b
 ·rw[if_pos h,if_pos h,if_pos h];lia
 ·rw[if_neg h,if_neg h,if_neg h];lia
def Zz19(hne:b≠a)(i j:Nat):∀E:List Ed,lapE (drE a b E) i j=ZQ5 (lapE E) a b (sk a i) (sk a j)
 |[]=>by
  change(0:Int)=_;unfold ZQ5 lapE;cases h:sk a i=b
  ·by_cases h2:sk a j=b
   ·rw[if_pos h,if_pos h2];rfl
   ·rw[if_pos h,if_neg h2];rfl
  ·by_cases h2:sk a j=b
   ·rw[if_neg h,if_pos h2];rfl
   ·rw[if_neg h,if_neg h2];rfl
 |e::E=>by
  let ih:=Zz19 hne i j E;change e.2.2*(ind (dl a b e.1) (dl a b e.2.1) i*ind (dl a b e.1) (dl a b e.2.1) j)+lapE (drE a b E) i j=_
  rw[ih,ZG12 hne,ZG12 hne];unfold ZQ5;change _=(e.2.2*(ind e.1 e.2.1 (sk a i)*ind e.1 e.2.1 (sk a j))+lapE E (sk a i) (sk a j)+(if sk a i=b then e.2.2*(ind e.1 e.2.1 a*ind e.1 e.2.1 (sk a j))+lapE E a (sk a j) else 0))+(if sk a j=b then (e.2.2*(ind e.1 e.2.1 (sk a i)*ind e.1 e.2.1 a)+lapE E (sk a i) a)+(if sk a i=b then e.2.2*(ind e.1 e.2.1 a*ind e.1 e.2.1 a)+lapE E a a else 0) else 0)
  generalize ind e.1 e.2.1 (sk a i)=x;generalize ind e.1 e.2.1 (sk a j)=y;generalize ind e.1 e.2.1 a=z;generalize e.2.2=w;cases h:sk a i=b
  ·by_cases h2:sk a j=b
   ·simp only[if_pos h,if_pos h2,Y2p,Y3O];lia
   ·simp only[if_pos h,if_neg h2,Y2p,Y3O,Y0Z,Y0y];lia
  ·by_cases h2:sk a j=b
   ·simp only[if_neg h,if_pos h2,Y2p,Y3O,Y0Z,Yy30];lia
   ·simp only[if_neg h,if_neg h2,Y0Z]
def ZM6(u v i:Nat):ind v u i=- ind u v i:=by unfold ind;lia
def ZZ12{e:Ed}(ha:a<k+1)(hb:b<k+2)(hne:b≠a)(he:(e.1=a/\e.2.1=b)\/(e.1=b/\e.2.1=a)):det (k+1) (lapE (E++[e]))=det (k+1) (lapE E)+e.2.2*det k (lapE (drE a b E)):=by
 let e1:det (k+1) (lapE<|E++[e])=det (k+1) (λi j=>lapE E i j+e.2.2*(ind a b i*ind a b j)):=Zj λi j _ _=>by
  rw[ZW2];rcases he with ⟨x,y⟩|⟨x,y⟩
  ·rw[x,y]
  ·rw[x,y,ZM6 a b i,ZM6 a b j,Y3F]
 let e2:det k (lapE<|drE a b E)=det k (λi j=>ZQ5 (lapE E) a b (sk a i)<|sk a j):=Zj λi j _ _=>Zz19 hne i j E;rw[e1,e2];cases hk:b<k+1
 ·show ZX12 ha hk (Y0f hne)
 ·have e3:det (k+1) (λi j=>lapE E i j+e.2.2*(ind a b i*ind a b j))=det (k+1) (λi j=>lapE E i j+e.2.2*((if i=a then 1 else 0)*(if j=a then 1 else 0))):=Zj λi j hi hj=>by unfold ind;rw[if_neg (show ¬i=b by lia),if_neg (show ¬j=b by lia),Y3q,Y3q]
  let e4:det k (λi j=>ZQ5 (lapE E) a b (sk a i)<|sk a j)=det k (λi j=>lapE E (sk a i)<|sk a j):=Zj λi j hi hj=>by
   let h1:=Zz76 (j:=a) hi;let h2:=Zz76 (j:=a) hj
   unfold ZQ5;rw[if_neg (show ¬sk a i=b by lia),if_neg (show ¬sk a j=b by lia),Y0Z,Y0Z]
  rw[e3,e4];show Zf7 ha
def ZT4{e:Ed}(he:e.1=e.2.1):lapE (E++[e])=lapE E:=by
 funext i j
 rw[ZW2,he];unfold ind;rw[Int.sub_self,Yy30,Y0y,Y0Z]
def Zx1:∀m k E,E.f=m->(∀e∈E,e.1<k+1/\e.2.1<k+1)->TW k E (det k (lapE E))
 |0,k,E,hm,_=>by
  let rfl:=Yy07.S hm;cases k with
  |zero=>
   exists [[]],D,λT=>?_,Z;rw[Yy2];constructor
   ·rintro rfl;show⟨IsSet.nil _,Z,λi j hi hj=>by
     have:i=j:=J
     rw[this];show .refl j⟩
   ·intro h;show Yy07.S h.2.1
  |succ k=>
   exists [],.nil,λT=>{λh=>(by cases h),λh=>?_},?_
   ·have h1:=h.1.len;let h2:=h.2.1
    rw[Y1o]at h1;lia
   ·show(Za7 (i:=0) J λj _=>rfl).symm
 |m+1,k,E,hm,hE=>by
  obtain⟨E',e,rfl⟩:∃E' e,E=E'++[e]:={E.dropLast,E.getLast (λh=>by rw[h]at hm;cases hm),(Y3p _).symm};let hm':E'.f=m:=by rw[Yy3]at hm;simpa using hm
  let hE':∀f∈E',f.1<k+1/\f.2.1<k+1:=λf hf=>hE f (YA _ hf);let he:=hE e D
  let ih:=Zx1 m k E' hm' hE';cases hl:e.1=e.2.1
  ·rw[ZT4 hl];show ZH11 hE' hl ih
  ·obtain⟨k',rfl⟩:∃k',k=k'+1:={k-1,J};obtain⟨a,b,ha,hb,hne,hab⟩:∃a b,a<k'+1/\b<k'+2/\b≠a/\((e.1=a/\e.2.1=b)\/(e.1=b/\e.2.1=a)):=by
    cases c:e.1<k'+1
    ·exists e.1,e.2.1,c,he.2,λh=>hl h.symm,.inl ⟨Z,Z⟩
    ·exists e.2.1,e.1,J,he.1,hl,.inr ⟨Z,Z⟩
   let ih2:=Zx1 m k' (drE a b E') (by unfold drE;rwa[Yy7]) λf hf=>by
    let(g,hg,rfl):=Yx.S hf
    have:=hE' g hg
    exists Zt13 ha hb hne this.1,Zt13 ha hb hne this.2
   rw[ZZ12 ha hb hne hab];show ZG11 ha hb hne hab ih ih2
def Zz62(ps:List (Int×Int))(ws:List Int):(List Ed):=List.zipWith (λp w=>(p.1.i,p.2.i,w)) ps ws
def Zz59(h1:1<=n)(hw:ws.f=ps.f):IsT (n-1).i (Zz62 ps ws) T↔Zo n ps T:=by
 let hl:(Zz62 ps ws).f=ps.f:=by unfold Zz62;rw[Y1D];lia
 let hm:IsSet ps.f T->T.L (edE<|Zz62 ps ws)=Zz6 ps T:=λhs=>YW λz hz=>by
  have:=hs.all z hz
  unfold edE Zz62;rw[Yy5,Y1c,Yy0 J,Yy0 (show z.i<ws.f by lia),Yy5,Yy0 B];rfl
 unfold IsT Zo;rw[hl];constructor
 ·rintro⟨a,b,c⟩;rw[hm a]at c;exists a,J,λi j hi hj=>c i j J J
 ·rintro⟨a,b,c⟩;rw[hm a];exists a,J,λi j hi hj=>c i j J J
def Yz11(h:∀e∈E,e.2.2=1):∀{T:List Int},(∀z∈T,0<=z/\z<E⁻¹)->wtE E T=1
 |[],_=>rfl
 |z::T,hb=>by
  let hz:=hb z Ye;change(E.getD z.i (0,0,0)).2.2*wtE E T=1
  rw[Yz11 h λy hy=>hb y<|Yd _ hy,Y1N,Yy5,Yy0 J];show h _ (Y0Y _)
def ZL9{l:List (List Int)}{f:List Int->Int}(h:∀T∈l,f T=1):(l.L f).sum=l⁻¹:=by
 induction l with
 |nil=>rfl
 |cons x l ih=>
  rw[Yy01,Yy17,ih λT hT=>h T<|Yd _ hT,h x Ye,Yu];lia
def ZV12(g:ZM n ps)(ws:List Int):∀e∈Zz62 ps ws,e.1<(n-1).i+1/\e.2.1<(n-1).i+1:=λe he=>by
 unfold Zz62 at he;let(i,hi):=YC he;rw[Y1c]at hi;let g1:=g.1
 cases h1:ps[i]? with
 |none=>rw[h1]at hi;cases hi
 |some p=>
  cases h2:ws[i]? with
  |none=>rw[h1,h2]at hi;cases hi
  |some w=>
   rw[h1,h2]at hi;let rfl:=Yl hi;let(a,b,c,d):=g.2.2.2 p (Yy9 h1);exists by change p.1.i<_;lia,by change p.2.i<_;lia
def ZK9(g:ZM n ps){L:List (List Int)}(hL:L.Nodup)(hm:∀l,l∈L↔Zo n ps l):det (n-1).i (lapE (Zz62 ps (List.Y ps.f 1)))=L⁻¹:=by
 let g1:=g.1;let hw:(List.Y ps.f (1:Int)).f=ps.f:=YL
 let(M,a1,a2,a3):=Zx1 _ (n-1).i (Zz62 ps<|List.Y ps.f 1) Z (ZV12 g _);let hl:(Zz62 ps<|List.Y ps.f 1).f=ps.f:=by unfold Zz62;rw[Y1D,hw];lia
 let w1:∀e∈Zz62 ps (List.Y ps.f (1:Int)),e.2.2=1:=λe he=>by
  unfold Zz62 at he;let(i,hi):=YC he;rw[Y1c]at hi;cases h1:ps[i]? with
  |none=>rw[h1]at hi;cases hi
  |some p=>
   cases h2:(List.Y ps.f (1:Int))[i]? with
   |none=>rw[h1,h2]at hi;cases hi
   |some w=>
    rw[h1,h2]at hi;let rfl:=Yl hi;show Y1F (Yy9 h2)
 rw[<-a3,ZL9 λT hT=>Yz11 w1 ((a2 T).S hT).1.all];let hp:M.Perm L:=(Y1a a1 hL).X λl=>by rw[a2,hm,Zz59 g1 hw]
 rw[hp.length_eq]
end My
namespace L2
open PySem PySem.Spec PyProof.Rows
section
variable{X:Cx}
def ZW14(K:PySem.W.Q):(V->V->Hp->VK->Prop):=λx y H Q=>∃p xs i v,x=.ref p/\y=.int i/\SqL K H p xs/\0<=i/\xs[i.i]?=some v/\Q v H
def Zc2(K:PySem.W.Q)(hk:X.K=K:=by rfl):PGet X (ZW14 K):=by
 subst hk;intro pins s σ H o i ov iv Q I ro ri h;let(p,xs,j,z,rfl,rfl,hq,h0,he,q):=h;cases ro;let(t,rfl):=ri;let(its,r,pl,hz):=I.list hq;let(w,ew,rw'):=r.get he;let hl:=r.f
 let hn:=ZF6;let hlt:=(Yy1.S he).1
 show wpAny_getItem_list pl.isList h0 J (by simpa using ew) ⟨z,H,I,rw',q⟩
end
end L2
namespace My
open PySem L2
def ZP12{g:TG}{tb:TS}{XW:Ends}(hxy:xs.f=ys.f)(Pv:Nat->St->Hp->Prop)(h0:Pv 0 σ H)(hl:∀i σ H,i<=xs.f->Pv i σ H->SqL K H a xs/\SqL K H b ys)
  (hs:∀(i:Nat) x y σ H (p:Addr),H p=none->xs[i]?=some x->ys[i]?=some y->Pv i σ H->g ↑p σ (upd H p<|.tup [x,y]) λσ2 H2=>tb {XW with nx:=Pv<|i+1,ct:=Pv<|i+1,bk:=XW.nx} σ2 H2)(hd:∀σ H,Pv xs.f σ H->XW.nx σ H):
  ∃W:Nat->Nat->St->Hp->Prop,(∃m,W 0 m σ H)/\∀i m σ H,W i m σ H->
   ((Itz K a b).stop i H/\XW.nx σ H)\/((Itz K a b).go i H/\∃N:St->Hp->Prop,(∀σ' H',N σ' H'->∃m',m'<m/\W (i+1) m' σ' H')/\∀x H',(Itz K a b).yld i H x H'->g x σ H' λσ2 H2=>tb {XW with nx:=N,ct:=N,bk:=XW.nx} σ2 H2):=by
 exists λi m σ H=>m=xs.f-i/\i<=xs.f/\Pv i σ H,{xs.f,D,Yk _,h0},?_;rintro i m σ H ⟨rfl,hi,p⟩;let(q,q2):=hl i σ H hi p;cases hlt:i<xs.f
 ·show .inr {{xs,ys,xs[i],ys[i]'(by lia),q,q2,by simp[hlt],Yy0 B},Pv<|i+1,λσ' H' p'=>{xs.f-(i+1),XS,Z,hlt,p'},λx H' ⟨T,u,v,hT,ex,eH,hu,hv⟩=>?_};subst ex eH;show hs i u v σ H T hT (hu xs q) (hv ys q2) p
 ·have e:i=xs.f:=J;subst e;show .inl {{xs,ys,q,q2,.inl<|Yy8 _},hd σ H p}
structure TabAt(H0:Hp)(r:Addr)(n:Nat)(H:Hp)(ys:List V)(L:List (List Int)):Prop where
 tab:H r=some (.lst ys)
 rows:Bears (LiV r H) ys L
 len:L.f=n
 all:∀l∈L,l.f=n
 nd:ys.Nodup
 new:∀A,V.ref A∈ys->H0 A=none
def TabAt.same(s:Same H H')(h:TabAt H0 r n H ys L):TabAt H0 r n H' ys L:={s _ _ h.tab,h.rows.imp λ_ _ q=>q.same s,h.len,h.all,h.nd,h.new}
def TabAt.at(h:TabAt H0 r n H ys L){i:Nat}(hi:i<n):∃A l,ys[i]?=some ↑A/\L[i]?=some l/\H A=some (.lst (IL l))/\l.f=n/\H0 A=none/\A≠r:=by let hl:=h.len;obtain⟨l,e⟩:∃l,L[i]?=some l:={_,Yy0 J};let(v,e1,A,rfl,e2,e3):=h.rows.2 i l e;exists A,l,e1,e,e2,h.all l<|Yy9 e,h.new A<|Yy9 e1,e3
def TabAt.put(h:TabAt H0 r n H ys L){l l':List Int}(e1:ys[i]?=some ↑A)(e2:L[i]?=some l)(e3:A≠r)(hl:l'.f=n):TabAt H0 r n (upd H A (.lst (IL l'))) ys (L.set i l'):=by
 let hi:=(Yy1.S e2).1;let hil:=(Yy1.S e1).1
 exists by rw[Ze (Y0f e3)];show h.tab,{by rw[Y0J];show h.rows.1,λj m em=>?_},by rw[Y0J];show h.len,λm hm=>?_,h.nd,h.new
 ·rw[Y0R]at em;cases c:i=j
  ·subst c;rw[if_pos Z,if_pos hi]at em;let rfl:=Yl em;exists _,e1,A,Z,Zz1,e3
  ·rw[if_neg c]at em;let(v,f1,XX,rfl,f2,f3):=h.rows.2 j m em;exists _,f1,XX,Z,?_,f3;rw[Ze]
   ·show f2
   ·intro e;rw[e]at f1;show c (Zw1 h.nd e1 f1)
 ·rcases List.mem_or_eq_of_mem_set hm with e|e
  ·show h.all m e
  ·rwa[e]
def ZQ12{L:List (List Int)}{l:List Int}(hi:L[i]?=some l)(hj:j<l.f)(a b:Nat):fnL (L.set i (l.set j x)) a b=if a=i/\b=j then x else fnL L a b:=by
 let hil:=(Yy1.S hi).1;unfold fnL;cases ha:a=i
 ·subst ha;let e1:(L.set a<|l.set j x).getD a []=l.set j x:=by rw[Yy5,Y0R,if_pos Z,if_pos hil];rfl
  let e2:L.getD a []=l:=by rw[Yy5,hi];rfl
  rw[e1,e2];cases hb:b=j
  ·subst hb;rw[if_pos ⟨Z,Z⟩,Yy5,Y0R,if_pos Z,if_pos hj];rfl
  ·rw[if_neg λh=>hb h.2,Yy5,Y0R,if_neg<|Y0f hb,<-Yy5]
 ·have e1:(L.set i<|l.set j x).getD a []=L.getD a []:=by rw[Yy5,Yy5,Y0R,if_neg (Y0f ha)]
  rw[e1,if_neg λh=>ha h.1]
def four{A:Mx}{u v:Nat}{w:Int}(hne:u≠v)(a b:Nat){XX C XW E:Mx}(h1:∀a b,XX a b=if a=u/\b=u then A u u+w else A a b)(h2:∀a b,C a b=if a=v/\b=v then XX v v+w else XX a b)(h3:∀a b,XW a b=if a=u/\b=v then C u v-w else C a b)(h4:∀a b,E a b=if a=v/\b=u then XW v u-w else XW a b):E a b=A a b+w*(ind u v a*ind u v b):=by
 let nv:¬v=u:=Y0f hne;unfold ind;cases x1:a=u
 ·subst x1;cases y1:b=a
  ·subst y1;simp[h4,h3,h2,h1,hne,nv]
  ·by_cases y2:b=v
   ·subst y2;simp[h4,h3,h2,h1,hne,nv];lia
   ·simp[h4,h3,h2,h1,hne,nv,y1,y2]
 ·by_cases x2:a=v
  ·subst x2;cases y1:b=u
   ·subst y1;simp[h4,h3,h2,h1,hne,nv];omega
   ·by_cases y2:b=a
    ·subst y2;simp[h4,h3,h2,h1,hne,nv]
    ·simp[h4,h3,h2,h1,hne,nv,y1,y2]
  ·simp[h4,h3,h2,h1,hne,nv,x1,x2]
def Zz711{ps:List (Int×Int)}{ws:List Int}{p:Int×Int}{w:Int}(hp:ps[i]?=some p)(hw:ws[i]?=some w):Zz62 (ps.G (i+1)) (ws.G (i+1))=Zz62 (ps.G i) (ws.G i)++[(p.1.i,p.2.i,w)]:=by
 let h1:=(Yy1.S hp).1;let h2:=(Yy1.S hw).1
 unfold Zz62;rw[YN,YN,hp,hw];rw[List.zipWith_append (by rw[Yh,Yh];grind)];rfl
def Conn.image{f:Nat->Nat}(h:∀e∈es,Conn fs (f e.1) (f e.2))(c:Conn es i j):Conn fs (f i) (f j):=by
 induction c with
 |refl i=>show .refl _
 |edge e=>show h _ e
 |symm _ ih=>show ih.symm
 |trans _ _ ih1 ih2=>show ih1.m ih2
def Zh11(g:ZM n ps)(h:IsSet ps.f T)(c:∀i j,i<n.i->j<n.i->Conn (Zz6 ps T) i j):n-1<=T⁻¹:=by
 let g1:=g.1;let hin:=ZL (ns:=T) g h.all
 let h2:=(Za1 J hin).X c;let h3:=Zi5 _ hin
 rw[show(Zz6 ps T).f=T.f from Yy7 ..]at h3;lia
end My
namespace L2
open PySem
def Ris(t:SetTable):(Prop):=t.place.j.C (·<·)
def Zt5{xs:Array Nat}(h:xs.j.C (·<·)){i k a b:Nat}(hik:i<k)(ha:xs[i]?=some a)(hb:xs[k]?=some b):a<b:=by rw[<-YJ]at ha hb;let(h1,e1):=Yy1.S ha;let(h2,e2):=Yy1.S hb;rw[<-e1,<-e2];show Yy04.S h i k h1 h2 hik
def Za3(h:xs.j.C (·<·)):∀f lo hi,hi-lo<=f->lo<=hi->hi<=xs.l->(∀i v,xs[i]?=some v->i<lo->v<j)->(∀i v,xs[i]?=some v->hi<=i->j<=v)->
  SetTable.below.go xs j f lo hi<=xs.l/\∀i v,xs[i]?=some v->(i<SetTable.below.go xs j f lo hi↔v<j)
 |0,lo,hi,hf,hl,hs,a,b=>by
  let e:lo=hi:=XS;unfold SetTable.below.go;exists J,λi v hv=>{a i v hv,λhvj=>Nat.lt_of_not_le λhc=>?_}
  have:=b i v hv J
  lia
 |f+1,lo,hi,hf,hl,hs,a,b=>by
  unfold SetTable.below.go;cases c:lo<hi
  ·rw[if_pos c];dsimp only;obtain⟨m,hm⟩:∃m,xs[(lo+hi)/2]?=some m:={_,YZ J};let em:xs.getD ((lo+hi)/2) j=m:=by rw[Y0c,hm];rfl
   rw[em];cases d:m<j
   ·rw[if_pos d];show Za3 h f _ hi XS J hs (λi v hv hi2=>?_) b;cases e:i=(lo+hi)/2
    ·rw[e,hm]at hv;show Yl hv▸d
    ·have:=Zt5 h (show i<(lo+hi)/2 by lia) hv hm
     lia
   ·rw[if_neg d];show Za3 h f lo _ XS J J a λi v hv hi2=>?_;cases e:i=(lo+hi)/2
    ·rw[e,hm]at hv
     have:=Yl hv
     lia
    ·have:=Zt5 h (show(lo+hi)/2<i by lia) hm hv
     lia
  ·rw[if_neg c];exists XS,λi v hv=>{a i v hv,λhvj=>Nat.lt_of_not_le λhc=>?_}
   have:=b i v hv J
   lia
def Yz1(h:xs.j.C (·<·))(j:Nat):SetTable.below xs j<=xs.l/\∀i v,xs[i]?=some v->(i<SetTable.below xs j↔v<j):=
 Za3 h xs.l 0 xs.l J (Yk _) (Yy8 _) (λi v _ h=>absurd h<|Y0h _) λi v hv hi=>by rw[Y2O hi]at hv;cases hv
def Zo11(h:xs.j.C (·<·)){i v:Nat}(hv:xs[i]?=some v):SetTable.below xs v=i:=by
 let(h1,h2):=Yz1 h v;let a:¬i<SetTable.below xs v:=λq=>by have:=(h2 i v hv).S q;lia
 show Y3C J (Yy26 λq=>?_);let hlt:=(Y3J.S hv).1
 obtain⟨u,hu⟩:∃u,xs[SetTable.below xs v]?=some u:={_,YZ J};let b:=Zt5 h q hu hv
 have:=(h2 _ u hu).X b
 lia
def Yz7(h:xs.j.C (·<·)){i v:Nat}(hv:xs[i]?=some v):SetTable.below xs (v+1)=i+1:=by
 let(h1,h2):=Yz1 h (v+1);let a:=(h2 i v hv).X (Y0M v)
 show Y3C (Yy26 λq=>?_) a;obtain⟨u,hu⟩:∃u,xs[i+1]?=some u:={_,YZ J};let b:=(h2 _ u hu).S q
 have:=Zt5 h (Y0M i) hv hu
 lia
def Zy7(h:xs.j.C (·<·)):SetTable.below xs 0=0:=by let(h1,h2):=Yz1 h 0;show Nat.le_zero.S (Yy26 λq=>?_);obtain⟨u,hu⟩:∃u,xs[0]?=some u:={_,YZ J};show Y0h _ ((h2 _ u hu).S q)
def ZM5(t:SetTable)(j:Nat):(Prop):=t.place[SetTable.below t.place j]?≠some j
def ZY11(h:Ris t)(hn:ZM5 t j):Ris (t.put j).1:=by
 let(h1,h2):=Yz1 h j;let up:∀i v,t.place[i]?=some v->SetTable.below t.place j<=i->j<v:=λi v hv hi=>by
  let a:¬v<j:=λq=>by have:=(h2 i v hv).X q;lia
  let b:v≠j:=λe=>hn (by rw[e]at hv;rwa[Zo11 h hv]);lia
 change(SetTable.insertAt t.place (SetTable.below t.place j) j).j.C (·<·);rw[SetTable.toList_insertAt];let dn:∀x∈t.place.j.G (SetTable.below t.place j),x<j:=λx hx=>by
  let(i,hi):=YC hx;rw[Y0D]at hi;split at hi
  ·rename_i q;rw[YJ]at hi;show(h2 i x hi).S q
  ·cases hi
 let ub:∀x∈t.place.j.drop (SetTable.below t.place j),j<x:=λx hx=>by let(i,hi):=YC hx;rw[Y0W,YJ]at hi;show up _ x hi (Nat.le_add_right _ _)
 show Yz.X {Y4c (Y0Q _ _) h,Y0i.X {ub,Y4c (Y1W _ _) h},λa ha b hb=>?_};rcases Yf.S hb with e|e
 ·rw[e];show dn a ha
 ·show Nat.lt_trans (dn a ha) (ub b e)
def Zk3(h:t.slot j=.empty\/t.slot j=.dummy):ZM5 t j:=λe=>by
 let e2:t.slot j=.live (SetTable.below t.place j):=by unfold SetTable.slot;dsimp only;rw[if_pos (by rw[e];simp)]
 rw[e2]at h;rcases h with h|h<;>cases h
def Zl2{f:Nat->Int}:∀n p j d,(∀e,p.dummy=some e->ZM5 t e)->SetTable.probe.go t f h n p=some (.empty j d)->ZM5 t j/\∀e,d=some e->ZM5 t e
 |0,p,j,d,_,h=>by cases h
 |n+1,p,j,d,hp,h=>by
  let adv:∀q:SetTable.Probe,(t.advance q).dummy=q.dummy:=λq=>by unfold SetTable.advance;split<;>rfl
  unfold SetTable.probe.go at h;split at h
  ·rename_i hs;cases h;exists Zk3<|.inl hs,hp
  ·rename_i hs;show Zl2 n _ j d (λe he=>by rw[adv]at he;cases he;show Zk3<|.inr hs) h
  ·split at h
   ·cases h
   ·show Zl2 n _ j d (λe he=>hp e<|by rwa[adv]at he) h
def Zh8{b:Bool}(e:t.freeSlot h=some (s,b)):ZM5 t s:=by
 unfold SetTable.freeSlot at e;split at e
 ·rename_i j d hp;let(a1,a2):=Zl2 _ _ j d (λe he=>by cases he) hp;let e1:=YI Prod.fst (Yl e)
  dsimp only at e1;rw[<-e1];cases d with
  |none=>show a1
  |some x=>show a2 x rfl
 ·cases e
def Za2(t:SetTable)(n:Nat):Ris (t.standIn n):=by change(Array.range n).j.C (·<·);rw[Array.toList_range];show Y1r
def ZZ11(h:Ris t)(es:Array (Int×Value))(k:Int)(x:Value):Ris (layNew t es k x).2.1/\(layNew t es k x).2.1.led=t.led:=by
 unfold layNew;split
 ·rename_i s b e;dsimp only;unfold SetTable.orStandIn;split
  ·exists ZY11 h<|Zh8 e,Z
  ·exists Za2 _ _,Z
 ·exists Za2 _ _,Z
def ZL7(h:Ris t)(es:Array (Int×Value))(n:Nat):Ris (relayAll t es n).2.1/\(relayAll t es n).2.1.led=t.led:=by
 unfold relayAll;split
 ·rename_i t' order e;dsimp only;split
  ·unfold SetTable.relaid SetTable.laid at e;cases ho:SetTable.layClean (SetTable.sizeAbove n-1) (es.L (·.1)) with
   |none=>rw[ho]at e;cases e
   |some owner=>
    rw[ho]at e;let e1:=YI Prod.fst (Yl e)
    dsimp only at e1;rw[<-e1];exists ?_,Z;change(List.L _<|List.filterMap _ _).t.j.C (·<·)
    rw[List.toList_toArray,Y1m,List.pairwise_filterMap];show Y1r.imp λ{a b} hab x hx y hy=>?_;let ex:x.1=a:=by
     cases q:owner.getD a none with
     |none=>rw[q]at hx;cases hx
     |some z=>rw[q]at hx;cases hx;rfl
    let ey:y.1=b:=by
     cases q:owner.getD b none with
     |none=>rw[q]at hy;cases hy
     |some z=>rw[q]at hy;cases hy;rfl
    rwa[ex,ey]
  ·exists Za2 _ _,Z
 ·exists Za2 _ _,Z
end L2
namespace L2
open PySem PySem.Spec PyProof.Rows
def SetR(P:Program)(w:World)(h:Heap)(a:Addr)(led:Bool)(S:Int->Bool)(n:Nat):(Prop):=
 ∃o es ep t,h.E a=some o/\o.ExactSet/\o.data=.set es ep t/\ElemsOf (intKind P w) es.j/\(∀z,S z=true↔∃y∈es.j,(intKind P w).is z y.2=true)/\es.l<scanBound/\t.fits es.l=true/\es.l=n/\Ris t/\t.led=led
def SetR.at{S:Int->Bool}(q:SetR P w h a led S n)(k:∀o,h.E a=some o->h'.E a=some o):SetR P w h' a led S n:=
 let ⟨o,es,ep,t,ho,r⟩:=q
 {o,es,ep,t,k o ho,r}
section
variable{prog:Program}{w:World}{A:Around}{E:Value->Shared->Prop}{s:Shared}
def Zm3{h:Heap}{o:Obj}{es:Array (Int×Value)}{ep:Nat}{t:SetTable}(ho:h.E a=some o)(hx:o.ExactSet)(hd:o.data=.set es ep t)(fs:Array (Int×Value))(u:SetTable):
  (h.update a<|Obj.putSet fs u).E a=some {o with data:=.set fs (ep+1) u}/\({o with data:=.set fs (ep+1) u}:Obj).ExactSet:=by let q:=Y0q (Obj.putSet fs u) ho (by rw[putSet_of fs u hd];rfl);rw[putSet_of fs u hd]at q;exists q,hx
def Zr11{gv:Bool->Sem Unit}(hgv:∀b s1 R,R () s1->wpAny (model prog w) A (gv b) R E s1)
 {o:Obj}{es fs:Array (Int×Value)}{ep:Nat}{t u:SetTable}(ho:s.o.E a=some o)(hx:o.ExactSet)(hd:o.data=.set es ep t)
  {S:Int->Bool}(he:ElemsOf (intKind prog w) fs.j)(hm:∀z,S z=true↔∃y∈fs.j,(intKind prog w).is z y.2=true)(hb:fs.l<scanBound)(hf:u.fits fs.l=true)(hr:Ris u){dm:Bool}{R:Option Bool->Shared->Prop}
  (k:∀h',Heap.SameBut a s.o h'->SetR prog w h' a u.led S fs.l->R (some true) {s with heap:=h'}):
  wpAny (model prog w) A (do
   storeSet a fs u
   if (!dm&&u.tooFull)=true then do
    gv (relayAll u fs<|SetTable.grown fs.l).2.2
    storeSet a (relayAll u fs<|SetTable.grown fs.l).1 (relayAll u fs<|SetTable.grown fs.l).2.1
    pure (some true)
   else pure (some true)) R E s:=by
 let(h1,x1):=Zm3 ho hx hd fs u;let b1:=Y0r s.o a (Obj.putSet fs u)
 show Yy4 (wpAny_storeSet_of ho hd ?_<|fits_of_scanBound hb);cases c:(!dm&&u.tooFull)=true
 ·rw[if_pos c];let p:=relayAll_perm u fs (SetTable.grown fs.l)
  let f:=relayAll_fits u fs (SetTable.grown fs.l);let(r,l):=ZL7 hr fs (SetTable.grown fs.l);generalize relayAll u fs (SetTable.grown fs.l)=XZ at p f r l ⊢;let(gs,v,gave):=XZ;dsimp only at p f r l ⊢;let ez:gs.l=fs.l:=by rw[<-YD,p.length_eq,YD]
  let(h2,x2):=Zm3 h1 x1 Z gs v;show Yy4 (hgv _ _ _<|Yy4<|wpAny_storeSet_of h1 Z (Yi ?_)<|fits_of_scanBound<|by rwa[ez]);show k _ (b1.m<|Y0r _ a _) ⟨_,gs,_,v,h2,x2,Z,he.perm p,λz=>(hm z).m {λzz=>by let(y,hy,q):=zz;show{y,p.mem_iff.X hy,q},λzz=>by let(y,hy,q):=zz;exists y,p.mem_iff.S hy,q},by rw[ez];show hb,f,ez,r,l⟩
 ·rw[if_neg c];show Yi (k _ b1 {_,fs,_,u,h1,x1,Z,he,hm,hb,hf,Z,hr,Z})
def Zf13{S:Int->Bool}{z:Int}{x:Value}{R:Bool->Shared->Prop}(hz:(intKind prog w).is z x=true)(hsc:x.scannable=true)(hS:SetR prog w s.o a led S n)(room:n+1<scanBound)
  (k:∀h',Heap.SameBut a s.o h'->SetR prog w h' a led (λy=>S y||decide (y=z)) (if S z then n else n+1)->R (!S z) {s with heap:=h'}):
  wpAny (model prog w) A (setAddHashed a x<|(intKind prog w).hash z) R E s:=by
 let(o,es,ep,t,ho,hx,hd,he,hm,hb,hf,hn,hr,hl):=hS;unfold setAddHashed setAddHashedIn;show Y1p (Yy4<|Y1J ho hd hf ?_);dsimp only;rw[if_pos (byScan_of hsc hb he)];unfold setAddByScan;show Yy4 (Yy4<|Y1Q<|Yy4<|wpAny_setScan_of hz ho hd hf he ?_);cases hw:List.findIdx? (λy=>(intKind prog w).is z y.2) es.j with
 |some j=>
  let(j1,j2,_):=List.findIdx?_eq_some_iff_getElem.S hw;let yes:S z=true:=(hm z).X {es.j[j],Y0Y j1,j2}
  let fin:=k s.o (Heap.SameBut.refl a s.o) {o,es,ep,t,ho,hx,hd,he,λy=>by rw[Bool.or_eq_true,Y3d,<-hm y];show{λq=>q.elim id λq=>q▸yes,.inl},hb,hf,by rw[yes];show hn,hr,hl}
  rw[yes]at fin;dsimp only;show Yi (Yi fin)
 |none=>
  let no:S z=false:=Bool.eq_false_iff.X λq=>by
   let(y,hy,hp):=(hm z).S q
   have:=List.findIdx?_eq_none_iff.S hw y hy
   rw[hp]at this;cases this
  dsimp only;let p:=layNew_perm t es ((intKind prog w).hash z) x
  let f:=layNew_fits t es ((intKind prog w).hash z) x;let(r,l):=ZZ11 hr es ((intKind prog w).hash z) x;generalize layNew t es ((intKind prog w).hash z) x=XZ at p f r l ⊢;let(fs,u,dm,gave):=XZ;dsimp only at p f r l ⊢;rw[Yy09]at p;let ez:fs.l=n+1:=by rw[<-YD,p.length_eq,Yy3,YD,hn];rfl
  let gw:∀(b:Bool){s1:Shared}{R':Unit->Shared->Prop},R' () s1->wpAny (model prog w) A (match b with|true=>rule "set.scan.the-table-gave-way" | false=>pure ()) R' E s1:=λb s1 R' q=>by
   cases b
   ·show Yi q
   ·show Y1Q q
  let fin:∀h',Heap.SameBut a s.o h'->SetR prog w h' a led (λy=>S y||decide (y=z)) fs.l->R true {s with heap:=h'}:=λh' q1 q2=>by let q:=k h' q1;rw[no]at q;rw[ez]at q2;show q q2
  let he1:=(he.push hz hsc).perm p;let hm1:∀y,(S y||decide (y=z))=true↔∃v∈fs.j,(intKind prog w).is y v.2=true:=mem_push_iff hz hm p
  let hb1:fs.l<scanBound:=J;show Yy4 (gw _ ?_);let tail:∀v:SetTable,v.fits fs.l=true->Ris v->v.led=led->wpAny (model prog w) A (do
    storeSet a fs v
    if (!dm&&v.tooFull)=true then do
     (match (relayAll v fs<|SetTable.grown fs.l).2.2 with|true=>rule "set.scan.the-table-gave-way" | false=>pure ())
     storeSet a (relayAll v fs<|SetTable.grown fs.l).1 (relayAll v fs<|SetTable.grown fs.l).2.1
     pure (some true)
    else pure (some true)) (λy s1=>wpAny (model prog w) A (match y with|some added=>pure added|none=>setAddHashedIn a x ((intKind prog w).hash z) 99999) R E s1) E s:=λv a1 a2 a3=>
   Zr11 (gv:=λb=>match b with|true=>rule "set.scan.the-table-gave-way" | false=>pure ()) (λb s1 R' q=>gw b q) ho hx hd he1 hm1 hb1 a1 a2 λh' q1 q2=>Yi (fin h' q1<|a3▸q2)
  split
  ·show Yy4 ?_;rw[hashByValue_scannable 8 hsc];show Yi ?_;split
   ·show tail u f r (l.m hl)
   ·show tail _ (SetTable.fits_plain_off f) r (l.m hl)
  ·show Yy4 (Yi ?_);rw[if_pos Z];show tail u f r (l.m hl)
end
section
variable{prog:Program}{w:World}{A:Around}{R:Result->Shared->Prop}{I:Addr}{fp wr:List Addr}{G:Array GenState->Array GenState->Prop}{n:Nat}{P:Nat->Value->Prop}{St:Nat->Shared->Prop}
def Zz84(W:WalksS prog w A.in1 I fp wr G n P St)(b:Addr)(hbf:b∉fp)(val:Nat->Int)(hv:∀i v,P i v->∃t,v=.int (val i) t)(hn:n+1<scanBound):
  ∀k i s,n-i=k->i<=n->St i s->SetR prog w s.o b led (λz=>(firstMet val i).any (· == z)) (firstMet val i).f->
   (∀s',Moved (b::wr) G s s'->SetR prog w s'.o b led (λz=>(firstMet val n).any (· == z)) (firstMet val n).f->R (.ok<|.ret .none) s')->
   codeAny (model prog w) A (.builtin "set.update.loop" {[.ref b,.ref I],[]}) R s
 |0,i,s,hk,hi,st,hS,q=>by
  let e:i=n:=XS;subst e;show Yy13 F.entry_set_update_loop ?_;rw[Y3f Y3g _];change wpAny _ A.in1 (pyNext ↑I >>= _) _ _ s
  show Yy4 (W.done s _ _ st λs1 m=>?_);change wpAny _ A.in1 (ret Value.none) _ _ s1
  show Yi (q s1 (m.mono λc hc=>.tail _ hc)<|hS.at λo ho=>m.o b o (λhc=>hbf<|W.sub _ hc) ho)
 |k+1,i,s,hk,hi,st,hS,q=>by
  let hlt:i<n:=XS;show Yy13 F.entry_set_update_loop ?_;rw[Y3f Y3g _];change wpAny _ A.in1 (pyNext ↑I >>= _) _ _ s
  show Yy4 (W.item i s _ _ hlt st λv s1 hP st1 m=>?_);let(t,rfl):=hv i v hP;let hS1:=hS.at (h':=s1.o) λo ho=>m.o b o (λhc=>hbf<|W.sub _ hc) ho
  change wpAny _ A.in1 (holding [Value.int (val i) t] (setAdd b<|.int (val i) t) >>= _) _ _ s1;show Yy4 (Y1p ?_);unfold setAdd;show Y1p (Yy4<|(intKind prog w).pyHash (k:=val i) (intKind_is _ _ _ _) ?_);let fm:=firstMet_length_le val i
  show Zf13 (s:={s1 with toks:=s1.toks+1}) (intKind_is _ _ _ _) Z hS1 J λh2 sb hS2=>?_;let hS3:SetR prog w h2 b led (λz=>(firstMet val<|i+1).any (· == z)) (firstMet val<|i+1).f:=by
   let e1:(λz=>(firstMet val<|i+1).any (· == z))=λy=>((firstMet val i).any (· == y)||decide (y=val i)):=funext λy=>by rw[Y3x,step_any]
   rwa[e1,Y3x,step_length]
  let kept:∀c o,c≠b->s1.o.E c=some o->h2.E c=some o:=λc o hc e=>(sb.2 c hc).m e;show Yi {plainId_quiet Y3g _,Zz84 W b hbf val hv hn k (i+1) _ XS hlt (W.frame _ s1 _ _ st1 (Yy15 _) λc hc o e=>kept c o (λe'=>hbf<|e'▸hc) e) hS3 λs2 m2 hS4=>?_};show q s2 (Moved.m W.gtrans ((m.mono λc hc=>.tail _ hc).then_heap (Yy15 _) λc o hc e=>kept c o (λe'=>hc<|e'▸.head _) e) m2) hS4
end
section
variable{prog:Program}{w:World}{A:Around}{E:Value->Shared->Prop}{s:Shared}
def ZQ1(w:World):(Obj):={cls:=.type "set",dict:=none,data:=.set #[] 0 (.fresh 0 0<|!w.params.followText "set-order")}
def ZT8(a:Value){Q:Value->Shared->Prop}(k:Q (.ref (~~~s)) {s with heap:=s.o.push (ZQ1 w)}):
  codeAny (model prog w) A (.call (.builtin "set.__new__") {[.type "set",a],[]}) (wants Q E) s:=by
 show codeAny_of_tree ?_;change wpAny _ A.in1 (checkBuiltinCall "set.__new__" {[.type "set",a],[]} >>= λ_=>again<|.builtin "set.__new__" {[.type "set",a],[]}) _ _ s
 show Yy4 (Yy20 (F.newCall_set_1 a)<|Yi ⟨plainId_quiet F.plain_set_new _,Yy13 F.entry_set_new ?_⟩);rw[Y3f F.plain_set_new _];let hsub:=sub_set_self
 unfold Builtin.«set.__new__» Builtin.Frozenset.newClass;let(hp,g,d,tk,os):=s;dsimp only
 wp_walk
 show Y1R (Yi ?_);simp only[newObj];show Yy4 (wpAny_alloc<|Yi<|Yi k)
def ZG4(e:h.E a=some (ZQ1 w)):SetR prog w h a (!w.params.followText "set-order") (λz=>(firstMet (λ_=>0) 0).any (· == z)) 0:=by exists _,#[],0,_,e,⟨Z,Z,Z⟩,Z,λy hy=>(by cases hy),λz=>{λq=>(by cases q),λzz=>by let(y,hy,_):=zz;show(by cases hy)},XU,by simp[SetTable.fits,SetTable.fresh,SetTable.fill],Z,.nil,Z
def Zz410{h0:Heap}{Q:Value->Shared->Prop}(hh:A.handled=none)(hb0:h0.E b=some (ZQ1 w))(hl:h0.IsList l items)(hne:l≠b)(hi:IntsAre items.j ns)(hn:items.l+1<scanBound)
  (k:∀h' tk,SetR prog w h' b (!w.params.followText "set-order") (λz=>(firstMet (λi=>ns.getD i 0) items.l).any (· == z)) (firstMet (λi=>ns.getD i 0) items.l).f->(∀c o,c≠b->h0.E c=some o->h'.E c=some o)->Q .none {s with heap:=h',toks:=tk}):
  wpAny (model prog w) A.in1 (Builtin.«set.__init__» {[.ref b,.ref l],[]}) (λfin s'=>match fin with | .done f=>wants Q E (.ok f) s' | .again c'=>c'.quiet=true/\codeAny (model prog w) A c' (wants Q E) s') (λe s'=>wants Q E (.error e) s') {s with heap:=h0}:=by
 let hT:Shared.TypeIs {s with heap:=h0} ↑b "set":={_,hb0,Z};let hl0:=hl
 let((ocls,odict,odata,oslots),hol,hcl,nl,hdl):=hl;simp only at hcl hdl;subst hcl hdl;let q1:=F.sub_list_set
 let q2:=F.sub_list_frozenset;let q3:(Value.type "list" == Value.type "dict")=false:=XU
 unfold ZQ1 at hb0;unfold Builtin.«set.__init__» noKeywords Builtin.Frozenset.updateFrom;generalize hPI:pyIter=PI
 wp_walk
 subst hPI;show Y3P hl0 ?_;show Yy4 (Y3i ?_);let ltl:l<h0.objs.l:=Yg hol
 let ltb:b<h0.objs.l:=Yg hb0;let bf:b∉[h0.objs.l,l]:=λq=>by
  rcases Yf.S q with e|e
  ·show Yt ltb e
  ·show hne (Yy2.S e).symm
 show Zz84 ((Walks.list (A:=A.in1.in1) (by simp[hh]) _ l (Yt ltl) items).toS) b bf (led:=!w.params.followText "set-order") (λi=>ns.getD i 0) (λi v hv=>Y4d hi i v<|by rw[YJ];show hv) hn (items.l-0) 0 _ J (Yk _)
  {{_,Yo _ Z,Z,Z},hl0.push _} ?_ ?_
 ·show ZG4 (Yy6 _ hb0)
 ·rintro⟨h',g',d',tk',os'⟩ m hS;let e1:g'=s.gens:=m.gens
  let e2:d'=s.drawn:=m.drawn;let e3:os'=s.os:=m.os
  subst e1 e2 e3;change wpAny _ _ _ _ _ _
  show Yi ?_;change wpAny _ _ (ret Value.none) _ _ _
  show Yi (k h' tk' hS λc o hc e=>m.o c o (λq=>?_)<|Yy6 _ e);rcases Yf.S q with e'|e'
  ·show hc e'
  ·show Yt (Yg e) (Yy2.S e')
set_option maxRecDepth 100000 in
set_option maxHeartbeats 3000000 in
def ZH8{Q:Value->Shared->Prop}(hh:A.handled=none)(hl:s.o.IsList l items)(hi:IntsAre items.j ns)(hn:items.l+1<scanBound)
  (k:∀h' tk,SetR prog w h' (~~~s) (!w.params.followText "set-order") (λz=>(firstMet (λi=>ns.getD i 0) items.l).any (· == z)) (firstMet (λi=>ns.getD i 0) items.l).f->(∀c o,s.o.E c=some o->h'.E c=some o)->Q (.ref (~~~s)) {s with heap:=h',toks:=tk}):
  wpAny (model prog w) A (call (.type "set") [.ref l]) Q E s:=by
 let(c,tl,hmro):=Y0C.mro;let a1:=Y0C.made
 let a2:=Y0C.sub;let a3:=Y0C.notType
 let a4:=Y0C.canCreate;let a5:=F.typeCall_set_1 ↑l
 show Yy40 (codeAny_of_tree ?_);change wpAny _ _ (callAny (.type "set") _) _ _ _
 show Yi {Yy23 _ XT,Yy13 F.entry_type_call ?_};rw[Around.under_plain (weight_type_call_type "set" [.ref l] []) Z]
 repeat any_goals first|assumption|wp_step
 show Y1v (ZT8 ↑l (E:=E) (Q:=λob s1=>ob=.ref (~~~s)/\s1={s with heap:=s.o.push (ZQ1 w)}) ⟨Z,Z⟩) λr s1 hr=>?_
 match r,hr with
 | .error e,hr=>show hr
 | .ok (.ret ob),hr=>
  let(rfl,rfl):=hr;let hb0:(s.o.push<|ZQ1 w).E (~~~s)=some (ZQ1 w):=Yo _ rfl
  let hT:Shared.TypeIs {s with heap:=s.o.push (ZQ1 w)} (.ref (~~~s)) "set":={_,hb0,Z};let a6:=Y0C.init.R
  let a7:=Y0C.init.bind (.ref (~~~s))
  repeat any_goals first|assumption|wp_step
  let ltl:l<(~~~s):=by let(_,e,_):=hl;show Yg e
  show Y1v (Y2l (R:=wants (λr s2=>r=.none/\Q (.ref (~~~s)) s2) E) Y0C.init.plain F.entry_set_init<|check_set_init_1 hT<|Zz410 (A:=_) (s:=s) ?_ hb0 (hl.push _) (Yt ltl) hi hn λh' tk hS kp=>{Z,k h' tk hS λc o e=>kp c o (Yt<|Yg e)<|Yy6 _ e}) λr2 s2 hr2=>?_
  ·simp[hh]
  ·match r2,hr2 with
   | .error e,hr2=>show hr2
   | .ok (.ret v),hr2=>
    let(rfl,q):=hr2
    repeat any_goals first|assumption|wp_step
end
def Zz86:Manifest.owners.R (String.ofList ['r','o','t','a','r','e','t','i','_','t','e','s'].reverse)=some Manifest.sig_set_iterator:=by kernel_rfl
def si_next:PySem.Slot "set_iterator" "__next__" "set_iterator.__next__":=
 .of (owner:="set_iterator") (n:="__next__") (by rw[Y3b,Y2d];kernel_rfl) XT XT XT
  (by first|show .inl XT|show .inr XT) (by rw[isSubtype_type];kernel_rfl)
def ZL2:entryFor table "set_iterator.__next__"=some Builtin.«set_iterator.__next__»:=entryFor_of_tree XQ
def ZM2(a:Value):argsOk "set_iterator.__next__" {[a],[]}:=by unfold argsOk;rw[signature?_of (id:="set_iterator.__next__") (n:=['_','_','t','x','e','n','_','_']) (o:=['r','o','t','a','r','e','t','i','_','t','e','s']) XQ Zz86];kernel_rfl
def ZG8:PySem.Slot "set_iterator" "__iter__" "set_iterator.__iter__":=
 .of (owner:="set_iterator") (n:="__iter__") (by rw[Y3b,Y2d];kernel_rfl) XT XT XT
  (by first|show .inl XT|show .inr XT) (by rw[isSubtype_type];kernel_rfl)
def ZU9(a:Value):argsOk "set_iterator.__iter__" {[a],[]}:=by unfold argsOk;rw[signature?_of (id:="set_iterator.__iter__") (n:=['_','_','r','e','t','i','_','_']) (o:=['r','o','t','a','r','e','t','i','_','t','e','s']) XQ Zz86];kernel_rfl
def ZT9:entryFor table "set_iterator.__iter__"=some Builtin.«dict_keyiterator.__iter__»:=
 entryFor_alias (id':="dict_keyiterator.__iter__") XQ (by first|rfl|decide +kernel|(unfold String.splitOn;simp +decide [String.splitOnAux])) XT XQ
def ZN9:Manifest.owners.R (String.ofList ['t','e','s'].reverse)=some Manifest.sig_set:=by kernel_rfl
def ZB8:PySem.Slot "set" "__iter__" "set.__iter__":=
 .of (owner:="set") (n:="__iter__") (by rw[Y3b,Y2d];kernel_rfl) XT XT XT
  (by first|show .inl XT|show .inr XT) (by rw[isSubtype_type];kernel_rfl)
def ZP9(a:Value):argsOk "set.__iter__" {[a],[]}:=by unfold argsOk;rw[signature?_of (id:="set.__iter__") (n:=['_','_','r','e','t','i','_','_']) (o:=['t','e','s']) XQ ZN9];kernel_rfl
def ZO9:entryFor table "set.__iter__"=some Builtin.«frozenset.__iter__»:=
 entryFor_alias (id':="frozenset.__iter__") XQ (by first|rfl|decide +kernel|(unfold String.splitOn;simp +decide [String.splitOnAux])) XT XQ
def IsSi(h:Heap)(I a:Addr)(f:Value)(i n ep:Nat):(Prop):=∃o,h.E I=some o/\o.cls=.type "set_iterator"/\o.data=.fields #[f,rawInt (i:Int),.ref a,rawInt (n:Int),rawInt (ep:Int)]
def IsSi.ty{s:Shared}(x:IsSi s.o I a f i n ep):s.TypeIs ↑I "set_iterator":=by let(o,p,q,_):=x;exists o,p,q
def IsSi.keep(x:IsSi h I a f i n ep)(e:∀o,h.E I=some o->h'.E I=some o):IsSi h' I a f i n ep:=by let(o,p,q):=x;exists o,e _ p,q
def SetIs(h:Heap)(a:Addr)(es:Array (Int×Value))(ep:Nat)(t:SetTable):(Prop):=∃o,h.E a=some o/\o.ExactSet/\o.data=.set es ep t
def SetIs.keep(x:SetIs h a es ep t)(e:∀o,h.E a=some o->h'.E a=some o):SetIs h' a es ep t:=by let(o,p,q):=x;exists o,e _ p,q
section
variable{prog:Program}{w:World}{A:Around}{E:Value->Shared->Prop}{s:Shared}
def Zu7{Q:Nat->Shared->Prop}(hn:n≠0)(k:∀i,i<n->∀d,Q i {s with drawn:=d}):wpAny M A (choose src n) Q E s:=
 λΓ p _=>{hn,k _ (Yy46 _<|Nat.pos_of_ne_zero hn) _}
def Zw2{α:Type}:∀{l:List α}{i:Nat}{y:α},l[i]?=some y->(y::l.eraseIdx i).Perm l
 |[],_,_,h=>by simp at h
 |x::l,0,y,h=>by let rfl:x=y:=Yl h;show .rfl
 |x::l,i+1,y,h=>(List.Perm.swap x y<|l.eraseIdx i).m ((Zw2 (l:=l) (i:=i) h).cons x)
def Zz87{α:Type}:∀(n:Nat)(xs:List α)(s:Shared)(Q:List α->Shared->Prop),n=xs.f->(∀ys d,ys.Perm xs->Q ys {s with drawn:=d})->wpAny M A (drawOrder n xs) Q E s
 |0,xs,s,Q,h,k=>by let e:xs=[]:=Yy07.S h.symm;subst e;show Yi (k [] s.drawn .rfl)
 |n+1,[],s,Q,h,k=>by cases h
 |n+1,x::xs,s,Q,h,k=>by change wpAny M A (choose .order (x::xs).f >>= _) Q E s;show Yy4 (Zu7 D λi hi d=>?_);obtain⟨y,hy⟩:∃y,(x::xs)[i]?=some y:={_,Yy0 hi};rw[hy];dsimp only;show Yy4 (Zz87 n ((x::xs).eraseIdx i) _ _ (by rw[Y3E hi];lia) λys d' hp=>Yi<|k (y::ys) d' ?_);show(hp.cons y).m (Zw2 hy)
def ZJ4{α:Type}{f:Nat->Nat}:∀(n k:Nat)(l:List α)(out:Array α),n=l.f->(pickOrder.go f n k l out).j.Perm (out.j++l)
 |0,k,l,out,h=>by rw[Yy07.S h.symm,YM];show .rfl
 |n+1,k,l,out,h=>by let hi:f k%l.f<l.f:=Yy46 _ J;obtain⟨y,hy⟩:∃y,l[f k%l.f]?=some y:={_,Yy0 hi};unfold pickOrder.go;rw[hy];dsimp only;show(ZJ4 n (k+1) _ _<|by rw[Y3E hi];lia).m ?_;rw[Yy09,Yw];show Y0j _ ?_;show Zw2 hy
def ZF8{Q:Value->Shared->Prop}(hr:IsSi s.o I a f i n ep)(h:Q ↑I s):wpAny (model prog w) A (pyIter ↑I) Q E s:=by
 show wpAny_pyIter_slot hr.ty ZG8 (Y0B ZG8 hr.ty ZT9 ?_<|ZU9 _);change wpAny _ _ (ret<|.ref I) _ _ s
 show Yi {_,Z,"set_iterator",_,hr.ty,si_next.R,h}
def ZN5(prog:Program)(w:World)(a:Addr)(es:Array (Int×Value))(ep:Nat)(t:SetTable)(ord:List Value)(sl:Nat->Nat):(Prop):=
 ∀A E s i Q,SetIs s.o a es ep t->i<=ord.f->Q ((ord[i]?).L λx=>(x,sl<|i+1)) s->wpAny (model prog w) A (setNext a (sl i) i ep) Q E s
def ZQ11{sl:Nat->Nat}{i:Nat}{x:Value}{Q:Option Value->Shared->Prop}(hN:ZN5 prog w a es ep t ord sl)(hS:SetIs s.o a es ep t)(hf:t.fits es.l=true)(hi:IsSi s.o I a (rawInt (sl i:Nat)) i es.l ep)(hx:ord[i]?=some x)
  (k:∀h',IsSi h' I a (rawInt (sl (i+1):Nat)) (i+1) es.l ep->Heap.SameBut I s.o h'->Q (some x) {s with heap:=h'}):wpAny (model prog w) A (pyNext<|.ref I) Q E s:=by
 let(o,ho,hc,hd):=id hi;let(oa,hoa,hxa,hda):=id hS;unfold pyNext;show Yy4 (Y2x<|Y0L (name:=Str.U "__next__") hi.ty si_next<|Y0B si_next hi.ty ZL2 ?_<|ZM2 _);unfold Builtin.«set_iterator.__next__»;show Yy4 (Yy20 (a:=(Value.ref I,[])) Z ?_);dsimp only;show Yy4 (Y3j ho hd ?_);dsimp only[rawInt];show Yy4 (Y1P hoa hda hf ?_);rw[if_neg D];rw[YB,YB,YB];show Yy4 (hN _ _ s i _ hS (Y1x (Yy1.S hx).1) ?_);rw[hx];dsimp only[Option.map_some];show Yy4 (Y1w ho hd D ?_);let ho2:=Y0q (Obj.mapFields λvs=>vs.setIfInBounds 0<|rawInt (sl (i+1):Nat)) ho (Y1z<|Y0k hd _)
 show Yy4 (Y1w ho2 (Y0k hd _) D ?_);show Yi {x,Z,Yi<|k _ ⟨_,Y0q _ ho2<|Y1z<|Y0k (Y0k hd _) _,?_,?_⟩<|(Y0r ..).m (Y0r ..)}
 ·rwa[Y2R,Y2R]
 ·rw[Y0k (Y0k hd _)];simp;rfl
def ZH13{sl:Nat->Nat}{Q:Option Value->Shared->Prop}(hh:A.handled=none)(hN:ZN5 prog w a es ep t ord sl)(hS:SetIs s.o a es ep t)(hf:t.fits es.l=true)(hi:IsSi s.o I a (rawInt (sl ord.f:Nat)) ord.f es.l ep)
  (k:∀h',Heap.ExtBut I s.o h'->Q none {s with heap:=h'}):wpAny (model prog w) A (pyNext<|.ref I) Q E s:=by
 let(o,ho,hc,hd):=id hi;let(oa,hoa,hxa,hda):=id hS;unfold pyNext;show Yy4 (Y2x<|Y0L (name:=Str.U "__next__") hi.ty si_next<|Y0B si_next hi.ty ZL2 ?_<|ZM2 _);unfold Builtin.«set_iterator.__next__»;show Yy4 (Yy20 (a:=(Value.ref I,[])) Z ?_);dsimp only;show Yy4 (Y3j ho hd ?_);dsimp only[rawInt];show Yy4 (Y1P hoa hda hf ?_);rw[if_neg D];rw[YB,YB,YB];show Yy4 (hN _ _ s ord.f _ hS (Yy8 _) ?_);rw[YE (Yy8 _)];dsimp only[Option.map_none];show Yy4 (Y1w ho hd D ?_);change wpAny _ _ (newExc (.type "StopIteration") [] >>= _) _ _ _
 show Yy4 ?_;simp only[newExc,newTuple];show Yy4 (Y0F ?_<|by size_fits);show Yy4 (m:=firstArgMember _ _) (Yy20 (a:=Value.none) (by first|rfl|(simp only[firstArgMember];rfl)) ?_)
 show Y0F ?_ (by size_fits);simp only[raiseNew];show Yy4 (wpAny_handled ?_);rw[show A.in1.handled=none from hh];show Yy4 (Yi<|wpAny_throw ?_);show Yy4 (Yy34 (T:="StopIteration") (b:=true) {_,Yo _ Z,Z} isSubtype_stop ?_);show Yi (k _<|(((Y0r ..).extBut).push _).push _)
def ZS9{sl:Nat->Nat}(hh:A.handled=none)(hN:ZN5 prog w a es ep t ord sl)(hf:t.fits es.l=true)(hne:a≠I):
  Walks prog w A I [I,a] [I] ord.f (λi v=>ord[i]?=some v) (λi h=>i<=ord.f/\IsSi h I a (rawInt (sl i:Nat)) i es.l ep/\SetIs h a es ep t) where
 sub:=λb hb=>Yf.X (.inl<|Yy2.S hb)
 frame:=λ_ _ _ x hk=>{x.1,x.2.1.keep λo e=>hk I D o e,x.2.2.keep λo e=>hk a D o e}
 item:=λi s Q E hi ⟨_,x1,x2⟩ hQ=>by let hx:ord[i]?=some (ord[i]'hi):=Yy0 hi;show ZQ11 hN x2 hf x1 hx λh' y hs=>hQ _ h' s.toks hx {hi,y,x2.keep λo e=>(hs.2 a hne).m e} λb o hb eo=>hs.extBut b o (λe=>hb<|by simp[e]) eo
 done:=λs Q E zz hQ=>by let(_,x1,x2):=zz;show ZH13 hh hN x2 hf x1 λh' he=>hQ h' s.toks λb o hb eo=>he b o (λe=>hb<|by simp[e]) eo
 self:=λ_ _ _ _ x hQ=>ZF8 x.2.1 hQ
def Zp10(hf:t.fits es.l=true)(hr:Ris t)(hb:w.params.followText "set-order"=false)(hl:t.led=true)(hd:(!t.plain&&decide (es.l>1))=false):
  ZN5 prog w a es ep t (es.j.L (·.2)) (λi=>if i=0 then 0 else (t.place.getD (i-1) 0)+1):=by
 intro A E s i Q ⟨o,ho,hx,hda⟩ hi q;let hps:t.place.l=es.l:=by unfold SetTable.fits at hf;simp only[Yy10,Y1B]at hf;show hf.1
 rw[Yy7,YD]at hi;unfold setNext;show Yy4 (Y1J ho hda hf ?_);dsimp only;show Yy4 ?_;unfold setsByText;show Yy4 (Y1R<|Yi ?_);change wpAny _ _ (if (w.params.followText "set-order")=true then _ else _) _ _ _
 rw[if_neg (by rw[hb];decide)];change wpAny _ _ (if (!t.plain&&decide (es.l>1))=true then _ else _) _ _ _
 rw[if_neg (by rw[hd];decide)];show Yy4 ?_;change wpAny _ _ (if (!t.led && !es.isEmpty)=true then _ else _) _ _ _
 rw[if_neg (by rw[hl];simp)];show Yi ?_;let eb:SetTable.below t.place (if i=0 then 0 else (t.place.getD (i-1) 0)+1)=i:=by
  cases c:i=0
  ·rw[if_pos c,c];show Zy7 hr
  ·rw[if_neg c];obtain⟨v,hv⟩:∃v,t.place[i-1]?=some v:={_,YZ J};let e:t.place.getD (i-1) 0=v:=by rw[Y0c,hv];rfl
   rw[e,Yz7 hr hv];lia
 rw[eb];show Yi ?_;cases c:i<es.l
 ·obtain⟨v,hv⟩:∃v,t.place[i]?=some v:={_,YZ J};obtain⟨y,hy⟩:∃y,es[i]?=some y:={_,YZ c};let e:t.place.getD i 0=v:=by rw[Y0c,hv];rfl
  rw[Yc,YJ,hy]at q;rw[hv,hy];simp only[Y1O,Yy37,e,if_neg (Nat.succ_ne_zero i)]at q;show q
 ·have e1:es[i]?=none:=Y2O J;rw[Yc,YJ,e1]at q;rwa[e1]
def ZU7(hf:t.fits es.l=true)(hb:w.params.followText "set-order"=true):
  ZN5 prog w a es ep t ((pickOrder (w.params.setOrder a ep) es).j.L (·.2)) (λ_=>0):=by
 intro A E s i Q ⟨o,ho,hx,hda⟩ hi q;unfold setNext;show Yy4 (Y1J ho hda hf ?_);dsimp only;show Yy4 ?_;unfold setsByText;show Yy4 (Y1R<|Yi ?_);change wpAny _ _ (if (w.params.followText "set-order")=true then _ else _) _ _ _
 rw[if_pos hb,if_neg D];show Yy4 ?_;unfold setWalk;show Yy4 (Y1J ho hda hf ?_);dsimp only;show Yy4 ?_;unfold setsByText;show Yy4 (Y1R<|Yi ?_);change wpAny _ _ (if (w.params.followText "set-order")=true then _ else _) _ _ _
 rw[if_pos hb];show Yy4 (Y1R<|Yi ?_);rw[Yc,YJ,Option.map_map]at q;show Yi q
def IsPl(h:Heap)(b:Addr)(pl:List Nat):(Prop):=∃o n,h.E b=some o/\o.data=.seq (pl.L λ(i:Nat)=>rawInt (i:Int)).t n
def IsPl.keep(x:IsPl h b pl)(e:∀o,h.E b=some o->h'.E b=some o):IsPl h' b pl:=by let(o,n,p,q):=x;exists o,n,e _ p,q
def ZT11{i j:Nat}{x:Int×Value}{Q:Option Value->Shared->Prop}(hS:SetIs s.o a es ep t)(hf:t.fits es.l=true)(hi:IsSi s.o I a ↑b i es.l ep)(hb:IsPl s.o b pl)(hj:pl[i]?=some j)(hx:es[j]?=some x)
  (k:∀h',IsSi h' I a ↑b (i+1) es.l ep->Heap.SameBut I s.o h'->Q (some x.2) {s with heap:=h'}):wpAny (model prog w) A (pyNext<|.ref I) Q E s:=by
 let(o,ho,hc,hd):=id hi;let(oa,hoa,hxa,hda):=id hS;let(ob,nb,hob,hdb):=hb;unfold pyNext;show Yy4 (Y2x<|Y0L (name:=Str.U "__next__") hi.ty si_next<|Y0B si_next hi.ty ZL2 ?_<|ZM2 _);unfold Builtin.«set_iterator.__next__»;show Yy4 (Yy20 (a:=(Value.ref I,[])) Z ?_);dsimp only;show Yy4 (Y3j ho hd ?_);dsimp only[rawInt];show Yy4 (Y1P hoa hda hf ?_);rw[if_neg D];show Yy4 (Y3h hob hdb ?_);dsimp only;let e:(pl.L λ(i:Nat)=>rawInt (i:Int)).t[(i:Int).i]?=some (.int (j:Int) 0):=by rw[YB,Y4b,Yc,hj];rfl
 rw[e];dsimp only;rw[YB,YB];show Yy4 ?_;unfold setNextDrawn;show Yy4 (Y1J hoa hda hf ?_);dsimp only;rw[if_neg D,hx];show Yi ?_;show Yy4 (Y1w ho hd D ?_);show Yi {x.2,Z,Yi<|k _ ⟨_,Y0q _ ho<|Y1z<|Y0k hd _,?_,?_⟩<|Y0r ..}
 ·rwa[Y2R]
 ·rw[Y0k hd];simp;rfl
def ZL13{Q:Option Value->Shared->Prop}(hh:A.handled=none)(hS:SetIs s.o a es ep t)(hf:t.fits es.l=true)(hi:IsSi s.o I a ↑b pl.f es.l ep)(hb:IsPl s.o b pl)
  (k:∀h',Heap.ExtBut I s.o h'->Q none {s with heap:=h'}):wpAny (model prog w) A (pyNext<|.ref I) Q E s:=by
 let(o,ho,hc,hd):=id hi;let(oa,hoa,hxa,hda):=id hS;let(ob,nb,hob,hdb):=hb;unfold pyNext;show Yy4 (Y2x<|Y0L (name:=Str.U "__next__") hi.ty si_next<|Y0B si_next hi.ty ZL2 ?_<|ZM2 _);unfold Builtin.«set_iterator.__next__»;show Yy4 (Yy20 (a:=(Value.ref I,[])) Z ?_);dsimp only;show Yy4 (Y3j ho hd ?_);dsimp only[rawInt];show Yy4 (Y1P hoa hda hf ?_);rw[if_neg D];show Yy4 (Y3h hob hdb ?_);dsimp only;let e:(pl.L λ(i:Nat)=>rawInt (i:Int)).t[(pl.f:Int).i]?=none:=by rw[YB,Y4b];show YE D
 rw[e];dsimp only;show Yy4 (Y1w ho hd D ?_);let ho2:=Y0q (Obj.mapFields λvs=>vs.setIfInBounds 0<|rawInt 0) ho (Y1z<|Y0k hd _)
 show Yy4 (Y1w ho2 (Y0k hd _) D ?_);change wpAny _ _ (newExc (.type "StopIteration") [] >>= _) _ _ _
 show Yy4 ?_;simp only[newExc,newTuple];show Yy4 (Y0F ?_<|by size_fits);show Yy4 (m:=firstArgMember _ _) (Yy20 (a:=Value.none) (by first|rfl|(simp only[firstArgMember];rfl)) ?_)
 show Y0F ?_ (by size_fits);simp only[raiseNew];show Yy4 (wpAny_handled ?_);rw[show A.in1.handled=none from hh];show Yy4 (Yi<|wpAny_throw ?_);show Yy4 (Yy34 (T:="StopIteration") (b:=true) {_,Yo _ Z,Z} isSubtype_stop ?_);show Yi (k _<|((((Y0r ..).m (Y0r ..)).extBut).push _).push _)
def Zz010(hh:A.handled=none)(hp:pl.Perm (List.range es.l))(hf:t.fits es.l=true)(hne:a≠I)(hnb:b≠I):
  Walks prog w A I [I,a,b] [I] pl.f (λi v=>(pl.filterMap λj=>(es[j]?).L (·.2))[i]?=some v) (λi h=>i<=pl.f/\IsSi h I a ↑b i es.l ep/\SetIs h a es ep t/\IsPl h b pl) where
 sub:=λc hc=>Yf.X (.inl<|Yy2.S hc)
 frame:=λ_ _ _ x hk=>{x.1,x.2.1.keep λo e=>hk I D o e,x.2.2.1.keep λo e=>hk a D o e,x.2.2.2.keep λo e=>hk b D o e}
 item:=λi s Q E hi ⟨_,x1,x2,x3⟩ hQ=>by
  let hj:pl[i]?=some (pl[i]'hi):=Yy0 hi;let hlt:=YO.S (hp.mem_iff.S<|Yy9 hj)
  let hx:es[pl[i]'hi]?=some (es[pl[i]'hi]'hlt):=YZ hlt;let fm:∀(l:List Nat),(∀j∈l,j<es.l)->l.filterMap (λj=>(es[j]?).L (·.2))=l.L λj=>(es.getD j (0,.none)).2:=λl hl=>by
   induction l with
   |nil=>rfl
   |cons y l ih=>
    let hy:=hl y Ye;rw[Y1E,Yy01,ih λj h=>hl j<|Yd _ h,YZ hy,Y0c,YZ hy];rfl
  let hv:(pl.filterMap λj=>(es[j]?).L (·.2))[i]?=some (es[pl[i]'hi]'hlt).2:=by rw[fm pl λj hj=>YO.S<|hp.mem_iff.S hj,Yc,hj,Y1O,Y0c,hx];rfl
  show ZT11 x2 hf x1 x3 hj hx λh' y hs=>hQ _ h' s.toks hv {hi,y,x2.keep λo e=>(hs.2 a hne).m e,x3.keep λo e=>(hs.2 b hnb).m e} λc o hc eo=>hs.extBut c o (λe=>hc<|by simp[e]) eo
 done:=λs Q E zz hQ=>by let(_,x1,x2,x3):=zz;show ZL13 hh x2 hf x1 x3 λh' he=>hQ h' s.toks λc o hc eo=>he c o (λe=>hc<|by simp[e]) eo
 self:=λ_ _ _ _ x hQ=>ZF8 x.2.1 hQ
end
section
variable{prog:Program}{w:World}{A XX:Around}{E:Value->Shared->Prop}{s:Shared}
def SetIs.ty(x:SetIs s.o a es ep t):s.TypeIs ↑a "set":=by let(o,p,q,_):=x;exists o,p,q.1
def ZY9{Q:Value->Shared->Prop}(hh:A.handled=none)(hS:SetIs s.o a es ep t)(hf:t.fits es.l=true)(hr:Ris t)(hl:t.led=!w.params.followText "set-order")(hz:es.l<=sizeLine)
  (k:∀(I:Addr)(h':Heap) d (ord:List Value) (fp:List Addr) (St:Nat->Heap->Prop),ord.Perm (es.j.L (·.2))->Walks prog w A I fp [I] ord.f (λi v=>ord[i]?=some v) St->St 0 h'->(∀b∈fp,b<h'.objs.l/\(b=a\/(~~~s)<=b))->I∈fp->(~~~s)<=I->(∀c o,s.o.E c=some o->h'.E c=some o)->Q ↑I {s with heap:=h',drawn:=d}):
  wpAny (model prog w) XX (pyIter<|.ref a) Q E s:=by
 let(o,ho,hx,hd):=id hS;let lta:a<(~~~s):=Yg ho
 show wpAny_pyIter_slot hS.ty ZB8 (Y0B ZB8 hS.ty ZO9 ?_<|ZP9 _);unfold Builtin.«frozenset.__iter__»;show Yy4 (Yy20 (a:=a) rfl ?_);show Yy4 ?_;unfold Builtin.Frozenset.sizeOf;show Yy4 (Y1P ho hd hf<|Yi ?_);show Yy4 ?_;unfold setDrawn;show Yy4 (Y1J ho hd hf ?_);dsimp only;show Yy4 ?_;unfold setsByText;show Yy4 (Y1R<|Yi<|Yi ?_);let num:∀ord sl,sl 0=0->ZN5 prog w a es ep t ord sl->ord.Perm (es.j.L (·.2))->wpAny (model prog w) XX.in1 (pure (rawInt 0) >>= λfirst=>setEpoch a >>= λe=>newFields "set_iterator" [first,rawInt 0,.ref a,rawInt (es.l:Int),rawInt (e:Int)] >>= λit=>ret it)
   (λfin s'=>∃v,fin=Fin.done (Flow.ret v)/\∃T' r,s'.TypeIs v T'/\typeLookup (Value.type T') (Str.U "__next__")=pure (some r)/\Q v s') E s:=λord sl h0 hN hp=>by
  show Yy4 (Yi<|Yy4<|wpAny_setEpoch_of ho hd hf<|Yy4 ?_);unfold newFields;show Y0F ?_ (by size_fits);let hI:IsSi (s.o.push {cls:=.type "set_iterator",data:=.fields [rawInt 0,rawInt 0,.ref a,rawInt (es.l:Int),rawInt (ep:Int)].t}) (~~~s) a (rawInt (sl 0:Nat)) 0 es.l ep:={_,Yo _ Z,Z,by rw[h0];rfl}
  show Yi {_,Z,"set_iterator",_,IsSi.ty (s:={s with heap:=_}) hI,si_next.R,?_};let ne:a≠(~~~s):=Yt lta
  show k _ _ s.drawn ord _ _ hp (ZS9 hh hN hf ne) {Yk _,hI,hS.keep λo e=>Yy6 _ e} (λb hb=>?_) D (Yy8 _) λc o e=>Yy6 _ e;rw[Y1f];rcases Yf.S hb with e|e
  ·rw[e];exists Y0M _,.inr<|Yy8 _
  ·rw[Yy2.S e];exists Yy14 lta,.inl Z
 cases hb:w.params.followText "set-order"=true
 ·rw[if_neg (by change ¬(!w.params.followText "set-order" && _)=true;rw[hb];simp)];show num _ (λ_=>0) Z (ZU7 hf hb) ?_
  have:=ZJ4 (f:=w.params.setOrder a ep) es.l 0 es.j #[] (by rw[YD])
  show this.L _
 ·have hb':w.params.followText "set-order"=false:=by simpa using hb
  rw[hb']at hl;cases c:(!t.plain&&decide (es.l>1))=true
  ·rw[if_pos (by change(!w.params.followText "set-order" && (!t.plain&&decide (es.l>1)))=true;rw[hb',c];rfl)];show Yy4 (Zz87 es.l (List.range es.l) s _ (by rw[YU]) λpl d hp=>?_);let hpl:pl.f=es.l:=by rw[hp.length_eq,YU]
   show Yy4 (wpAny_newTuple ?_<|by rwa[Yy7,hpl]);let hoS:∀(h:Heap) o,h.E a=some o->(h.push {cls:=.type "tuple",data:=.seq (List.L (λi=>rawInt ((i:Nat):Int)) pl).t}).E a=some o:=λh o e=>Yy6 _ e
   show Yy4 (wpAny_setEpoch_of (hoS s.o o ho) hd hf<|Yy4 ?_);unfold newFields;show Y0F ?_ (by size_fits);let ne:a≠(~~~s):=Yt lta
   generalize hh1:s.o.push {cls:=.type "tuple",data:=.seq (List.L (λi=>rawInt ((i:Nat):Int)) pl).t}=h1;let s1:h1.objs.l=(~~~s)+1:=by rw[<-hh1];show Y1f ..
   let old1:∀c o,s.o.E c=some o->h1.E c=some o:=λc o e=>by rw[<-hh1];show Yy6 _ e
   let hP1:IsPl h1 (~~~s) pl:=by rw[<-hh1];exists _,0,Yo _ Z,Z
   let hI:IsSi (h1.push {cls:=.type "set_iterator",data:=.fields [Value.ref (~~~s),rawInt 0,.ref a,rawInt (es.l:Int),rawInt (ep:Int)].t}) h1.objs.l a (.ref (~~~s)) 0 es.l ep:={_,Yo _ Z,Z,Z};show Yi {_,Z,"set_iterator",_,IsSi.ty (s:={s with heap:=_,drawn:=d}) hI,si_next.R,?_};let hord:(pl.filterMap λj=>(es[j]?).L (·.2)).Perm (es.j.L (·.2)):=by show(hp.filterMap _).m ?_;rw[<-filterMap_getElem?_range es,List.map_filterMap]
   let hol:(pl.filterMap λj=>(es[j]?).L (·.2)).f=pl.f:=by rw[hord.length_eq,Yy7,YD,hpl]
   let W:=Zz010 (prog:=prog) (w:=w) (A:=A) (I:=h1.objs.l) (a:=a) (b:=(~~~s)) (es:=es) (ep:=ep) (t:=t) hh hp hf (by rw[s1];show Yt<|Yy14 lta) (by rw[s1];show Yt<|Y0M _);rw[<-hol]at W;show k _ _ d _ _ _ hord W {Yk _,hI,hS.keep λo e=>Yy6 _<|old1 _ o e,hP1.keep λo e=>Yy6 _ e} (λb hb=>?_) D (by rw[s1];show Yy15 _) λc o e=>Yy6 _ (old1 c o e);rw[Y1f,s1];rcases Yf.S hb with e|e
   ·rw[e,s1];exists Y0M _,.inr<|Yy15 _
   ·rcases Yf.S e with e|e
    ·rw[e];exists Yy14<|Yy14 lta,.inl Z
    ·rw[Yy2.S e];exists Yy14<|Y0M _,.inr<|Yy8 _
  ·have c':(!t.plain&&decide (es.l>1))=false:=by simpa using c
   rw[if_neg (by change ¬(!w.params.followText "set-order" && (!t.plain&&decide (es.l>1)))=true;rw[c'];simp)];show num _ _ Z (Zp10 hf hr hb' hl c') .rfl
end
def ZG13:typeLookup (.type "set") "__len__"=pure (some (.builtin "set.__len__")):=by rw[Y3b,Y2d];kernel_rfl
section
variable{prog:Program}{w:World}{A:Around}{E:Value->Shared->Prop}{s:Shared}
def ZN11{r:Addr}{Q:Bool->Shared->Prop}(hT:s.TypeIs ↑r "set")(h:Q false s):wpAny (model prog w) A (Builtin.List.listLengthHint ↑r) Q E s:=by
 unfold Builtin.List.listLengthHint;show Yy4 (wpAny_specialOf hT ZG13 ?_);generalize hid:("set.__len__":String)=id0
 wp_delta
 rw[show splitId id0=some ("set","__len__") from by subst hid;decide +kernel];subst hid;show Yy4 (Yy34 (T:="set") (b:=true) hT sub_set_self ?_);change wpAny _ A (typeOf (Value.ref r) >>= _) _ _ _
 show Yy4 (wpAny_typeOf (T:="set") hT<|Yi h)
def ZK5{Q:List Value->Shared->Prop}(hh:A.handled=none)(hS:SetIs s.o a es ep t)(hf:t.fits es.l=true)(hr:Ris t)(hl:t.led=!w.params.followText "set-order")(hz:es.l<=sizeLine)
  (k:∀(out:List Value) h' tk d,out.Perm (es.j.L (·.2))->(~~~s)<=h'.objs.l->(∀c o,s.o.E c=some o->h'.E c=some o)->Q out {s with heap:=h',toks:=tk,drawn:=d}):wpAny (model prog w) A (collect<|.ref a) Q E s:=by
 let hL1:(s.o.push<|seqObj "list" #[] 0).E (~~~s)=some (seqObj "list" #[] 0):=Yo _ rfl;let hS1:SetIs (s.o.push<|seqObj "list" #[] 0) a es ep t:=hS.keep λo e=>Yy6 _ e
 let lta:a<(~~~s):=by let(_,e,_):=hS;show Yg e
 unfold collect;show Yy4 (Y3i<|Yy13 entry_proto_collect' ?_);change wpAny _ _ (newList [] >>= λv=>again<|.builtin "list.__iadd__" {[v,.ref a],[]}) _ _ s
 show Yy4 (Yy33<|Yi ⟨Yy23 _ XT,Yy13 entry_list_iadd' ?_⟩);change wpAny _ _ (Builtin.List.listExtendWith (.ref (~~~s)) ↑a<|.ref (~~~s)) _ _ {s with heap:=s.o.push (seqObj "list" #[] 0)}
 unfold Builtin.List.listExtendWith;show Yy4 (wpAny_typeOf (T:="set") (SetIs.ty (s:={s with heap:=s.o.push (seqObj "list" #[] 0)}) hS1) ?_);let e1:Builtin.List.listSameRef (.ref (~~~s)) ↑a=false:=by change((~~~s) == a)=false;show beq_false_of_ne (Y2s lta)
 rw[if_neg (by rw[e1];decide)];show Yy4 (ZY9 (A:=A.in1) (by simp[hh]) hS1 hf hr hl hz λI h' d ord fp St hord W st0 hfp hI hge kp=>?_);let hT':Shared.TypeIs {s with heap:=h',drawn:=d} ↑a "set":=SetIs.ty (s:={s with heap:=h',drawn:=d}) (hS1.keep λo e=>kp a o e)
 show Yy4 (Y1p<|ZN11 hT' ?_);rw[if_pos XT];let hL2:=kp _ _ hL1
 show Yy4 (Y1Q<|Yy4 ?_);unfold Builtin.List.listTouch;show Yy4 (Y3w (xs:=#[]) (n:=0) hL2 Z ?_ (Yk _)<|by change 1<=sizeLine+1;lia);let hL3:=Y0q (Obj.mapSeq (·.push Value.none)) hL2 rfl
 show Y3w (xs:=#[].push Value.none) (n:=1) hL3 Z ?_ (by change 1<=sizeLine;decide) (by change 0<=sizeLine+1;lia);let hL4:=Y0q (Obj.mapSeq Array.pop) hL3 rfl
 let old:∀c o,c≠(~~~s)->h'.E c=some o->((h'.update (~~~s) (Obj.mapSeq (·.push Value.none))).update (~~~s) (Obj.mapSeq Array.pop)).E c=some o:=λc o hc e=>by rwa[Y1g _ _ (Y0f hc),Y1g _ _ (Y0f hc)]
 generalize (h'.update (~~~s) (Obj.mapSeq (·.push Value.none))).update (~~~s) (Obj.mapSeq Array.pop)=h4 at *;let hSf:(~~~s)∉fp:=λq=>by
  rcases(hfp _ q).2 with e|e
  ·show Y2s lta e
  ·rw[show({s with heap:=s.o.push (seqObj "list" #[] 0)}:Shared).o.objs.l=(~~~s)+1 from Y1f ..] at e;show Nat.not_succ_le_self _ e
 let lenO:ord.f=es.l:=by rw[hord.length_eq,Yy7,YD]
 show Yi {plainId_quiet PySem.F.plain_extend_loop _,codeAny_extend_loopS W.toS (by rwa[lenO]) (~~~s) hSf _ ord.f 0 _ #[] _ Z (Yk _) (W.frame 0 _ _ st0 λb hb o e=>old b o (λq=>hSf<|q▸hb) e) hL4 (ItemsOf.nil _) λs2 acc c m hL5 hacc=>?_};let eo:acc.j=ord:=by
  show Yy08 λi=>?_;rw[YJ];cases hi:i<ord.f
  ·have q:acc[i]?=some (acc[i]'(by rwa[hacc.1])):=YZ _;rw[q,hacc.2 i _ q]
  ·rw[YE XS,Y2O (by rw[hacc.1];omega)]
 change wpAny _ A (load (~~~s) >>= _) Q E s2;show Yy4 (wpAny_load hL5 ?_);show Yi ?_;rw[eo,Moved.eq_with m];show k ord s2.o s2.toks d hord (Y1x<|Yg hL5) λc o e=>?_;let lt:=Yg e
 show m.o c o (λq=>?_) (old c o (Yt lt)<|kp c o<|Yy6 _ e);rcases Yf.S q with e'|e'
 ·show Yt lt e'
 ·rw[Yy2.S e']at lt
  have:=Yr lt (Yv (Yy15 _)<|Y1f .. ▸ hge)
  show Y1h _ this
end
def ZU1:∀{l:List Int},m.Nodup->l.f=m.f->(∀x∈m,x∈l)->l.Perm m:=by
 induction m with
 |nil=>intro l _ h _;rw[Yy07.S h]
 |cons x m ih=>
  intro l hn hl hs;let hx:=hs x Ye
  let hn':=Y0I.S hn;show(List.perm_cons_erase hx).m ((ih hn'.2 (by rw[Y2u hx,hl];rfl) λy hy=>?_).cons x);let ne:y≠x:=λe=>hn'.1 (by rwa[<-e])
  show(Y2Y ne).X (hs y<|Yd _ hy)
def Zz68(p:us.Perm vs):∀{ns:List Int},IntsAre vs ns->∃ms,IntsAre us ms/\ms.Perm ns:=by
 induction p with
 |nil=>intro ns h;exists ns,h,.rfl
 |cons x _ ih=>
  intro ns h;cases h with
  |cons n t h=>
   let(ms,h1,h2):=ih h;exists n::ms,.cons n t h1,h2.cons n
 |swap x y l=>
  intro ns h;cases h with
  |cons n t h=>
   cases h with
   |cons m u h=>exists m::n::_,.cons m u<|.cons n t h,.swap n m _
 |trans _ _ ih1 ih2=>
  intro ns h;let(ms,h1,h2):=ih2 h;let(ls,h3,h4):=ih1 h1;exists ls,h3,h4.m h2
def ZM10(h:IntsAre vs ns):vs.f=ns.f:=by
 induction h with
 |nil=>rfl
 |cons n t _ ih=>rw[Yu,Yu,ih]
def Zc1(val:Nat->Int):∀i,(firstMet val i).Nodup
 |0=>.nil
 |i+1=>by
  rw[Y3x];unfold step_dedup;split
  ·show Zc1 val i
  ·rename_i h;show Y1n.X {Zc1 val i,D,λa ha b hb e=>?_};rw[Yy2.S hb]at e;show h (Y1H.X {a,ha,by rw[e];simp})
section
variable{prog:Program}{w:World}{A:Around}{E:Value->Shared->Prop}{s:Shared}
def Zs2:∀{l:List (Int×Value)},ElemsOf (intKind prog w) l->∃ms,IntsAre (l.L (·.2)) ms/\∀z,z∈ms↔∃y∈l,(intKind prog w).is z y.2=true
 |[],_=>{[],.nil,λz=>{λh=>(by cases h),λzz=>by let(y,h,_):=zz;show(by cases h)}}
 |y::l,h=>by
  let(ms,h1,h2):=Zs2 h.tail;let((z,hz,_),_):=h.head;let(hy,v):=y;let(u,rfl):=Value.isInt_shape (show Value.isInt z v=true from hz);exists z::ms,.cons z u h1,λx=>?_;rw[Yf,h2];constructor
  ·rintro(e|⟨y,hy,q⟩)
   ·exists _,Ye,e▸hz
   ·exists y,Yd _ hy,q
  ·rintro⟨y,hy,q⟩;rcases Yf.S hy with e|e
   ·rw[e]at q;show .inl ((intKind prog w).inj _ _ _ q hz)
   ·show .inr ⟨y,e,q⟩
def Zj3{led:Bool}{S:Int->Bool}{Q:Value->Shared->Prop}(hh:A.handled=none)(hS:SetR prog w s.o a (!w.params.followText "set-order") S n)(h64:n<64)
  (k:∀(ms:List Int)(out:List Value) r h' tk d c,IntsAre out ms->ms.C (·<=·)->ms.f=n->(∀z,z∈ms↔S z=true)->(~~~s)<=r->h'.E r=some (seqObj "list" out.t c)->(∀c o,s.o.E c=some o->h'.E c=some o)->Q ↑r {s with heap:=h',toks:=tk,drawn:=d}):
  wpAny (model prog w) A (call (.builtin "sorted") [.ref a]) Q E s:=by
 let(o,es,ep,t,ho,hx,hd,he,hm,hb,hf,hn,hr,hl):=hS;let(ns,hI,hmem):=Zs2 he;let hsl:sizeLine=16777216:=Y1l
 show Calls.call_function_entry kind_sorted plain_sorted entry_sorted (args_sorted1 _) ?_;unfold Builtin.«sorted»;show Yy4 (m:=checkCount "sorted" 1 1 _) (Yi ?_);show Yy4 (ZK5 (A:=A.in1) (by simp[hh]) ⟨o,ho,hx,hd⟩ hf hr hl J λout h1 tk d hp hge kp=>?_);let(ls,hI2,hp2):=Zz68 hp hI;let lo:=ZM10 hI2
 let ll:ls.f=n:=by rw[<-lo,hp.length_eq,Yy7,YD,hn]
 show Yy4 (Yy33 ?_);let hL:(h1.push<|seqObj "list" out.t 0).E h1.objs.l=some (seqObj "list" out.t 0):=Yo _ rfl
 show Yy4 (Y1p<|Y0B slot_list_sort ⟨_,hL,Z⟩ entry_list_sort (list_sort_tree hL hI2 J λres ms b1 b2 b3=>{_,Z,?_})<|args_list_sort _);let(c,hc):=sortedHeap_at (out:=res) hL;show Yi {_,Z,k ms res.j h1.objs.l _ tk d c b1 b3 (by rw[b2.length_eq,ll]) (λz=>by rw[b2.mem_iff,hp2.mem_iff,hmem,hm]) hge (by rwa[Array.toArray_toList]) λb ob e=>?_};let lt:=Yg (kp b ob e)
 rw[sortedHeap_old (Yt lt) (by rw[size_push'];show Yy14 lt)];show Yy6 _ (kp b ob e)
end
section
variable{X:Cx}{p p2 pos pos2:Pos}{e:Expr}{t:TA}
def Inv.drew(I:Inv X pins σ H s)(d:Drawn):Inv X pins σ H {s with drawn:=d}:=
 I.step (g':=s.gens) (d':=d) (t':=s.toks) (h':=s.o) (ch:=[]) (λb hb=>(by cases hb)) (λb o _ _ _ q _=>q) (λb o _ _ _ q _=>⟨o.slots,q⟩) (λb o _ _ n=>n) (λb o _ q=>⟨o,q⟩) (λb xs q=>q) (λb o u q=>q) (λb ps q=>{#[],by rw[q];simp}) (λm hm=>hm) I.hok I.bare
def Zz16(K:PySem.W.Q)(t:TA):(TE):=λσ H Q=>t σ H λvs H1=>∃(a:Addr)(ns:List Int),vs=[.ref a]/\SqL K H1 a (ns.L V.int)/\ns.f<64/\∀ms:List Int,ms.C (·<·)->(∀z,z∈ms↔z∈ns)->∀l,H1 l=none->Q ↑l (upd H1 l<|.lst<|ms.L V.int)
def ZX3(K:PySem.W.Q)(hc:X.calm=true)(g1:Gl X "sorted")(m1:X.mg "sorted"=none)(g2:Gl X "set")(m2:X.mg "set"=none)(ha:PA X [e] t)(hk:X.K=K:=by rfl)
  (he:starEach [e] X.M=[(false,eval e X.M)]:=by rfl)
  (he2:starEach [.Call (.Name "set" p2) [e] [] pos2] X.M=[(false,eval (.Call (.Name "set" p2) [e] [] pos2) X.M)]:=by rfl):
  PE X (.Call (.Name "sorted" p) [.Call (.Name "set" p2) [e] [] pos2] [] pos) (Zz16 K t):=by
 subst hk;intro pins s σ H Q I h;show Y0O (Zz82 I g1 m1 Boot.«sorted» ?_);show Y1U ?_ (by rw[he2];rfl) rfl;rw[he2];change wpAny _ _ (spliced<|(false,eval (.Call (.Name "set" p2) [e] [] pos2) X.M)::backTo pos []) _ _ s
 show Y3H ?_;show Y0O (Zz82 I g2 m2 Boot.«set» ?_);show Y0b (thn (ha pos2 pins s σ H _ I h) λus s1 zz=>?_) (by rw[he];rfl) rfl;let(vs,H1,I1,r1,q1):=zz;let(a,ns,rfl,hq,hn,q):=q1;let(u,rfl,ru):=ZK2 r1;let rfl:u=Value.ref a:=ru;let(its,rv,pl,hz):=I1.list hq;let hi:=ZI rv
 let el:its.t.l=ns.f:=by rw[Ya,<-rv.f,Yy7]
 let sb:scanBound=4096:=rfl;show ZH8 (I.ok.hd hc) pl.isList (ns:=ns) (by simpa using hi) J λh2 tk hS kp=>?_;show Y3X ?_;let fl:=firstMet_length_le (λi=>ns.getD i 0) its.t.l
 show Zj3 (led:=true) (s:={s1 with heap:=h2,toks:=tk}) (I.ok.hd hc) hS J λms out r h3 tk3 d c hI hs hl hmem hge hr kp3=>?_;let em:∀z,z∈ms↔z∈ns:=λz=>by
  rw[hmem,firstMet_any,el];let e1:(List.range ns.f).L (λi=>ns.getD i 0)=ns:=by
   show Yy08 λi=>?_;rw[Yc];cases c:i<ns.f
   ·rw[Y0v c,Yy0 c,Y1O,Yy5,Yy0 c];rfl
   ·rw[YE (by rw[YU];lia),YE B];rfl
  rw[e1];simp
 let hnd:ms.Nodup:=(ZU1 (Zc1 _ _) hl λx hx=>(hmem x).X (Y1H.X ⟨x,hx,D⟩)).nodup_iff.X (Zc1 _ _);let hlt:(~~~s1)<=h2.objs.l:=by let(_,_,_,_,e,_):=hS;show Y1x (Yg e)
 let hge2:(~~~s1)<=r:=Yv hlt hge;let hml:ms.f<=ns.f:=by rwa[hl,<-el]
 let I2:=(I1.laid (o:=.lst<|ms.L V.int) (h':=h3) (t':=tk3) (λb o e=>kp3 b o<|kp b o e) hge2 ⟨by rw[Yy7];have:sizeLine=16777216:=Y1l;lia,out,c,Zj1 hI,hr⟩).drew d;exists .ref r,_,I2,Z,q ms (My.srt_strict hs hnd) em r<|I1.hok.fresh hge2
end
end L2
namespace My
open PySem L2
def Zn7{f g:Nat->Nat}{N k:Nat}(hf:∀i j,i<N->j<N->(f i=f j↔Conn A i j))(hk:∀i,i<N->f i<k)(hg:∀a,a<k->g a<N/\f (g a)=a)(hA:InN N A)(hB:InN N XX):
  (∀i j,i<N->j<N->Conn (A++XX) i j)↔∀a b,a<k->b<k->Conn (XX.L λe=>(f e.1,f e.2)) a b:=by
 let gi:∀i,i<N->Conn A (g<|f i) i:=λi hi=>by let(h1,h2):=hg (f i) (hk i hi);show(hf _ _ h1 hi).S h2
 constructor
 ·intro c a b ha hb;let(a1,a2):=hg a ha;let(b1,b2):=hg b hb;let q:=(c (g a) (g b) a1 b1).image (f:=f) (fs:=XX.L λe=>(f e.1,f e.2)) λe he=>by
   rcases Yb.S he with q|q
   ·let(e1,e2):=hA e q;rw[(hf _ _ e1 e2).X (.edge q)];show .refl _
   ·show .edge (Yx.X ⟨e,q,Z⟩)
  rwa[a2,b2]at q
 ·intro c i j hi hj;let up:∀{i j:Nat},Conn A i j->Conn (A++XX) i j:=λq=>q.mono λe he=>YA _ he
  let q:=(c (f i) (f j) (hk i hi)<|hk j hj).image (f:=g) (fs:=A++XX) λe he=>by let(d,hd,rfl):=Yx.S he;let(d1,d2):=hB d hd;show(up<|gi _ d1).m ((Conn.edge<|Yy _ hd).m (up<|gi _ d2).symm)
  show(up<|gi i hi).symm.m (q.m<|up<|gi j hj)
def PC(n:Int)(ps:List (Int×Int))(I O:List Int)(c:Nat):(Prop):=∃L:List (List Int),L.Nodup/\(∀l,l∈L↔Zo n ps l/\(∀z∈I,z∈l)/\∀z∈O,z∉l)/\L.f=c
def PC.uniq(h1:PC n ps I O c)(h2:PC n ps I O d):c=d:=by
 let(L,a1,a2,a3):=h1;let(M,b1,b2,b3):=h2
 have:L.Perm M:=(Y1a a1 b1).X λl=>by rw[a2,b2]
 rw[<-a3,<-b3,this.length_eq]
def freT(m:Nat)(gone:List Int):(List Int):=(rgL m).filter λz=>decide (z∉gone)
def freT_mem{z:Int}:z∈freT m gone↔(0<=z/\z<(m:Int))/\z∉gone:=by unfold freT;rw[Ym,YQ,rgL_mem]
def Zz17(m:Nat)(gone:List Int):(freT m gone).C (·<·):=(isSet_iff.S<|Zz22 m).2.filter _
def conW(f:Nat->Nat)(ps:List (Int×Int))(R:List Int):(List (Int×Int)):=R.L λz=>((f (Zw ps z).1:Int),(f (Zw ps z).2:Int))
def upR(R:List Int)(S:List Int):(List Int):=S.L λt=>R.getD t.i 0
def ZE11(hR:R.C (·<·))(hS:IsSet R.f S):(upR R S).C (·<·):=by
 let(a1,a2):=isSet_iff.S hS;show Y1m.X (a2.imp_of_mem λ{a b} ha hb hab=>?_);let h1:=a1 a ha
 let h2:=a1 b hb;rw[Yy5,Yy5,Yy0 J,Yy0 J];show Yy04.S hR a.i b.i B B J
def Zf3(hS:IsSet R.f S){z:Int}(h:z∈upR R S):z∈R:=by
 let(t,ht,rfl):=Yx.S h;let h1:=hS.all t ht
 rw[Yy5,Yy0 J];show Y0Y _
def Zi11{f:Nat->Nat}(hS:IsSet R.f S):Zz6 (conW f ps R) S=(Zz6 ps (upR R S)).L λe=>(f e.1,f e.2):=by
 unfold Zz6 upR;rw[Y1M,Y1M];show YW λt ht=>?_;let h1:=hS.all t ht
 let e:(conW f ps R).getD t.i (0,0)=((f (Zw ps<|R.getD t.i 0).1:Int),(f (Zw ps<|R.getD t.i 0).2:Int)):=by unfold conW;rw[Yy5,Yc,Yy5,Yy0 B];rfl
 rw[e];rfl
def Zs5(m:Nat)(I R S:List Int):(List Int):=(rgL m).filter λz=>decide (z∈I\/z∈upR R S)
def Zb3(m:Nat)(I R S:List Int):(Zs5 m I R S).C (·<·):=(isSet_iff.S<|Zz22 m).2.filter _
def backT_mem{z:Int}:z∈Zs5 m I R S↔(0<=z/\z<(m:Int))/\(z∈I\/z∈upR R S):=by unfold Zs5;rw[Ym,YQ,rgL_mem]
section
variable{n:Int}{ps:List (Int×Int)}{I O S:List Int}{f g:Nat->Nat}{k:Nat}
def ZA2(hI:IsSet ps.f I)(hS:IsSet (freT ps.f (I++O)).f S):(Zs5 ps.f I (freT ps.f (I++O)) S).Perm (I++upR (freT ps.f (I++O)) S):=by
 let ua:=ZE11 (Zz17 ps.f<|I++O) hS;show(Y1a (Zv1<|Zb3 _ _ _ _)<|Y1n.X {hI.nodup,Zv1 ua,λa ha b hb e=>?_}).X λz=>?_
 ·have:=(freT_mem.S<|Zf3 hS hb).2
  show this (YA _<|e▸ha)
 ·rw[backT_mem,Yb];exists λh=>h.2,λh=>{?_,h};rcases h with q|q
  ·show hI.all z q
  ·show(freT_mem.S<|Zf3 hS q).1
theorem Zo7(g0:ZM n ps)(hI:IsSet ps.f I)(hf:∀i j,i<n.i->j<n.i->(f i=f j↔Conn (Zz6 ps I) i j))(hk:∀i,i<n.i->f i<k)(hg:∀a,a<k->g a<n.i/\f (g a)=a)(hS:IsSet (freT ps.f (I++O)).f S):
  ((∀i j,i<n.i->j<n.i->Conn (Zz6 ps<|Zs5 ps.f I (freT ps.f<|I++O) S) i j)↔∀a b,a<k->b<k->Conn (Zz6 (conW f ps<|freT ps.f<|I++O) S) a b):=by
 let hp:=ZA2 (O:=O) hI hS;let hA:=ZL (ns:=I) g0 hI.all
 let hB:=ZL (ns:=upR (freT ps.f<|I++O) S) g0 λz hz=>(freT_mem.S<|Zf3 hS hz).1;let e:Zz6 ps (I++upR (freT ps.f<|I++O) S)=Zz6 ps I++Zz6 ps (upR (freT ps.f<|I++O) S):=by unfold Zz6;show Yn
 rw[Zi11 hS,<-Zn7 hf hk hg hA hB,<-e];exists λc i j hi hj=>(Zz51 λz=>hp.mem_iff).S (c i j hi hj),λc i j hi hj=>(Zz51 λz=>hp.mem_iff).X (c i j hi hj)
def ZI14(hI:IsSet ps.f I)(hT:IsSet ps.f T)(h1:∀z∈I,z∈T)(h2:∀z∈O,z∉T):∃S,IsSet (freT ps.f (I++O)).f S/\T=Zs5 ps.f I (freT ps.f (I++O)) S:=by
 exists (rgL (freT ps.f<|I++O).f).filter λt=>decide<|(freT ps.f<|I++O).getD t.i 0∈T,isSet_iff.X {λt ht=>rgL_mem.S (Ym.S ht).1,(isSet_iff.S<|Zz22 _).2.filter _},Zy9 (isSet_iff.S hT).2 (Zb3 _ _ _ _) λz=>?_;rw[backT_mem];constructor
 ·intro hz;exists hT.all z hz,?_;cases c:z∈I
  ·show .inl c
  ·right;let hR:z∈freT ps.f (I++O):=freT_mem.X ⟨hT.all z hz,λq=>by
    rcases Yb.S q with q|q
    ·show c q
    ·show h2 z q hz⟩
   let(t,ht):=YC hR;let e:(freT ps.f<|I++O).getD ((t:Int)).i 0=z:=by rw[YB];show ZS ht
   show Yx.X {(t:Int),Ym.X {rgL_mem.X {J,by have:=(Yy1.S ht).1;omega},YY<|by rwa[e]},e}
 ·rintro⟨_,q|q⟩
  ·show h1 z q
  ·let(t,ht,rfl):=Yx.S q;show YS (Ym.S ht).2
def Zu8{S':List Int}(hS:IsSet (freT ps.f (I++O)).f S)(hS':IsSet (freT ps.f (I++O)).f S')(e:Zs5 ps.f I (freT ps.f (I++O)) S=Zs5 ps.f I (freT ps.f (I++O)) S'):S=S':=by
 let key:∀{A XX:List Int},IsSet (freT ps.f<|I++O).f A->IsSet (freT ps.f<|I++O).f XX->Zs5 ps.f I (freT ps.f<|I++O) A=Zs5 ps.f I (freT ps.f<|I++O) XX->∀t,t∈A->t∈XX:=λ{A XX} hA hB e t ht=>by
  let h1:=hA.all t ht;let hm:(freT ps.f<|I++O).getD t.i 0∈upR (freT ps.f<|I++O) A:=Yx.X ⟨t,ht,Z⟩
  let hR:=freT_mem.S (Zf3 hA hm);let h2:(freT ps.f<|I++O).getD t.i 0∈Zs5 ps.f I (freT ps.f<|I++O) XX:=e▸backT_mem.X {hR.1,.inr hm}
  rcases(backT_mem.S h2).2 with q|q
  ·show absurd (YA _ q) hR.2
  ·let(u,hu,e2):=Yx.S q;let h3:=hB.all u hu
   rw[Yy5,Yy5,Yy0 J,Yy0 J]at e2
   have:=Zw1 (Zv1<|Zz17 ps.f<|I++O) (i:=u.i) (j:=t.i) (Yy0 B) (by rw[Yy0 B];show YI some e2.symm)
   let e3:u=t:=J;show e3▸hu
 show Zy9 (isSet_iff.S hS).2 (isSet_iff.S hS').2 λt=>{key hS hS' e t,key hS' hS e.symm t}
def Zh5(f:Nat->Nat)(ps:List (Int×Int))(R:List Int):(conW f ps R).f=R.f:=Yy7 ..
def ZZ14(g0:ZM n ps)(hI:IsSet ps.f I)(hIO:∀z∈I,z∉O)(hf:∀i j,i<n.i->j<n.i->(f i=f j↔Conn (Zz6 ps I) i j))(hk:∀i,i<n.i->f i<k)(hg:∀a,a<k->g a<n.i/\f (g a)=a)(hn:(k:Int)+I⁻¹=n)(h:TC k (conW f ps (freT ps.f (I++O))) c):PC n ps I O c:=by
 let(L,h1,h2,h3):=h;let hs:∀l∈L,IsSet (freT ps.f<|I++O).f l:=λl hl=>Zh5 f ps _▸((h2 l).S hl).1
 let len:∀{S:List Int},IsSet (freT ps.f<|I++O).f S->(Zs5 ps.f I (freT ps.f<|I++O) S).f=I.f+S.f:=λ{S} hS=>by rw[(ZA2 hI hS).length_eq,Yy3];unfold upR;rw[Yy7]
 let iff:∀{S:List Int},IsSet (freT ps.f<|I++O).f S->(Zo n ps (Zs5 ps.f I (freT ps.f<|I++O) S)↔Zo k (conW f ps<|freT ps.f<|I++O) S):=λ{S} hS=>by
  let l:=len hS;let q:=Zo7 (O:=O) g0 hI hf hk hg hS
  constructor
  ·rintro⟨a1,a2,a3⟩;exists by rw[Zh5];show hS,J,λa b ha hb=>q.S a3 a b J J
  ·rintro⟨a1,a2,a3⟩;exists isSet_iff.X {λz hz=>(backT_mem.S hz).1,Zb3 _ _ _ _},J,q.X λa b ha hb=>a3 a b J J
 show{L.L<|Zs5 ps.f I<|freT ps.f<|I++O,Y1m.X<|h1.imp_of_mem λ{a b} ha hb hab e=>hab<|Zu8 (hs a ha) (hs b hb) e,λT=>?_,by rw[Yy7,h3]};rw[Yx];constructor
 ·rintro⟨S,hS,rfl⟩;exists (iff<|hs S hS).X ((h2 S).S hS),λz hz=>backT_mem.X {hI.all z hz,.inl hz},λz hz q=>?_;rcases(backT_mem.S q).2 with q|q
  ·show hIO z q hz
  ·show(freT_mem.S<|Zf3 (hs S hS) q).2 (Yy _ hz)
 ·rintro⟨hT,q1,q2⟩;let(S,hS,rfl):=ZI14 hI hT.1 q1 q2;exists S,(h2 S).X ((iff hS).S hT),Z
def Zp7(g0:ZM n ps)(gone:List Int)(hk:∀i,i<n.i->f i<k)(k1:1<=k)(kn:k<=n.i):ZM k (conW f ps (freT ps.f gone)):=by
 let(g1,g2,g3,g4):=g0;exists J,J,?_,λp hp=>?_
 ·rw[Zh5]
  have:(freT ps.f gone).f<=(rgL ps.f).f:=Y0T ..
  have:=(Zz22 ps.f).len
  lia
 ·let(z,hz,rfl):=Yx.S hp;let hz1:=(freT_mem.S hz).1
  obtain⟨q,hq⟩:∃q,ps[z.i]?=some q:={_,Yy0 J};let(e1,e2,e3,e4):=g4 q (Yy9 hq);let ee:Zw ps z=(q.1.i,q.2.i):=by unfold Zw;rw[ZS hq]
  rw[ee];let a:=hk q.1.i J
  let b:=hk q.2.i J;exists by change(0:Int)<=(f q.1.i:Int);lia,by change(f q.1.i:Int)<(k:Int);lia,by change(0:Int)<=(f q.2.i:Int);lia,by change(f q.2.i:Int)<(k:Int);lia
def Zb12(g0:ZM n ps)(hI:IsSet ps.f I)(hf:∀i j,i<n.i->j<n.i->(f i=f j↔Conn (Zz6 ps I) i j))(hk:∀i,i<n.i->f i<k)(hg:∀a,a<k->g a<n.i/\f (g a)=a)(k1:1<=k)(kn:k<=n.i)(hn:n<(k:Int)+I⁻¹):PC n ps I O 0:=by
 exists [],.nil,λT=>{λh=>(by cases h),λzz=>?_},Z;let(hT,q1,q2):=zz;let(S,hS,rfl):=ZI14 hI hT.1 q1 q2;let q:=(Zo7 (O:=O) g0 hI hf hk hg hS).S hT.2.2
 let gg:=Zp7 (f:=f) g0 (I++O) hk k1 kn;let l:=Zh11 gg (by rwa[Zh5]) λa b ha hb=>q a b J J
 let l2:=hT.2.1;rw[(ZA2 hI hS).length_eq,Yy3]at l2;unfold upR at l2;rw[Yy7]at l2;omega
end
def nix:(List Int->Int->Nat)
 |[],_=>0
 |x::l,z=>if x=z then 0 else nix l z+1
def Zn2:∀{l:List Int}{z:Int},z∈l->l[nix l z]?=some z
 |x::l,z,h=>by
  unfold nix;cases c:x=z
  ·rw[if_pos c,c];rfl
  ·rw[if_neg c];show Zn2 ((Yf.S h).resolve_left λe=>c e.symm)
def Zz814(h:z∈l):nix l z<l.f:=(Yy1.S<|Zn2 h).1
def Zi12(hz:z∈l)(hy:y∈l):nix l z=nix l y↔z=y:=by
 show{λe=>?_,λe=>by rw[e]};let h1:=Zn2 hz
 rw[e,Zn2 hy]at h1;show(Yl h1).symm
def Zz914(hn:l.Nodup){i:Nat}{z:Int}(h:l[i]?=some z):nix l z=i:=Zw1 hn (Zn2<|Yy9 h) h
def Zk12(h:i<M.f):mk M i∈M:=by unfold mk;rw[Yy5,Yy0 h];show Y0Y h
section
variable{N:Nat}{es:List (Nat×Nat)}{F:List Int}
def Zv10(h:InN N es)(hF:F.C (·<·))(hm:∀z,z∈F↔z∈pms N es):
  ∃g:Nat->Nat,(∀i j,i<N->j<N->(nix F (mk (pms N es) i)=nix F (mk (pms N es) j)↔Conn es i j))/\(∀i,i<N->nix F (mk (pms N es) i)<F.f)/\∀a,a<F.f->g a<N/\nix F (mk (pms N es)<|g a)=a:=by
 let hl:=Zm N es;let inF:∀i,i<N->mk (pms N es) i∈F:=λi hi=>(hm _).X (Zk12 J)
 let ex:∀a,∃i,a<F.f->i<N/\nix F (mk (pms N es) i)=a:=λa=>by
  cases c:a<F.f
  ·have q:=(hm _).S (Y0Y c);let(i,hi):=YC q;let hi2:=(Yy1.S hi).1
   exists i,λ_=>{J,?_};let e:mk (pms N es) i=F[a]:=by unfold mk;show ZS hi
   rw[e];show Zz914 (Zv1 hF) (Yy0 c)
  ·exists 0,λh=>absurd h c
 exists λa=>Classical.choose<|ex a,λi j hi hj=>?_,λi hi=>Zz814<|inF i hi,λa ha=>Y4g (ex a) ha;rw[Zi12 (inF i hi) (inF j hj)];show ZE2 h hi hj
def ZZ10:∀i,∃p,p<=i/\fstB M p=true/\mk M p=mk M i:=by
 intro i
 induction i using Nat.strongRecOn with
 |_ i ih=>
  cases c:fstB M i=true
  ·exists i,Yy8 _,c,Z
  ·obtain⟨j,hj,e⟩:∃j,j<i/\mk M j=mk M i:=YK λno=>c (fstB_iff.X λj hj e=>no ⟨j,hj,e⟩);let(p,h1,h2,h3):=ih j hj;exists p,J,h2,h3.m e
def Zi8(hF:F.C (·<·))(hm:∀z,z∈F↔z∈M):F.f=cnt M:=by
 let e:F.Perm ((fstA M M.f).L (mk M)):=by
  show(Y1a (Zv1 hF) ?_).X λz=>?_
  ·show Y1m.X ?_;unfold fstA;show(Y1r.filter<|fstB M).imp_of_mem λ{a b} ha hb hab=>?_;show fstB_iff.S (Ym.S hb).2 a hab
  ·rw[hm,Yx];constructor
   ·intro hz;let(i,hi):=YC hz;let hi2:=(Yy1.S hi).1
    let(p,h1,h2,h3):=ZZ10 (M:=M) i;exists p,Ym.X {YO.X J,h2},h3.m ?_;unfold mk;show ZS hi
   ·rintro⟨p,hp,rfl⟩;show Zk12 (YO.S (Ym.S hp).1)
 rw[e.length_eq,Yy7];rfl
def Za4(h:InN N es)(hN:1<=N)(hF:F.C (·<·))(hm:∀z,z∈F↔z∈pms N es):1<=F.f/\F.f<=N/\N<=F.f+es.f:=by
 let e:=Zi8 hF hm;let hl:=Zm N es
 let e2:=Zj11 (ZU3 (n:=N) (es:=es) h);let e3:=Zi5 es h
 let e4:=Zq7 (M:=pms N es) J;let e5:cnt (pms N es)<=N:=by unfold cnt fstA;show Yv (Y0T ..) ?_;rw[YU];lia
 lia
end
def ZQ3{α:Type}[DecidableEq α]:∀{l m:List α},l.Nodup->(∀x∈l,x∈m)->l.f<=m.f
 |[],_,_,_=>Yk _
 |x::l,m,hn,hs=>by
  let hx:=hs x Ye;let(h1,h2):=Y0I.S hn
  have:=ZQ3 (m:=m.erase x) h2 λy hy=>(Y2Y λe=>h1<|by rwa[<-e]).X (hs y<|Yd _ hy)
  rw[Y2u hx]at this
  have:=Y1S hx
  rw[Yu];lia
end My
namespace L2
open PySem PySem.Spec PyProof.Rows
section
variable{X:Cx}
def Zm5:Zz02 X (.builtin "abs") (λxs H Q=>∃z:Int,xs=[.int z]/\Q (.int (if z<0 then -z else z)) H):=by intro pins s σ H xs us Q I r h;let(z,rfl,q):=h;let(u,rfl,ru):=ZK2 r;let(t,rfl):=ru;show call_abs_int λu tk=>{.int<|if z<0 then -z else z,H,I.tok tk,⟨u,Z⟩,q}
end
end L2
namespace My
open PySem L2
def Zk15{s rest:TS}{XW:Ends}{σ:L2.St}{H:Hp}(P:L2.St->Hp->Prop)(h1:∀σ' H',P σ' H'->rest XW σ' H')(h2:∀K:L2.St->Hp->Prop,(∀σ' H',P σ' H'->K σ' H')->s {XW with nx:=K} σ H):tSeq s rest XW σ H:=h2 _ h1
def Zj5{m:Nat}(hm:m<=30):∀k,(cmb (m:Int) k).f<=30^k
 |0=>Yy8 1
 |k+1=>by
  let h1:=Zz03 (m:=m) (cmb (m:Int) k) λs hs=>(cmb_mem.S hs).2;let h2:=Zj5 hm k
  let h3:m*(cmb (m:Int) k).f<=30*30^k:=Y1t hm h2;rw[Nat.pow_succ,Y2W];show Yv h1 h3
def ZZ5(g:ZM n ps)(h:TC n ps c):c<10^20:=by
 let(L,hn,hm,rfl):=h;let(g1,g2,g3,_):=g;show Y1L (m:=30^13) (Yv (ZQ3 (m:=cmb ps⁻¹ (n-1).i) hn λx hx=>cmb_mem.X {?_,((hm x).S hx).1})<|Yv (Zj5 J _)<|Yy25 XU B) XU
 have:=((hm x).S hx).2.1
 lia
def ZV11(g:ZM n ps):∃L:List (List Int),(∀l,l∈L↔Zo n ps l)/\L.C lexS:={frs n.i ps (n-1).i,λ_=>ZX10 g,(Zs7 _ _).filter _}
def ZF7(h:TC n ps c)(hj:¬ZO5 n ps):c=0:=by
 let(L,_,hm,rfl):=h;cases L with
 |nil=>rfl
 |cons T L=>
  let hT:=(hm T).S Ye;show absurd (λi j hi hj=>(hT.2.2 i j hi hj).mono λe he=>by let(z,hz,rfl):=Yx.S he;show Yx.X {z,rgL_mem.X<|hT.1.all z hz,Z}) hj
def Zz014(hc:PC n ps I O c)(hd:TC n ps d):c<=d:=by let(L,hn,hm,rfl):=hc;let(M,_,hm2,rfl):=hd;show ZQ3 hn λx hx=>(hm2 x).X ((hm x).S hx).1
end My
namespace L2
open PySem PySem.Spec PyProof.Rows
section
variable{prog:Program}{w:World}{A:Around}{E:Value->Shared->Prop}{s:Shared}
def Zo10{u:Value}{Q:Value->Shared->Prop}(hj:s.o.IsTupleIter j t i)(ht:s.o.IsTuple t us)(hu:us[i]?=some u)
  (q:∀h',h'.IsTupleIter j t (i+1)->Heap.SameBut j s.o h'->Q u {s with heap:=h'}):wpAny (model prog w) A (Builtin.SmallTypes.nextOf<|.ref j) Q E s:=by
 let(o1,e1,c1,d1):=id hj;let(o2,e2,_,n2,d2):=ht;unfold Builtin.SmallTypes.nextOf;show Yy4 (Y0L (name:=Str.U "__next__") hj.typeIs Y1I<|Y0B Y1I hj.typeIs Y4f ?_<|Yy48 _);change wpAny _ _ (field ↑j 0 >>= _) _ _ s
 show Yy4 (Y3y e1 d1 (x:=.ref t) Z ?_);rw[if_neg (show ¬(Value.ref t == Value.none)=true from Ys)];change wpAny _ _ (field ↑j 1 >>= _) _ _ s
 show Yy4 (Y3y e1 d1 (x:=.int i 0) Z ?_);change wpAny _ _ (seqItems? ↑t >>= _) _ _ s
 show Yy4 (Y3h e2 d2 ?_);simp only[hu,YB];show Yy4 (Y1w e1 d1 D<|Yi ⟨u,Z,Yi<|q _ ?_<|Y0r ..⟩);exists _,Y0q _ e1<|Y1z<|Y0k d1 _,(Y2R ..).m c1,?_;rw[Y0k d1];simp[rawInt]
def ZS8{Q:Value->Shared->Prop}(hh:A.handled=none)(hj:s.o.IsTupleIter j t i)(ht:s.o.IsTuple t us)(hu:us[i]?=none)
  (q:∀h' e,Heap.ExtBut j s.o h'->(∃o,h'.E e=some o/\o.cls=.type "StopIteration")->E ↑e {s with heap:=h'}):wpAny (model prog w) A (Builtin.SmallTypes.nextOf<|.ref j) Q E s:=by
 let(o1,e1,c1,d1):=id hj;let(o2,e2,_,n2,d2):=ht;unfold Builtin.SmallTypes.nextOf;show Yy4 (Y0L (name:=Str.U "__next__") hj.typeIs Y1I<|Y0B Y1I hj.typeIs Y4f ?_<|Yy48 _);change wpAny _ _ (field ↑j 0 >>= _) _ _ s
 show Yy4 (Y3y e1 d1 (x:=.ref t) Z ?_);rw[if_neg (show ¬(Value.ref t == Value.none)=true from Ys)];change wpAny _ _ (field ↑j 1 >>= _) _ _ s
 show Yy4 (Y3y e1 d1 (x:=.int i 0) Z ?_);change wpAny _ _ (seqItems? ↑t >>= _) _ _ s
 show Yy4 (Y3h e2 d2 ?_);simp only[hu,YB];show Yy4 (Y1Q<|Yy4<|Y1w e1 d1 D<|Yy4 (m:=newExc (.type "StopIteration") []) ?_);simp only[newTuple,newExc];show Yy4 (Y0F (Yy4 (m:=firstArgMember _ _)<|Yy20 (a:=Value.none) (by first|rfl|(simp only[firstArgMember];rfl))<|Y0F ?_<|by size_fits)<|by size_fits)
 unfold raiseNew;show Yy4 (wpAny_handled ?_)
 first
  |rw[hh]
  |rw[show A.in1.handled=none from hh]
 show Yy4 (Yi<|wpAny_throw<|q _ _ (((Y0r ..).extBut.push _).push _) {_,Yo _ Z,Z})
end
end L2
namespace My
open PySem L2
def ev(b:Int):(List Int->Int)
 |[]=>0
 |d::l=>d+b*ev b l
def ZG7(l:List Int)(x:Int):(l++[x]).sum=l.sum+x:=by
 induction l with
 |nil=>show x+0=0+x;lia
 |cons y l ih=>show y+(l++[x]).sum=y+l.sum+x;lia
def Zo3:∀es:List (Nat×Nat),InN n es->∀i,i<n->0<=mk (pms n es) i/\mk (pms n es) i<=(i:Int)/\mk (pms n es) (mk (pms n es) i).i=mk (pms n es) i:=by
 show Zk1 (λ_ i hi=>?_) λes e ih h=>?_
 ·have e:mk (pms n []) i=(i:Int):=ZV1 hi;rw[e,YB];exists J,Y1e _,e
 ·let(h1,h2,h3):=h.snoc;let ih:=ih h1
  intro i hi;rw[Zi6];let hl:=Zm n es
  generalize pms n es=M at *;let(i1,i2,i3):=ih i hi;let(a1,a2,a3):=ih e.1 h2;let(b1,b2,b3):=ih e.2 h3;unfold pm;cases c:min (mk M e.1) (mk M e.2)<max (mk M e.1) (mk M e.2)
  ·rw[if_pos c];obtain⟨lo,hlo⟩:∃lo,lo=min (mk M e.1) (mk M e.2):={_,Z};obtain⟨hi',hhi⟩:∃hi',hi'=max (mk M e.1) (mk M e.2):={_,Z};rw[<-hlo,<-hhi]at c ⊢;let lown:mk M lo.i=lo:=by
    rcases Int.le_total (mk M e.1) (mk M e.2) with q|q
    ·rwa[hlo,Y2T q]
    ·rwa[hlo,Y3s q]
   let lb:0<=lo/\lo<(n:Int):=by
    rcases Int.le_total (mk M e.1) (mk M e.2) with q|q
    ·rw[hlo,Y2T q];lia
    ·rw[hlo,Y3s q];lia
   rw[Zz64 _ _ J];cases d:mk M i=hi'
   ·rw[if_pos d,Zz64 _ _ J,lown,if_neg J];lia
   ·rw[if_neg d,Zz64 _ _ J,i3,if_neg d];exists i1,i2,Z
  ·rw[if_neg c];exists i1,i2,i3
section
variable{n:Nat}{es:List (Nat×Nat)}(h:InN n es)
include h
def ZW3(hi:i<n):Conn es i (mk (pms n es) i).i:=by let(a,b,c):=Zo3 es h i hi;show(ZE2 h hi J).S c.symm
def ZP2(hi:i<n)(hj:j<n)(c:Conn es i j):mk (pms n es) i<=(j:Int):=by rw[(ZE2 h hi hj).X c];show(Zo3 es h j hj).2.1
end
def Zf5{φ:Nat->Prop}(h:∀e∈es,(φ e.1↔φ e.2))(c:Conn es i j):φ i↔φ j:=by
 induction c with
 |refl i=>show Iff.rfl
 |edge q=>show h _ q
 |symm _ ih=>show ih.symm
 |trans _ _ i1 i2=>show i1.m i2
def Zf11(f:Nat->Nat)(h:∀e∈es,Conn fs (f e.1) (f e.2))(c:Conn es i j):Conn fs (f i) (f j):=by
 induction c with
 |refl i=>show .refl _
 |edge e=>show h _ e
 |symm _ ih=>show ih.symm
 |trans _ _ ih1 ih2=>show ih1.m ih2
def Zp12(f:Int->Int):∀{l:List Int},l≠[]->∃m∈l,∀z∈l,f z<=f m
 |[x],_=>{x,D,λz hz=>by rw[Yy2.S hz];show Y1e _}
 |x::y::l,_=>by
  let(m,hm,q):=Zp12 f (l:=y::l) D;cases c:f m<=f x
  ·show⟨x,D,λz hz=>by
    rcases Yf.S hz with r|r
    ·rw[r];show Y1e _
    ·show Y2w (q z r) c⟩
  ·show⟨m,Yd _ hm,λz hz=>by
    rcases Yf.S hz with r|r
    ·rw[r];lia
    ·show q z r⟩
abbrev lnz(ls:List Int)(z:Int):Int:=ls.getD z.i 0
def lwS(ls:List Int)(x:Int):(List Int):=(rgL ls.f).filter λz=>decide (lnz ls z<x)
def leS(ls:List Int)(x:Int):(List Int):=(rgL ls.f).filter λz=>decide (lnz ls z<=x)
def lwS_mem:z∈lwS ls x↔(0<=z/\z<ls⁻¹)/\lnz ls z<x:=by unfold lwS;rw[Ym,rgL_mem,YQ]
def leS_mem:z∈leS ls x↔(0<=z/\z<ls⁻¹)/\lnz ls z<=x:=by unfold leS;rw[Ym,rgL_mem,YQ]
def Zz74(h:y<x)(hz:z∈lwS ls x)(hy:lnz ls z=y):(lwS ls y).f<(lwS ls x).f:=by
 let hn:∀x,(lwS ls x).Nodup:=λx=>(Zv1<|Zc6 _).filter _;let hz2:z∉lwS ls y:=λc=>by have:=(lwS_mem.S c).2;lia
 show Zz26 (l:=z::lwS ls y) (Y0I.X {hz2,hn y}) λw hw=>by
  rcases Yf.S hw with r|r
  ·show r▸hz
  ·have q:=lwS_mem.S r;show lwS_mem.X ⟨q.1,J⟩
def mA(N:Nat)(ps:List (Int×Int))(ls:List Int)(x:Int):(List Int):=pms N (Zz6 ps<|lwS ls x)
def mB(N:Nat)(ps:List (Int×Int))(ls:List Int)(x:Int):(List Int):=pms N (Zz6 ps<|leS ls x)
def spt(N:Nat)(ps:List (Int×Int))(ls:List Int)(x:Int)(i:Nat):(Int):=if mk (mA N ps ls x) i=mk (mB N ps ls x) i then 0 else mk (mA N ps ls x) i
def cwT(N:Nat)(ps:List (Int×Int))(ls:List Int):(List (Int×Int)):=(List.range ps.f).L λi=>(spt N ps ls (ls.getD i 0) (ps.getD i (0,0)).1.i,spt N ps ls (ls.getD i 0) (ps.getD i (0,0)).2.i)
def Zb5(N:Nat)(ps:List (Int×Int))(ls:List Int):(cwT N ps ls).f=ps.f:=by unfold cwT;rw[Yy7,YU]
def Zc11(h0:0<=z)(h1:z<ps⁻¹):Zw (cwT N ps ls) z=((spt N ps ls (lnz ls z) (Zw ps z).1).i,(spt N ps ls (lnz ls z) (Zw ps z).2).i):=by
 let e:(cwT N ps ls).getD z.i (0,0)=(spt N ps ls (lnz ls z) (Zw ps z).1,spt N ps ls (lnz ls z) (Zw ps z).2):=by unfold cwT;rw[Yy5,Yc,Y0v J];rfl
 unfold Zw at *;rw[e]
section
variable{n:Int}{ps:List (Int×Int)}{ls T:List Int}(g:ZM n ps)(hl:ls.f=ps.f)
include g hl
def inA(x:Int):InN n.i (Zz6 ps (lwS ls x)):=ZL g λz hz=>by have:=(lwS_mem.S hz).1;lia
def inB(x:Int):InN n.i (Zz6 ps (leS ls x)):=ZL g λz hz=>by have:=(leS_mem.S hz).1;omega
def ownA(x:Int)(hi:i<n.i):0<=mk (mA n.i ps ls x) i/\mk (mA n.i ps ls x) i<=(i:Int)/\mk (mA n.i ps ls x) (mk (mA n.i ps ls x) i).i=mk (mA n.i ps ls x) i:=Zo3 _ (inA g hl x) i hi
def ownB(x:Int)(hi:i<n.i):0<=mk (mB n.i ps ls x) i/\mk (mB n.i ps ls x) i<=(i:Int)/\mk (mB n.i ps ls x) (mk (mB n.i ps ls x) i).i=mk (mB n.i ps ls x) i:=Zo3 _ (inB g hl x) i hi
def Zu13(x:Int)(hi:i<n.i):Conn (Zz6 ps (lwS ls x)) i (mk (mA n.i ps ls x) i).i:=ZW3 (inA g hl x) hi
def Zv14(x:Int)(hi:i<n.i):Conn (Zz6 ps (leS ls x)) i (mk (mB n.i ps ls x) i).i:=ZW3 (inB g hl x) hi
def iffA(x:Int)(hi:i<n.i)(hj:j<n.i):mk (mA n.i ps ls x) i=mk (mA n.i ps ls x) j↔Conn (Zz6 ps (lwS ls x)) i j:=ZE2 (inA g hl x) hi hj
def iffB(x:Int)(hi:i<n.i)(hj:j<n.i):mk (mB n.i ps ls x) i=mk (mB n.i ps ls x) j↔Conn (Zz6 ps (leS ls x)) i j:=ZE2 (inB g hl x) hi hj
def Zc14(x:Int){i j:Nat}(hi:i<n.i)(hj:j<n.i)(c:Conn (Zz6 ps (lwS ls x)) i j):mk (mA n.i ps ls x) i<=(j:Int):=ZP2 (inA g hl x) hi hj c
def ZE10(x:Int){i j:Nat}(hi:i<n.i)(hj:j<n.i)(c:Conn (Zz6 ps (leS ls x)) i j):mk (mB n.i ps ls x) i<=(j:Int):=ZP2 (inB g hl x) hi hj c
def ZM9(x:Int){i j:Nat}(c:Conn (Zz6 ps (lwS ls x)) i j):Conn (Zz6 ps (leS ls x)) i j:=c.mono (ZD λz hz=>by have:=lwS_mem.S hz;show leS_mem.X ⟨this.1,J⟩)
def ZF13(h:y<x){i j:Nat}(c:Conn (Zz6 ps (leS ls y)) i j):Conn (Zz6 ps (lwS ls x)) i j:=c.mono (ZD λz hz=>by have:=leS_mem.S hz;show lwS_mem.X ⟨this.1,B⟩)
def Zd8(hv:v<n.i)(a1:mk (mA n.i ps ls x) v=v)(b1:mk (mB n.i ps ls x) v≠v)(a2:mk (mA n.i ps ls y) v=v)(b2:mk (mB n.i ps ls y) v≠v):x=y:=by
 let key:∀x y:Int,y<x->mk (mA n.i ps ls x) v=v->mk (mB n.i ps ls y) v≠v->False:=λx y h a b=>by
  let(o1,o2,_):=ownB g hl y hv
  have:=Zc14 g hl x hv J (ZF13 g hl h<|Zv14 g hl y hv)
  lia
 rcases Int.lt_trichotomy x y with c|c|c
 ·show(key y x c a2 b1).elim
 ·show c
 ·show(key x y c a1 b2).elim
def ZI7(hi:i<n.i):0<=spt n.i ps ls x i/\spt n.i ps ls x i<n/\(spt n.i ps ls x i≠0->spt n.i ps ls x i=mk (mA n.i ps ls x) i/\mk (mA n.i ps ls x) (spt n.i ps ls x i).i=spt n.i ps ls x i/\mk (mB n.i ps ls x) (spt n.i ps ls x i).i≠spt n.i ps ls x i):=by
 let(o1,o2,o3):=ownA g hl x hi;unfold spt;cases c:mk (mA n.i ps ls x) i=mk (mB n.i ps ls x) i
 ·rw[if_pos c];exists Y1e _,J,λh=>absurd Z h
 ·rw[if_neg c];exists o1,J,λ_=>{Z,o3,λe=>c ?_};rw[<-e];show(iffB g hl x J hi).X (ZM9 g hl x<|Zu13 g hl x hi).symm
def Zu9:ZM n (cwT n.i ps ls):=by
 let(g1,g2,g3,g4):=id g;show{g1,g2,by rw[Zb5];show g3,λp hp=>?_};unfold cwT at hp;let(i,hi,rfl):=Yx.S hp;let hi:=YO.S hi
 let he:=ZB1 (z:=(i:Int)) g J J;unfold Zw at he;rw[YB]at he;let h1:=ZI7 g hl (x:=ls.getD i 0) he.1
 let h2:=ZI7 g hl (x:=ls.getD i 0) he.2;exists h1.1,h1.2.1,h2.1,h2.2.1
def Zi7(hT:Zo n (cwT n.i ps ls) T):∀k x,(lwS ls x).f=k->∀a,a<n.i->Conn (Zz6 ps (T.filter λz=>decide (lnz ls z<=x))) a (mk (mB n.i ps ls x) a).i:=by
 intro k
 induction k using Nat.strongRecOn with
 |ind k ih=>
  intro x hk;let(t1,t2,t3):=id hT;rw[Zb5]at t1;let tm:∀{y z:Int},z∈T.filter (λz=>decide<|lnz ls z<=y)↔z∈T/\lnz ls z<=y:=by intro y z;rw[Ym,YQ]
  let low:∀{i j:Nat},Conn (Zz6 ps<|lwS ls x) i j->Conn (Zz6 ps<|T.filter λz=>decide<|lnz ls z<=x) i j:=λc=>c.lift λe he=>by
   let(z,hz,rfl):=Yx.S he;let q:=lwS_mem.S hz
   let hz2:z∈leS ls (lnz ls z):=leS_mem.X {q.1,Y1e _};let ee:=ZB1 (z:=z) g q.1.1 J
   let i1:=ih _ (by rw[<-hk];show Zz74 q.2 hz Z) (lnz ls z) Z _ ee.1;let i2:=ih _ (by rw[<-hk];show Zz74 q.2 hz Z) (lnz ls z) Z _ ee.2
   let e1:mk (mB n.i ps ls<|lnz ls z) (Zw ps z).1=mk (mB n.i ps ls<|lnz ls z) (Zw ps z).2:=(iffB g hl _ ee.1 ee.2).X (.edge<|Yx.X ⟨z,hz2,Z⟩);rw[e1]at i1;show(i1.m i2.symm).mono (ZD λw hw=>by have:=tm.S hw;show tm.X ⟨this.1,J⟩)
  let atA:∀a,a<n.i->Conn (Zz6 ps<|T.filter λz=>decide<|lnz ls z<=x) a (mk (mA n.i ps ls x) a).i:=λa ha=>low (Zu13 g hl x ha);let bA:∀a,a<n.i->mk (mB n.i ps ls x) (mk (mA n.i ps ls x) a).i=mk (mB n.i ps ls x) a:=λa ha=>by let o:=ownA g hl x ha;show(iffB g hl x J ha).X (ZM9 g hl x<|Zu13 g hl x ha).symm
  obtain⟨φ,hφ⟩:∃φ:Nat->Prop,φ=λw=>w<n.i->mk (mA n.i ps ls x) w=w->mk (mB n.i ps ls x) w≠w->Conn (Zz6 ps<|T.filter λz=>decide<|lnz ls z<=x) w (mk (mB n.i ps ls x) w).i:={_,Z};let phi0:φ 0:=by
   rw[hφ];intro h1 _ h3
   have:=ownB g hl x h1
   show absurd J h3
  let other:∀y a,a<n.i->y≠x->φ (spt n.i ps ls y a).i:=λy a ha hy=>by
   let(q0,q1,q2):=ZI7 g hl (x:=y) ha;cases c:spt n.i ps ls y a=0
   ·rwa[c]
   ·let(_,q3,q4):=q2 c;rw[hφ];intro h1 h2 h3;show absurd (Zd8 g hl (v:=(spt n.i ps ls y a).i) J (by rw[q3];omega) (λe=>q4<|by rw[e];omega) h2 h3) hy
  let own:∀a,a<n.i->(φ (spt n.i ps ls x a).i↔Conn (Zz6 ps<|T.filter λz=>decide<|lnz ls z<=x) a (mk (mB n.i ps ls x) a).i):=λa ha=>by
   cases c:mk (mA n.i ps ls x) a=mk (mB n.i ps ls x) a
   ·have e:spt n.i ps ls x a=0:=by unfold spt;rw[if_pos c]
    rw[e];exists λ_=>?_,λ_=>phi0
    have:=atA a ha
    rwa[c]at this
   ·have e:spt n.i ps ls x a=mk (mA n.i ps ls x) a:=by unfold spt;rw[if_neg c]
    let(o1,o2,o3):=ownA g hl x ha;let ba:=bA a ha
    rw[e,hφ];change(_->_->_->Conn _ _ _)↔_
    rw[ba];constructor
    ·intro h;show(atA a ha).m (h B (by rw[o3];omega) λe2=>c<|by rw[e2];omega)
    ·intro h _ _ _;show(atA a ha).symm.m h
  let all:∀w,w<n.i->φ w:=λw hw=>by
   show(Zf5 (φ:=φ) (λe he=>?_)<|t3 0 w B hw).S phi0;let(z,hz,rfl):=Yx.S he;let zb:=t1.all z hz
   let ee:=ZB1 (z:=z) g zb.1 zb.2;change φ (Zw (cwT n.i ps ls) z).1↔φ (Zw (cwT n.i ps ls) z).2
   rw[Zc11 zb.1 zb.2];change φ (spt _ _ _ _ _).i↔φ (spt _ _ _ _ _).i
   cases c:lnz ls z=x
   ·rw[c,own _ ee.1,own _ ee.2];let ce:Conn (Zz6 ps<|T.filter λz=>decide<|lnz ls z<=x) (Zw ps z).1 (Zw ps z).2:=.edge (Yx.X {z,tm.X ⟨hz,B⟩,Z})
    let e1:mk (mB n.i ps ls x) (Zw ps z).1=mk (mB n.i ps ls x) (Zw ps z).2:=(iffB g hl _ ee.1 ee.2).X (.edge<|Yx.X {z,leS_mem.X {⟨zb.1,B⟩,B},Z});rw[e1];exists λh=>ce.symm.m h,λh=>ce.m h
   ·exists λ_=>other _ _ ee.2 c,λ_=>other _ _ ee.1 c
  intro a ha;let(o1,o2,o3):=ownA g hl x ha;let ba:=bA a ha
  let c1:=atA a ha;cases c:mk (mB n.i ps ls x) (mk (mA n.i ps ls x) a).i=mk (mA n.i ps ls x) a
  ·rwa[<-ba,c]
  ·have:=all (mk (mA n.i ps ls x) a).i B
   rw[hφ]at this
   have:=this B (by rw[o3];omega) (λe=>c<|by rw[e];omega)
   rw[ba]at this;show c1.m this
end
def LvT(n:Int)(ps:List (Int×Int))(ls T:List Int):(Prop):=∀x i j,i<n.i->j<n.i->Conn (Zz6 ps<|leS ls x) i j->Conn (Zz6 ps<|T.filter λz=>decide<|lnz ls z<=x) i j
def NoG(n:Int)(ps:List (Int×Int))(ls T:List Int):(Prop):=∀o z,exg n ps T o z->lnz ls o<=lnz ls z
def Zu12(ls:List Int):∃U:Int,∀z:Int,lnz ls z<=U:=by
 let h:∀l:List Int,∃U:Int,∀i:Nat,l.getD i 0<=U:=by
  intro l
  induction l with
  |nil=>exists 0,λi=>D
  |cons x l ih=>
   let(U,hU):=ih;exists max x U,λi=>?_;cases i with
   |zero=>show x<=_;lia
   |succ i=>have:=hU i;change l.getD i 0<=_;lia
 let(U,hU):=h ls;exists U,λz=>hU z.i
section
variable{n:Int}{ps:List (Int×Int)}{ls T:List Int}(g:ZM n ps)(hl:ls.f=ps.f)
include g hl
def Zi15(hT:Zo n (cwT n.i ps ls) T):LvT n ps ls T:=λx i j hi hj c=>by
 let h1:=Zi7 g hl hT _ x Z i hi;let h2:=Zi7 g hl hT _ x Z j hj
 rw[(iffB g hl x hi hj).X c]at h1;show h1.m h2.symm
def Zs14(hT:Zo n (cwT n.i ps ls) T):Zo n ps T:=by
 let(t1,t2,t3):=id hT;rw[Zb5]at t1;let(U,hU):=Zu12 ls;let zero:∀a,a<n.i->mk (mB n.i ps ls U) a=0:=λa ha=>by
  let(o1,o2,o3):=ownB g hl U ha;show YK λno=>?_;obtain⟨v,hv⟩:∃v:Nat,v=(mk (mB n.i ps ls U) a).i:={_,Z};let v0:v≠0:=J
  let vn:v<n.i:=J;let ov:mk (mB n.i ps ls U) v=(v:Int):=by rw[hv,o3];lia
  let st:=Zf5 (φ:=λw=>w≠v) (λe he=>by
   let(z,hz,rfl):=Yx.S he;let zb:=t1.all z hz
   let ee:=ZB1 (z:=z) g zb.1 zb.2;change(Zw (cwT n.i ps ls) z).1≠v↔(Zw (cwT n.i ps ls) z).2≠v
   rw[Zc11 zb.1 zb.2];let key:∀c,c<n.i->(spt n.i ps ls (lnz ls z) c).i≠v:=λc hc e=>by
    let(q0,q1,q2):=ZI7 g hl (x:=lnz ls z) hc;let(_,q3,q4):=q2 J;rw[e]at q3 q4;let ov2:=ownB g hl (lnz ls z) vn
    let cb:=Zv14 g hl (lnz ls z) vn;let cu:Conn (Zz6 ps<|leS ls U) v (mk (mB n.i ps ls<|lnz ls z) v).i:=cb.mono (ZD λy hy=>by have:=leS_mem.S hy;show leS_mem.X {this.1,hU y})
    have:=ZE10 g hl U vn J cu
    lia
   exists λ_=>key _ ee.2,λ_=>key _ ee.1) (t3 0 v J vn)
  show(st.S<|Y0f v0) rfl
 exists t1,t2,?_;let key:∀a,a<n.i->Conn (Zz6 ps T) a 0:=λa ha=>by let h1:=Zi7 g hl hT _ U Z a ha;rw[zero a ha]at h1;show h1.mono (ZD λz hz=>(Ym.S hz).1)
 show λi j hi hj=>(key i hi).m (key j hj).symm
def ZD10(hv:v<n.i):∀k x,(lwS ls x).f=k->mk (mB n.i ps ls x) v≠v->∃y,mk (mA n.i ps ls y) v=v/\mk (mB n.i ps ls y) v≠v:=by
 intro k
 induction k using Nat.strongRecOn with
 |ind k ih=>
  intro x hk hb;cases c:mk (mA n.i ps ls x) v=v
  ·exists x,c,hb
  ·have ne:lwS ls x≠[]:=λe=>c (by unfold mA;rw[e];show ZV1 hv)
   let(m,hm,q):=Zp12 (lnz ls) ne;let hm2:=lwS_mem.S hm
   let e:leS ls (lnz ls m)=lwS ls x:=by
    unfold leS lwS;show Y3e λz hz=>?_;rw[decide_eq_decide];constructor
    ·intro h;lia
    ·intro h;show q z (lwS_mem.X {rgL_mem.S hz,h})
   show ih _ (by rw[<-hk];show Zz74 hm2.2 hm Z) (lnz ls m) Z ?_;let e2:mB n.i ps ls (lnz ls m)=mA n.i ps ls x:=by unfold mB mA;rw[e]
   rwa[e2]
def Zh15(hT:Zo n ps T)(hv:LvT n ps ls T):Zo n (cwT n.i ps ls) T:=by
 let(t1,t2,t3):=id hT;let(U,hU):=Zu12 ls;show{by rw[Zb5];show t1,t2,?_};let tm:∀{y z:Int},z∈T.filter (λz=>decide<|lnz ls z<=y)↔z∈T/\lnz ls z<=y:=by intro y z;rw[Ym,YQ]
 let key:∀v,v<n.i->Conn (Zz6 (cwT n.i ps ls) T) v 0:=λv hvn=>by
  cases v0:v=0
  ·rw[v0];show .refl _
  let bU:mk (mB n.i ps ls U) v≠v:=by
   let cu:Conn (Zz6 ps<|leS ls U) v 0:=(t3 v 0 hvn J).mono (ZD λy hy=>by have:=t1.all y hy;show leS_mem.X {⟨this.1,J⟩,hU y})
   have:=ZE10 g hl U hvn B cu
   lia
  let(y,ya,yb):=ZD10 g hl hvn _ U Z bU;let(b1,b2,b3):=ownB g hl y hvn;obtain⟨u,hu⟩:∃u:Nat,u=(mk (mB n.i ps ls y) v).i:={_,Z};let un:u<n.i:=J
  let bu:mk (mB n.i ps ls y) u=(u:Int):=by rw[hu,b3];lia
  let cvu:Conn (Zz6 ps<|leS ls y) v u:=by rw[hu];show Zv14 g hl y hvn
  let cT:=hv y v u hvn un cvu;let mp:=Zf11 (fs:=Zz6 (cwT n.i ps ls) T) (λi=>(spt n.i ps ls y i).i) (λe he=>by
   let(z,hz,rfl):=Yx.S he;let(zT,zy):=tm.S hz;let zb:=t1.all z zT
   let ee:=ZB1 (z:=z) g zb.1 zb.2;change Conn _ (spt n.i ps ls y (Zw ps z).1).i (spt n.i ps ls y (Zw ps z).2).i
   cases c:lnz ls z=y
   ·have e:=Zc11 (N:=n.i) (ls:=ls) zb.1 zb.2;rw[c]at e
    have:(Zw (cwT n.i ps ls) z)∈Zz6 (cwT n.i ps ls) T:=Yx.X ⟨z,zT,Z⟩
    rw[e]at this;show .edge this
   ·have z1:z∈lwS ls y:=lwS_mem.X {⟨zb.1,J⟩,J};let z2:z∈leS ls y:=leS_mem.X {⟨zb.1,B⟩,zy}
    let ea:=(iffA g hl y ee.1 ee.2).X (.edge<|Yx.X ⟨z,z1,Z⟩);let eb:=(iffB g hl y ee.1 ee.2).X (.edge<|Yx.X ⟨z,z2,Z⟩)
    let e:spt n.i ps ls y (Zw ps z).1=spt n.i ps ls y (Zw ps z).2:=by unfold spt;rw[ea,eb]
    rw[e];show .refl _) cT
  let sv:spt n.i ps ls y v=(v:Int):=by unfold spt;rw[if_neg J,ya]
  let su:spt n.i ps ls y u=0:=by
   let(a1,a2,a3):=ownA g hl y un;let ca:=Zu13 g hl y un
   have:=ZE10 g hl y (i:=(mk (mA n.i ps ls y) u).i) (j:=(mk (mA n.i ps ls y) u).i) J B (.refl _)
   let e1:mk (mB n.i ps ls y) (mk (mA n.i ps ls y) u).i=mk (mB n.i ps ls y) u:=(iffB g hl y B un).X (ZM9 g hl y ca).symm;unfold spt;rw[if_pos J]
  let mp:Conn (Zz6 (cwT n.i ps ls) T) (spt n.i ps ls y v).i (spt n.i ps ls y u).i:=mp;rwa[sv,su]at mp
 show λi j hi hj=>(key i hi).m (key j hj).symm
omit hl in
def Zz215(hl:ls.f=ps.f)(hT:Zo n ps T)(hg:NoG n ps ls T):LvT n ps ls T:=λx i j _ _ c=>c.lift λe he=>by
 let(z,hz,rfl):=Yx.S he;let(zb,zx):=leS_mem.S hz;change Conn _ (Zw ps z).1 (Zw ps z).2
 cases zT:z∈T
 ·show .edge (Yx.X {z,Ym.X {zT,YY zx},Z})
 ·show(ZH4 g hT zb.1 J).mono (ZD λy hy=>?_);let(yT,yc):=ringA_mem.S hy
  have:=hg y z {yT,λe=>zT<|e▸yT,yc}
  show Ym.X {yT,YY J}
def Zq12(hT:Zo n ps T)(hv:LvT n ps ls T):NoG n ps ls T:=λo z he=>by
 show YK λno=>?_;let(h1,h2,h3):=he;let(z0,z1):=Zg3 h3;let ee:=ZB1 (z:=z) g z0 z1
 show(Zz91 g hT z0 z1).S h3 ?_;show(hv (lnz ls z) _ _ ee.1 ee.2<|.edge<|Yx.X {z,leS_mem.X {⟨z0,J⟩,Y1e _},Z}).mono (ZD λy hy=>?_);let(yT,yl):=Ym.S hy;let yl:=YS yl
 show wo_mem.X {yT,λe=>no<|by rwa[<-e]}
def Zz213:Zo n (cwT n.i ps ls) T↔Zo n ps T/\NoG n ps ls T:=
 {λh=>{Zs14 g hl h,Zq12 g hl (Zs14 g hl h)<|Zi15 g hl h},λh=>Zh15 g hl h.1<|Zz215 g hl h.1 h.2}
end
def Zz712(h1:InN n es)(h2:InN n fs)(h:∀i j,Conn es i j↔Conn fs i j):pms n es=pms n fs:=by
 let key:∀{es fs:List (Nat×Nat)},InN n es->InN n fs->(∀i j,Conn es i j↔Conn fs i j)->∀i,i<n->mk (pms n es) i<=mk (pms n fs) i:=λ{es fs} h1 h2 h i hi=>by
  let(o1,o2,_):=Zo3 fs h2 i hi
  have:=ZP2 h1 hi J ((h i _).X (ZW3 h2 hi))
  lia
 show Yy08 λi=>?_;cases c:i<n
 ·rw[ZM1 (by rwa[Zm]),ZM1 (by rwa[Zm])];show YI some (Int.le_antisymm (key h1 h2 h i c)<|key h2 h1 (λi j=>(h i j).symm) i c)
 ·rw[YE (by rw[Zm];lia),YE (by rw[Zm];omega)]
def lvl(ls:List Int)(x:Int)(i:Nat):(List Int):=(rgL i).filter λz=>decide (lnz ls z=x)
def ZC6(ls:List Int)(x:Int)(i:Nat):lvl ls x (i+1)=lvl ls x i++(if ls.getD i 0=x then [(i:Int)] else []):=by
 unfold lvl rgL;rw[Y0H,Yn,Y0E];congr 1;let e:lnz ls (i:Int)=ls.getD i 0:=by unfold lnz;rw[YB]
 cases c:ls.getD i 0=x
 ·rw[if_pos c];show Y2E (by simp only[YQ];rwa[e])
 ·rw[if_neg c];show Y2F (by simp only[YQ];rwa[e])
def lvl_mem:z∈lvl ls x i↔(0<=z/\z<(i:Int))/\lnz ls z=x:=by unfold lvl;rw[Ym,rgL_mem,YQ]
def ZV8(ls:List Int)(x:Int)(i:Nat):IsSet i (lvl ls x i):=isSet_iff.X {λz hz=>(lvl_mem.S hz).1,(Zc6 i).filter _}
def cwP(N:Nat)(ps:List (Int×Int))(ls:List Int)(i:Nat):(Int×Int):=(spt N ps ls (ls.getD i 0) (ps.getD i (0,0)).1.i,spt N ps ls (ls.getD i 0) (ps.getD i (0,0)).2.i)
def mdT(N:Nat)(ps:List (Int×Int))(ls:List Int)(p:Nat->Prop)[DecidablePred p]:(List (Int×Int)):=(List.range ps.f).L λi=>if p i then cwP N ps ls i else ps.getD i (0,0)
def Zn12(N:Nat)(ps:List (Int×Int))(ls:List Int)(p:Nat->Prop)[DecidablePred p]:(mdT N ps ls p).f=ps.f:=by unfold mdT;rw[Yy7,YU]
def ZP4{p q:Nat->Prop}[DecidablePred p][DecidablePred q](h:∀i,i<ps.f->(p i↔q i)):mdT N ps ls p=mdT N ps ls q:=by
 unfold mdT;show YW λi hi=>?_
 have:=h i (YO.S hi)
 cases c:p i
 ·rw[if_pos c,if_pos (this.S c)]
 ·rw[if_neg c,if_neg λd=>c (this.X d)]
def Zt10{p:Nat->Prop}[DecidablePred p](h:∀i,i<ps.f->¬p i):mdT N ps ls p=ps:=by
 unfold mdT;show Yy08 λi=>?_;rw[Yc];cases c:i<ps.f
 ·rw[Y0v c,Yy0 c];change some (if p i then _ else ps.getD i (0,0))=_
  rw[if_neg (h i c),Yy5,Yy0 c];rfl
 ·rw[YE (by rw[YU];lia),YE B];rfl
def Zo12{p:Nat->Prop}[DecidablePred p](h:∀i,i<ps.f->p i):mdT N ps ls p=cwT N ps ls:=by unfold mdT cwT;show YW λi hi=>?_;rw[if_pos (h i<|YO.S hi)];rfl
def Zm12{p q:Nat->Prop}[DecidablePred p][DecidablePred q](h:∀i,i<ps.f->(q i↔p i\/i=k)):(mdT N ps ls p).set k (cwP N ps ls k)=mdT N ps ls q:=by
 unfold mdT;show Yy08 λi=>?_;rw[Yc];cases c:i<ps.f
 ·have hq:=h i c;rw[Y0v c];cases d:k=i
  ·rw[d,Y1T (by rwa[Yy7,YU])];change _=some (if q i then _ else _)
   rw[if_pos (hq.X<|.inr d.symm)]
  ·rw[Yy27 d,Yc,Y0v c];change some (if p i then _ else _)=some (if q i then _ else _)
   cases e:p i
   ·rw[if_pos e,if_pos (hq.X<|.inl e)]
   ·rw[if_neg e,if_neg λf=>(hq.S f).elim e λg=>d g.symm]
 ·rw[YE (by rw[Y0J,Yy7,YU];omega),YE (by rw[YU];omega)];rfl
section
variable{n:Int}{ps:List (Int×Int)}{ls Ls S:List Int}{j:Nat}{x:Int}(g:ZM n ps)(hl:ls.f=ps.f)(hLa:Ls.C (·<·))(hLm:∀z,z∈Ls↔z∈ls)(hx:Ls[j]?=some x)
include hLa hx
def Zy8{y:Int}(hy:y∈Ls):y∈Ls.G j↔y<x:=by
 let(hj,e):=Yy1.S hx;constructor
 ·intro h;let(i,hi,ei):=Y2X.S h;rw[Yh]at hi;rw[List.getElem_take]at ei;rw[<-ei,<-e];show Yy04.S hLa i j J hj J
 ·intro h;let(i,hi,ei):=Y2X.S hy
  have:i<j:=YK λno=>by
   rcases Nat.lt_or_eq_of_le (Yy26 no) with c|c
   ·have:=Yy04.S hLa j i hj hi c
    lia
   ·subst c;lia
  show Y2X.X {i,by rw[Yh];lia,by rwa[List.getElem_take]}
include g hl hLm
def Zw10(hS:∀z,z∈S↔(0<=z/\z<ps⁻¹)/\lnz ls z∈Ls.G j):pms n.i (Zz6 ps S)=mA n.i ps ls x:=by show Zz712 (ZL g λz hz=>((hS z).S hz).1) (inA g hl x) λa b=>Zz51 λz=>?_;rw[hS,lwS_mem,hl];show and_congr_right λzb=>?_;show Zy8 hLa hx ((hLm _).X ?_);unfold lnz;rw[Yy5,Yy0 (show z.i<ls.f by lia)];show Y0Y _
def Zu10(hS:∀z,z∈S↔(0<=z/\z<ps⁻¹)/\lnz ls z∈Ls.G j):pmf (pms n.i (Zz6 ps S)) (Zz6 ps (lvl ls x ps.f))=pms n.i (Zz6 ps (S++lvl ls x ps.f))/\pms n.i (Zz6 ps (S++lvl ls x ps.f))=mB n.i ps ls x/\∀z,z∈S++lvl ls x ps.f↔(0<=z/\z<ps⁻¹)/\lnz ls z∈Ls.G (j+1):=by
 let m1:∀z,z∈S++lvl ls x ps.f↔(0<=z/\z<ps⁻¹)/\lnz ls z∈Ls.G (j+1):=λz=>by
  rw[Yb,hS,lvl_mem,YN,hx];change _↔_/\lnz ls z∈Ls.G j++[x]
  rw[Yb,Yy2];constructor
  ·rintro(⟨a,b⟩|⟨a,b⟩)
   ·exists a,.inl b
   ·exists a,.inr b
  ·rintro⟨a,b|b⟩
   ·show .inl ⟨a,b⟩
   ·show .inr ⟨a,b⟩
 exists ?_,?_,m1
 ·unfold pmf pms Zz6;rw[Yn,Y1V]
 ·show Zz712 (ZL g λz hz=>((m1 z).S hz).1) (inB g hl x) λa b=>Zz51 λz=>?_;rw[Yb,hS,lvl_mem,leS_mem,hl];let t:(0<=z/\z<ps⁻¹)->(lnz ls z∈Ls.G j↔lnz ls z<x):=λzb=>Zy8 hLa hx ((hLm _).X (by unfold lnz;rw[Yy5,Yy0 (show z.i<ls.f by omega)];show Y0Y _))
  constructor
  ·rintro(⟨a,b⟩|⟨a,b⟩)
   ·exists a,Y3t<|(t a).S b
   ·exists a,Int.le_of_eq b
  ·rintro⟨a,b⟩;rcases Int.lt_or_eq_of_le b with c|c
   ·show .inl {a,(t a).X c}
   ·show .inr ⟨a,c⟩
end
def sumL(ls T:List Int):(Int):=(T.L<|lnz ls).sum
def Yz4(h:a.Perm b):sumL ls a=sumL ls b:=by
 unfold sumL
 induction h with
 |nil=>rfl
 |cons x _ ih=>rw[Yy01,Yy01,Yy17,Yy17,ih]
 |swap x y l=>rw[Yy01,Yy01,Yy01,Yy01,Yy17,Yy17,Yy17,Yy17];lia
 |trans _ _ i1 i2=>show i1.m i2
def ZA8:∀{T:List Int},T.Nodup->o∈T->sumL ls (wo T o)+lnz ls o=sumL ls T
 |[],_,h=>by cases h
 |x::T,hn,h=>by
  let(n1,n2):=Y0I.S hn;unfold wo;cases c:x=o
  ·rw[Y2F (by simpa using c)];let e:T.filter (λy=>decide<|y≠o)=T:=Y2h.X λy hy=>YY λe=>n1 (by rwa[c,<-e])
   rw[e,<-c];change sumL ls T+lnz ls x=lnz ls x+sumL ls T
   lia
  ·rw[Y2E (by simpa using c)]
   have:=ZA8 (ls:=ls) n2 ((Yf.S h).resolve_left λe=>c e.symm)
   change lnz ls x+sumL ls (wo T o)+lnz ls o=lnz ls x+sumL ls T;lia
def ZA4(hn:T.Nodup)(ho:o∈T)(hp:M.Perm (wo T o++[z])):sumL ls M=sumL ls T-lnz ls o+lnz ls z:=by
 rw[Yz4 hp]
 have:=ZA8 (ls:=ls) hn ho
 let e:sumL ls (wo T o++[z])=sumL ls (wo T o)+lnz ls z:=by unfold sumL;rw[Yn,Yy38];show ZG7 _ _
 lia
section
variable{n:Int}{ps:List (Int×Int)}{ls T:List Int}(g:ZM n ps)
include g
def ZJ9(hT:Zo n ps T)(hW:Zo n ps W)(h:∀z∈T,z∈W):T.Perm W:=by
 have:=ZU1 (l:=W) hT.1.nodup (by have:=hT.2.1;have:=hW.2.1;lia) h
 show this.symm
def Zh12(hT:Zo n ps T)(hg:NoG n ps ls T):∀k W,Zo n ps W->(T.filter λz=>decide (z∉W)).f=k->sumL ls T<=sumL ls W:=by
 intro k
 induction k using Nat.strongRecOn with
 |ind k ih=>
  intro W hW hk;cases c:∀z∈T,z∈W
  ·rw[Yz4 (ZJ9 g hT hW c)];show Y1e _
  ·obtain⟨z,hz⟩:∃z,z∈T/\z∉W:=YK λno=>c λz hz=>YK λhn=>no ⟨z,hz,hn⟩;let(y,h1,h2):=Zo6 g hT hW hz.1 hz.2;let lz:=hg z y h1
   let(M,hM1,hM2):=ZC8 (wo W y++[z]);let tM:=Zz57 g hW h2 hM1 hM2
   let sM:=ZA4 (ls:=ls) hW.1.nodup h2.1 hM1;let yT:y∉T:=((Zi9 g hT).S h1).2.1
   let less:(T.filter λx=>decide<|x∉M).f<k:=by
    rw[<-hk];show Zz26 (l:=z::T.filter λx=>decide<|x∉M) ?_ λx hx=>?_
    ·show Y0I.X {λh=>?_,hT.1.nodup.filter _}
     have:=YS (Ym.S h).2
     show this (hM1.mem_iff.X<|Yy _<|Yy2.X Z)
    ·rcases Yf.S hx with e|e
     ·rw[e];show Ym.X {hz.1,YY hz.2}
     ·let(e1,e2):=Ym.S e;let e2:=YS e2
      show Ym.X {e1,YY λh=>e2<|hM1.mem_iff.X<|YA _<|wo_mem.X {h,λq=>yT<|q▸e1}}
   have:=ih _ less M tM rfl
   lia
def Zl12(hT:Zo n ps T)(h:∀W,Zo n ps W->sumL ls T<=sumL ls W):NoG n ps ls T:=λo z he=>by
 let(M,hM1,hM2):=ZC8 (wo T o++[z]);let tM:=Zz57 g hT he hM1 hM2
 let sM:=ZA4 (ls:=ls) hT.1.nodup he.1 hM1
 have:=h M tM
 lia
def Zh7(hl:ls.f=ps.f):Zo n (cwT n.i ps ls) T↔Zo n ps T/\∀W,Zo n ps W->sumL ls T<=sumL ls W:=by rw[Zz213 g hl];exists λh=>{h.1,λW hW=>Zh12 g h.1 h.2 _ W hW Z},λh=>{h.1,Zl12 g h.1 h.2}
def Zz313(hl:ls.f=ps.f):(∃W,Zo n ps W)↔∃W,Zo n (cwT n.i ps ls) W:=by
 constructor
 ·rintro⟨W,hW⟩;let(L,hL1,hL2):=ZV11 g;let key:∀l:List (List Int),l≠[]->∃m∈l,∀x∈l,sumL ls m<=sumL ls x:=by
   intro l
   induction l with
   |nil=>intro h;show absurd Z h
   |cons x l ih=>
    intro _;cases c:l=[]
    ·rw[c];exists x,D,λy hy=>by rw[Yy2.S hy];show Y1e _
    ·let(m,hm,q):=ih c;cases d:sumL ls m<=sumL ls x
     ·show⟨m,Yd _ hm,λy hy=>by
       rcases Yf.S hy with r|r
       ·rwa[r]
       ·show q y r⟩
     ·show⟨x,D,λy hy=>by
       rcases Yf.S hy with r|r
       ·rw[r];show Y1e _
       ·have:=q y r;lia⟩
  let(m,hm,q):=key L (λe=>by rw[e]at hL1;show absurd ((hL1 W).X hW) D);exists m,(Zh7 g hl).X {(hL1 m).S hm,λV hV=>q V<|(hL1 V).X hV}
 ·rintro⟨W,hW⟩;exists W,((Zh7 g hl).S hW).1
end
def LowF(x y p q:Int):(Prop):=0<q/\Int.gcd p q=1/\p*y=x*q
def Zz77{a b c:Int}(h:a∣b*c)(g:Int.gcd b a=1):a∣c:=by
 let h1:a.natAbs∣b.natAbs*c.natAbs:=by rw[<-Yy22];show Y4e.X h
 let h2:Nat.Coprime a.natAbs b.natAbs:=by unfold Nat.Coprime;rwa[Y2t]
 show Y4e.S (h2.dvd_of_dvd_mul_left h1)
def Zz10(hy:y≠0)(h:LowF x y p q)(h':LowF x y p' q'):p=p'/\q=q':=by
 let(q0,g,e):=h;let(q0',g',e'):=h';let c:p*q'=p'*q:=by show Y3G hy ?_;rw[Yy05,Y0z q' y,<-Yy05,e,Yy05 p',Y0z q y,<-Yy05,e',Yy05,Yy05,Y0z q q']
 let d1:q∣q':=by
  have:q∣p*q':=by rw[c];show Y3u p' q
  show Zz77 this g
 let d2:q'∣q:=by
  have:q'∣p'*q:=by rw[<-c];show Y3u p q'
  show Zz77 this g'
 let eq:q=q':=Int.dvd_antisymm J J d1 d2;exists ?_,eq;rw[eq]at c;show Y3G J c
def ZW8{x y d:Int}(hy:y≠0)(hd:d=if y<0 then -(Int.gcd x y:Int) else (Int.gcd x y:Int)):d≠0/\LowF x y (x.fdiv d) (y.fdiv d):=by
 let gp:0<Int.gcd x y:=Int.gcd_pos_of_ne_zero_right _ hy;let d0:d≠0:=by rw[hd];split<;>lia
 let(u,hu):=Int.gcd_dvd_left (a:=x) (b:=y);let(v,hv):=Int.gcd_dvd_right (a:=x) (b:=y);let cop:Int.gcd u v=1:=by
  let h:=Int.gcd_mul_left (Int.gcd x y:Int) u v;rw[<-hu,<-hv,Yy39]at h
  have:Int.gcd x y*1=Int.gcd x y*Int.gcd u v:=J
  show(Nat.eq_of_mul_eq_mul_left gp this).symm
 cases c:y<0
 ·rw[if_pos c]at hd;let ex:x=d*(-u):=by rwa[hd,Y3F]
  let ey:y=d*(-v):=by rwa[hd,Y3F]
  let fx:x.fdiv d=-u:=by rw[ex];show Y1j _ d0
  let fy:y.fdiv d=-v:=by rw[ey];show Y1j _ d0
  rw[fx,fy];exists d0,?_,by rw[Int.gcd_neg,Int.neg_gcd];show cop,?_
  ·have:(Int.gcd x y:Int)*v<0:=J
   let g0:(0:Int)<(Int.gcd x y:Int):=J
   have:v<0:=Y3M (a:=(Int.gcd x y:Int)) (by rwa[Y0y]) J
   lia
  ·have e1:(-u)*y=(-u)*(d*(-v)):=by rw[<-ey]
   let e2:x*(-v)=d*(-u)*(-v):=by rw[<-ex]
   rw[e1,e2,<-Yy05,Y0z (-u) d]
 ·rw[if_neg c]at hd;let ex:x=d*u:=by rwa[hd]
  let ey:y=d*v:=by rwa[hd]
  let fx:x.fdiv d=u:=by rw[ex];show Y1j _ d0
  let fy:y.fdiv d=v:=by rw[ey];show Y1j _ d0
  rw[fx,fy];exists d0,?_,cop,?_
  ·have:0<(Int.gcd x y:Int)*v:=J
   show Y3M (a:=(Int.gcd x y:Int)) (by rwa[Y0y]) B
  ·have e1:u*y=u*(d*v):=by rw[<-ey]
   let e2:x*v=d*u*v:=by rw[<-ex]
   rw[e1,e2,<-Yy05,Y0z u d]
def ZD6(hW:0<W)(h:LowF x W a b):b<=W/\a.natAbs<=x.natAbs:=by
 let(h1,h2,h3):=h;let d:b∣W:=Zz77 (b:=a) (by rw[h3];show Y3u x b) h2
 let hb:b<=W:=Int.le_of_dvd hW d;exists hb,?_;let e:a.natAbs*W.natAbs=x.natAbs*b.natAbs:=by rw[<-Yy22,h3,Yy22]
 let l:x.natAbs*b.natAbs<=x.natAbs*W.natAbs:=Y2f _ XS;show Nat.le_of_mul_le_mul_right (by rwa[e]) XS
end My
namespace L2
open PySem PySem.Spec PyProof.Rows
section
def isTup_tuple(p:IsTup h a us):h.IsTuple a us:=by let(o,e,c,n,d):=p;exists o,e,c,n,d
def Zn14(hh:A.handled=none)(it l:Addr)(ne:l≠it)(us:Array Value):
  Draws prog w A it [it,l] us.l (λi v=>us[i]?=some v) (λi h=>h.IsTupleIter it l i/\h.IsTuple l us) where
 live:=λ_ _ st=>by let((o,ho,_),_):=st;exists o,ho
 frame:=λ_ _ _ st hk=>by let((o,ho,r),o2,ho2,r2):=st;exists {o,hk it D o ho,r},o2,hk l D o2 ho2,r2
 item:=λi s Q E hi st q=>Zo10 st.1 st.2 (u:=us[i]) (by simp[hi]) λg t1 sb=>q _ g s.toks (by simp[hi]) {t1,st.2.extBut sb.extBut ne} sb
 done:=λs Q E st q=>ZS8 hh st.1 st.2 D q
variable{prog:Program}{w:World}{A:Around}{E:Value->Shared->Prop}{s:Shared}
set_option maxRecDepth 100000 in
def Zm8(l:Addr)(us:Array Value):
  Meets (Builtin.«enumerate.__new__» {[.type "enumerate",.ref l],[]}) (λ_ R s=>s.o.IsTuple l us/\
   R (.ok<|.ret<|.ref (s.o.push {cls:=.type "tuple_iterator",data:=.fields #[.ref l,.int 0 0]}).objs.l)
    {s with heap:=(s.o.push {cls:=.type "tuple_iterator",data:=.fields #[.ref l,.int 0 0]}).push {cls:=.type "enumerate",data:=.fields #[.none,.bool false,.ref (~~~s),rawInt 0,.none,.none]} }):=
 .of_wp λprog w A R s h=>by
  let(hp,g,d,tk,os):=s;let(hl,h):=h;let q0:=sub_enumerate
  let hL:Heap.IsTuple (Shared.o ⟨hp,g,d,tk,os⟩) l us:=hl;let((c,dct,dt,sl),e1,e2,n,e3):=hl;simp only at e2 e3;subst e2 e3
  wp_walk using Y2Q e1
  show wpAny_stack_any λst=>Yi ?_;split
  ·rename_i c _ _ _ _ _;cases (c == Value.type "enumerate")
   all_goals
    wp_walk using Y2Q e1,Y1Z hL
    exists _,Z,h
  ·wp_walk using Y2Q e1,Y1Z hL
   exists _,Z,h
def Zw7{Q:Value->Shared->Prop}(ht:s.o.IsTuple l us)
  (q:∀g,IsEnum g ((~~~s)+1) (~~~s) 0 .none->g.IsTupleIter (~~~s) l 0->g.objs.l=(~~~s)+2->(∀b o,s.o.E b=some o->g.E b=some o)->Q (.ref<|(~~~s)+1) {s with heap:=g}):
  wpAny (model prog w) A (call (.type "enumerate") [.ref l]) Q E s:=by
 show callType_new F.called_enumerate XU (F.typeCall_enumerate_1 _) (F.newCall_enumerate_1 _) (λob=>F.args_object_init_2 ob _) F.entry_enumerate_new (Zm8 l us) {ht,?_};obtain⟨G,hG⟩:∃G,G=s.o.push {cls:=.type "tuple_iterator",data:=.fields #[.ref l,.int 0 0]}:={_,Z};let z:G.objs.l=(~~~s)+1:=by rw[hG];show Y1f ..
 change _/\_;rw[<-hG,z];let e1:=Yo G (o:={cls:=.type "enumerate",data:=.fields #[.none,.bool false,.ref (~~~s),rawInt 0,.none,.none]}) rfl
 rw[z]at e1;let i1:G.IsTupleIter (~~~s) l 0:=by rw[hG];exists _,Yo _ Z,Z,Z
 let(o1,i2,i3):=i1;exists {_,e1,Z},q _ e1 {o1,Yy6 _ i2,i3} (by rw[Y1f,z]) λb o x=>Yy6 _<|by rw[hG];show Yy6 _ x
end
def IteT(K:PySem.W.Q)(a:Addr):(It):=
 {λi H=>∃xs x,SqT K H a xs/\xs[i]?=some x,λi H v H'=>∃T x,H T=none/\v=.ref T/\H'=upd H T (.tup [.int i,x])/\∀xs,SqT K H a xs->xs[i]?=some x,λi H=>∃xs,SqT K H a xs/\xs.f<=i}
def ZY5{P:Program}{w:World}{K:PySem.W.Q}{elts:List Expr}{x1:Nat}{pos:Pos}(a e it:Addr)(hne:e≠it)(hae:a≠e)(hai:a≠it):Turn P w K (.Tuple elts x1 pos) (IteT K a) [e,it] e (λi h=>(∃old,IsEnum h e it i old)/\h.IsTupleIter it a i) where
 mem:=D
 obj:=λi h st b hb=>by
  let((old,he),o,eo,c,d):=st;rcases Yf.S hb with z|hb
  ·subst z;exists _,he,λv z=>by let z':Data.fields _=Data.cell v:=z;cases z'
  ·have z:b=it:=by simpa using hb
   subst z;exists o,eo,λv z=>by rw[d]at z;cases z
 keep:=λi h h' st k=>by let((old,he),o,ho,r):=st;exists {old,k e D _ he},o,k it D o ho,r
 item:=by
  intro X hP hw hK hc i pins s σ H E I hf st hg;subst hP hw hK;let(xs,x,hq,hx):=hg;let((old,he),hit):=st;let(its,rv,p,hz):=I.tuple hq;let(u,hu,ru):=rv.get hx;let(f0,f1,f2,f3,f4,f5):=hf e D;let(g0,g1,g2,g3,g4,g5):=hf it D;let hT0:H (~~~s)=none:=I.hok.fresh (Yy8 _)
  let hlt:i<its.t.l:=by simpa using (Yy1.mp hu).1
  let pT:s.o.IsTuple a its.t:=isTup_tuple p;show wpAny_pyNext_enum_itemD (Zn14 (A:=X.A.in1) (by simpa using I.ok.hd hc) it a hai its.t) he ⟨hit,pT⟩ hlt hne (by simp[hne,Y0f hae]) λx' h' tk hx' ho st' hT hsz hk=>?_;let ex':x'=u:=by
   let e1:its.t[i]?=some u:=by simpa using hu
   let e2:its.t[i]?=some x':=hx';rw[e1]at e2;show(Yl e2).symm
  subst ex';let ltT:∀b ob,s.o.E b=some ob->b≠(~~~s):=λb ob z=>Yt (Yg z)
  let ltH:∀b ob,H b=some ob->b≠(~~~s):=λb ob z=>Yt (I.hok.lt z);let nof:∀b ob,H b=some ob->b≠e/\b≠it:=λb ob z=>{λq=>(by rw[q,f0]at z;cases z),λq=>(by rw[q,g0]at z;cases z)}
  let I1:Inv X pins σ (upd H (~~~s)<|.tup [.int i,x]) {s with heap:=h',toks:=tk+1}:=by
   show I.step (g':=s.gens) (d':=s.drawn) (ch:=[e,it]) (λb hb=>?_) (λb o _ _ hcx z _=>hk b o (λq=>hcx<|by simp[q]) (λq=>hcx<|by simp[q]) z) (λb o _ _ hcx z _=>{o.slots,hk b o (λq=>hcx<|by simp[q]) (λq=>hcx<|by simp[q]) z})
    (λb o _ z n=>by rwa[Ze (ltT b o z)]) (λb o hcx z=>{o,hk b o (λq=>hcx<|by simp[q]) (λq=>hcx<|by simp[q]) z}) (λb ys z=>by rwa[Ze (ltH b _ z)]) (λb o v z=>by rwa[Ze (ltH b _ z)])
    (λb ps z=>{#[],by rw[Ze (ltH b _ z),z];simp}) (λm hm=>?_) (λb v z=>?_) I.bare
   ·rcases Yf.S hb with q|hb
    ·rw[q];exists f3,f1,f4,f5
    ·have q:b=it:=by simpa using hb
     rw[q];exists g3,g1,g4,g5
   ·let(o,es,ep,ho',r):=hm;exists o,es,ep,hk _ o (Y0f f1) (Y0f g1) ho',r
   ·by_cases hb:b=(~~~s)
    ·subst hb;rw[Zz1]at z;cases z;exists by change 2<=sizeLine;decide,[.int i tk,x'],.cons {_,Z}<|.cons ru .nil,{_,hT,Z,_,Z}
    ·rw[Ze hb]at z;show(I.hok b v z).stay (λc w' hc' q=>?_) (λc q=>by rwa[Ze (ltH c _ q)]) λc ys q=>by rwa[Ze (ltH c _ q)]
     rcases hc' with rfl|hc'
     ·show hk c w' (nof c _ z).1 (nof c _ z).2 q
     ·show hk c w' (nof c _ hc').1 (nof c _ hc').2 q
  exists _,Z,wpAny_letOwnedTupleGo_enum ho λh2 he2 hs2=>?_;let fT:e≠(~~~s):=ltT e _ he
  let I2:Inv X pins σ (upd H (~~~s)<|.tup [.int i,x]) {s with heap:=h2,toks:=tk+1}:=Inv.turned (s:={s with heap:=h',toks:=tk+1}) (h':=h2) (t':=tk+1) (it:=e) I1 (λb o hb z=>hs2.extBut b o hb z) (by rwa[Ze fT]) f1 f3 f4 f5;exists .ref (~~~s),_,I2,Z,{_,x,hT0,Z,Z,λys hy=>by rwa[I.tuple_inj hy hq]},{{x',by simpa using he2},st'.1.extBut hs2.extBut<|Y0f hne},λb hb=>?_;rcases Yf.S hb with q|hb
  ·rwa[q,Ze fT]
  ·have q:b=it:=by simpa using hb
   let(o,eo,_):=hit;rwa[q,Ze (ltT it o eo)]
 done:=by
  intro X hP hw hK hc i pins s σ H E I hf st hg;subst hP hw hK;let(xs,hq,hx):=hg;let((old,he),hit):=st;let(its,rv,p,hz):=I.tuple hq;let(g0,g1,g2,g3,g4,g5):=hf it D;let hl:=rv.f
  let hT:s.TypeIs ↑e "enumerate":={_,he,Z};unfold pyNext;show Yy4 (Y2x<|Y0L (name:=Str.U "__next__") hT F.slot_enumerate_next<|Y0B F.slot_enumerate_next hT F.entry_enumerate_next ?_<|F.args_enumerate_next_1 _);change wpAny _ _ (field ↑e 2 >>= _) _ _ _
  show Yy4 (Y3y he Z (x:=.ref it) Z<|Yy4<|ZS8 (by simpa using I.ok.hd hc) hit (isTup_tuple p) (by simp;lia) λh' x he' ⟨o,ho,hcl⟩=>Yy4<|Yy34 (T:="StopIteration") (b:=true) ⟨o,ho,hcl⟩ isSubtype_stop<|Yi ?_);exists Z,I.turned (t':=s.toks) (it:=it) (λb o hb z=>he' b o hb z) g0 g1 g3 g4 g5
 self:=λ_ _ _ _ _ st h=>by let((_,he),_):=st;show Y2c he h
def IteQ(kd:Bool)(K:PySem.W.Q)(a:Addr):(It):=match kd with
 |false=>Ite K a
 |true=>IteT K a
def Zk14(K:PySem.W.Q)(ta:TA):(TI):=λσ H R=>ta σ H λvs H1=>∃a kd,vs=[.ref a]/\(∃xs,My.SqK kd K H1 a xs)/\R (IteQ kd K a) H1
section
variable{X:Cx}
def Zg10(K:PySem.W.Q){elts:List Expr}{x1:Nat}{tpos:Pos}{a:Expr}{ta:TA}{p pos:Pos}(hg:Gl X "enumerate")(hm:X.mg "enumerate"=none)(ha:PA X [a] ta)(hs:starEach [a] X.M=[(false,eval a X.M)]:=by rfl)(hk:X.K=K:=by rfl):
  PI X (.Tuple elts x1 tpos) (.Call (.Name "enumerate" p) [a] [] pos) (Zk14 K ta):=by
 subst hk;intro pins s σ H R I h;show Call_ (Zz82 I hg hm Boot.«enumerate»<|Y0b (thn (ha pos pins s σ H _ I h) λus s1 hz0=>?_) hs Z);let(vs,H1,I1,r1,q1):=hz0;let(b,kd,e,(xs,hq),q):=q1;subst e;let(u,rfl,ru):=ZK2 r1;let rfl:u=Value.ref b:=ru;let nn:∀k,(~~~s1)<=k->H1 k=none:=λk hk=>I1.hok.fresh hk
 let fin:∀c∈[(~~~s1)+1,(~~~s1)],(~~~s1)<=c:=λc hc=>by
  rcases Yf.S hc with q|hc
  ·rw[q];show Yy15 _
  ·have q:c=(~~~s1):=by simpa using hc
   rw[q];show Yy8 _
 cases kd with
 |false=>
  let(its,rv,pl,hz):=I1.list hq;show call_enumerate_list pl.isList λh' he hit hsz hk=>?_;let I2:Inv X pins σ H1 {s1 with heap:=h'}:=I1.kept (t':=s1.toks) hk
  show Y2c he {(~~~s1)+1,[(~~~s1)+1,(~~~s1)],_,_,H1,Z,I2,Zw4 b _ _<|Y3l _,⟨⟨_,he⟩,hit⟩,λc hc=>?_,q};show I1.fpOk (fin c hc) (nn c<|fin c hc)
 |true=>
  let(its,rv,pl,hz):=I1.tuple hq;let pT:s1.o.IsTuple b its.t:=isTup_tuple pl
  let ltb:b<(~~~s1):=by let(_,e,_):=pT;show Yg e
  show Zw7 pT λh' he hit hsz hk=>?_;let I2:Inv X pins σ H1 {s1 with heap:=h'}:=I1.kept (t':=s1.toks) hk
  show Y2c he {(~~~s1)+1,[(~~~s1)+1,(~~~s1)],_,_,H1,Z,I2,ZY5 b _ _ (Y3l _) (Yt<|Yy14 ltb)<|Yt ltb,⟨⟨_,he⟩,hit⟩,λc hc=>?_,q};show I1.fpOk (fin c hc) (nn c<|fin c hc)
end
section
variable{prog:Program}{w:World}{A:Around}{E:Value->Shared->Prop}{s:Shared}
def ZM7{h0:Heap}{Q:Value->Shared->Prop}(hh:A.handled=none)(hb0:h0.E b=some (ZQ1 w))(hl:h0.IsTuple l items)(hne:l≠b)(hi:IntsAre items.j ns)(hn:items.l+1<scanBound)
  (k:∀h' tk,SetR prog w h' b (!w.params.followText "set-order") (λz=>(firstMet (λi=>ns.getD i 0) items.l).any (· == z)) (firstMet (λi=>ns.getD i 0) items.l).f->(∀c o,c≠b->h0.E c=some o->h'.E c=some o)->Q .none {s with heap:=h',toks:=tk}):
  wpAny (model prog w) A.in1 (Builtin.«set.__init__» {[.ref b,.ref l],[]}) (λfin s'=>match fin with | .done f=>wants Q E (.ok f) s' | .again c'=>c'.quiet=true/\codeAny (model prog w) A c' (wants Q E) s') (λe s'=>wants Q E (.error e) s') {s with heap:=h0}:=by
 let hT:Shared.TypeIs {s with heap:=h0} ↑b "set":={_,hb0,Z};let hl0:=hl
 let((ocls,odict,odata,oslots),hol,hcl,nl,hdl):=hl;simp only at hcl hdl;subst hcl hdl;let q1:=F.sub_tuple_set
 let q2:=F.sub_tuple_frozenset;let q3:(Value.type "tuple" == Value.type "dict")=false:=XU
 unfold ZQ1 at hb0;unfold Builtin.«set.__init__» noKeywords Builtin.Frozenset.updateFrom;generalize hPI:pyIter=PI
 wp_walk
 subst hPI;show Y1Z hl0 ?_;show Yy4 (Y3i ?_);let ltl:l<h0.objs.l:=Yg hol
 let ltb:b<h0.objs.l:=Yg hb0;let bf:b∉[h0.objs.l,l]:=λq=>by
  rcases Yf.S q with e|e
  ·show Yt ltb e
  ·show hne (Yy2.S e).symm
 show Zz84 ((Walks.tuple (A:=A.in1.in1) (by simp[hh]) _ l (Yt ltl) items).toS) b bf (led:=!w.params.followText "set-order") (λi=>ns.getD i 0) (λi v hv=>Y4d hi i v<|by rw[YJ];show hv) hn (items.l-0) 0 _ J (Yk _)
  {{_,Yo _ Z,Z,Z},hl0.push _} ?_ ?_
 ·show ZG4 (Yy6 _ hb0)
 ·rintro⟨h',g',d',tk',os'⟩ m hS;let e1:g'=s.gens:=m.gens
  let e2:d'=s.drawn:=m.drawn;let e3:os'=s.os:=m.os
  subst e1 e2 e3;change wpAny _ _ _ _ _ _
  show Yi ?_;change wpAny _ _ (ret Value.none) _ _ _
  show Yi (k h' tk' hS λc o hc e=>m.o c o (λq=>?_)<|Yy6 _ e);rcases Yf.S q with e'|e'
  ·show hc e'
  ·show Yt (Yg e) (Yy2.S e')
set_option maxRecDepth 100000 in
set_option maxHeartbeats 3000000 in
def ZW9{Q:Value->Shared->Prop}(hh:A.handled=none)(hl:s.o.IsTuple l items)(hi:IntsAre items.j ns)(hn:items.l+1<scanBound)
  (k:∀h' tk,SetR prog w h' (~~~s) (!w.params.followText "set-order") (λz=>(firstMet (λi=>ns.getD i 0) items.l).any (· == z)) (firstMet (λi=>ns.getD i 0) items.l).f->(∀c o,s.o.E c=some o->h'.E c=some o)->Q (.ref (~~~s)) {s with heap:=h',toks:=tk}):
  wpAny (model prog w) A (call (.type "set") [.ref l]) Q E s:=by
 let(c,tl,hmro):=Y0C.mro;let a1:=Y0C.made
 let a2:=Y0C.sub;let a3:=Y0C.notType
 let a4:=Y0C.canCreate;let a5:=F.typeCall_set_1 ↑l
 show Yy40 (codeAny_of_tree ?_);change wpAny _ _ (callAny (.type "set") _) _ _ _
 show Yi {Yy23 _ XT,Yy13 F.entry_type_call ?_};rw[Around.under_plain (weight_type_call_type "set" [.ref l] []) Z]
 repeat any_goals first|assumption|wp_step
 show Y1v (ZT8 ↑l (E:=E) (Q:=λob s1=>ob=.ref (~~~s)/\s1={s with heap:=s.o.push (ZQ1 w)}) ⟨Z,Z⟩) λr s1 hr=>?_
 match r,hr with
 | .error e,hr=>show hr
 | .ok (.ret ob),hr=>
  let(rfl,rfl):=hr;let hb0:(s.o.push<|ZQ1 w).E (~~~s)=some (ZQ1 w):=Yo _ rfl
  let hT:Shared.TypeIs {s with heap:=s.o.push (ZQ1 w)} (.ref (~~~s)) "set":={_,hb0,Z};let a6:=Y0C.init.R
  let a7:=Y0C.init.bind (.ref (~~~s))
  repeat any_goals first|assumption|wp_step
  let ltl:l<(~~~s):=by let(_,e,_):=hl;show Yg e
  show Y1v (Y2l (R:=wants (λr s2=>r=.none/\Q (.ref (~~~s)) s2) E) Y0C.init.plain F.entry_set_init<|check_set_init_1 hT<|ZM7 (A:=_) (s:=s) ?_ hb0 (hl.push _) (Yt ltl) hi hn λh' tk hS kp=>{Z,k h' tk hS λc o e=>kp c o (Yt<|Yg e)<|Yy6 _ e}) λr2 s2 hr2=>?_
  ·simp[hh]
  ·match r2,hr2 with
   | .error e,hr2=>show hr2
   | .ok (.ret v),hr2=>
    let(rfl,q):=hr2
    repeat any_goals first|assumption|wp_step
def ZX9{Q:Value->Shared->Prop}(hh:A.handled=none)(hl:s.o.IsList l items\/s.o.IsTuple l items)(hi:IntsAre items.j ns)(hn:items.l+1<scanBound)
  (k:∀h' tk,SetR prog w h' (~~~s) (!w.params.followText "set-order") (λz=>(firstMet (λi=>ns.getD i 0) items.l).any (· == z)) (firstMet (λi=>ns.getD i 0) items.l).f->(∀c o,s.o.E c=some o->h'.E c=some o)->Q (.ref (~~~s)) {s with heap:=h',toks:=tk}):
  wpAny (model prog w) A (call (.type "set") [.ref l]) Q E s:=by
 rcases hl with h|h
 ·show ZH8 hh h hi hn k
 ·show ZW9 hh h hi hn k
end
section
variable{X:Cx}{p p2 pos pos2:Pos}{e:Expr}{t:TA}
def ZA5(K:PySem.W.Q)(t:TA):(TE):=λσ H Q=>t σ H λvs H1=>∃(kd:Bool)(a:Addr)(ns:List Int),vs=[.ref a]/\My.SqK kd K H1 a (ns.L V.int)/\ns.f<64/\∀ms:List Int,ms.C (·<·)->(∀z,z∈ms↔z∈ns)->∀l,H1 l=none->Q ↑l (upd H1 l<|.lst<|ms.L V.int)
def Zq3(K:PySem.W.Q)(hc:X.calm=true)(g1:Gl X "sorted")(m1:X.mg "sorted"=none)(g2:Gl X "set")(m2:X.mg "set"=none)(ha:PA X [e] t)(hk:X.K=K:=by rfl)
  (he:starEach [e] X.M=[(false,eval e X.M)]:=by rfl)
  (he2:starEach [.Call (.Name "set" p2) [e] [] pos2] X.M=[(false,eval (.Call (.Name "set" p2) [e] [] pos2) X.M)]:=by rfl):
  PE X (.Call (.Name "sorted" p) [.Call (.Name "set" p2) [e] [] pos2] [] pos) (ZA5 K t):=by
 subst hk;intro pins s σ H Q I h;show Y0O (Zz82 I g1 m1 Boot.«sorted» ?_);show Y1U ?_ (by rw[he2];rfl) rfl;rw[he2];change wpAny _ _ (spliced<|(false,eval (.Call (.Name "set" p2) [e] [] pos2) X.M)::backTo pos []) _ _ s
 show Y3H ?_;show Y0O (Zz82 I g2 m2 Boot.«set» ?_);show Y0b (thn (ha pos2 pins s σ H _ I h) λus s1 zz=>?_) (by rw[he];rfl) rfl;let(vs,H1,I1,r1,q1):=zz;let(kd,a,ns,rfl,hq,hn,q):=q1;let(u,rfl,ru):=ZK2 r1;let rfl:u=Value.ref a:=ru;obtain⟨its,rv,pl,hz⟩:∃its:List Value,Vals (ns.L V.int) its/\(s1.o.IsList a its.t\/s1.o.IsTuple a its.t)/\(ns.L V.int).f<=sizeLine:=by
  cases kd with
  |false=>
   let(its,rv,pl,hz):=I1.list hq;exists its,rv,.inl pl.isList,hz
  |true=>
   let(its,rv,pl,hz):=I1.tuple hq;exists its,rv,.inr<|isTup_tuple pl,hz
 let hi:=ZI rv;let el:its.t.l=ns.f:=by rw[Ya,<-rv.f,Yy7]
 let sb:scanBound=4096:=rfl;show ZX9 (I.ok.hd hc) pl (ns:=ns) (by simpa using hi) J λh2 tk hS kp=>?_;show Y3X ?_;let fl:=firstMet_length_le (λi=>ns.getD i 0) its.t.l
 show Zj3 (led:=true) (s:={s1 with heap:=h2,toks:=tk}) (I.ok.hd hc) hS J λms out r h3 tk3 d c hI hs hl hmem hge hr kp3=>?_;let em:∀z,z∈ms↔z∈ns:=λz=>by
  rw[hmem,firstMet_any,el];let e1:(List.range ns.f).L (λi=>ns.getD i 0)=ns:=by
   show Yy08 λi=>?_;rw[Yc];cases c:i<ns.f
   ·rw[Y0v c,Yy0 c,Y1O,Yy5,Yy0 c];rfl
   ·rw[YE (by rw[YU];lia),YE B];rfl
  rw[e1];simp
 let hnd:ms.Nodup:=(ZU1 (Zc1 _ _) hl λx hx=>(hmem x).X (Y1H.X ⟨x,hx,D⟩)).nodup_iff.X (Zc1 _ _);let hlt:(~~~s1)<=h2.objs.l:=by let(_,_,_,_,e,_):=hS;show Y1x (Yg e)
 let hge2:(~~~s1)<=r:=Yv hlt hge;let hml:ms.f<=ns.f:=by rwa[hl,<-el]
 let I2:=(I1.laid (o:=.lst<|ms.L V.int) (h':=h3) (t':=tk3) (λb o e=>kp3 b o<|kp b o e) hge2 ⟨by rw[Yy7];have:sizeLine=16777216:=Y1l;lia,out,c,Zj1 hI,hr⟩).drew d;exists .ref r,_,I2,Z,q ms (My.srt_strict hs hnd) em r<|I1.hok.fresh hge2
end
end L2
namespace My
open PySem L2
section
variable{K:PySem.W.Q}{kd:Bool}{a:Addr}{xs:List V}{g:TG}{tt:TT}{te:TE}{o:Nat}{fr:List Nat}{σ:St}{H:Hp}{Q:VK}
def ZG10(Pv:Nat->List V->Hp->Prop)(h0:Pv 0 [] H)(hz:xs.f<sizeLine)(hl:∀i ys H,i<=xs.f->Pv i ys H->SqK kd K H a xs/\ys.f<=i)
  (hs:∀(i:Nat) x ys H (p:Addr),H p=none->xs[i]?=some x->Pv i ys H->Zm4 Pv g tt te o fr σ i ↑p ys (upd H p<|.tup [.int i,x]))(hd:∀ys H,Pv xs.f ys H->∀p,H p=none->Q ↑p (upd H p<|.lst ys)):LcR (IteQ kd K a) g tt te o fr σ H Q:=by
 cases kd with
 |false=>show ZJ6 Pv h0 hz hl hs hd
 |true=>
  exists λi m ys H=>m=xs.f-i/\i<=xs.f/\Pv i ys H,{xs.f,D,Yk _,h0},?_;rintro i m ys H ⟨rfl,hi,p⟩;let(q,hy):=hl i ys H hi p;let q:SqT K H a xs:=q
  cases hlt:i<xs.f
  ·show .inr {{xs,xs[i],q,by simp[hlt]},J,λx H' zz=>?_};let(T,y,hT,ex,eH,hyy):=zz;subst ex eH;show hs i y ys H T hT (hyy xs q) p (λj ys H=>∃m',m'<xs.f-i/\m'=xs.f-j/\j<=xs.f/\Pv j ys H) λys H p'=>{xs.f-(i+1),J,Z,hlt,p'}
  ·have e:i=xs.f:=J;subst e;show .inl {{xs,q,Yy8 _},J,hd ys H p}
end
end My
namespace HT
open PySem PyProof.Rows
section
variable{A:Around}{s:Shared}
def eqAt_ints(hl:IsTup s.o l xs)(hb:IsTup s.o b ys)(hi:IntsAre xs.j ns)(hj:IntsAre ys.j ms)(hu:A.units<cLine):SeqAt.EqAt A s ↑l ↑b (decide (ns=ms)):=by
 let z1:xs.l=ns.f:=by rw[<-hi.f];simp
 let z2:ys.l=ms.f:=by rw[<-hj.f];simp
 cases hab:l=b
 ·subst hab;let(o1,e1,_,n1,d1):=hl;let(o2,e2,_,n2,d2):=hb;rw[e1]at e2;cases e2;rw[d1]at d2;cases d2;let en:ns=ms:=L2.ints_uniq hi hj
  rw[YY en];show Y3c _
 ·have k:=SeqAt.RcAt.tuples (A:=A) (s:=s) (e:=λj=>ns.getD j 0 == ms.getD j 0) (L2.isTup_tuple hl) (L2.isTup_tuple hb) hu λj h1 h2=>by let(t,ea):=Y4d hi j xs[j] (by simp[h1]);let(u,ec):=Y4d hj j ys[j] (by simp[h2]);rw[ea,ec];show Y3z _ _ _ _
  let e:((List.range<|min xs.l ys.l).all (λj=>ns.getD j 0 == ms.getD j 0)&&xs.l == ys.l)=decide (ns=ms):=by
   rw[z1,z2,Y0V,Yy10,Y0x,YQ];constructor
   ·rintro⟨q1,q2⟩;let q2:ns.f=ms.f:=by simpa using q2
    show Yy08 λj=>?_;cases c:j<ns.f
    ·have:=q1 j (YO.X J)
     rw[Yy5,Yy5,Yy0 c,Yy0 J]at this
     have:=eq_of_beq this
     rw[Yy0 c,Yy0 B];show YI some this
    ·rw[YE J,YE J]
   ·rintro rfl;exists λj _=>D,D
  rw[e]at k;show Y2J hab k
def ltP(x y:Int×List Int):(Bool):=decide (x.1<y.1)||(decide (x.1=y.1)&&lexLt x.2 y.2)
end
def ltP_irrefl(x:Int×List Int):ltP x x=false:=by
 change(decide (x.1<x.1)||(decide (x.1=x.1)&&lexLt x.2 x.2))=false
 rw[My.lex_irrefl];simp
def ltP_iff:ltP x y=true↔x.1<y.1\/(x.1=y.1/\lexLt x.2 y.2=true):=by unfold ltP;simp
def ltP_trans(h1:ltP x y=true)(h2:ltP y z=true):ltP x z=true:=by
 rw[ltP_iff]at h1 h2 ⊢;rcases h1 with a|⟨a,b⟩
 ·rcases h2 with c|⟨c,d⟩
  ·show .inl B
  ·show .inl J
 ·rcases h2 with c|⟨c,d⟩
  ·show .inl J
  ·show .inr {J,My.lex_trans b d}
end HT
namespace L2
open PySem PySem.Spec PyProof.Rows
section
def ZD7(r:Vals (x::xs) us):∃u vs,us=u::vs/\RelV x u/\Vals xs vs:=by
 cases r with
 |cons a b=>exists _,_,Z,a,b
end
end L2
namespace My
open PySem L2
section
variable{one d0 d1:Int}{other:Option Int}
def hdD(one:Int)(other:Option Int)(d0 d1 y:Int):(Int):=if y=one then d0 else if some y=other then d1 else y
end
end My
namespace L2
open PySem PySem.Spec PyProof.Rows
def TL(l:List Str):(List V):=l.L V.str
def Ze3:∀{l:List Str}{us:List Value},Vals (TL l) us->∃k:List (Str×Tok),us=strValues k/\k.L (λx=>x.fst)=l
 |[],_,.nil=>{[],Z,Z}
 |x::l,_,.cons r t=>by let(tk,rfl):=r;let(k,rfl,h):=Ze3 (l:=l) t;exists (x,tk)::k,Z,by rw[Yy01,h]
section
variable{X:Cx}
def ZV14(K:PySem.W.Q):(V->List V->Hp->VK->Prop):=λx vs H Q=>∃sep a l,x=.str sep/\vs=[.ref a]/\SqL K H a (TL l)/\JoinOk sep l=true/\Q (.str<|sep.join l) H
def Zv6(K:PySem.W.Q)(h:X.K=K:=by rfl):MtM X "str.join" (ZV14 K):=by subst h;intro pins s σ H x vs v us Q I rx rv h;let(sep,a,l,rfl,rfl,hq,hj,q):=h;let(tk,rfl):=rx;let(u,rfl,ru):=rv.one;cases ru;let(its,r,pl,hz):=I.list hq;let(k,rfl,hk):=Ze3 r;show PySem.SC.join pl.isList hk hj λt' n=>{.str _,H,I.tok n,⟨t',Z⟩,?_};rwa[show Txt.join sep l=sep.join l from PySem.StrLaws.glued_eq_join sep l]
def PJe(X:Cx)(es:List Expr)(t:St->Hp->Str->(Str->Hp->Prop)->Prop):(Prop):=∀n pins s σ H acc Q,acc.f<=4000*n->n+es.f<=100->Inv X pins σ H s->t σ H acc Q->
 wpAny (model X.prog X.w) X.A (joinParts acc<|evalEach es X.M) (λv s'=>∃x tk H',v=Value.str x tk/\Inv X pins σ H' s'/\Q x H') X.xe s
variable{es:List Expr}{e:Expr}{te:TE}{t:St->Hp->Str->(Str->Hp->Prop)->Prop}{pos:Pos}
def ZL8:PJe X [] (λ_ H acc Q=>Q acc H):=λn pins s σ H acc Q ha hn I h=>by show joinParts_nil {acc,_,H,Z,I.tok _,h} (Yv ha<|Yv (Y2f _ ?_) Zb14);simpa using hn
def Zk6{x:Str}{j:Nat}{p:Pos}(hr:PJe X es t)(hz:x.f<=4000:=by decide +kernel):PJe X (.Constant (.str x) j p::es) (λσ H acc Q=>t σ H (acc++x) Q):=λn pins s σ H acc Q ha hn I h=>by
 let hl:(acc++x).f=acc.f+x.f:=Yy12 ..;rw[Yu]at hn;let hb:(acc++x).f<=4000*(n+1):=by rw[hl];lia
 show joinParts_cons (Calls.Constant_str {Yv hb<|Yv (Y2f _ J) Zb14,?_});show hr (n+1) pins _ σ H _ Q hb J (I.tok _) h
def Zz815(te:TE)(t:St->Hp->Str->(Str->Hp->Prop)->Prop):(St->Hp->Str->(Str->Hp->Prop)->Prop):=λσ H acc Q=>te σ H λv H1=>∃a:Int,v=.int a/\-(10^70)<a/\a<10^70/\t σ H1 (acc++Str.U (toString a)) Q
def ZM8(he:PE X e te)(hr:PJe X es t):PJe X (.FormattedValue e (-1) none p::es) (Zz815 te t):=λn pins s σ H acc Q ha hn I h=>by
 rw[Yu]at hn;show joinParts_cons (FormattedValue_plain<|thn (he pins s σ H _ I h) λu s1 hz0=>?_);let(v,H1,I1,r,a,ev,a1,a2,q):=hz0;subst ev;let(tk,rfl):=r;let hlog:=ZQ4 a1 a2
 let hlen:(Str.U<|toString a).f<=4000:=by let z:=int_text_length_le (k:=1920) XU hlog;rw[PySem.ofString_length];lia
 show formatField_int_small hlog ?_;let hl:(acc++Str.U (toString a)).f=acc.f+(Str.U<|toString a).f:=Yy12 ..
 let hb:(acc++Str.U (toString a)).f<=4000*(n+1):=by rw[hl];lia
 exists Yv hb<|Yv (Y2f _ J) Zb14,?_;show hr (n+1) pins _ σ H1 _ Q hb J (I1.tok _) q
def ZC13(t:St->Hp->Str->(Str->Hp->Prop)->Prop):(TE):=λσ H Q=>t σ H Str.empty λx H'=>Q (.str x) H'
def Zm6{v₁ v₂:Expr}{rest:List Expr}(h:PJe X (v₁::v₂::rest) t)(hn:(v₁::v₂::rest).f<=100:=by decide):PE X (.JoinedStr (v₁::v₂::rest) pos) (ZC13 t):=λpins s σ H Q I hq=>
 JoinedStr_many (thn (h 0 pins s σ H Str.empty _ XU (by simpa using hn) I hq) λu s1 ⟨x,tk,H1,eu,I1,q⟩=>by subst eu;exists .str x,H1,I1,⟨tk,Z⟩,q)
def ZT:Zz02 X (.type "str") (λxs H Q=>∃i:Int,xs=[.int i]/\-(10^70)<i/\i<10^70/\Q (.str (Str.U (toString i))) H):=by intro pins s σ H xs us Q I r h;let(i,rfl,h1,h2,q):=h;show Zg4 pins s σ H _ us Q I r {i,Z,ZQ4 h1 h2,q}
end
end L2
namespace My
open PySem L2
def nT(i:Int):(Str):=Str.U (toString i)
def dg(m:Nat):(List Nat):=(Nat.toDigits 10 m).L Char.i
def sgT(i:Int):(List Nat):=if i<0 then 45::dg i.natAbs else dg i.natAbs
def Zj12(i:Int):(nT i).cps.j=sgT i:=by
 unfold nT sgT;cases i with
 |ofNat m=>
  rw[if_neg (show ¬Int.ofNat m<0 from Y3r.X<|Y2o m)];show W.KIN.signs_num m
 |negSucc m=>
  rw[if_pos (Int.negSucc_lt_zero m)];let e:(Str.U<|toString ((m+1:Nat):Int)).cps.j=dg (m+1):=W.KIN.signs_num (m+1)
  rw[Str.ofString_eq_toList]at e ⊢;let e2:(toString<|Int.negSucc m).j='-'::(toString ((m+1:Nat):Int)).j:=by change("-"++toString (m+1)).j='-'::(toString<|m+1).j;rw[String.toList_append];rfl
  rw[e2,Yy01];change 45::List.L Char.i _=45::dg (m+1)
  rw[<-e]
def Zr14{m k:Nat}(hk:1<=k)(h:m<10^k):(dg m).f<=k:=by unfold dg;rw[Yy7];show toDigits_len_pow XU hk h
def Zz36(x:Str):x.f=x.cps.j.f:=by change x.cps.l=_;rw[YD]
def ZJ13{k:Nat}(hk:1<=k)(h1:-(10^k)<i)(h2:i<10^k):(sgT i).f<=k+1:=by
 let e:((10^k:Nat):Int)=(10:Int)^k:=by rw[Int.natCast_pow];rfl
 rw[<-e]at h1 h2
 have:=Zr14 hk (m:=i.natAbs) XS
 unfold sgT;split
 ·rw[Yu];lia
 ·lia
def Zu1{k:Nat}(hk:1<=k)(h1:-(10^k)<i)(h2:i<10^k):(nT i).f<=k+1:=by rw[Zz36,Zj12];show ZJ13 hk h1 h2
def figs(cs:List Nat):(List Nat):=if cs.head?=some 45 then cs.tail else cs
def Zj14(cs:List Nat):(Bool):=decide (1<=(figs cs).f/\(figs cs).f<=60/\(∀c∈figs cs,48<=c/\c<=57)/\(cs=[48]\/(figs cs).head?≠some 48))
def jn(c:Nat):(List (List Nat)->List Nat)
 |[]=>[]
 |[a]=>a
 |a::b::l=>a++c::jn c (b::l)
def Zz39(c:Nat):∀l:List Str,(Str.join {#[c]} l).cps.j=jn c (l.L λx=>x.cps.j)
 |[]=>rfl
 |[a]=>rfl
 |a::b::l=>by
  let ih:=Zz39 c (b::l);change((a++{#[c]}++Str.join {#[c]} (b::l)):Str).cps.j=a.cps.j++c::jn c ((b::l).L λx=>x.cps.j)
  rw[<-ih,Str.cps_append,Str.cps_append,Yy02,Yy02,Yw];rfl
def Zx7:(Str):=Str.U " "
def Zk4:Zx7={#[32]}:=by rfl
def ZA12{c XX:Nat}:∀{A:List (List Nat)},(∀a∈A,a.f<=XX)->(jn c A).f<=A.f*(XX+1)
 |[],_=>Yk _
 |[a],h=>by
  have:=h a Ye
  change a.f<=1*(XX+1);lia
 |a::b::A,h=>by
  let h1:=h a Ye;let ih:=ZA12 (c:=c) (A:=b::A) λx hx=>h x (Yd _ hx)
  change(a++c::jn c (b::A)).f<=_;rw[Yy3,Yu,Yu,Nat.add_mul];lia
def ZK10{c XX:Nat}{l:List Str}(h:∀a∈l,a.f<=XX):(Str.join {#[c]} l).f<=l.f*(XX+1):=by rw[Zz36,Zz39];show Yv (ZA12 (XX:=XX) λa ha=>?_) (by rw[Yy7];show Yy8 _);let(p,hp,rfl):=Yx.S ha;rw[<-Zz36];show h p hp
def Zz29{c XX:Nat}{l:List Str}(h:∀a∈l,a.f<=XX)(hl:l.f*XX+l.f<=16777216):JoinOk {#[c]} l=true:=by unfold JoinOk;rw[StrLaws.joinFits h (by change l.f*XX+l.f*1<=_;lia)];rfl
def Told(l:List Int):(Prop):=∀z∈l,-(10^60)<z/\z<(10:Int)^60
def ZO3(h:Told l):∀a∈l.L nT,a.f<=61:=λa ha=>by let(z,hz,rfl):=Yx.S ha;show Zu1 (k:=60) XU (h z hz).1 (h z hz).2
def Zz92(l:List Str):(TL l).f=l.f:=by unfold TL;rw[Yy7]
def Zx4(l:List Str)(x:Str):TL l++[.str x]=TL (l++[x]):=by unfold TL;rw[Yn];rfl
abbrev Tr:=Int×List (Int×Int)×List Int
def ZP5(l:List Int):(Str):=if l=[] then Str.U "-" else Str.join Zx7 (l.L nT)
def Zg9(p q:Int):(Str):=nT p++Str.U "/"++nT q
def lenT(z:Int)(l:List Int):(Str):=nT z++Str.U ": "++ZP5 l
def ZP3(h:l.f<=1000)(hl:Told l):(ZP5 l).f<=62000:=by
 unfold ZP5;split
 ·decide
 ·rw[Zk4];show Yv (ZK10 (XX:=61)<|ZO3 hl) ?_;rw[Yy7];lia
def pl(ls T U:List Int):(Prop):=HT.ltP (sumL ls T,T) (sumL ls U,U)=true
def pl_iff:pl ls T U↔sumL ls T<sumL ls U\/(sumL ls T=sumL ls U/\HT.lexLt T U=true):=HT.ltP_iff
def ZP7:¬pl ls T T:=λh=>by
 have:=HT.ltP_irrefl (sumL ls T,T)
 unfold pl at h;rw[this]at h;cases h
def OrdL(ls:List Int)(m:Nat)(os:List Int):(Prop):=os.Perm (rgL m)/\os.C λx y=>lnz ls x<lnz ls y\/(lnz ls x=lnz ls y/\x<y)
structure Ent where
 T:List Int
 I:List Int
 O:List Int
deriving DecidableEq
def ZX8:∀a b:List Int,a.f=b.f->a≠b->HT.lexLt a b=true\/HT.lexLt b a=true
 |[],[],_,h=>absurd Z h
 |[],_::_,h,_=>by cases h
 |_::_,[],h,_=>by cases h
 |x::a,y::b,hl,h=>by
  rw[HT.lexLt_cons,HT.lexLt_cons];cases c:x=y
  ·rw[if_pos c,if_pos c.symm];show ZX8 a b (by simpa using hl) λe=>h (by rw[c,e])
  ·rw[if_neg c,if_neg λq=>c q.symm,YQ,YQ];lia
end My
namespace L2
open PySem PySem.Spec PyProof.Rows My
def Zz015:(KeyOrd) where
 α:=Int×List Int
 blt:=HT.ltP
 irrefl:=HT.ltP_irrefl
 trans a b c:=HT.ltP_trans
 negTrans a b c h:=by
  rw[HT.ltP_iff]at h;rw[HT.ltP_iff,HT.ltP_iff];let lx:=lexO.negTrans a.2 b.2 c.2
  rcases h with h|⟨h,h'⟩
  ·omega
  ·rcases Int.lt_trichotomy a.1 b.1 with q|q|q
   ·show .inl (.inl q)
   ·rcases lx h' with z|z
    ·show .inl (.inr ⟨q,z⟩)
    ·show .inr (.inr ⟨J,z⟩)
   ·show .inr (.inl J)
 total a b h1 h2:=by
  let k1:¬HT.ltP a b=true:=by rw[h1];simp
  let k2:¬HT.ltP b a=true:=by rw[h2];simp
  rw[HT.ltP_iff]at k1 k2;let e:a.1=b.1:=B
  show Prod.ext e (lexO.total a.2 b.2 ?_ ?_)
  ·cases q:lexO.blt a.2 b.2 with
   |false=>rfl
   |true=>show absurd (.inr ⟨e,q⟩) k1
  ·cases q:lexO.blt b.2 a.2 with
   |false=>rfl
   |true=>show absurd (.inr ⟨e.symm,q⟩) k2
section
variable{prog:Program}{w:World}{A:Around}{s:Shared}
def ZJ10{a c:Int}{t u:Tok}{Q:Bool->Shared->Prop}(hp:IsTup s.o p xs)(hq:IsTup s.o q ys)(hi:IntsAre xs.j ns)(hj:IntsAre ys.j ms)(hu:A.units+2<cLine)(h:Q (HT.ltP (a,ns) (c,ms)) s):W.KatLex prog w A b false Q [(.int a t,.int c u),(.ref p,.ref q)] 0 s:=by
 let u1:A.units<cLine:=J;show W.kat_cons (wpAny_eqBool_int<|W.kat_go (λe=>?_) λe=>?_)
 ·have e:a=c:=eq_of_beq e;subst e;let el:HT.ltP (a,ns) (a,ms)=HT.lexLt ns ms:=by
   change(decide (a<a)||(decide (a=a)&&HT.lexLt ns ms))=_
   simp
  rw[el]at h;show W.kat_yes (W.kat_cons<|HT.eqAt_ints hp hq hi hj u1 prog w _ _<|W.kat_go (λe2=>?_) λe2=>?_)
  ·have e2:ns=ms:=YS e2;subst e2;rw[My.lex_irrefl]at h;show W.kat_yes (W.kat_nil h)
  ·show W.kat_no ?_;rw[show(b&&(0+1 == 0))=false by simp];show W.kat_one _ _ (HT.lt_tupInts hp hq hi hj u1 h)
 ·have hne:a≠c:=λz=>by rw[z]at e;simp at e
  let el:HT.ltP (a,ns) (c,ms)=decide (a<c):=by
   change(decide (a<c)||(decide (a=c)&&HT.lexLt ns ms))=_
   simp[hne]
  rw[el]at h;show W.kat_no ?_;cases (b&&0 == 0) with
  |true=>show oneLt_int h
  |false=>show W.kat_one _ _ (lt_int h)
end
section
variable{X:Cx}
def ZD3(K:PySem.W.Q)(hu:X.A.units+8<cLine)(hk:X.K=K:=by rfl):Zz02 X (.builtin "sorted") (λxs H Q=>∃(p:Addr)(ys:List V)(L:List (Int×List Int))(R:V->Int×List Int->Prop),xs=[.ref p]/\SqL K H p ys/\Bears R ys L/\(∀v l,R v l->∃a q,v=.ref a/\SqT K H a [.int l.1,.ref q]/\SqT K H q (l.2.L V.int))/\ys.f<=1000000/\
  ∀(zs:List V)(M:List (Int×List Int)),Bears R zs M->M.Perm L->M.C (λa b=>HT.ltP b a=false)->∀l,H l=none->Q ↑l (upd H l<|.lst zs)):=by
 subst hk;intro pins s σ H xs us Q I r h;let(p,ys,L,R,rfl,hq,hb,hR,hz,q):=h;let(u,rfl,ru):=ZK2 r;let rfl:u=Value.ref p:=ru;let(its,rv,pl,hz'):=I.list hq;let hyl:ys.f=its.f:=rv.f
 let uniq:∀{a:Addr}{l m:Int×List Int},R ↑a l->R ↑a m->l=m:=λ{a l m} h1 h2=>by
  let(a1,q1,e1,t1,t1'):=hR _ _ h1;let(a2,q2,e2,t2,t2'):=hR _ _ h2;cases e1;cases e2;let e:=I.tuple_inj t1 t2
  injection e with e3 e4;injection e3 with e3;injection e4 with e4;injection e4 with e4;subst e4;let e5:=I.tuple_inj t1' t2'
  let e5:l.2=m.2:=(List.map_inj_right (f:=V.int) λx y h=>by injection h).S e5;show Prod.ext e3 e5
 classical
 obtain⟨f,hf⟩:∃f:Value->Int×List Int,∀(a:Addr)(l:Int×List Int),R ↑a l->f ↑a=l:=by
  exists λv=>if h:∃l,∃a,v=Value.ref a/\R ↑a l then Classical.choose h else (0,[]),λa l hl=>?_;let ex:∃l,∃b,Value.ref a=Value.ref b/\R ↑b l:=⟨l,a,Z,hl⟩
  change(if h:∃l,∃b,Value.ref a=Value.ref b/\R ↑b l then Classical.choose h else (0,[]))=l;rw[dif_pos ex];let(b,e,hb):=Y4g ex;cases e;show uniq hb hl
 let each:∀(i:Nat)(v:Value),its[i]?=some v->∃a,v=.ref a/\ys[i]?=some ↑a/\R ↑a (f v)/\L[i]?=some (f v):=λi v e=>by
  let(hi,hv):=Yy1.S e;let(y,ey,ry):=rv.at hi;rw[hv]at ry;let(l,el,hl):=hb.at ey;let(a,_,ea,_):=hR _ _ hl;subst ea;let rfl:v=Value.ref a:=ry
  have:=hf a l hl
  exists a,Z,ey,by rw[this];show hl,by rwa[this]
 let eL:L=its.L f:=by
  apply Yy08;intro i;rw[Yc];cases e:its[i]? with
  |none=>
   have:its.f<=i:=Y2n.S e
   show YE (by have:=hb.1;lia)
  |some v=>
   let(_,_,_,_,el):=each i v e;rw[el];rfl
 let tup:∀v∈its,∃a p xs t,v=Value.ref a/\IsTup s.o a (List.t [.int (f v).1 t,.ref p])/\IsTup s.o p xs/\IntsAre xs.j (f v).2:=λv hv=>by let(i,e):=YC hv;let(a,rfl,_,hr,_):=each i v e;let(a1,q1,e1,t1,t1'):=hR _ _ hr;cases e1;let(i1,r1,h1,_):=I.tuple t1;let(i2,r2,h2,_):=I.tuple t1';let(u1,w1,rfl,(t,rfl),r1'):=ZD7 r1;let(u2,rfl,ru2):=ZK2 r1';let rfl:u2=Value.ref q1:=ru2;exists a,q1,_,t,Z,h1,h2,by simpa using ZI r2
 let mem1:∀x∈(pairsOf its).j,x.1∈its/\x.2=x.1:=λx hx=>by
  let hx:x∈(its.t.zip its.t).j:=hx;rw[Array.toList_zip]at hx;let(i,e):=YC hx;rw[List.getElem?_zip_eq_some]at e;let e1:its[i]?=some x.1:=by simpa using e.1
  let e2:its[i]?=some x.2:=by simpa using e.2
  rw[e1]at e2;cases x;cases e2;exists Yy9 e1,Z
 show Zz56 (O:=Zz015) (key:=λk=>f k.1) (kd:=tuples'<|Value.type "int" != Value.type "tuple") pl.isList J (λA' h' keep h2 E' Q' q'=>?_) (λA' h' E' hA' keep x y st Q' hx hy hkd q'=>?_) λout a1 a2=>?_
 ·obtain⟨fs,t,l,k⟩:∃fs,W.KatTups h' its fs/\fs.f=its.f/\∀v∈fs,∃n t,v=Value.int n t:=by
   let key:∀ws:List Value,(∀v∈ws,v∈its)->∃fs,W.KatTups h' ws fs/\fs.f=ws.f/\∀v∈fs,∃n t,v=Value.int n t:=by
    intro ws
    induction ws with
    |nil=>show λ_=>{[],W.KatTups.nil,Z,λ_ h=>(by cases h)}
    |cons v ws ih=>
     intro hw;let(fs,t,l,k):=ih λy hy=>hw y (Yd _ hy);let(a,p2,xs,tk,e1,(o,g1,g2,m,g3),_):=tup v (hw v Ye);rw[e1];show{.int (f v).1 tk::fs,W.KatTups.cons (keep a o g1) g2 g3 Z t,by simp[l],λy hy=>?_};rcases Yf.S hy with rfl|hy
     ·exists _,_,Z
     ·show k y hy
   show key its λv h=>h
  show W.kat_kind (T:=.type "int") t J (λv hv=>?_) Z q';let(n,t,rfl):=k v hv;show W.Looks.now
 ·let(ax,px,xx,tx,e1,(o1,g1,g2,m1,g3),e3,e4):=tup x.1 (mem1 x hx).1;let(ay,py,xy,ty,f1,(o2,k1,k2,m2,k3),f3,f4):=tup y.1 (mem1 y hy).1;rw[lt'_eq];show Yq (Y3v ?_);rw[hkd,e1,f1];show Yq (wpS_lift<|Y2x<|W.kat_lt (keep ax o1 g1) g3 (keep ay o2 k1) k3 ?_);let t1:IsTup h' px xx:=by let(o,a,b):=e3;exists o,keep _ _ a,b
  let t2:IsTup h' py xy:=by let(o,a,b):=f3;exists o,keep _ _ a,b
  show ZJ10 (s:={s with heap:=h'}) t1 t2 e4 f4 J {Z,?_};show YG q'
 ·let(e,he):=sortedAll_at s.o its (out.L (·.2));let po:out.j.Perm (pairsOf its).j:=Y0K.S a1
  let zip2:((pairsOf its).j.L (·.2))=its:=by change((its.t.zip its.t).j.L (·.2))=its;rw[Array.toList_zip];show List.map_snd_zip D
  let pv:(out.L (·.2)).j.Perm its:=by rw[Array.toList_map];show zip2▸po.L (·.2)
  let mo:∀v∈(out.L (·.2)).j,∃a,v=Value.ref a/\R ↑a (f v):=λv hv=>by let(i,e):=YC (pv.mem_iff.S hv);let(a,e1,_,e3,_):=each i v e;exists a,e1,e3
  obtain⟨zs,vz,bz⟩:∃zs:List V,Vals zs (out.L (·.2)).j/\Bears R zs ((out.L (·.2)).j.L f):=by
   clear he pv;generalize (out.L (·.2)).j=os at mo
   induction os with
   |nil=>exists [],.nil,Z,λi a e=>by simp at e
   |cons v os ih=>
    let(zs,vz,bz):=ih λy hy=>mo y (Yd _ hy);let(a,rfl,hr):=mo v Ye;show{.ref a::zs,.cons Z vz,by simp[bz.1],λi l e=>?_};cases i with
    |zero=>
     have:f ↑a=l:=by simpa using e
     exists .ref a,Z,this▸hr
    |succ i=>show bz.2 i l (by simpa using e)
  let hzl:zs.f=its.f:=by rw[vz.f,pv.length_eq]
  exists .ref<|(~~~s)+1,_,I.laid (t':=s.toks) (o:=.lst zs) (λb o g=>sortedAll_old g) (Yy15 _) {?_,(out.L (·.2)).j,e,vz,?_},Z,q zs _ bz ?_ ?_ _<|I.hok.fresh<|Yy15 _
  ·have:sizeLine=16777216:=Y1l
   lia
  ·show he
  ·rw[eL];show pv.L f
  ·rw[Array.toList_map,Y1M,Y1m];show Y3W (λ{x y} hx hy hxy=>?_) a2;let h1:=(mem1 x<|po.mem_iff.S hx).2
   let h2:=(mem1 y<|po.mem_iff.S hy).2;change HT.ltP (f y.2) (f x.2)=false
   rwa[h1,h2]
end
end L2
namespace My
def un1{α:Type}{P:List α->Prop}(h:∀a,P [a])(l:List α)(e:l.f=1):P l:=by let(a,rfl):=len1 e;show h a
def un2{α:Type}{P:List α->Prop}(h:∀a b,P [a,b])(l:List α)(e:l.f=2):P l:=by let(a,b,rfl):=len2 e;show h a b
def un3{α:Type}{P:List α->Prop}(h:∀a b c,P [a,b,c])(l:List α)(e:l.f=3):P l:=by let(a,b,c,rfl):=len3 e;show h a b c
def un4{α:Type}{P:List α->Prop}(h:∀a b c d,P [a,b,c,d])(l:List α)(e:l.f=4):P l:=by let(a,b,c,d,rfl):=len4 e;show h a b c d
end My
namespace L2
open PySem PySem.Spec PyProof.Rows
def ZE4{N P:List Str}{sc:Scope}(h:sc.kind=.function/\sc.isCoroutine=false/\sc.isGenerator=false/\N.Nodup/\N.G P.f=P/\(∀x∈P,sc.names.R x=some .local\/sc.names.R x=some .cell)/\∀y∈sc.names,y.2≠.free):FnScope N P sc:=⟨h.1,h.2.1,h.2.2.1,h.2.2.2.1,h.2.2.2.2.1,h.2.2.2.2.2.1,h.2.2.2.2.2.2⟩
structure DfA(K:PySem.W.Q)(mg:Str->Option Value)(x:Str)(st:Stmt)(f:Addr)(fd:FuncData)(ps:List Str):Prop where
 fn:Fun K x x st f fd
 bi:Binds K fd ps []
 mm:mg x=some ↑f
def Zz9{X:Cx}{CX:CXT}{k m:Nat}{f:Addr}{fd:FuncData}{ps:List Str}{sp:Sp}{x:Str}{st:Stmt}{e:Expr}{es:List Expr}{t:TA}{p pos:Pos}{E:XK}(F:FnOk X.prog X.w X.K X.mg X.base CX k f fd ps sp)(hr:Room m X.A)(d:DfA X.K X.mg x st f fd ps)(hx:ZI3 CX X E)(ha:PA X (e::es) t)(hk:k<=m:=by decide)(hg:Gl X x:=by show Z)(hdb:(x == ("__debug__":Str))=false:=by decide)(he:starEach (e::es) X.M=(false,eval e X.M)::starEach es X.M:=by rfl)(hpl:(backTo pos<|starEach es X.M).any (·.1)=false:=by rfl):PE X (.Call (.Name x p) (e::es) [] pos) (ZA14 sp [] E t):=
 Za12 F (hr.mono hk) hg d.mm d.fn.kp d.bi .nil hx ha hdb he hpl
def ScP(N P:List Str)(sc:Scope):(Prop):=sc.kind=.function/\sc.isCoroutine=false/\sc.isGenerator=false/\N.Nodup/\N.G P.f=P/\(∀x∈P,sc.names.R x=some .local\/sc.names.R x=some .cell)/\∀y∈sc.names,y.2≠.free
instance (N P:List Str) (sc:Scope):Decidable (ScP N P sc):=by unfold ScP;infer_instance
section
variable{P:Program}{w:World}{K:PySem.W.Q}{mg:Str->Option Value}{base:Heap}{x:Str}{st:Stmt}{f:Addr}{fd:FuncData}{ps:List Str}{k:Nat}{sp:Sp}
abbrev OkQ(P:Program)(w:World)(base:Heap)(CX:CXT)(_:DfA K mg x st f fd ps)(k:Nat)(sp:Sp):Prop:=FnOk P w K mg base CX k f fd ps sp
def DfA.okI(q:DfA K mg x st f fd ps)(N:List Str)(S:ScP N ps (Zb st))
  (hbody:∀cdv A outer s H vs Q E,Room k (A.deeper<|envOfC x (Zb st) (~~~s) f cdv)->sp vs H Q E->
   ∃t,PSs (cxOf CX0 P w K mg base N x (Zb st) f cdv A outer s H E).nox (Zm1 st) t/\t {nx:=λ_ H'=>Q .non H',rt:=Q} (start N vs) H) (len:∀vs H Q E,sp vs H Q E->vs.f=ps.f:=by intro _ _ _ _ h;cases h;subst_vars;rfl):OkQ P w base CX0 q (k+1) sp:=q.fn.ok (ZE4 S) len hbody
def DfA.okXI(q:DfA K mg x st f fd ps)(N:List Str)(S:ScP N ps (Zb st))
  (hbody:∀cdv A outer s H vs Q E,Room k (A.deeper<|envOfC x (Zb st) (~~~s) f cdv)->sp vs H Q E->
   ∃t,PSs (cxOf (CXW P w) P w K mg base N x (Zb st) f cdv A outer s H E) (Zm1 st) t/\t {nx:=λ_ H'=>Q .non H',rt:=Q} (start N vs) H) (len:∀vs H Q E,sp vs H Q E->vs.f=ps.f:=by intro _ _ _ _ h;cases h;subst_vars;rfl):OkQ P w base (CXW P w) q (k+1) sp:=q.fn.okX (ZE4 S) len hbody
def DfA.okX(q:DfA K mg x st f fd ps)(N:List Str)(S:ScP N ps (Zb st))(len:∀vs H Q E,sp vs H Q E->vs.f=ps.f)
  (hbody:∀cdv A outer s H vs Q E,Room k (A.deeper<|envOfC x (Zb st) (~~~s) f cdv)->sp vs H Q E->
   ∃t,PSs (cxOf (CXW P w) P w K mg base N x (Zb st) f cdv A outer s H E) (Zm1 st) t/\t {nx:=λ_ H'=>Q .non H',rt:=Q} (start N vs) H):OkQ P w base (CXW P w) q (k+1) sp:=q.fn.okX (ZE4 S) len hbody
end
end L2
namespace My
open PySem L2
def FQ(K:PySem.W.Q)(mg:Str->Option Value)(x:Str)(st:Stmt)(ps:List Str):(Prop):=∃f fd,DfA K mg x st f fd ps
def fq_mk{K:PySem.W.Q}{h:Heap}{mg:Str->Option Value}{x:Str}{st:Stmt}{ps:List Str}{f:Addr}{oc:Value}{od an:Option Addr}{osl:Array (Option Value)}{kV doc pm cdv ct:Value}(X:K.In h)(G:h.Ns mainGlobals mg)
  (a:PySem.W.nsIn K mainGlobals x=some (some<|.ref f))(l:K.R f=some {oc,od,.func<|PySem.W.fnOf x x (Zy2 st) (Zm1 st) (Zb st) .none kV doc pm an cdv ct,osl})(c:PySem.W.codeIn K cdv x=true)(k:PySem.W.keepIn K ↑f=true)
  (b:∀kV doc pm an cdv ct us,us.f=ps.f->bindArgs (PySem.W.fnOf x x (Zy2 st) (Zm1 st) (Zb st) .none kV doc pm an cdv ct) {us,[]}=pure (ps.zip us)):FQ K mg x st ps:=
 {f,_,ZW10 l c k,(ZW10 l c k).binds b,Y2e X G a}
def Zx14:(List Str):=["count","cheapest"]
def Zz614:(List Str):=["tree","row","rank"]
def Zg12:(List Str):=["number","place","next","share"]
def isN(w:Str):(Bool):=Zj14 w.cps.j
def ZL14(x0:Str)(r:List Str):(Prop):=(x0∈Zx14/\r.f+1=1)\/(x0∈Zz614/\r.f+1=2/\r.all isN=true)\/(x0∈Zg12/\1<r.f+1/\(r=[("-":Str)]\/r.all isN=true))
instance:Decidable (ZL14 x0 r):=by unfold ZL14;infer_instance
def RepT(n:Int)(ps:List (Int×Int))(ls:List Int)(txt:List Str):(Prop):=∃d:Nat,TC n ps d/\((d=0/\txt=[Str.U "trees "++nT d])\/(0<d/\∃(U:List Int)(fr:List (Int×Int)),Zo n (cwT n.i ps ls) U/\(∀W,Zo n (cwT n.i ps ls) W->HT.lexLt W U=false)/\fr.f=ps.f/\(∀(i:Nat)(f:Int×Int),fr[i]?=some f->∃c:Nat,PC n ps [(i:Int)] [] c/\LowF c d f.1 f.2)/\
 txt=(Str.U "trees "++nT d)::(Str.U "cheapest "++lenT (sumL ls U) U)::(fr.zipIdx.L λx=>Str.U "tie "++nT (x.2:Int)++Str.U ": "++Zg9 x.1.1 x.1.2)))
def RepT.uniq{n:Int}{ps:List (Int×Int)}{ls:List Int}{s t:List Str}(h1:RepT n ps ls s)(h2:RepT n ps ls t):s=t:=by
 let(d,a1,a2):=h1;let(e,b1,b2):=h2;let rfl:=a1.uniq b1;rcases a2 with ⟨a2,a3⟩|⟨a2,U,f,a3,a4,a5,a6,a7⟩
 ·rcases b2 with ⟨b2,b3⟩|⟨b2,_⟩
  ·rw[a3,b3]
  ·lia
 ·rcases b2 with ⟨b2,_⟩|⟨b2,V,g,b3,b4,b5,b6,b7⟩
  ·lia
  ·have eU:U=V:=YK λz=>by
    rcases ZX8 U V (by have:=a3.2.1;have:=b3.2.1;lia) z with q|q
    ·rw[b4 U a3]at q;cases q
    ·rw[a4 V b3]at q;cases q
   subst eU;let ef:f=g:=by
    apply Yy08;intro i;cases hi:i<ps.f
    ·obtain⟨x,hx⟩:∃x,f[i]?=some x:={_,Yy0 J};obtain⟨y,hy⟩:∃y,g[i]?=some y:={_,Yy0 J};let(c,c1,c2):=a6 i x hx;let(c',c1',c2'):=b6 i y hy;let rfl:=c1.uniq c1';let(p1,p2):=Zz10 J c2 c2';rw[hx,hy,Prod.ext p1 p2]
    ·rw[YE J,YE J]
   rw[a7,b7,ef]
def ZS12{K:PySem.W.Q}{H:Hp}{n:Nat}{x y:V}{a b:Str}(hx:x=.str a)(hy:y=.str b):EqD K H n x y (decide (a=b)):=by
 subst hx hy;let e:decide (a=b)=eqV (.str a) (.str b):=by change decide (a=b)=(a == b);rw[Y0V,YQ,Y1B]
 rw[e];show EqD.flat Z rfl
def ZG3(l:List Str):Bears (λx (z:Str)=>x=.str z) (TL l) l:={Zz92 l,λi z e=>{.str z,by unfold TL;rw[Yc,e];rfl,Z}}
def Zz411{K:PySem.W.Q}{H:Hp}{p q:Addr}{l m:List Str}(hp:SqL K H p (TL l))(hq:SqL K H q (TL m)):EqD K H 1 ↑p ↑q (decide (l=m)):=
 Zd2 hp hq (ZG3 l) (ZG3 m) λ_ _ _ _=>ZS12
def Zz011{n:Int}{ps:List (Int×Int)}{ls:List Int}{L:List (List Int)}{M:List (Int×List Int)}(g:ZM n ps)(hl:ls.f=ps.f)(hL:∀T,T∈L↔Zo n ps T)(hM:M.Perm (L.L λT=>(sumL ls T,T)))(hs:M.C λa b=>HT.ltP b a=false){x:Int×List Int}(h0:M[0]?=some x):x=(sumL ls x.2,x.2)/\Zo n (cwT n.i ps ls) x.2/\∀W,Zo n (cwT n.i ps ls) W->HT.lexLt W x.2=false:=by
 let(U,hU,eU):=Yx.S (hM.mem_iff.S<|Yy9 h0);subst eU;let hU':=(hL U).S hU
 let key:∀W,Zo n ps W->¬pl ls W U:=λW hW q=>by
  let(i,hi):=YC (hM.mem_iff.X<|Yx.X {W,(hL W).X hW,Z});let(zi,ei):=Yy1.S hi;let(z0,e0):=Yy1.S h0;cases c:i=0
  ·subst c;rw[h0]at hi
   have:U=W:=(Prod.mk.inj<|Yl hi).2
   subst this;show ZP7 q
  ·have:=Yy04.S hs 0 i z0 zi J
   rw[e0,ei]at this;let q:HT.ltP (sumL ls W,W) (sumL ls U,U)=true:=q
   rw[this]at q;cases q
 exists Z,(Zh7 g hl).X {hU',λW hW=>?_},λW hW=>?_
 ·show YK λz=>key W hW (pl_iff.X (.inl<|by change sumL ls W<sumL ls U;let z:¬sumL ls U<=sumL ls W:=z;lia))
 ·let(w1,w2):=(Zh7 g hl).S hW;cases q:HT.lexLt W U with
  |false=>rfl
  |true=>
   show absurd (pl_iff.X ?_) (key W w1);cases c:sumL ls W<sumL ls U
   ·show .inl c
   ·show .inr {by have:=w2 U hU';lia,q}
def top(i:Nat):(Stmt):=PySem.Challenge.pw_spanrow_k89_reports.main.body.getD i (.Pass ⟨0,0,0,0⟩)
abbrev sZ9:Stmt:=ZH12 (top 20) 0
abbrev sZL:Stmt:=top 66
set_option genInjectivity false in
structure Adr where
 (aZ0 aZ1 aZ2 aZ3 aZ4 aZ5 aZ6 aZ7 aZ8 aZ9 aZa aZb aZc aZd aZe aZf aZg aZh aZi aZj aZk aZl aZm aZn aZo aZp aZq aZr aZs aZt aZu aZv aZw aZx aZy aZz aZA aZB aZC aZD aZE aZF aZG aZH aZI aZJ aZK aZL A_Web A_WebError A_BadRow A_BadText:Addr)
 (dZ0 dZ1 dZ2 dZ3 dZ4 dZ5 dZ6 dZ7 dZ8 dZ9 dZa dZb dZc dZd dZe dZf dZg dZh dZi dZj dZk dZl dZm dZn dZo dZp dZq dZr dZs dZt dZu dZv dZw dZx dZy dZz dZA dZB dZC dZD dZE dZF dZG dZH dZI dZJ dZK dZL:FuncData)
def Txt(K:PySem.W.Q)(mg:Str->Option Value)(t:Adr):(Prop):=(((((((DfA K mg "refuse_not_square" (top 9) t.aZ0 t.dZ0 ["table"]/\DfA K mg "row_taken_off" (top 10) t.aZ1 t.dZ1 ["row","pivot","last"])/\DfA K mg "first_with_some" (top 11) t.aZ2 t.dZ2 ["rows"])/\(DfA K mg "determinant" (top 12) t.aZ3 t.dZ3 ["table"]/\DfA K mg "row_without" (top 13) t.aZ4 t.dZ4 ["row","number"]))/\(((DfA K mg "table_without" (top 14) t.aZ5 t.dZ5 ["table","number"]/\DfA K mg "common_divisor" (top 15) t.aZ6 t.dZ6 ["one","other"])/\DfA K mg "fraction" (top 16) t.aZ7 t.dZ7 ["top","bottom"])/\(DfA K mg "refuse_bad_web" (top 21) t.aZ8 t.dZ8 ["places","ties"]/\Fun K "__init__" "Web.__init__" sZ9 t.aZ9 t.dZ9)))/\((((Binds K t.dZ9 ["self","places","ties"] []/\DfA K mg "refuse_bad_row" (top 23) t.aZa t.dZa ["web","numbers"])/\DfA K mg "is_tie" (top 22) t.aZb t.dZb ["web","number"])/\(DfA K mg "all_ties" (top 24) t.aZc t.dZc ["web"]/\DfA K mg "is_set" (top 25) t.aZd t.dZd ["web","ties"]))/\(((DfA K mg "made_set" (top 26) t.aZe t.dZe ["web","ties"]/\DfA K mg "merged_marks" (top 27) t.aZf t.dZf ["web","marks","ties"])/\DfA K mg "piece_marks" (top 28) t.aZg t.dZg ["web","ties"])/\(DfA K mg "pieces_of" (top 29) t.aZh t.dZh ["web","ties"]/\DfA K mg "is_joined" (top 30) t.aZi t.dZi ["web","ties"]))))/\(((((DfA K mg "refuse_parted" (top 31) t.aZj t.dZj ["web"]/\DfA K mg "grown_tree" (top 38) t.aZk t.dZk ["web","inside","order"])/\DfA K mg "least_tree" (top 39) t.aZl t.dZl ["web"])/\(DfA K mg "cheapest_web" (top 42) t.aZm t.dZm ["web","lengths"]/\DfA K mg "cheapest_tree" (top 43) t.aZn t.dZn ["web","lengths"]))/\(((DfA K mg "length_of" (top 41) t.aZo t.dZo ["web","lengths","ties"]/\DfA K mg "weighted_table" (top 33) t.aZp t.dZp ["web","weights"])/\DfA K mg "pull_table" (top 34) t.aZq t.dZq ["web"])/\(DfA K mg "tree_count" (top 35) t.aZr t.dZr ["web"]/\DfA K mg "part_count" (top 36) t.aZs t.dZs ["web","inside","outside"])))/\((((DfA K mg "share_of" (top 45) t.aZt t.dZt ["web","ties"]/\DfA K mg "numbers_text" (top 47) t.aZu t.dZu ["numbers"])/\DfA K mg "ties_text" (top 48) t.aZv t.dZv ["ties"])/\(DfA K mg "fraction_text" (top 49) t.aZw t.dZw ["pair"]/\DfA K mg "length_text" (top 50) t.aZx t.dZx ["length","tree"]))/\((DfA K mg "report" (top 52) t.aZy t.dZy ["web","lengths"]/\DfA K mg "_law_cell" (top 54) t.aZz t.dZz ["script","k"])/\(DfA K mg "_law_mixed" (top 55) t.aZA t.dZA ["cell","k"]/\DfA K mg "_law_draws" (top 56) t.aZB t.dZB ["script","start","count","way"])))))/\((((((DfA K mg "_law_ties" (top 57) t.aZC t.dZC ["draws","places","hang"]/\DfA K mg "_law_web" (top 58) t.aZD t.dZD ["script","most","count"])/\DfA K mg "_law_marks" (top 59) t.aZE t.dZE ["places","ties","some"])/\(DfA K mg "_law_all" (top 60) t.aZF t.dZF ["places","ties"]/\DfA K mg "_law_lengths" (top 61) t.aZG t.dZG ["script","count"]))/\(((DfA K mg "_law_tree_text" (top 62) t.aZH t.dZH ["tree"]/\DfA K mg "_law_share_text" (top 63) t.aZI t.dZI ["top","bottom"])/\DfA K mg "_law_due" (top 64) t.aZJ t.dZJ ["places","ties","lengths"])/\(DfA K mg "_law_refused" (top 65) t.aZK t.dZK ["web","lengths"]/\DfA K mg "law" sZL t.aZL t.dZL ["script"])))/\((((mg "Web"=some (.ref t.A_Web)/\Cls K t.A_Web)/\Mk K t.A_Web t.aZ9)/\(NoAttr K t.A_Web "places"/\NoAttr K t.A_Web "ties"))/\(((mg "WebError"=some (.ref t.A_WebError)/\mg "BadRow"=some (.ref t.A_BadRow))/\mg "BadText"=some (.ref t.A_BadText))/\(XCls K (t.A_BadRow)/\PySem.W.kitOne K (.ref<|t.A_BadRow) (.type "ValueError")=some true))))/\(((((PySem.W.kitOne K (.ref<|t.A_BadRow) (.ref<|t.A_BadText)=some false/\PySem.W.exmOne K (.ref<|t.A_BadRow) (.ref<|t.A_WebError)=some true)/\(∃tk,mg "MOST_PLACES"=some (.int 14 tk)))/\((∃tk,mg "MOST_TIES"=some (.int 30 tk))/\mg "ValueError"=none))/\(((mg "abs"=none/\mg "enumerate"=none)/\mg "isinstance"=none)/\(mg "len"=none/\mg "list"=none)))/\((((mg "max"=none/\mg "min"=none)/\mg "range"=none)/\(mg "set"=none/\mg "sorted"=none))/\((mg "str"=none/\mg "sum"=none)/\(mg "tuple"=none/\mg "zip"=none))))))
section
variable(T:Txt K mg t)
def Txt.qZ0:=T.1.1.1.1.1.1.1
def Txt.qZ1:=T.1.1.1.1.1.1.2
def Txt.qZ2:=T.1.1.1.1.1.2
def Txt.qZ3:=T.1.1.1.1.2.1
def Txt.qZ4:=T.1.1.1.1.2.2
def Txt.qZ5:=T.1.1.1.2.1.1.1
def Txt.qZ6:=T.1.1.1.2.1.1.2
def Txt.qZ7:=T.1.1.1.2.1.2
def Txt.qZ8:=T.1.1.1.2.2.1
def Txt.fZ9:=T.1.1.1.2.2.2
def Txt.bZ9:=T.1.1.2.1.1.1.1
def Txt.qZa:=T.1.1.2.1.1.1.2
def Txt.qZb:=T.1.1.2.1.1.2
def Txt.qZc:=T.1.1.2.1.2.1
def Txt.qZd:=T.1.1.2.1.2.2
def Txt.qZe:=T.1.1.2.2.1.1.1
def Txt.qZf:=T.1.1.2.2.1.1.2
def Txt.qZg:=T.1.1.2.2.1.2
def Txt.qZh:=T.1.1.2.2.2.1
def Txt.qZi:=T.1.1.2.2.2.2
def Txt.qZj:=T.1.2.1.1.1.1.1
def Txt.qZk:=T.1.2.1.1.1.1.2
def Txt.qZl:=T.1.2.1.1.1.2
def Txt.qZm:=T.1.2.1.1.2.1
def Txt.qZn:=T.1.2.1.1.2.2
def Txt.qZo:=T.1.2.1.2.1.1.1
def Txt.qZp:=T.1.2.1.2.1.1.2
def Txt.qZq:=T.1.2.1.2.1.2
def Txt.qZr:=T.1.2.1.2.2.1
def Txt.qZs:=T.1.2.1.2.2.2
def Txt.qZt:=T.1.2.2.1.1.1.1
def Txt.qZu:=T.1.2.2.1.1.1.2
def Txt.qZv:=T.1.2.2.1.1.2
def Txt.qZw:=T.1.2.2.1.2.1
def Txt.qZx:=T.1.2.2.1.2.2
def Txt.qZy:=T.1.2.2.2.1.1
def Txt.qZz:=T.1.2.2.2.1.2
def Txt.qZA:=T.1.2.2.2.2.1
def Txt.qZB:=T.1.2.2.2.2.2
def Txt.qZC:=T.2.1.1.1.1.1.1
def Txt.qZD:=T.2.1.1.1.1.1.2
def Txt.qZE:=T.2.1.1.1.1.2
def Txt.qZF:=T.2.1.1.1.2.1
def Txt.qZG:=T.2.1.1.1.2.2
def Txt.qZH:=T.2.1.1.2.1.1.1
def Txt.qZI:=T.2.1.1.2.1.1.2
def Txt.qZJ:=T.2.1.1.2.1.2
def Txt.qZK:=T.2.1.1.2.2.1
def Txt.qZL:=T.2.1.1.2.2.2
def Txt.c_Web:=T.2.1.2.1.1.1.1
def Txt.cl_Web:=T.2.1.2.1.1.1.2
def Txt.k_Web:=T.2.1.2.1.1.2
def Txt.n_Web_places:=T.2.1.2.1.2.1
def Txt.n_Web_ties:=T.2.1.2.1.2.2
def Txt.c_WebError:=T.2.1.2.2.1.1.1
def Txt.c_BadRow:=T.2.1.2.2.1.1.2
def Txt.c_BadText:=T.2.1.2.2.1.2
def Txt.x_BadRow:=T.2.1.2.2.2.1
def Txt.ki_BadRow_ValueError:=T.2.1.2.2.2.2
def Txt.ki_BadRow_BadText:=T.2.2.1.1.1.1.1
def Txt.em_BadRow:=T.2.2.1.1.1.1.2
def Txt.g_MOST_PLACES:=T.2.2.1.1.1.2
def Txt.g_MOST_TIES:=T.2.2.1.1.2.1
def Txt.n_ValueError:=T.2.2.1.1.2.2
def Txt.n_abs:=T.2.2.1.2.1.1.1
def Txt.n_enumerate:=T.2.2.1.2.1.1.2
def Txt.n_isinstance:=T.2.2.1.2.1.2
def Txt.n_len:=T.2.2.1.2.2.1
def Txt.n_list:=T.2.2.1.2.2.2
def Txt.n_max:=T.2.2.2.1.1.1.1
def Txt.n_min:=T.2.2.2.1.1.1.2
def Txt.n_range:=T.2.2.2.1.1.2
def Txt.n_set:=T.2.2.2.1.2.1
def Txt.n_sorted:=T.2.2.2.1.2.2
def Txt.n_str:=T.2.2.2.2.1.1
def Txt.n_sum:=T.2.2.2.2.1.2
def Txt.n_tuple:=T.2.2.2.2.2.1
def Txt.n_zip:=T.2.2.2.2.2.2
end
end My
namespace My
open PySem L2 PyProof.Rows
set_option maxHeartbeats 4000000
section
variable{P:Program}{w:World}{K:PySem.W.Q}{mg:Str->Option Value}{base:Heap}{t:Adr}
inductive spZ0(K:PySem.W.Q)(vs:List V)(H:Hp)(Q:VK)(_:XK):Prop
 |mk (a kd xs L:_) (_:vs=[.ref a]) (_:SqK kd K H a xs) (_:Bears (RowV K H) xs L) (_:((∀l∈L,l.f=L.f)->Q .non H)) (_:(¬(∀l∈L,l.f=L.f)->False))
def okZ0(T:Txt K mg t):OkQ P w base CX0 T.qZ0 1 (spZ0 K):=by
 show T.qZ0.okI ["table","row"] XT λcdv A outer s H vs Q E hr h=>?_
 ·let(a,kd,xs,L,rfl,hS,hB,q,qe):=h;show⟨_,(Zz7 (Zz31 QP Z (Zz52 K<|pv 0) (Zc 1)
   (Zz7 (ZJ1 (Zl ZP8 (Zf (Zi K) XR T.n_len Boot.«len»<|Zz0 (pv 1) Zz3) (Zf (Zi K) XR T.n_len Boot.«len»<|Zz0 (pv 0) Zz3)<|Zz _)
   (Zz7 ZT1)
   Zv)))),?_⟩
  let hxl:=hB.1;exists _,Z,a,Z,Zy3 (K:=K) (k:=kd) (a:=a) (xs:=xs) (λi σ H2=>∃v1,σ=[some ↑a,v1]/\H2=H/\∀l∈L.G i,l.f=L.f) {none,Z,Z,λl h=>(by cases h)} (λi σ H2 _ zz=>by let(_,_,e,_):=zz;show e▸hS) ?_ ?_
  ·rintro i v σ H2 hi ⟨v1,rfl,rfl,hall⟩;let(l,hl,r,k,rfl,hr):=hB.at hi;show nm ?_;exists _,Z,r,_,Z,hr.or,_,Z,a,xs,Z,hS.or,Z,_,Z,?_;rw[Zz4,ZV];show itn2 (λe=>?_) (λe=>?_)
   ·exists _,Z,Z,λm hm=>?_;rw[YN,hl]at hm;rcases Yb.S hm with h|h
    ·show hall m h
    ·have hm':m=l:=by simpa using h
     rw[hm'];lia
   ·show qe λh=>e (by rw[h l (Yy9 hl),hxl])
  ·rintro σ H2 ⟨v1,rfl,rfl,hall⟩;rw[hxl,YR]at hall;show q hall
inductive spZ1(K:PySem.W.Q)(vs:List V)(H:Hp)(Q:VK)(_:XK):Prop
 |mk (r p x y last l q:_) (_:vs=[.ref r,.ref p,.int last]) (_:SqL K H r (IL<|x::l)) (_:SqL K H p (IL<|y::q)) (_:l.f=q.f) (_:l.f<=1000) (_:last≠0) (_:last.natAbs<2^9000) (_:(∀z∈x::l,z.natAbs<2^9000)) (_:(∀z∈y::q,z.natAbs<2^9000)) (_:∀c H',Same H H'->H c=none->H' c=some (.lst<|IL<|tkn y q last<|x::l)->Q ↑c H')
def okZ1(T:Txt K mg t):OkQ P w base CX0 T.qZ1 1 (spZ1 K):=by
 show T.qZ1.okI ["row","pivot","last"] XT λcdv A outer s H vs Q E hr h=>?_
 ·let(r,p,x,y,last,l,q',rfl,hR,hP,hlq,hl,l0,l1,hx,hy,q):=h;exists _,(Zz7<|Zq<|ZY3 Z (sc0:=Zb<|top 10) (N0:=["row","pivot","last"]) (N':=["own","other","pivot","row","last"]) (o:=2) (fr:=[1,0,2]) ⟨Z,XT,XT,XT,Z,XT⟩ (Zf10 K Z T.n_zip<|Zz0 (Zr1 (Zo1 K) (pv 0) (Zz32 Zz8) Zz42)<|Zz0 (Zr1 (Zo1 K) (pv 1) (Zz32 Zz8) Zz42) Zz3) (Zr3<|Zz61 XU<|Zz61 XU Zs3) (λ_ _ _ _=>(ZE1 (n:=2) K Z<|Zx (Zc 0)<|Zx (Zc 1) ZD1)) (λ_ _ _ _=>ZQ) λ_ _ _ _=>(Zn Zz24 (Zn ZS2 (Zn Zq6 (ZH (Zg K) (pv 2) Zz8 λ_ _=>rfl)<|pv 0)<|Zn Zq6 (ZH (Zg K) (pv 3) Zz8 λ_ _=>rfl)<|pv 1)<|pv 4)),?_;exists _,Z,_,Z,r,_,Z,hR,λp1 hp1=>?_;rw[Zl7];let s1:=Zz5 (o:=.lst<|IL l) hp1
  exists _,Z,_,Z,p,_,Z,s1.seq hP,λp2 hp2=>?_;rw[Zl7];let s2:=Zz5 (o:=.lst<|IL q') hp2
  let s12:=s1.m s2;let h1:=s2 _ _ (Zz1 (H:=H) (a:=p1) (o:=.lst<|IL l))
  let h2:(upd (upd H p1<|.lst<|IL l) p2<|.lst<|IL q') p2=some (.lst<|IL q'):=Zz1;generalize upd (upd H p1<|.lst<|IL l) p2 (.lst<|IL q')=H2 at *;show⟨p1,p2,Z,{_,_,SqL.of h1,SqL.of h2},Zx12 (K:=K) (a:=p1) (b:=p2) (xs:=IL l) (ys:=IL q') (λi zs H3=>Same H2 H3/\i<=l.f/\zs=IL ((tkn y q' last<|x::l).G i)) {Same.refl _,Yk _,Z} (by rwa[Zz4,Zz4]) (Zk<|by rw[Zz4];lia)
   (λi zs H3 hi zz=>by let(e,hi2,ez):=zz;show{SqL.of<|e _ _ h1,SqL.of<|e _ _ h2,by rw[ez,Zz4,Yh];lia}) ?_ ?_⟩
  ·rintro i u v zs H3 pt hpt hu hv ⟨s3,hil,rfl⟩ S hSS;let(own,rfl,ho):=Zz81 hu;let(oth,rfl,ht):=Zz81 hv;let hil':=(Yy1.S ho).1
   let s4:=Zz5 (o:=.tup [.int own,.int oth]) hpt;exists pt,_,Z,SqT.of Zz1,Z,_,_,Z,_,_,Z,Z,?_;let s34:=s12.m (s3.m s4)
   let a1:=hy y Ye;let a2:=hx own (Yd _<|Yy9 ho)
   let a3:=hx x Ye;let a4:=hy oth (Yd _<|Yy9 ht)
   exists _,Z,p,_,0,.int y,Z,Z,s34.seq hP,ZE (n:=0) Z Z,_,Z,_,_,Z,Z,⟨a1,a2⟩,_,Z,r,_,0,.int x,Z,Z,s34.seq hR,ZE (n:=0) Z Z,_,Z,_,_,Z,Z,⟨a3,a4⟩,_,_,Z,Z,_,Z,_,_,Z,Z,⟨l0,l1⟩,?_;show hSS _ _ {s3.m s4,hil',?_};let e:(tkn y q' last<|x::l)[i]?=some ((y*own-x*oth).fdiv last):=by change(List.zipWith _ l q')[i]?=_;rw[Y1c,ho,ht];rfl
   rw[YN,e];show(Zl1 _ _).symm
  ·rintro zs H3 ⟨s3,_,rfl⟩ c hc;rw[Zz4,YF (by rw[Zx8 (by rw[Yu,hlq])];lia)];show q c _ (s12.m<|s3.m<|Zz5 hc) ((s12.m s3).free hc) Zz1
inductive spZ2(K:PySem.W.Q)(vs:List V)(H:Hp)(Q:VK)(_:XK):Prop
 |mk (a ys R:_) (_:vs=[.ref a]) (_:SqL K H a ys) (_:Bears (ZB7 H) ys R) (_:(∀l∈R,0<l.f)) (_:(∀H':Hp,Same H H'->(∀i,i<R.f->fnL R i 0=0)->Q .non H')) (_:(∀t H',Same H H'->t<R.f->fnL R t 0≠0->Q (.int t) H'))
def okZ2(T:Txt K mg t):OkQ P w base CX0 T.qZ2 1 (spZ2 K):=by
 show T.qZ2.okI ["rows","at","row"] XT λcdv A outer s H vs Q E hr h=>?_
 ·let(a,ys,R,rfl,hS,hB,hp,q0,q1):=h;show⟨_,(Zz2 (Zz31 QP Z (ZR2 K Z T.n_enumerate<|Zz0 (pv 0) Zz3) (ZE1 (n:=2) K Z<|Zx (Zc 1)<|Zx (Zc 2) ZD1)
   (Zz7 (ZJ1 (Zl ZP8 (ZH (Zg K) (pv 2) Zz8 λ_ _=>rfl) Zz8<|Zz _)
   (Zz7<|Zq<|pv 1)
   Zv)))
   (Zz7<|Zq Zh10)),?_⟩
  let hyl:=hB.1;exists _,Z,a,Z,{_,hS},Zz27 (K:=K) (a:=a) (xs:=ys) (λi σ H2=>∃v1 v2,σ=[some ↑a,v1,v2]/\Same H H2/\∀j,j<i->fnL R j 0=0) {none,none,Z,Same.refl _,λj h=>absurd h<|Y0h _} (λi σ H2 _ zz=>by let(_,_,_,e,_):=zz;show e.seq hS) ?_ ?_
  ·rintro i v σ H2 pt hpt hi ⟨v1,v2,rfl,s2,hz⟩;let(l,hl,r,rfl,hr):=hB.at hi;let hlp:=hp l (Yy9 hl)
   obtain⟨x,l',rfl⟩:∃x l',l=x::l':=by
    cases l with
    |nil=>show absurd hlp (Y1h 0)
    |cons x l'=>exists x,l',Z
   let e0:fnL R i 0=x:=ZC2 hl rfl;let s3:=s2.m (Zz5 (o:=.tup [.int i,.ref r]) hpt)
   exists pt,_,Z,SqT.of Zz1,Z,_,_,Z,_,_,Z,Z,?_;generalize upd H2 pt (.tup [.int i,.ref r])=H3 at *;exists _,Z,r,_,0,.int x,Z,Z,SqL.of<|s3 _ _ hr,ZE (n:=0) Z Z,Z,_,Z,?_;rw[ZV];show itn2 (λe=>?_) (λe=>?_)
   ·exists _,_,Z,s3,λj hj=>?_;cases c:j=i
    ·rw[c,e0,e]
    ·show hz j J
   ·exists _,Z,q1 i H3 s3 (by have:=(Yy1.S hl).1;show this)<|by rwa[e0]
  ·rintro σ H2 ⟨v1,v2,rfl,s2,hz⟩;show q0 H2 s2 λi hi=>hz i J
inductive spZ3(K:PySem.W.Q)(vs:List V)(H:Hp)(Q:VK)(_:XK):Prop
 |mk (a kd xs L:_) (_:vs=[.ref a]) (_:SqK kd K H a xs) (_:Bears (RowV K H) xs L) (_:L.f<=16) (_:(∀i j,i<L.f->j<L.f->(fnL L i j).natAbs<=2^400)) (_:((∀l∈L,l.f=L.f)->∀H':Hp,Same H H'->Q (.int<|det L.f<|fnL L) H')) (_:(¬(∀l∈L,l.f=L.f)->∀H':Hp,Same H H'->False))
def Zu14{s rest:TS}{XW:Ends}{σ:L2.St}{H:Hp}(P:L2.St->Hp->Prop)(h1:∀σ' H',P σ' H'->rest XW σ' H')(h2:∀K:L2.St->Hp->Prop,(∀σ' H',P σ' H'->K σ' H')->s {XW with nx:=K} σ H):tSeq s rest XW σ H:=h2 _ h1
def scZ3:FnScope ["table","rows","sign","last","at","pivot"] ["table"] (Zb (top 12)):=ZE4 XT
def okZ3(T:Txt K mg t):OkQ P w base CX0 T.qZ3 2 (spZ3 K):=by
 show T.qZ3.okI ["table","rows","sign","last","at","pivot"] XT λcdv A outer s H vs Q E hr h=>?_
 ·let(a,kd,xs,L,rfl,hS,hB,hL16,hA0,q,qe):=h;show⟨_,(Zz2 (ZK<|Zz9 (okZ0 T) hr T.qZ0 ZP<|Zz0 (pv 0) Zz3)
   (Zz2 (ZN7 (i:=1) Z scZ3.nd Z Z (sc0:=Zb<|top 12) (N0:=["table","rows","sign","last","at","pivot"]) (N':=["row"]) (o:=1) (fr:=[]) ⟨Z,XT,XT,XT,Z,XT⟩ (Zz52 K<|pv 0) (ZA XU) (λ_ _ _ _=>(Zc 0)) (λ_ _ _ _=>ZQ) λ_ _ _ _=>(Zh (ZW K) XR T.n_list Boot.«list»<|Zz0 (pv 0) Zz3))
   (Zz2 (Zd 2 Zz8)
   (Zz2 (ZN2 (i:=3) scZ3.nd Z (Or.inr Z) Zz8)
   (Zz2 (ZV3 QP (Zl Zr6 (Zf (Zi K) XR T.n_len Boot.«len»<|Zz0 (pv 1) Zz3) Zz8<|Zz _)
   (Zz2 (Zd 4<|Zz9 (okZ2 T) hr T.qZ2 ZP<|Zz0 (pv 1) Zz3)
   (Zz2 (ZJ1 (Zl Zz314 (pv 4) Zh10<|Zz _)
   (Zz7<|Zq Zz8)
   Zv)
   (Zz2 (ZJ1 (Zl ZQ8 (Zn ZO (pv 4) Zz8) Zz8<|Zz _)
   (Zz7<|Zd 2<|ZX13 ZH9<|pv 2)
   Zv)
   (Zz2 (ZN2 (i:=5) scZ3.nd Z (Or.inr Z)<|ZA1 K YT PySem.F.slot_list_pop PySem.F.type_list_pop Zr10 (pv 1)<|Zz0 (pv 4) Zz3)
   (Zz2 (ZN7 (i:=1) Z scZ3.nd Z Z (sc0:=Zb<|top 12) (N0:=["table","rows","sign","last","at","pivot"]) (N':=["row","pivot","last"]) (o:=1) (fr:=[5,3]) ⟨Z,XT,XT,XT,Z,XT⟩ (ZX K<|pv 1) (ZA XU) (λ_ _ _ _=>(Zc 0)) (λ_ _ _ _=>ZQ) λ_ _ _ _=>(Zz9 (okZ1 T) hr T.qZ1 ZP<|Zz0 (pv 0)<|Zz0 (pv 1)<|Zz0 (pv 2) Zz3))
   (Zz7<|ZN2 (i:=3) scZ3.nd Z (Or.inr Z)<|ZH (Zg K) (pv 5) Zz8 λ_ _=>rfl)))))))
   (Zz7<|Zq<|Zn Zq6 (pv 2)<|pv 3)))))),?_⟩
  let hxl:=hB.1;exists _,Z,a,kd,xs,L,Z,hS,hB,λhsq=>?_,λh=>qe h H<|Same.refl H;let q:=q hsq
  obtain⟨n,hn⟩:∃n,n=L.f:={_,Z};rw[<-hn]at q hsq hA0 hL16;exists _,Z,a,Z,ZF10 (K:=K) (k:=kd) (a:=a) (xs:=xs) (λi zs H2=>Same H H2/\i<=xs.f/\Bears (ZB7 H2) zs (L.G i)) {Same.refl _,Yk _,{Z,λi l e=>by simp at e}} (Zk J) (λi zs H2 hi zz=>by let(e,hi2,ez):=zz;show{hS.same e,by rw[ez.1,Yh];lia}) ?_ ?_
  ·rintro i v zs H2 hi ⟨s2,hil,hZ⟩ S hSS;let(l,hl,r,k,rfl,hr):=hB.at hi;let hil':=(Yy1.S hi).1
   show nm ?_;exists _,Z,r,_,Z,(hr.same s2).or,λc hc=>hSS _ _ {s2.m<|Zz5 hc,hil',?_};rw[YN,hl];show(hZ.imp λ_ _ zz=>by let(r',e,h):=zz;exists r',e,Zz5 hc _ _ h).snoc ⟨c,Z,Zz1⟩
  rintro zs H2 ⟨s2,_,hZ⟩ rA hrA;rw[hxl,YR]at hZ;let s3:=s2.m (Zz5 (o:=.lst zs) hrA)
  exists λm σ H4=>∃A k rA ys R sgn last v4 v5,σ=[some ↑a,some<|.ref rA,some<|.int sgn,some<|.int last,v4,v5]/\Same H H4/\H rA=none/\H4 rA=some (.lst ys)/\Bears (LiV rA H4) ys R/\R.f=m/\(∀l∈R,l.f=m)/\k+m=n/\Bar A k m (fnL R) last/\det n (fnL L)=sgn*det n A/\(∀i j,i<n->j<n->(A i j).natAbs<=2^400)/\(m=0->last=det n A)/\(sgn=1\/sgn=-1)/\last.natAbs<2^9000,{n,fnL L,0,rA,zs,L,1,1,none,none,Z,s3,s2.free hrA,Zz1,?_,hn.symm,hsq,J,Zs8 _ _,XS,hA0,λe=>by rw[e];rfl,.inl Z,Nat.one_lt_two_pow XU},?_
  ·show hZ.imp λv l zz=>by let(r,e,h):=zz;exists r,e,Zz5 hrA _ _ h,Za h hrA
  rintro m σ H4 ⟨A,k,rA,ys,R,sgn,last,v4,v5,rfl,s4,hr0,hr4,hR,hRm,hRl,hkm,hBar,hdet,hAb,hfin,hsg,hlb⟩;let hyl:=hR.1
  exists _,Z,rA,ys,Z,.inl<|SqL.of hr4,_,_,Z,Z,_,Z,?_;show itd2 (λhpos=>?_) (λhpos=>?_)
  ·obtain⟨M,rfl⟩:∃M,m=M+1:={m-1,J};exists _,λσ' H' h=>{M,Y0M M,h},?_;let hsm:∀l∈R,∀z∈l,z.natAbs<2^9000:=λl hl z hz=>by
    let(i,hi):=YC hl;let(j,hj):=YC hz;let h1:=(Yy1.S hi).1
    let h2:=(Yy1.S hj).1;let h3:=hRl l hl
    have:=Zt8 hBar hkm hL16 hAb (i:=i) (j:=j) J J
    rwa[ZC2 hi hj]at this
   exists _,Z,rA,ys,R,Z,SqL.of hr4,hR.imp λ_ _ h=>h.list,λl hl=>by rw[hRl l hl];lia,λH5 s5 h0=>?_,λt H5 s5 ht hne=>?_
   ·exists _,Z,Z,_,Z,?_;show itd (c:=V.non=V.non) Z ?_;let z:det n A=0:=by
     have:=Zq11 hBar λi hi=>h0 i J
     rwa[show k+M+1=n by lia]at this
    rw[hdet,z,Y0y]at q;show q H5 (s4.m s5)
   exists _,Z,Z,_,Z,?_;show itdn (c:=V.int (t:Int)=V.non) (λz=>nomatch z) ?_;show nm ?_;dsimp only;show Zu14 (λσ H6=>∃sgn':Int,H6=H5/\σ=[some ↑a,some<|.ref rA,some<|.int sgn',some<|.int last,some<|.int t,v5]/\sgn'=sgn*sg t) ?_ ?_
   ·rintro σ H6 ⟨sgn',rfl,rfl,hsgn⟩;let hr6:=s5 _ _ hr4
    let hR6:=hR.imp λ_ _ h=>h.same s5;obtain⟨l,hl⟩:∃l,R[t]?=some l:={_,Yy0 ht};let hll:=hRl l (Yy9 hl)
    obtain⟨y,p',rfl⟩:∃y p',l=y::p':=by
     cases l with
     |nil=>cases hll
     |cons y p'=>exists y,p',Z
    let hpl:p'.f=M:=by rw[Yu]at hll;lia
    let(v,hv,pA,rfl,hpA,hpn):=hR6.2 t _ hl;let hy0:y≠0:=by rwa[ZC2 hl Z]at hne
    show{_,Z,.inl {Z,_,SqL.of hr6},_,Z,rA,ys,(t:Int),t,.ref pA,Z,Z,hr6,J,J,by rw[ZK13 J J,YB],hv,?_};let hpA7:(upd H6 rA<|.lst<|ys.eraseIdx t) pA=some (.lst<|IL<|y::p'):=by rwa[Ze hpn]
    let s7:Same H (upd H6 rA<|.lst<|ys.eraseIdx t):=Zp hr0 (s4.m s5);let hR7:Bears (LiV rA<|upd H6 rA<|.lst<|ys.eraseIdx t) (ys.eraseIdx t) (R.eraseIdx t):=(hR6.erase t).imp λ_ _ h=>h.mut
    let hr7:(upd H6 rA<|.lst<|ys.eraseIdx t) rA=some (.lst<|ys.eraseIdx t):=Zz1;generalize upd H6 rA (.lst<|ys.eraseIdx t)=H7 at *;let eRl:(R.eraseIdx t).f=M:=by rw[Y2Z,if_pos ht];lia
    let hRl7:∀l∈R.eraseIdx t,l.f=M+1:=λl h=>hRl l (Y3U h);let hy7:=hR7.1
    exists _,Z,rA,Z,{_,SqL.of hr7},ZO1 (K:=K) (a:=rA) (xs:=ys.eraseIdx t) (λi zs H8=>Same H7 H8/\i<=(ys.eraseIdx t).f/\Bears (ZB7 H8) zs (((R.eraseIdx t).G i).L (tkn y p' last))) {Same.refl _,Yk _,{Z,λi l e=>by simp at e}} (Zk J) (λi zs H8 hi zz=>by let(e,hi2,ez):=zz;show{SqL.of<|e _ _ hr7,by rw[ez.1,Yy7,Yh];lia}) ?_ ?_
    ·rintro i v zs H8 hi ⟨s8,hil,hZ8⟩ S hSS;let(l,hli,r,rfl,hr,_):=hR7.at hi;let hil':=(Yy1.S hi).1
     let hl2:=hRl7 l (Yy9 hli);obtain⟨x,l',rfl⟩:∃x l',l=x::l':=by
      cases l with
      |nil=>cases hl2
      |cons x l'=>exists x,l',Z
     let hl':l'.f=M:=by rw[Yu]at hl2;lia
     show nm ?_;exists _,Z,_,Z,_,Z,r,pA,x,y,last,l',p',Z,SqL.of<|s8 _ _ hr,SqL.of<|s8 _ _ hpA7,J,J,hBar.1,hlb,hsm _<|Y3U<|Yy9 hli,hsm _<|Yy9 hl,λc H9 s9 hc0 hc=>hSS _ _ {s8.m s9,hil',?_};rw[YN,hli,Yn];show(hZ8.imp λ_ _ zz=>by let(r',e,h):=zz;exists r',e,s9 _ _ h).snoc ⟨c,Z,hc⟩
    rintro zs H8 ⟨s8,_,hZ8⟩ cA hcA;rw[hy7,YR]at hZ8;let s9:=Zz5 (o:=.lst zs) hcA
    exists _,Z,pA,_,0,.int y,Z,Z,SqL.of<|s9 _ _<|s8 _ _ hpA7,ZE (n:=0) Z Z,?_;let hb1:Bar (λi=>A<|rotN k t i) k (M+1) (fnL<|(y::p')::R.eraseIdx t) last:=by rw[ZX11 hl];show Zz913 hBar J
    let hb2:Bar (λi=>A<|rotN k t i) (k+1) M (fnL<|(R.eraseIdx t).L (tkn y p' last)) y:=Zp11 hb1 hy0 λi j hi hj=>ZJ11 hpl eRl hRl7 hi hj;let hdr:=Zb7 (n:=n) (k:=k) (t:=t) (A:=A) J
    exists λi=>A<|rotN k t i,k+1,cA,zs,(R.eraseIdx t).L (tkn y p' last),sgn',y,_,_,Z,s7.m<|s8.m s9,(s7.m s8).free hcA,Zz1,?_,by rw[Yy7];show eRl,λl h=>?_,J,hb2,?_,λi j hi hj=>hAb _ _ ?_ hj,λe0=>?_,?_,hsm _ (Yy9 hl) y Ye
    ·show hZ8.imp λv l zz=>by let(r,e,h):=zz;exists r,e,s9 _ _ h,Za h hcA
    ·let(l0,h0,rfl):=Yx.S h;rw[Zx8 (by rw[hRl7 l0 h0,hpl]),hpl]
    ·rw[hdr,hdet,hsgn,Yy05,<-Yy05 (sg t),ZT14,Y0X]
    ·unfold rotN;split
     ·grind
     ·split
      ·lia
      ·split<;>lia
    ·subst e0
     have:=Zb13 hb1
     rwa[show k+1=n by lia]at this
    ·rw[hsgn];let hst:sg t=1\/sg t=-1:=by
      unfold sg;split
      ·show .inl rfl
      ·show .inr rfl
     rcases hsg with e|e<;>rcases hst with f|f<;>rw[e,f]
     ·show .inl rfl
     ·show .inr rfl
     ·show .inr rfl
     ·show .inl rfl
   ·intro Kn hK;exists _,Z,_,_,Z,Z,(by change(0:Int)<2;decide),Z,_,Z,?_;rw[ZV];show itd2 (λh1=>?_) (λh1=>?_)
    ·exists _,Z,_,Z,hK _ _ {-sgn,Z,Z,?_};let e:sg t=-1:=by unfold sg;rw[if_neg J]
     rw[e];lia
    ·show hK _ _ {sgn,Z,Z,?_};let e:sg t=1:=by unfold sg;rw[if_pos J]
     rw[e];grind
  ·have hm0:m=0:=J;exists _,Z,_,Z,_,_,Z,Z,{?_,hlb},?_
   ·rcases hsg with e|e<;>rw[e]<;>show Nat.one_lt_two_pow XU
   ·rw[hfin hm0]at *;rw[hdet]at q;show q H4 s4
inductive spZ4(K:PySem.W.Q)(vs:List V)(H:Hp)(Q:VK)(_:XK):Prop
 |mk (a:Addr) (l:List Int) (i:Nat) (_:vs=[.ref a,.int i]) (_:SqL K H a (IL l)) (_:l.f<=1000) (_:∀r H',Same H H'->H r=none->H' r=some (.lst<|IL<|cutz l i)->Q ↑r H')
def ZO10(l:List Int)(z:Int):cutz (IL l) z=IL (cutz l z):=by
 unfold cutz;change(l.L V.int).G _++(l.L V.int).drop _=(l.G _++l.drop _).L V.int
 rw[Yn,List.map_take,List.map_drop]
def okZ4(T:Txt K mg t):OkQ P w base CX0 T.qZ4 1 (spZ4 K):=by
 show T.qZ4.okI ["row","number"] XT λcdv A outer s H vs Q E hr h=>?_
 ·let(a,l,i,rfl,hA,hl,q):=h;exists _,(Zz7<|Zq<|Zn ZT7 (Zh (ZW K) XR T.n_list Boot.«list»<|Zz0 (Zr1 (Zo1 K) (pv 0) Zz42<|Zz32<|pv 1) Zz3)<|Zh (ZW K) XR T.n_list Boot.«list»<|Zz0 (Zr1 (Zo1 K) (pv 0) (Zz32<|Zn Zt1 (pv 1) Zz8) Zz42) Zz3),?_;exists _,Z,_,Z,(i:Int),Z,a,_,Z,hA,λp1 hp1=>?_;let u1:=Zz5 (o:=.lst<|cutV (IL l) none<|some (i:Int)) hp1
  exists p1,_,Z,.inl<|SqL.of Zz1,λp2 hp2=>?_;let u2:=Zz5 (o:=.lst<|cutV (IL l) none<|some (i:Int)) hp2
  exists _,Z,_,Z,_,_,Z,Z,_,Z,a,_,Z,(u1.m u2).seq hA,λp3 hp3=>?_;let u3:=Zz5 (o:=.lst<|cutV (IL l) (some<|(i:Int)+1) none) hp3
  exists p3,_,Z,.inl<|SqL.of Zz1,λp4 hp4=>?_;let u4:=Zz5 (o:=.lst<|cutV (IL l) (some<|(i:Int)+1) none) hp4
  let c1:=ZY1 (IL l) none (some (i:Int));let c2:=ZY1 (IL l) (some<|(i:Int)+1) none
  rw[Zz4]at c1 c2;exists p2,p4,_,_,Z,Z,(u3.m u4) _ _ Zz1,Zz1,ZI1 J,λp5 hp5=>?_;let u14:=u1.m (u2.m<|u3.m u4)
  show q p5 _ (u14.m<|Zz5 hp5) (u14.free hp5) ?_;rw[Zz1,Zj15 J,ZO10]
inductive spZ5(K:PySem.W.Q)(vs:List V)(H:Hp)(Q:VK)(_:XK):Prop
 |mk (a:Addr) (ys:List V) (L:List (List Int)) (i:Nat) (_:vs=[.ref a,.int i]) (_:SqL K H a ys) (_:Bears (ZB7 H) ys L) (_:L.f<=1000) (_:(∀l∈L,l.f<=1000)) (_:i<L.f) (_:∀r zs H',Same H H'->H' r=some (.lst zs)->Bears (ZB7 H') zs ((cutz L i).L λl=>cutz l (i:Int))->Q ↑r H')
def Zc5{α:Type}{l:List α}{i j:Nat}{x:α}(hx:l[j]?=some x):cutz (l.G (j+1)) (i:Int)=cutz (l.G j) (i:Int)++(if j=i then [] else [x]):=by
 let hj:=(Yy1.S hx).1;let e:l.G (j+1)=l.G j++[x]:=by rw[YN,hx];rfl
 let hl:(l.G j).f=j:=by rw[Yh];lia
 let short:∀m:List α,m.f<=i->cutz m (i:Int)=m:=λm hm=>by unfold cutz;rw[YB,YF hm,YH J,YM]
 rw[e];cases c:j=i
 ·subst c;rw[if_pos Z,YM,short (l.G j) J];unfold cutz;rw[YB,Y0U J,YH (by rw[Yy3,hl];show Yy8 _),YM,YF J]
 ·rw[if_neg c];cases d:j<i
  ·rw[short (l.G j++[x]) (by rwa[Yy3,hl]),short (l.G j) J]
  ·unfold cutz;rw[YB,Y0U J,Yy21 J,Yw]
def okZ5(T:Txt K mg t):OkQ P w base CX0 T.qZ5 2 (spZ5 K):=by
 show T.qZ5.okI ["table","number"] XT λcdv A outer s H vs Q E hr h=>?_
 ·let(a,ys,L,i,rfl,hA,hB,hL,hLl,hi,q):=h;exists _,(Zz7<|Zq<|ZY3 Z (sc0:=Zb<|top 14) (N0:=["table","number"]) (N':=["at","row","number"]) (o:=2) (fr:=[1]) ⟨Z,XT,XT,XT,Z,XT⟩ (ZR2 K Z T.n_enumerate<|Zz0 (pv 0) Zz3) (Zr3<|Zz61 XU<|Zz61 XU Zs3) (λ_ _ _ _=>(ZE1 (n:=2) K Z<|Zx (Zc 0)<|Zx (Zc 1) ZD1)) (λ_ _ _ _=>(Zn3<|Zl ZP8 (pv 0) (pv 2)<|Zz _)) λ_ _ _ _=>(Zz9 (okZ4 T) hr T.qZ4 ZP<|Zz0 (pv 1)<|Zz0 (pv 2) Zz3)),?_;let hyl:=hB.1
  show⟨_,Z,a,Z,{_,hA},ZJ6 (K:=K) (a:=a) (xs:=ys) (λj zs H2=>Same H H2/\j<=ys.f/\Bears (ZB7 H2) zs ((cutz (L.G j) (i:Int)).L λl=>cutz l (i:Int))) {Same.refl _,Yk _,by rw[show(cutz (L.G 0) (i:Int)).L (λl=>cutz l (i:Int))=[] by unfold cutz;simp];show{Z,λi l e=>by simp at e}} (Zk J) (λj zs H2 hj ⟨e,hj2,ez⟩=>⟨e.seq hA,by
   rw[ez.1,Yy7];show Yv (Zd11 _ _) ?_;rw[Yh]
   lia⟩) ?_ ?_⟩
  ·rintro j v zs H2 pt hpt hj ⟨s2,hjl,hZ⟩ S hSS;let(l,hl,r,rfl,hr):=hB.at hj;let hjl':=(Yy1.S hj).1
   let s3:=Zz5 (o:=.tup [.int j,.ref r]) hpt;exists pt,_,Z,SqT.of Zz1,Z,_,_,Z,_,_,Z,Z,?_;let hZ3:Bears (ZB7<|upd H2 pt<|.tup [.int j,.ref r]) zs ((cutz (L.G j) (i:Int)).L λl=>cutz l (i:Int)):=hZ.imp λ_ _ zz=>by let(r',e,h):=zz;exists r',e,s3 _ _ h
   let s23:=s2.m s3;generalize upd H2 pt (.tup [.int j,.ref r])=H3 at *;exists _,Z,_,Z,Z,_,Z,?_;rw[ZV];show itn2 (λe=>?_) (λe=>?_)
   ·show hSS _ _ {s23,hjl',?_};rwa[Zc5 hl,if_pos J,YM]
   ·exists _,Z,_,Z,r,l,i,Z,SqL.of<|s23 _ _ hr,hLl l<|Yy9 hl,λc H4 s4 _ hc=>hSS _ _ {s23.m s4,hjl',?_};rw[Zc5 hl,if_neg J,Yn];show(hZ3.imp λ_ _ zz=>by let(r',e,h):=zz;exists r',e,s4 _ _ h).snoc ⟨c,Z,hc⟩
  ·rintro zs H2 ⟨s2,_,hZ⟩ p hp;rw[hyl,YR]at hZ;show q p zs _ (s2.m<|Zz5 hp) Zz1 (hZ.imp λ_ _ zz=>by let(r',e,h):=zz;exists r',e,Zz5 hp _ _ h)
inductive spZ6(vs:List V)(H:Hp)(Q:VK)(_:XK):Prop
 |mk (x y:Int) (_:vs=[.int x,.int y]) (_:Q (.int<|Int.gcd x y) H)
def ZA9(z:Int):(if z<0 then -z else z)=(z.natAbs:Int):=by split<;>omega
def ZV10(a b:Nat):Nat.gcd b (a%b)=Nat.gcd a b:=by rw[Y2t b,<-Nat.gcd_rec,Y2t]
def okZ6(T:Txt K mg t):OkQ P w base CX0 T.qZ6 1 spZ6:=by
 show T.qZ6.okI ["one","other","rest"] XT λcdv A outer s H vs Q E hr h=>?_
 ·let(x,y,rfl,q):=h;show⟨_,(Zz2 (Zd 0<|Zf Zm5 XR T.n_abs Boot.«abs»<|Zz0 (pv 0) Zz3)
   (Zz2 (Zd 1<|Zf Zm5 XR T.n_abs Boot.«abs»<|Zz0 (pv 1) Zz3)
   (Zz2 (ZV3 QP (Zl ZP8 (pv 1) Zz8<|Zz _)
   (Zz2 (Zd 2<|Zn ZO (pv 0)<|pv 1)
   (Zz2 (Zd 0<|pv 1)
   (Zz7<|Zd 1<|pv 2))))
   (Zz7<|Zq<|pv 0)))),?_⟩
  exists _,Z,x,Z,?_;rw[ZA9];show nm ?_;dsimp only;exists _,Z,y,Z,?_;rw[ZA9];show nm ?_;dsimp only;exists λm σ H2=>H2=H/\∃(a b:Nat)(v3:Option V),σ=[some (.int a),some<|.int b,v3]/\b=m/\Nat.gcd a b=Int.gcd x y,⟨y.natAbs,Z,x.natAbs,y.natAbs,none,Z,Z,Z⟩,?_;rintro m σ H2 ⟨rfl,a,b,v3,rfl,rfl,hg⟩;exists _,Z,Z,_,Z,?_;rw[ZV];show itn2 (λhb=>?_) (λhb=>?_)
  ·have b0:b=0:=B;subst b0;rw[Nat.gcd_zero_right]at hg;exists _,Z,?_;rwa[hg]
  ·have bp:0<b:=B;exists _,λσ' H' h=>h,?_;exists _,Z,_,Z,_,_,Z,Z,(by omega:(0:Int)<(b:Int)),?_;exists _,Z,?_;exists _,Z,?_;exists a%b,Yy46 _ bp,Z,b,a%b,_,Z,Z,by rwa[ZV10]
inductive spZ7(vs:List V)(H:Hp)(Q:VK)(_:XK):Prop
 |mk (x y:Int) (_:vs=[.int x,.int y]) (_:y≠0) (_:x.natAbs<2^9000) (_:y.natAbs<2^9000) (_:∀p q:Int,LowF x y p q->∀r,H r=none->Q ↑r (upd H r<|.tup [.int p,.int q]))
def okZ7(T:Txt K mg t):OkQ P w base CX0 T.qZ7 2 spZ7:=by
 show T.qZ7.okI ["top","bottom","divisor"] XT λcdv A outer s H vs Q E hr h=>?_
 ·let(x,y,rfl,hy,bx,by',q):=h;show⟨_,(Zz2 (Zd 2<|Zz9 (okZ6 T) hr T.qZ6 ZP<|Zz0 (pv 0)<|Zz0 (pv 1) Zz3)
   (Zz2 (ZJ1 (Zl Zl10 (pv 1) Zz8<|Zz _)
   (Zz7<|Zd 2<|ZX13 ZH9<|pv 2)
   Zv)
   (Zz7<|Zq<|Zq1<|Zz0 (Zn Zz24 (pv 0)<|pv 2)<|Zz0 (Zn Zz24 (pv 1)<|pv 2) Zz3))),?_⟩
  let gb:Int.gcd x y<2^9000:=Y1L (Nat.gcd_le_right _ B) by';let low:=λd hd=>ZW8 (x:=x) (y:=y) (d:=d) hy hd
  let fin:∀d:Int,d=(if y<0 then -(Int.gcd x y:Int) else (Int.gcd x y:Int))->Zy14 x d/\Zy14 y d:=λd hd=>by
   let h0:=(low d hd).1;let h1:d.natAbs<2^9000:=by
    rw[hd];split
    ·rwa[Int.natAbs_neg,Yy39]
    ·rwa[Yy39]
   exists ⟨h0,h1⟩,⟨h0,h1⟩
  exists _,Z,_,Z,x,y,Z,?_;show nm ?_;dsimp only;show Zk15 (λσ H2=>∃d:Int,d=(if y<0 then -(Int.gcd x y:Int) else (Int.gcd x y:Int))/\σ=[some (.int x),some<|.int y,some (.int d)]/\H2=H) ?_ ?_;rotate_left
  ·intro Kn hK;exists _,Z,_,_,Z,Z,_,Z,?_;show itd2 (λh=>?_) (λh=>?_)
   ·exists _,Z,_,Z,?_;show hK _ _ {_,(if_pos h).symm,Z,Z}
   ·show hK _ _ {_,(if_neg h).symm,Z,Z}
  rintro σ H2 ⟨d,hd,rfl,rfl⟩;let(f1,f2):=fin d hd;exists _,Z,_,Z,_,_,Z,Z,f1,_,Z,_,Z,_,_,Z,Z,f2,(by change 2<=sizeLine;decide),λr hr=>?_;show q _ _ (low d hd).2 r hr
inductive spZ8(K:PySem.W.Q)(vs:List V)(H:Hp)(Q:VK)(_:XK):Prop
 |mk (n a kd xs ps:_) (_:vs=[.int n,.ref a]) (_:SqK kd K H a xs) (_:PairsV H xs ps) (_:ZM n ps) (_:Q .non H)
def okZ8(T:Txt K mg t):OkQ P w base CX0 T.qZ8 1 (spZ8 K):=by
 show T.qZ8.okI ["places","ties","ends","end"] XT λcdv A outer s H vs Q E hr h=>?_
 ·let(n,a,kd,xs,ps,rfl,hS,hp,(g1,g2,g3,g4),q):=h;show⟨_,(Zz2 (ZJ1 (ZD5<|Zh6 Zd12 Zd12 Zz8 (pv 0)<|ZM4 (v:=V.int 14) Z T.g_MOST_PLACES.choose_spec {_,Z})
   (Zz7 ZT1)
   Zv)
   (Zz2 (ZJ1 (Zl Zr6 (Zf (Zi K) XR T.n_len Boot.«len»<|Zz0 (pv 1) Zz3) (ZM4 (v:=V.int 30) Z T.g_MOST_TIES.choose_spec {_,Z})<|Zz _)
   (Zz7 ZT1)
   Zv)
   (Zz7 (Zz31 QP Z (Zz52 K<|pv 1) (Zc 2)
   (Zz7 (Zz31 QP Z (Zp3 K<|pv 2) (Zc 3)
   (Zz7 (ZJ1 (ZD5<|Zh6 Zd12 Zl10 Zz8 (pv 3)<|pv 0)
   (Zz7 ZT1)
   Zv)))))))),?_⟩
  exists _,Z,_,_,Z,Z,_,Z,?_;show itd g1 ?_;exists _,_,Z,Z,_,Z,?_;show itn g2 ?_;exists _,Z,a,xs,Z,hS.or,_,_,Z,Z,_,Z,?_;show itdn (by rw[hp.1];lia) ?_;exists _,Z,a,Z,Zy3 (k:=kd) (K:=K) (xs:=xs) (λi σ H2=>∃v v2,σ=[some (.int n),some<|.ref a,v,v2]/\H2=H) ⟨none,none,Z,Z⟩ (λi σ H2 _ zz=>by let(_,_,_,e):=zz;show e▸hS) ?_ ?_
  ·rintro i x σ H2 hi ⟨v,v2,rfl,rfl⟩;let(p,hpi,tt,rfl,ht):=hp.at hi;let(e1,e2,e3,e4):=g4 p (Yy9 hpi);exists _,Z,tt,Z,{_,SqT.of ht},Zh9 (K:=K) (a:=tt) (xs:=[.int p.1,.int p.2]) (λj σ H3=>∃v v2,σ=[some (.int n),some<|.ref a,v,v2]/\H3=H2) {_,_,Z,Z} (λj σ H3 _ zz=>by let(_,_,_,e):=zz;show e▸SqT.of ht) ?_ ?_
   ·rintro j y σ H3 hj ⟨v,v2,rfl,rfl⟩;let hy:∃z:Int,y=.int z/\0<=z/\z<n:=by
     match j,hj with
     |0,hj=>exists p.1,(Yl hj).symm,e1,e2
     |1,hj=>exists p.2,(Yl hj).symm,e3,e4
    let(z,rfl,z1,z2):=hy;exists _,Z,_,_,Z,Z,_,Z,?_;show itd z1 ?_;exists _,Z,_,_,Z,Z,_,Z,?_;show itn z2 ?_;exists _,_,Z,Z
   ·rintro σ H3 ⟨v,v2,rfl,rfl⟩;exists _,_,Z,Z
  ·rintro σ H2 ⟨v,v2,rfl,rfl⟩;show q
inductive sp_Web_init(K:PySem.W.Q)(C:Addr)(vs:List V)(H:Hp)(Q:VK)(_:XK):Prop
 |mk (w dx n a kd xs ps:_) (_:vs=[.ref w,.int n,.ref a]) (_:H w=some (.ins C dx [])) (_:(∀o,SqK kd K (upd H w o) a xs)) (_:PairsV H xs ps) (_:ZM n ps) (_:∀H':Hp,WebAt C H' w n ps->(∀b o,H b=some o->b≠w->H' b=some o)->Q .non H')
def scZ9:FnScope ["self","places","ties"] ["self","places","ties"] (Zb sZ9):=ZE4 XT
def okZ9(T:Txt K mg t):FnOk P w K mg base CX0 2 t.aZ9 t.dZ9 ["self","places","ties"] (sp_Web_init K t.A_Web):=by
 show T.fZ9.ok scZ9 (λvs H Q E h=>?_) (λcdv A outer s H vs Q E hr h=>?_)
 ·let(w,dx,n,a,kd,xs,ps,rfl,_):=h;rfl
 ·let(w,dx,n,a,kd,xs,ps,rfl,hw,hS,hp,g,q):=h;let eH:upd H w (.ins t.A_Web dx [])=H:=by
   funext b
   cases hb:b=w
   ·subst hb;rw[Zz1,hw]
   ·rw[Ze hb]
  let hS0:SqK kd K H a xs:=by let z:=hS (.ins t.A_Web dx []);rwa[eH]at z
  show⟨_,(Zz2 (ZK<|Zz9 (okZ8 T) hr T.qZ8 ZP<|Zz0 (pv 1)<|Zz0 (pv 2) Zz3)
   (Zz2 (Zz612 (pv 0) (pv 1) Z)
   (Zz7<|Zz612 (pv 0) (ZY3 Z (sc0:=Zb sZ9) (N0:=["self","places","ties"]) (N':=["ends"]) (o:=1) (fr:=[]) ⟨Z,XT,XT,XT,Z,XT⟩ (Zz52 K<|pv 2) (ZA XU) (λ_ _ _ _=>(Zc 0)) (λ_ _ _ _=>ZQ) λ_ _ _ _=>(Zq1<|Zz0 (ZH (ZG K) (pv 0) Zz8 λ_ _=>rfl)<|Zz0 (ZH (ZG K) (pv 0) Zz8 λ_ _=>rfl) Zz3)) Z))),?_⟩
  exists _,Z,_,Z,n,a,kd,xs,ps,Z,hS0,hp,g,?_;exists _,Z,_,Z,w,_,dx,[],Z,hw,T.cl_Web,T.n_Web_places,(by change 0<1000;decide),?_;let hp1:PairsV (upd H w<|.ins t.A_Web dx<|putF "places" (.int n) []) xs ps:={hp.1,λi p e=>by let(v,e1,tt,e2,e3):=hp.2 i p e;show{v,e1,tt,e2,by rwa[Ze (Zq10 e3 hw (λz=>nomatch z))]}}
  let sx:xs.f<sizeLine:=Zk (by rw[hp.1];have:=g.2.2.1;lia);show⟨_,Z,a,Z,ZF10 (k:=kd) (K:=K) (xs:=xs) (λi ys H2=>i<=xs.f/\ys.f=i/\Same (upd H w<|.ins t.A_Web dx<|putF "places" (.int n) []) H2/\PairsV H2 ys (ps.G i)) {Yk _,Z,Same.refl _,PairsV.nil} sx
   (λi ys H2 _ zz=>by let(_,hl,s2,_):=zz;exists (hS _).same s2,Y3n hl) ?_ ?_⟩
  ·rintro i x ys H2 hi ⟨h1,hl,s2,hy⟩ S hSS;let(p,hpi,tt,rfl,ht):=hp1.at hi;let ht2:=s2 _ _ ht
   show nmY ?_;exists _,Z,tt,_,0,.int p.1,Z,Z,SqT.of ht2,Z,_,Z,tt,_,1,.int p.2,Z,Z,SqT.of ht2,Z,(by change 2<=sizeLine;decide),λq hq=>?_;let hil:i<xs.f:=(Yy1.S hi).1
   show hSS _ _ {hil,by rw[Yy3,hl];rfl,Zu s2 hq,?_};rw[YN,hpi];show(hy.same<|Zz5 hq).snoc ⟨q,Z,Zz1⟩
  ·rintro ys H2 ⟨_,hl,s2,hy⟩ tl htl;let hw2:=s2 w _ Zz1
   let nwt:w≠tl:=Za hw2 htl;exists _,Z,w,_,dx,_,Z,(by rwa[Ze nwt]),T.cl_Web,T.n_Web_ties,(by change 1<1000;decide),?_;show q _ {dx,tl,ys,Zz1,by rw[Ze (Y0f nwt),Zz1],?_} λb ob e hb=>?_
   ·have e1:ps.G xs.f=ps:=YF (by rw[hp.1];show Yy8 _);rw[e1]at hy;exists hy.1,λi p e=>?_;let(v,e2,tt,e3,e4):=hy.2 i p e;exists v,e2,tt,e3,by rwa[Ze (Zq10 e4 hw2 (λz=>nomatch z)),Ze (Za e4 htl)]
   ·have e2:=s2 b ob (by rwa[Ze hb]);rwa[Ze hb,Ze (Za e2 htl)]
inductive spZa(K:PySem.W.Q)(C R:Addr)(vs:List V)(H:Hp)(Q:VK)(E:XK):Prop
 |mk (w a:Addr) (n:Int) (ps:List (Int×Int)) (kd:Bool) (ws:List Int) (_:vs=[.ref w,.ref a]) (_:WebAt C H w n ps) (_:SqK kd K H a (IL ws)) (_:(ws.f=ps.f->Q .non H)) (_:(ws.f≠ps.f->E ↑R none H))
def okZa(T:Txt K mg t):OkQ P w base (CXW P w) T.qZa 1 (spZa K t.A_Web t.A_BadRow):=by
 show T.qZa.okXI ["web","numbers"] XT λcdv A outer s H vs Q E hr h=>?_
 ·let(w,a,n,ps,kd,ws,rfl,(dx,tl,xs,h1,h2,h3),hS,q,qe):=h;show⟨_,(Zz7 (ZJ1 (Zl ZP8 (Zf (Zi K) XR T.n_len Boot.«len»<|Zz0 (pv 1) Zz3) (Zf (Zi K) XR T.n_len Boot.«len»<|Zz0 (ZU K (pv 0) Z) Zz3)<|Zz _)
   (Zz7<|Zb10 T.x_BadRow T.c_BadRow<|Zz0 ZL1 Zz3)
   Zv)),?_⟩
  let hl:=h3.1;exists _,Z,a,_,Z,hS.or,_,Z,w,_,dx,_,_,Z,h1,T.cl_Web,T.n_Web_ties,ZC1 _ _,tl,xs,Z,.inl<|SqL.of h2,Z,_,Z,?_;rw[ZV,Zz4];show itn2 (λhc=>?_) (λhc=>?_)
  ·show q J
  ·exists by change 1<=sizeLine;decide,qe J
inductive spZb(C:Addr)(vs:List V)(H:Hp)(Q:VK)(_:XK):Prop
 |mk (w n ps k:_) (_:vs=[.ref w,.int k]) (_:WebAt C H w n ps) (_:Q (.bl<|decide<|0<=k/\k<ps⁻¹) H)
def okZb(T:Txt K mg t):OkQ P w base CX0 T.qZb 1 (spZb t.A_Web):=by
 show T.qZb.okI ["web","number"] XT λcdv A outer s H vs Q E hr h=>?_
 ·let(w,n,ps,k,rfl,(dx,tl,xs,h1,h2,h3),q):=h;exists _,(Zz7<|Zq<|Zj10 Zd12 Zl10 Zz8 (pv 1)<|Zf (Zi K) XR T.n_len Boot.«len»<|Zz0 (ZU K (pv 0) Z) Zz3),?_;exists _,Z,_,_,Z,Z,_,Z,?_;show ite2 (λhc=>?_) (λhc=>?_)
  ·exists _,Z,w,_,dx,_,_,Z,h1,T.cl_Web,T.n_Web_ties,ZC1 _ _,tl,xs,Z,.inl<|SqL.of h2,_,_,Z,Z,?_;let hc:=YS hc
   change Q (.bl<|decide<|k<xs⁻¹) H;rwa[h3.1,show decide (k<ps⁻¹)=decide (0<=k/\k<ps⁻¹) from by simp[hc]]
  ·have hc:¬(0<=k):=λz=>hc (YY z);change Q (.bl false) H
   rwa[show(false:Bool)=decide (0<=k/\k<ps⁻¹) from by simp;lia]
inductive spZc(K:PySem.W.Q)(C:Addr)(vs:List V)(H:Hp)(Q:VK)(_:XK):Prop
 |mk (w n ps:_) (_:vs=[.ref w]) (_:WebAt C H w n ps) (_:ps.f<=1000) (_:∀r H',Same H H'->H r=none->H' r=some (.tup<|IL<|rgL ps.f)->Q ↑r H')
def okZc(T:Txt K mg t):OkQ P w base CX0 T.qZc 1 (spZc K t.A_Web):=by
 show T.qZc.okI ["web"] XT λcdv A outer s H vs Q E hr h=>?_
 ·let(w,n,ps,rfl,(dx,tl,xs,h1,h2,h3),hl,q):=h;exists _,(Zz7<|Zq<|Zh (Zz53 Z) XR T.n_tuple Boot.«tuple»<|Zz0 (Zh Zz63 XR T.n_range Boot.«range»<|Zz0 (Zf (Zi K) XR T.n_len Boot.«len»<|Zz0 (ZU K (pv 0) Z) Zz3) Zz3) Zz3),?_;let hx:=h3.1
  exists _,Z,w,_,dx,_,_,Z,h1,T.cl_Web,T.n_Web_ties,ZC1 _ _,tl,xs,Z,.inl<|SqL.of h2,_,Z,λr hr=>{r,0,_,Z,Zz1,⟨XU,XU,J,J⟩,J,λl hl=>?_};show q l _ (Zu (Zz5 hr) hl) ((Zz5 hr).free hl) ?_;rw[Zz1,hx,Zz310]
inductive spZd(K:PySem.W.Q)(C:Addr)(vs:List V)(H:Hp)(Q:VK)(_:XK):Prop
 |mk (w a n ps kd ns:_) (_:vs=[.ref w,.ref a]) (_:WebAt C H w n ps) (_:SqK kd K H a (IL ns)) (_:∀b:Bool,(b=true↔IsSet ps.f ns)->Q (.bl b) H)
def okZd(T:Txt K mg t):OkQ P w base CX0 T.qZd 2 (spZd K t.A_Web):=by
 show T.qZd.okI ["web","ties","last","tie"] XT λcdv A outer s H vs Q E hr h=>?_
 ·let(w,a,n,ps,kd,ns,rfl,hW,hS,q):=h;show⟨_,(Zz2 (Zd 2<|ZX13 ZH9 Zz8)
   (Zz2 (Zz31 QP Z (Zz52 K<|pv 1) (Zc 3)
   (Zz2 (ZJ1 (PW.pt<|Zj13 (Zl Zd12 (pv 3) (pv 2)<|Zz _)<|Zz810<|ZD5<|Zg6<|Zz9 (okZb T) hr T.qZb ZP<|Zz0 (pv 0)<|Zz0 (pv 3) Zz3)
   (Zz7<|Zq Zu11)
   Zv)
   (Zz7<|Zd 2<|pv 3)))
   (Zz7<|Zq Zu11))),?_⟩
  exists _,Z,?_;show⟨_,Z,a,Z,Zy3 (k:=kd) (K:=K) (xs:=IL ns) (λi σ H2=>∃l v,σ=[some ↑w,some<|.ref a,some<|.int l,v]/\H2=H/\(i=0->l=-1)/\(i≠0->ns[i-1]?=some l)/\∀j z,j<i->ns[j]?=some z->0<=z/\z<ps⁻¹/\∀y,j≠0->ns[j-1]?=some y->y<z)
   {-1,none,Z,Z,λ_=>rfl,λz=>absurd Z z,λj z hj=>absurd hj<|Y0h j} (λi σ H2 _ zz=>by let(_,_,_,e,_):=zz;show e▸hS) ?_ ?_⟩
  ·rintro i x σ H2 hi ⟨l,v,rfl,rfl,hl0,hl1,hp⟩;let(z,rfl,hz):=Zz81 hi;exists _,Z,_,Z,_,_,Z,Z,_,Z,?_;show itd2 (λhc=>?_) (λhc=>?_)
   ·-- tie<=last
    show iteT ?_;show q false {λz=>(nomatch z),λhs=>?_};let(b1,b2,b3):=hs i z hz;cases h0:i=0
    ·have:=hl0 h0;lia
    ·have:=b3 l h0 (hl1 h0);lia
   ·exists _,Z,_,Z,w,n,ps,z,Z,hW,_,Z,?_;show itn2 (λhc2=>?_) (λhc2=>?_)
    ·exists _,Z,?_;show{z,_,Z,Z,λe=>(nomatch e),λ_=>by simpa using hz,λj y hj ey=>?_};cases hji:j<i
     ·show hp j y hji ey
     ·have e:j=i:=J;subst e;rw[hz]at ey;cases ey;exists hc2.1,hc2.2,λy h0 ey=>?_;rw[hl1 h0]at ey;cases ey;lia
    ·show q false {λz=>(nomatch z),λhs=>?_};let(b1,b2,b3):=hs i z hz;show absurd ⟨b1,b2⟩ hc2
  ·rintro σ H2 ⟨l,v,rfl,rfl,hl0,hl1,hp⟩;show q true {λ_ i z hz=>?_,λ_=>rfl};let hi:i<(IL ns).f:=by rw[Zz4];show(Yy1.S hz).1
   show hp i z hi hz
inductive spZe(K:PySem.W.Q)(C:Addr)(vs:List V)(H:Hp)(Q:VK)(_:XK):Prop
 |mk (w a n ps kd ns:_) (_:vs=[.ref w,.ref a]) (_:WebAt C H w n ps) (_:SqK kd K H a (IL ns)) (_:IsSet ps.f ns) (_:∀r H',Same H H'->SqT K H' r (IL ns)->Q ↑r H')
def okZe(T:Txt K mg t):OkQ P w base CX0 T.qZe 3 (spZe K t.A_Web):=by
 show T.qZe.okI ["web","ties"] XT λcdv A outer s H vs Q E hr h=>?_
 ·let(w,a,n,ps,kd,ns,rfl,hW,hS,hI,q):=h;show⟨_,(Zz2 (ZJ1 (ZD5<|Zg6<|Zz9 (okZd T) hr T.qZd ZP<|Zz0 (pv 0)<|Zz0 (pv 1) Zz3)
   (Zz7 ZT1)
   Zv)
   (Zz7<|Zq<|Zh (ZI2 K) XR T.n_tuple Boot.«tuple»<|Zz0 (pv 1) Zz3)),?_⟩
  exists _,Z,_,Z,w,a,n,ps,kd,ns,Z,hW,hS,λb hb=>{_,Z,?_};show itnb (λ_=>?_) (λz=>?_)
  ·exists _,Z,a,IL ns,Z,?_;cases kd with
   |false=>show .inl {hS,λl hl=>q l _ (Zz5 hl)<|SqT.of Zz1}
   |true=>show .inr {hS,q a H (Same.refl H) hS}
  ·rw[hb.X hI]at z;cases z
inductive spZf(K:PySem.W.Q)(C:Addr)(vs:List V)(H:Hp)(Q:VK)(_:XK):Prop
 |mk (w m a n ps M kd ns:_) (_:vs=[.ref w,.ref m,.ref a]) (_:WebAt C H w n ps) (_:ZM n ps) (_:H m=some (.lst<|IL M)) (_:M.f=n.i) (_:SqK kd K H a (IL ns)) (_:(∀z∈ns,0<=z/\z<ps⁻¹)) (_:∀m' H',Same H H'->(m'=m\/H m'=none)->H' m'=some (.lst<|IL<|pmf M<|Zz6 ps ns)->Q ↑m' H')
def scZf:FnScope ["web","marks","ties","tie","ends","low","high"] ["web","marks","ties"] (Zb (top 27)):=ZE4 XT
def okZf(T:Txt K mg t):OkQ P w base CX0 T.qZf 1 (spZf K t.A_Web):=by
 show T.qZf.okI ["web","marks","ties","tie","ends","low","high"] XT λcdv A outer s H vs Q E hr h=>?_
 ·let(w,m0,a,n,ps,M0,kd,ns,rfl,(dx,tl,xs,h1,h2,h3),(g1,g2,g3,g4),hm,hlM,hS,hI,q):=h;show⟨_,(Zz2 (Zz31 QP Z (Zz52 K<|pv 2) (Zc 3)
   (Zz2 (Zd 4<|ZH (Zg K) (ZU K (pv 0) Z) (pv 3) λ_ _=>rfl)
   (Zz2 (ZN2 (i:=5) scZf.nd Z (Or.inr Z)<|Zf (Zl5 Z) XR T.n_min Boot.«min»<|Zz0 (ZH (Zg K) (pv 1) (ZH (ZG K) (pv 4) Zz8 λ_ _=>rfl) λ_ _=>rfl)<|Zz0 (ZH (Zg K) (pv 1) (ZH (ZG K) (pv 4) Zz8 λ_ _=>rfl) λ_ _=>rfl) Zz3)
   (Zz2 (ZN2 (i:=6) scZf.nd Z (Or.inr Z)<|Zf (Zz73 Z) XR T.n_max Boot.«max»<|Zz0 (ZH (Zg K) (pv 1) (ZH (ZG K) (pv 4) Zz8 λ_ _=>rfl) λ_ _=>rfl)<|Zz0 (ZH (Zg K) (pv 1) (ZH (ZG K) (pv 4) Zz8 λ_ _=>rfl) λ_ _=>rfl) Zz3)
   (Zz7 (ZJ1 (Zl Zl10 (pv 5) (pv 6)<|Zz _)
   (Zz7<|ZN7 (i:=1) Z scZf.nd Z Z (sc0:=Zb<|top 27) (N0:=["web","marks","ties","tie","ends","low","high"]) (N':=["mark","high","low"]) (o:=1) (fr:=[6,5]) ⟨Z,XT,XT,XT,Z,XT⟩ (ZX K<|pv 1) (ZA XU) (λ_ _ _ _=>(Zc 0)) (λ_ _ _ _=>ZQ) λ_ _ _ _=>(ZZ3 (Zl ZQ8 (pv 0) (pv 1)<|Zz _) (pv 2)<|pv 0))
   Zv))))))
   (Zz7<|Zq<|pv 1)),?_⟩
  show⟨_,Z,a,Z,Zy3 (k:=kd) (K:=K) (a:=a) (xs:=IL ns) (λi σ H2=>∃m v3 v4 v5 v6,σ=[some ↑w,some<|.ref m,some<|.ref a,v3,v4,v5,v6]/\Same H H2/\(m=m0\/H m=none)/\H2 m=some (.lst<|IL<|pmf M0<|Zz6 ps<|ns.G i))
   {m0,none,none,none,none,Z,Same.refl _,.inl Z,hm} (λi σ H2 _ zz=>by let(_,_,_,_,_,_,s2,_):=zz;show hS.same s2) ?_ ?_⟩
  ·rintro i x σ H2 hi ⟨m,v3,v4,v5,v6,rfl,s2,hm0,hm2⟩;let(z,rfl,hz):=Zz81 hi;let(z0,z1):=hI z (Yy9 hz);obtain⟨p,hp⟩:∃p,ps[z.i]?=some p:={_,Yy0 J};let(v,hv,tt,rfl,htt):=h3.2 z.i p hp;let(e1,e2,e3,e4):=g4 p (Yy9 hp);let ed:ps.getD z.i (0,0)=p:=ZS hp
   exists _,Z,w,_,dx,_,_,Z,s2 _ _ h1,T.cl_Web,T.n_Web_ties,ZC1 _ _,_,Z,tl,xs,z,.ref tt,Z,Z,SqL.of<|s2 _ _ h2,ZE (n:=z.i) J hv,?_;let ht2:=s2 _ _ htt
   let hl:(pmf M0<|Zz6 ps<|ns.G i).f=n.i:=(Zj6 _ _).m hlM;generalize hM:pmf M0 (Zz6 ps<|ns.G i)=M at *;let ha:M[p.1.i]?=some (mk M p.1.i):=ZM1 J
   let hb:M[p.2.i]?=some (mk M p.2.i):=ZM1 J;let iA:atI (IL M) p.1=some (.int<|mk M p.1.i):=ZE (n:=p.1.i) J (by rw[Yc,ha];rfl)
   let iB:atI (IL M) p.2=some (.int<|mk M p.2.i):=ZE (n:=p.2.i) J (by rw[Yc,hb];rfl);let t0:atI ([.int p.1,.int p.2]:List V) 0=some (.int p.1):=rfl
   let t1:atI ([.int p.1,.int p.2]:List V) 1=some (.int p.2):=rfl;exists _,rfl,_,rfl,tt,_,0,_,rfl,rfl,SqT.of ht2,t0,m,_,p.1,_,rfl,rfl,SqL.of hm2,iA,_,rfl,_,rfl,tt,_,1,_,rfl,rfl,SqT.of ht2,t1,m,_,p.2,_,rfl,rfl,SqL.of hm2,iB,_,_,rfl,?_;exists _,rfl,_,rfl,tt,_,0,_,rfl,rfl,SqT.of ht2,t0,m,_,p.1,_,rfl,rfl,SqL.of hm2,iA,_,rfl,_,rfl,tt,_,1,_,rfl,rfl,SqT.of ht2,t1,m,_,p.2,_,rfl,rfl,SqL.of hm2,iB,_,_,rfl,?_;let eL:(if mk M p.2.i<mk M p.1.i then mk M p.2.i else mk M p.1.i)=min (mk M p.1.i) (mk M p.2.i):=by rw[Int.min_def];split<;>split<;>lia
   let eH:(if mk M p.2.i>mk M p.1.i then mk M p.2.i else mk M p.1.i)=max (mk M p.1.i) (mk M p.2.i):=by rw[Int.max_def];split<;>split<;>lia
   exists _,Z,_,Z,_,_,Z,Z,_,Z,?_;rw[eL,eH];let step:pmf M0 (Zz6 ps<|ns.G<|i+1)=pm M p.1.i p.2.i:=by rw[ZH2 hz,Zd10,hM,ed]
   show itd2 (λhc=>?_) (λhc=>?_)
   ·show⟨_,Z,m,Z,{_,SqL.of hm2},ZO1 (K:=K) (a:=m) (xs:=IL M) (λj ys H3=>H3=H2/\j<=M.f/\ys=IL ((M.G j).L λk=>if k=max (mk M p.1.i) (mk M p.2.i) then min (mk M p.1.i) (mk M p.2.i) else k)) {Z,Yk _,Z} (Zk<|by rw[Zz4];lia)
     (λj ys H3 hj zz=>by let(e,hjl,ey):=zz;show{e▸SqL.of hm2,by rw[ey,Zz4,Yy7,Yh];lia}) ?_ ?_⟩
    ·rintro j y ys H3 hj ⟨rfl,hjl,rfl⟩ S hSS;let(k,rfl,hk):=Zz81 hj;show nmY ?_;exists _,Z,_,Z,Z,_,Z,?_;let hjl':j<M.f:=(Yy1.S hk).1
     let app:∀r:Int,r=(if k=max (mk M p.1.i) (mk M p.2.i) then min (mk M p.1.i) (mk M p.2.i) else k)->
       IL ((M.G j).L λk=>if k=max (mk M p.1.i) (mk M p.2.i) then min (mk M p.1.i) (mk M p.2.i) else k)++[.int r]=IL ((M.G<|j+1).L λk=>if k=max (mk M p.1.i) (mk M p.2.i) then min (mk M p.1.i) (mk M p.2.i) else k):=by intro r er;rw[YN,hk,er];simp
     show itd2 (λhe=>?_) (λhe=>?_)
     ·exists _,Z,hSS _ _ {Z,hjl',app _ ?_};rw[if_pos (V.int.inj he)]
     ·exists _,Z,hSS _ _ {Z,hjl',app _ ?_};rw[if_neg λz=>he (YI V.int z)]
    ·rintro ys H3 ⟨rfl,_,rfl⟩ p' hp';exists p',_,_,_,_,Z,Zu s2 hp',.inr<|s2.free hp',?_;rw[Zz1,step,Zz4,YR];unfold pm;rw[if_pos hc]
   ·exists m,_,_,_,_,Z,s2,hm0,?_;rw[hm2,step];unfold pm;rw[if_neg hc]
  ·rintro σ H2 ⟨m,v3,v4,v5,v6,rfl,s2,hm0,hm2⟩;rw[Zz4,YR]at hm2;exists _,Z,q m H2 s2 hm0 hm2
inductive spZg(K:PySem.W.Q)(C:Addr)(vs:List V)(H:Hp)(Q:VK)(_:XK):Prop
 |mk (w a n ps ns:_) (_:vs=[.ref w,.ref a]) (_:WebAt C H w n ps) (_:ZM n ps) (_:SqT K H a (IL ns)) (_:(∀z∈ns,0<=z/\z<ps⁻¹)) (_:∀m H',Same H H'->H m=none->H' m=some (.lst<|IL<|pms n.i<|Zz6 ps ns)->Q ↑m H')
def okZg(T:Txt K mg t):OkQ P w base CX0 T.qZg 2 (spZg K t.A_Web):=by
 show T.qZg.okI ["web","ties"] XT λcdv A outer s H vs Q E hr h=>?_
 ·let(w,a,n,ps,ns,rfl,hW,hG,hS,hI,q):=h;exists _,(Zz7<|Zq<|Zz9 (okZf T) hr T.qZf ZP<|Zz0 (pv 0)<|Zz0 (Zh (Zz72 Z) XR T.n_list Boot.«list»<|Zz0 (Zh Zz63 XR T.n_range Boot.«range»<|Zz0 (ZU K (pv 0) Z) Zz3) Zz3)<|Zz0 (pv 1) Zz3),?_;let(dx,tl,xs,h1,h2,h3):=id hW;let(g1,g2,g3,g4):=id hG;exists _,Z,_,Z,w,_,dx,_,_,Z,h1,T.cl_Web,T.n_Web_places,Zi1 _ _,n,Z,λr hr0=>{r,0,n,Z,Zz1,⟨XU,XU,J,B⟩,J,λm hm=>?_};let sm:Same H (upd (upd H r<|.rng 0 n) m<|.lst<|(rngI 0 n).L V.int):=Zu (Zz5 hr0) hm
  exists _,Z,w,m,a,n,ps,(List.range n.i).L λ(i:Nat)=>(i:Int),true,ns,Z,hW.same sm,hG,?_,D,Zn1 sm hS,hI,λm' H' s' hf hm'=>?_
  ·rw[Zz1,ZF4]
  ·show q m' H' (sm.m s') ?_ hm';rcases hf with rfl|hf
   ·show(Zz5 hr0).free hm
   ·show sm.free hf
inductive spZh(K:PySem.W.Q)(C:Addr)(vs:List V)(H:Hp)(Q:VK)(_:XK):Prop
 |mk (w a n ps kd ns:_) (_:vs=[.ref w,.ref a]) (_:WebAt C H w n ps) (_:ZM n ps) (_:SqK kd K H a (IL ns)) (_:IsSet ps.f ns) (_:∀r as H',Same H H'->H r=none->H' r=some (.lst<|as.L V.ref)->r∉as->GrpAt H H' (grp<|pms n.i<|Zz6 ps ns) as->Q ↑r H')
def okZh(T:Txt K mg t):OkQ P w base CX0 T.qZh 4 (spZh K t.A_Web):=by
 show T.qZh.okI ["web","ties","pieces","place","mark"] XT λcdv A outer s H vs Q E hr h=>?_
 ·let(w,a,n,ps,kd,ns,rfl,hW,hG,hS,hI,q):=h;show⟨_,(Zz2 (Zd 2 Zi10)
   (Zz2 (Zz31 QP Z (ZR2 K Z T.n_enumerate<|Zz0 (Zz9 (okZg T) hr T.qZg ZP<|Zz0 (pv 0)<|Zz0 (Zz9 (okZe T) hr T.qZe ZP<|Zz0 (pv 0)<|Zz0 (pv 1) Zz3) Zz3) Zz3) (ZE1 (n:=2) K Z<|Zx (Zc 3)<|Zx (Zc 4) ZD1)
   (Zz7<|ZK<|ZA1 K YT Y0e Y0d ZY (ZA1 K Y3Y Y3k PySem.F.type_dict_setdefault Zu3 (pv 2)<|Zz0 (pv 4)<|Zz0 (Zs1 Zz3) Zz3)<|Zz0 (pv 3) Zz3))
   (Zz7<|Zq<|Zh (Zz83 Z) XR T.n_list Boot.«list»<|Zz0 (ZN8 K Y3Y Y3S PySem.F.type_dict_values ZV7<|pv 2) Zz3))),?_⟩
  intro d hd;let s0:Same H (upd H d<|.dK []):=Zz5 hd
  exists _,Z,_,Z,_,Z,w,a,n,ps,kd,ns,Z,hW.same s0,hS.same s0,hI,λr H1 s1 hr1=>?_;exists w,r,n,ps,ns,Z,(hW.same s0).same s1,hG,hr1,hI.all,λm H2 s2 hm1 hm2=>?_;let s02:Same H H2:=(s0.m s1).m s2
  let hd2:H2 d=some (.dK []):=s2 _ _ (s1 _ _ Zz1);let hl:(pms n.i<|Zz6 ps ns).f=n.i:=Zm _ _
  generalize hM:pms n.i (Zz6 ps ns)=M at *;let hm0:H m=none:=(s0.m s1).free hm1
  let n14:M.f<=14:=by have:=hG.2.1;lia
  exists m,Z,{_,SqL.of hm2},?_;show Zz27 (K:=K) (a:=m) (xs:=IL M) (λi σ H3=>∃as v3 v4,σ=[some ↑w,some<|.ref a,some<|.ref d,v3,v4]/\i<=M.f/\Same H H3/\H3 m=some (.lst<|IL M)/\H3 d=some (.dK<|gkv (grpA M i) as)/\d∉as/\m∉as/\GrpAt H H3 (grpA M i) as/\as.f<=i)
   {[],none,none,Z,Yk _,s02,hm2,hd2,D,D,{Z,List.nodup_nil,λi kv a e=>by simp[grpA]at e,λa ha=>by simp at ha},Yy8 _} (λi σ H3 _ zz=>by let(_,_,_,_,_,_,h,_):=zz;show SqL.of h) ?_ ?_
  ·rintro i x σ H3 pt hpt hi ⟨as,v3,v4,rfl,hil,s3,hm3,hd3,nda,nma,gA,hal⟩;let(k,rfl,hk):=Zz81 hi;let hk':mk M i=k:=ZS hk
   let hil':i<M.f:=(Yy1.S hk).1;let s4:Same H3 (upd H3 pt<|.tup [.int i,.int k]):=Zz5 hpt
   exists pt,_,Z,SqT.of Zz1,Z,_,_,Z,_,_,Z,Z,?_;exists _,Z,.inr<|.inr<|.inl {Z,.inl {_,s4 _ _ hd3}},_,Z,(by change 0<=sizeLine;show Yk _),λl hl0=>?_;let s5:Same H3 (upd (upd H3 pt<|.tup [.int i,.int k]) l<|.lst []):=Zu s4 hl0
   let hd5:=s5 _ _ hd3;let hl3:H3 l=none:=s4.free hl0
   let ndl:d≠l:=Za hd3 hl3;let gl:=gA.len
   exists d,gkv (grpA M i) as,Sum.inl k,.ref l,Z,Z,hd5,?_,λv hv=>?_,λhv=>?_
   ·rw[ZX6 gl];show Zk J
   ·-- the mark has its list
    rcases ZV6 (g:=grpA M i) (as:=as) (k:=k) gl with ⟨h1,_⟩|⟨j,kv,b,e1,e2,e3,e4⟩
    ·rw[h1]at hv;cases hv
    ·rw[e4]at hv;cases hv;let hb5:=s5 _ _ (gA.at_ j kv b e1 e2)
     let hkm:k∈(grpA M i).L (·.1):=Yx.X {kv,Yy9 e1,e3};let hlen:kv.2.f<=i:=Zz94 (Yy9 e1)
     exists .inl {Z,_,SqL.of hb5},_,Z,b,_,.int i,Z,Z,hb5,?_,?_
     ·rw[Zz4];show Zk J
     ·have hbas:b∈as:=Yy9 e2;let hdb:d≠b:=λz=>nda (z▸hbas)
      let hmb:m≠b:=λz=>nma (z▸hbas);let hb0:=gA.new b hbas
      let ekeys:(grpA M<|i+1).L (·.1)=(grpA M i).L (·.1):=by change(ZW4 (grpA M i) (i:Int)<|mk M i).L (·.1)=_;rw[ZP1,hk',if_pos hkm]
      exists as,_,_,Z,hil',Zp hb0<|s3.m s5,by rw[Ze hmb];show s5 _ _ hm3,by rw[Ze hdb,hd5,ZY6 ekeys],nda,nma,{?_,gA.nd,?_,gA.new},J
      ·have:=YI List.f ekeys
       rw[Yy7,Yy7]at this;lia
      ·intro i2 kv2 a2 f1 f2;let f1:(ZW4 (grpA M i) (i:Int)<|mk M i)[i2]?=some kv2:=f1
       unfold ZW4 at f1;rw[hk',if_pos hkm,Yc]at f1;cases f3:(grpA M i)[i2]? with
       |none=>rw[f3]at f1;cases f1
       |some kv3=>
        rw[f3]at f1;let f1:(if kv3.1=k then (kv3.1,kv3.2++[(i:Int)]) else kv3)=kv2:=Yl f1
        cases hj:i2=j
        ·subst hj;rw[e1]at f3;cases f3;rw[e2]at f2;cases f2;rw[if_pos e3]at f1;subst f1;rw[Zz1];simp
        ·have hab:a2≠b:=λz=>by subst z;show hj (Zw1 gA.nd f2 e2)
         let hkk:¬kv3.1=k:=λz=>hj (Zw1 (Zt2 M i) (by rw[Yc,f3];show YI some z)<|by rw[Yc,e1];show YI some e3);rw[if_neg hkk]at f1;subst f1;rw[Ze hab];show s5 _ _ (gA.at_ i2 kv3 a2 f3 f2)
   ·-- a new list
    rcases ZV6 (g:=grpA M i) (as:=as) (k:=k) gl with ⟨h1,hkn⟩|⟨j,kv,b,e1,e2,e3,e4⟩
    ·have hl6:(upd (upd (upd H3 pt<|.tup [.int i,.int k]) l<|.lst []) d<|.dK<|gkv (grpA M i) as++[(Sum.inl k,.ref l)]) l=some (.lst []):=by rw[Ze (Y0f ndl),Zz1]
     exists .inl {Z,_,SqL.of hl6},_,Z,l,[],.int i,Z,Z,hl6,(by change 0<sizeLine;decide),?_;let hl0':H l=none:=s3.free hl3
     let hlas:l∉as:=λz=>by let(_,e):=gA.mem z;rw[hl3]at e;cases e
     let hml:m≠l:=Za hm3 hl3;let hmd:m≠d:=Zq10 hm3 hd3 (λz=>nomatch z)
     let egr:grpA M (i+1)=grpA M i++[(k,[(i:Int)])]:=by change ZW4 (grpA M i) (i:Int) (mk M i)=_;unfold ZW4;rw[hk',if_neg hkn]
     let hdH:H d=none:=hd;exists as++[l],_,_,Z,hil',Zp hl0'<|Zp hdH<|s3.m s5,by rw[Ze hml,Ze hmd];show s5 _ _ hm3,?_,?_,?_,{?_,?_,?_,?_},?_
     ·rw[Ze ndl,Zz1,egr,ZW6 gl]
     ·rw[Yb,Yy2];rintro(z|z)
      ·show nda z
      ·show ndl z
     ·rw[Yb,Yy2];rintro(z|z)
      ·show nma z
      ·show hml z
     ·rw[egr,Yy3,Yy3,gl];rfl
     ·show Zu6 gA.nd hlas
     ·intro i2 kv2 a2 f1 f2;rw[egr]at f1;cases hi2:i2<(grpA M i).f
      ·rw[Yp hi2]at f1;rw[Yp J]at f2;let e:=gA.at_ i2 kv2 a2 f1 f2
       let n1:a2≠l:=Za e hl3;let n2:a2≠d:=Zq10 e hd3 (λz=>nomatch z)
       rw[Ze n1,Ze n2];show s5 _ _ e
      ·have h2:i2=(grpA M i).f:=by
        have:=(Yy1.S f1).1
        rw[Yy3,YX]at this;lia
       subst h2;rw[Yj (Yy8 _),Yy19]at f1;rw[Yj J,gl,Yy19]at f2;cases f1;cases f2;rw[Zz1];rfl
     ·intro a2 ha2;rcases Yb.S ha2 with z|z
      ·show gA.new a2 z
      ·rwa[Yy2.S z]
     ·rw[Yy3,YX];lia
    ·rw[e4]at hv;cases hv
  ·rintro σ H3 ⟨as,v3,v4,rfl,hil,s3,hm3,hd3,nda,nma,gA,hal⟩;rw[Zz4]at hd3 gA;exists _,Z,.inr<|.inr<|.inl {Z,.inl {_,hd3}},d,_,Z,Z,hd3,λp hp=>?_;let s6:Same H3 (upd H3 p<|Zs11 p d):=Zz5 hp
   exists p,d,_,Z,Zz1,s6 _ _ hd3,λr hr0=>?_;let s7:Same H3 (upd (upd H3 p<|Zs11 p d) r (.lst ((gkv (grpA M M.f) as).L (·.2)))):=Zu s6 hr0
   show q r as _ (s3.m s7) ((s3.m s6).free hr0) (by rw[Zz1,Ze9 gA.len]) (λz=>?_) (gA.same s7);let(_,e):=gA.mem z;rw[s6.free hr0]at e;cases e
inductive spZi(K:PySem.W.Q)(C:Addr)(vs:List V)(H:Hp)(Q:VK)(_:XK):Prop
 |mk (w a n ps kd ns:_) (_:vs=[.ref w,.ref a]) (_:WebAt C H w n ps) (_:ZM n ps) (_:SqK kd K H a (IL ns)) (_:IsSet ps.f ns) (_:∀b H',Same H H'->(b=true↔(grp<|pms n.i<|Zz6 ps ns).f=1)->Q (.bl b) H')
def okZi(T:Txt K mg t):OkQ P w base CX0 T.qZi 5 (spZi K t.A_Web):=by
 show T.qZi.okI ["web","ties"] XT λcdv A outer s H vs Q E hr h=>?_
 ·let(w,a,n,ps,kd,ns,rfl,hW,hG,hS,hI,q):=h;exists _,(Zz7<|Zq<|Zn6 ZQ8 (Zf (Zi K) XR T.n_len Boot.«len»<|Zz0 (Zz9 (okZh T) hr T.qZh ZP<|Zz0 (pv 0)<|Zz0 (pv 1) Zz3) Zz3) Zz8<|Zz _),?_;exists _,Z,_,Z,w,a,n,ps,kd,ns,Z,hW,hG,hS,hI,λr as H' s1 hr0 hr1 hnr gA=>?_;exists r,_,Z,.inl<|SqL.of hr1,Z,?_;rw[Yy7,gA.len,ZV];show q _ H' s1 ?_;rw[YQ];lia
inductive spZj(K:PySem.W.Q)(C:Addr)(vs:List V)(H:Hp)(Q:VK)(_:XK):Prop
 |mk (w n ps:_) (_:vs=[.ref w]) (_:WebAt C H w n ps) (_:ZM n ps) (_:(ZO5 n ps->∀H':Hp,Same H H'->Q .non H')) (_:(¬ZO5 n ps->∀H':Hp,Same H H'->False))
def okZj(T:Txt K mg t):OkQ P w base CX0 T.qZj 6 (spZj K t.A_Web):=by
 show T.qZj.okI ["web"] XT λcdv A outer s H vs Q E hr h=>?_
 ·let(w,n,ps,rfl,hW,hG,q,qe):=h;show⟨_,(Zz7 (ZJ1 (ZD5<|Zg6<|Zz9 (okZi T) hr T.qZi ZP<|Zz0 (pv 0)<|Zz0 (Zz9 (okZc T) hr T.qZc ZP<|Zz0 (pv 0) Zz3) Zz3)
   (Zz7 ZT1)
   Zv)),?_⟩
  show{_,Z,_,Z,w,n,ps,Z,hW,by have:=hG.2.2.1;lia,λr H1 s1 hr0 hr1=>?_};exists w,r,n,ps,true,rgL ps.f,Z,hW.same s1,hG,SqT.of hr1,Zz22 _,λb H2 s2 hb=>{_,Z,?_};rw[ZT10 (by have:=hG.1;lia) (ZL hG (Zz22 _).all)]at hb;show itnb (λz=>?_) (λz=>?_)
  ·show q (hb.S z) H2 (s1.m s2)
  ·show qe (λg=>by rw[hb.X g]at z;cases z) H2 (s1.m s2)
inductive spZk(K:PySem.W.Q)(C:Addr)(vs:List V)(H:Hp)(Q:VK)(_:XK):Prop
 |mk (w a b n ps ka kb ns os:_) (_:vs=[.ref w,.ref a,.ref b]) (_:WebAt C H w n ps) (_:ZM n ps) (_:SqK ka K H a (IL ns)) (_:SqK kb K H b (IL os)) (_:ns.f<=1000) (_:os.f<=1000) (_:(∀z∈ns++os,0<=z/\z<ps⁻¹)) (_:(((grw n.i ps<|ns++os).G ns.f≠ns\/((grw n.i ps<|ns++os).f:Int)<n-1)->∀H':Hp,Same H H'->Q .non H')) (_:((grw n.i ps<|ns++os).G ns.f=ns->¬((grw n.i ps<|ns++os).f:Int)<n-1->∀r ms H',ms.Perm (grw n.i ps<|ns++os)->ms.C (·<=·)->Same H H'->H r=none->H' r=some (.tup<|IL ms)->Q ↑r H'))
def okZk(T:Txt K mg t):OkQ P w base CX0 T.qZk 3 (spZk K t.A_Web):=by
 show T.qZk.okI ["web","inside","order","marks","grown","tie","ends"] XT λcdv A outer s H vs Q E hr h=>?_
 ·let(w,a,b,n,ps,ka,kb,ns,os,rfl,hW,hG,hS,hS2,hnl,hol,hI,q0,q1):=h;show⟨_,(Zz2 (Zd 3<|Zz9 (okZg T) hr T.qZg ZP<|Zz0 (pv 0)<|Zz0 (Zq1 Zz3) Zz3)
   (Zz2 (Zd 4<|Zs1 Zz3)
   (Zz2 (Zz31 QP Z (ZX K<|Zn ZT7 (Zh (ZW K) XR T.n_list Boot.«list»<|Zz0 (pv 1) Zz3)<|Zh (ZW K) XR T.n_list Boot.«list»<|Zz0 (pv 2) Zz3) (Zc 5)
   (Zz2 (Zd 6<|ZH (Zg K) (ZU K (pv 0) Z) (pv 5) λ_ _=>rfl)
   (Zz7 (ZJ1 (Zl ZP8 (ZH (Zg K) (pv 3) (ZH (ZG K) (pv 6) Zz8 λ_ _=>rfl) λ_ _=>rfl) (ZH (Zg K) (pv 3) (ZH (ZG K) (pv 6) Zz8 λ_ _=>rfl) λ_ _=>rfl)<|Zz _)
   (Zz2 (Zd 3<|Zz9 (okZf T) hr T.qZf ZP<|Zz0 (pv 0)<|Zz0 (pv 3)<|Zz0 (Zq1<|Zz0 (pv 5) Zz3) Zz3)
   (Zz7<|ZK<|ZA1 K YT Y0e Y0d ZY (pv 4)<|Zz0 (pv 5) Zz3))
   Zv))))
   (Zz2 (ZJ1 (PW.pt<|Zj13 (Zl (Zp6 K<|hu8 hr) (Zr1 (Zo1 K) (pv 4) Zz42<|Zz32<|Zf (Zi K) XR T.n_len Boot.«len»<|Zz0 (pv 1) Zz3) (Zh (ZW K) XR T.n_list Boot.«list»<|Zz0 (pv 1) Zz3)<|Zz _)<|Zz810<|Zl Zl10 (Zf (Zi K) XR T.n_len Boot.«len»<|Zz0 (pv 4) Zz3) (Zn ZS2 (ZU K (pv 0) Z) Zz8)<|Zz _)
   (Zz7<|Zq Zh10)
   Zv)
   (Zz7<|Zq<|Zh (ZI2 K) XR T.n_tuple Boot.«tuple»<|Zz0 (Zf (Zh4 K) XR T.n_sorted Boot.«sorted»<|Zz0 (pv 4) Zz3) Zz3))))),?_⟩
  let(g1,g2,g3,g4):=id hG;let one:1<=sizeLine:=XU
  exists _,Z,Yk _,λr0 hr0=>?_;let s0:=Zz5 (o:=.tup []) hr0
  exists w,r0,n,ps,[],Z,hW.same s0,hG,SqT.of Zz1,λ_ e=>(nomatch e),λm H1 s1 hm0 hm1=>?_;let s01:=s0.m s1
  let hmf:=s0.free hm0;exists Yk _,λgl hgl=>?_;let s2:=Zz5 (o:=.lst []) hgl
  let s02:=s01.m s2;let hgf:=s01.free hgl
  exists _,Z,a,_,Z,(hS.same s02).or,λl1 hl1=>?_;let s3:=Zz5 (o:=.lst<|IL ns) hl1
  let s03:=s02.m s3;exists _,Z,b,_,Z,(hS2.same s03).or,λl2 hl2=>?_;let s4:=Zz5 (o:=.lst<|IL os) hl2
  let s04:=s03.m s4;exists l1,l2,_,_,Z,Z,s4 _ _ Zz1,Zz1,ZI1 (by rw[Zz4,Zz4];lia),λcl hcl=>?_;let s5:=Zz5 (o:=.lst<|IL ns++IL os) hcl
  let s05:=s04.m s5;let eI:IL ns++IL os=IL (ns++os):=(ZV4 _ _).symm
  let hgl5:=s5 _ _ (s4 _ _<|s3 _ _<|Zz1 (H:=H1) (a:=gl) (o:=.lst []));let hm5:=s5 _ _ (s4 _ _<|s3 _ _<|s2 _ _ hm1)
  let hcl5:=Zz1 (H:=upd (upd (upd H1 gl<|.lst []) l1<|.lst<|IL ns) l2<|.lst<|IL os) (a:=cl) (o:=.lst<|IL ns++IL os);let ncg:cl≠gl:=λe=>by rw[e]at hcl;show absurd ((s4 _ _<|s3 _ _<|Zz1 (H:=H1) (a:=gl) (o:=.lst [])).symm.m hcl) D
  let nmg:m≠gl:=λe=>by rw[e]at hm1;show absurd (hm1.symm.m hgl) D
  rw[eI]at s5 s05 hgl5 hm5 hcl5 ⊢;generalize upd (upd (upd (upd H1 gl<|.lst []) l1<|.lst<|IL ns) l2<|.lst<|IL os) cl (.lst<|IL<|ns++os)=H5 at *;show⟨cl,Z,{_,SqL.of hcl5},Zv2 (K:=K) (a:=cl) (xs:=IL<|ns++os) (λi σ H2=>∃mc v5 v6,σ=[some ↑w,some<|.ref a,some<|.ref b,some<|.ref mc,some<|.ref gl,v5,v6]/\Same H H2/\mc≠gl/\
    H2 cl=some (.lst<|IL<|ns++os)/\H2 mc=some (.lst<|IL<|pms n.i<|Zz6 ps<|grw n.i ps<|(ns++os).G i)/\H2 gl=some (.lst<|IL<|grw n.i ps<|(ns++os).G i))
   ⟨m,none,none,Z,s05,nmg,hcl5,hm5,hgl5⟩ (λi σ H2 _ zz=>by let(_,_,_,_,_,_,e,_):=zz;show SqL.of e) ?_ ?_⟩
  ·rintro i x σ H2 hi ⟨mc,v5,v6,rfl,s2,hne,hc2,hm2,hg2⟩;let(z,rfl,hz):=Zz81 hi;let(z0,z1):=hI z (Yy9 hz);let hIt:∀y∈(ns++os).G i,0<=y/\y<ps⁻¹:=λy hy=>hI y (Yy00 hy)
   let est:(ns++os).G (i+1)=(ns++os).G i++[z]:=by rw[YN,hz];rfl
   let eG:grw n.i ps ((ns++os).G (i+1))=gst n.i ps (grw n.i ps<|(ns++os).G i) z:=by rw[est,ZH1]
   let hin:=ZR10 hG hIt;let hgl14:=Za9 hG hIt
   generalize grw n.i ps ((ns++os).G i)=G at *;let(dx,tl,xs,h1,h2,h3):=hW.same s2;obtain⟨p,hp⟩:∃p,ps[z.i]?=some p:={_,Yy0 J};let(v,hv,tt,rfl,htt):=h3.2 z.i p hp;let(e1,e2,e3,e4):=g4 p (Yy9 hp);let ed:Zw ps z=(p.1.i,p.2.i):=by unfold Zw;rw[ZS hp]
   let hl:(pms n.i<|Zz6 ps G).f=n.i:=Zm _ _;let iA:atI (IL<|pms n.i<|Zz6 ps G) p.1=some (.int<|mk (pms n.i<|Zz6 ps G) p.1.i):=ZE (n:=p.1.i) J (ZJ3<|ZM1 J)
   let iB:atI (IL<|pms n.i<|Zz6 ps G) p.2=some (.int<|mk (pms n.i<|Zz6 ps G) p.2.i):=ZE (n:=p.2.i) J (ZJ3<|ZM1 J);let t0:atI ([.int p.1,.int p.2]:List V) 0=some (.int p.1):=rfl
   let t1:atI ([.int p.1,.int p.2]:List V) 1=some (.int p.2):=rfl;let key:mk (pms n.i<|Zz6 ps G) p.1.i=mk (pms n.i<|Zz6 ps G) p.2.i↔mk (lms n.i<|Zz6 ps G) (Zw ps z).1=mk (lms n.i<|Zz6 ps G) (Zw ps z).2:=by rw[ed,ZE2 hin J J,Zz21 hin J J]
   exists _,Z,w,_,dx,_,_,Z,h1,T.cl_Web,T.n_Web_ties,ZC1 _ _,_,Z,tl,xs,z,.ref tt,Z,Z,SqL.of h2,ZE (n:=z.i) J hv,?_;exists _,Z,_,Z,tt,_,0,_,Z,Z,SqT.of htt,t0,mc,_,p.1,_,Z,Z,SqL.of hm2,iA,_,Z,_,Z,tt,_,1,_,Z,Z,SqT.of htt,t1,mc,_,p.2,_,Z,Z,SqL.of hm2,iB,Z,_,Z,?_;rw[ZV];show itn2 (λhe=>?_) (λhe=>?_)
   ·exists mc,_,_,Z,s2,hne,hc2,?_,?_
    ·rw[eG];unfold gst;rwa[if_pos (key.S he)]
    ·rw[eG];unfold gst;rwa[if_pos (key.S he)]
   ·have eG2:grw n.i ps ((ns++os).G (i+1))=G++[z]:=by rw[eG];unfold gst;rw[if_neg λe=>he (key.X e)]
    exists _,Z,_,Z,_,Z,one,λp2 hp2=>?_;let s6:=Zz5 (o:=.tup [.int z]) hp2
    show{w,mc,p2,n,ps,_,true,[z],Z,(hW.same s2).same s6,hG,s6 _ _ hm2,hl,SqT.of Zz1,λy hy=>by rw[Yy2.S hy];show⟨z0,z1⟩,λm' H7 s7 hf hm7=>?_};let s67:=s6.m s7
    let hg7:=s67 _ _ hg2;let hc7:=s67 _ _ hc2
    let nm':m'≠gl:=by
     rcases hf with rfl|hf
     ·show hne
     ·show λe=>absurd ((s6 _ _ hg2).symm.m (e▸hf)) D
    exists _,Z,.inl {Z,_,SqL.of hg7},_,Z,gl,_,_,Z,Z,hg7,Zk (by rw[Zz4];lia),?_;exists m',_,_,Z,Zp hgf<|s2.m s67,nm',?_,?_,?_
    ·rwa[Ze ncg]
    ·rw[Ze nm',hm7,eG2,Zz41,Zi6];rfl
    ·rw[Zz1,eG2,Zl1]
  ·rintro σ H2 ⟨mc,v5,v6,rfl,s2,hne,hc2,hm2,hg2⟩;rw[Zz4,YR]at hg2;let hgl14:=Za9 hG hI
   generalize grw n.i ps (ns++os)=G at *;exists _,Z,_,Z,a,_,Z,(hS.same s2).or,_,Z,gl,_,Z,SqL.of hg2,λr1 hr1=>?_;let ec:cutV (IL G) none (some ((IL ns).f:Int))=IL (G.G ns.f):=by rw[Zk7 J,YB,Zz4,Zz79]
   rw[ec];let s3:=Zz5 (o:=.lst<|IL<|G.G ns.f) hr1
   exists _,Z,a,_,Z,(hS.same<|s2.m s3).or,λr2 hr2=>?_;let s4:=Zz5 (o:=.lst<|IL ns) hr2
   exists 1,_,r1,r2,Z,Z,XU,Zz67 (SqL.of<|s4 _ _ Zz1)<|SqL.of Zz1,_,Z,?_;let s24:=s2.m (s3.m s4)
   show itn2 (λhe=>?_) (λhe=>?_)
   ·let(dx,tl,xs,h1,h2,h3):=hW.same s24;let hg4:=s4 _ _ (s3 _ _ hg2)
    exists _,Z,gl,_,Z,.inl<|SqL.of hg4,_,Z,w,_,dx,_,_,Z,h1,T.cl_Web,T.n_Web_places,Zi1 _ _,_,_,Z,Z,_,_,Z,Z,_,Z,?_;rw[Zz4];show itd2 (λhc=>?_) (λhc=>?_)
    ·show q0 (.inr hc) _ s24
    ·exists _,Z,gl,G,Z,SqL.of hg4,J,λms hp1 hp2 l hl=>?_;let s5:=Zz5 (o:=.lst<|IL ms) hl
     exists l,_,Z,.inl {SqL.of Zz1,λr hr=>?_};show q1 he hc r ms _ hp1 hp2 ((s24.m s5).m (Zz5 hr)) ((s24.m s5).free hr) Zz1
   ·show iteT ?_;show q0 (.inl he) _ s24
inductive spZl(K:PySem.W.Q)(C:Addr)(vs:List V)(H:Hp)(Q:VK)(_:XK):Prop
 |mk (w n ps:_) (_:vs=[.ref w]) (_:WebAt C H w n ps) (_:ZM n ps) (_:(¬((grd n.i ps ps.f).f:Int)<n-1->∀r H',Same H H'->H' r=some (.tup<|IL<|grd n.i ps ps.f)->Q ↑r H')) (_:(((grd n.i ps ps.f).f:Int)<n-1->∀H':Hp,Same H H'->False))
def okZl(T:Txt K mg t):OkQ P w base CX0 T.qZl 7 (spZl K t.A_Web):=by
 show T.qZl.okI ["web"] XT λcdv A outer s H vs Q E hr h=>?_
 ·let(w,n,ps,rfl,hW,hG,q,q1):=h;show⟨_,(Zz2 (ZK<|Zz9 (okZj T) hr T.qZj ZP<|Zz0 (pv 0) Zz3)
   (Zz7<|Zq<|Zz9 (okZk T) hr T.qZk ZP<|Zz0 (pv 0)<|Zz0 (Zq1 Zz3)<|Zz0 (Zz9 (okZc T) hr T.qZc ZP<|Zz0 (pv 0) Zz3) Zz3)),?_⟩
  let hall:∀z∈rgL ps.f,0<=z/\z<ps⁻¹:=λz hz=>rgL_mem.S hz;let eg:grw n.i ps (rgL ps.f)=grd n.i ps ps.f:=ZX4 _ _ _
  let hj:=ZS6 hG;exists _,Z,w,n,ps,Z,hW,hG,λhJ H1 s1=>?_,λhJ H1 s1=>q1 (by rw[hj]at hJ;omega) H1 s1;let hf:=hj.S hJ
  exists _,Z,Yk _,λr0 hr0=>?_;let s0:=Zz5 (o:=.tup []) hr0
  let s10:=s1.m s0;show{_,Z,w,n,ps,Z,hW.same s10,by have:=hG.2.2.1;lia,λr2 H2 s2 hr20 hr2=>?_};exists w,r0,r2,n,ps,true,true,[],rgL ps.f,Z,(hW.same s10).same s2,hG,SqT.of<|s2 _ _ Zz1,SqT.of hr2,Yk _,by rw[Zd1];have:=hG.2.2.1;lia,hall,λhx H3 s3=>?_,λ_ _ r3 ms H3 hp1 hp2 s3 hr30 hr3=>?_
  ·rw[Y1b,eg]at hx;rcases hx with hx|hx
   ·show absurd Z hx
   ·show absurd hx hf
  ·rw[Y1b,eg]at hp1;let e:ms=grd n.i ps ps.f:=ZB5 hp1 hp2 ((Zx3 _).imp λh=>J)
   rw[e]at hr3;show q hf r3 H3 (s10.m<|s2.m s3) hr3
inductive spZm(K:PySem.W.Q)(C:Addr)(vs:List V)(H:Hp)(Q:VK)(_:XK):Prop
 |mk (w b:Addr) (kd:Bool) (n:Int) (ps:List (Int×Int)) (ls:List Int) (_:vs=[.ref w,.ref b]) (_:WebAt C H w n ps) (_:ZM n ps) (_:SqK kd K H b (IL ls)) (_:ls.f=ps.f) (_:∀(w':Addr)(H':Hp),Same H H'->WebAt C H' w' n (cwT n.i ps ls)->Q ↑w' H')
def Zi14{xs:List V}{i:Int}(h0:0<=i)(h1:i<xs⁻¹):ixN xs.f i=some i.i:=by unfold ixN;rw[if_pos h0,if_pos B]
def scZm:FnScope ["web","lengths","made","marks","length","level","merged","spots","tie","ends"] ["web","lengths"] (Zb (top 42)):=ZE4 XT
def okZm(T:Txt K mg t):OkQ P w base CX0 T.qZm 4 (spZm K t.A_Web):=by
 show T.qZm.okI ["web","lengths","made","marks","length","level","merged","spots","tie","ends"] XT λcdv A outer s H vs Q E hr h=>?_
 ·let(w,b,kd,n,ps,ls,rfl,hW,hG,hS,hl,q):=h;show⟨_,(Zz2 (ZK<|Zz9 (okZa T) hr T.qZa Zz114<|Zz0 (pv 0)<|Zz0 (pv 1) Zz3)
   (Zz2 (Zd 2<|Zh (ZW K) XR T.n_list Boot.«list»<|Zz0 (ZU K (pv 0) Z) Zz3)
   (Zz2 (Zd 3<|Zz9 (okZg T) hr T.qZg ZP<|Zz0 (pv 0)<|Zz0 (Zq1 Zz3) Zz3)
   (Zz2 (Zz31 QP Z (ZX K<|Zq3 K Z Z T.n_sorted Z T.n_set<|Zz0 (pv 1) Zz3) (ZL4 (i:=4) scZm.nd Z<|Or.inr Z)
   (Zz2 (ZN7 (i:=5) Z scZm.nd Z Z (sc0:=Zb<|top 42) (N0:=["web","lengths","made","marks","length","level","merged","spots","tie","ends"]) (N':=["tie","own","length"]) (o:=2) (fr:=[4]) ⟨Z,XT,XT,XT,Z,XT⟩ (Zg10 K Z T.n_enumerate<|Zz0 (pv 1) Zz3) (Zr3<|Zz61 XU<|Zz61 XU Zs3) (λ_ _ _ _=>(ZE1 (n:=2) K Z<|Zx (Zc 0)<|Zx (Zc 1) ZD1)) (λ_ _ _ _=>(Zn3<|Zl ZQ8 (pv 1) (pv 2)<|Zz _)) λ_ _ _ _=>(pv 0))
   (Zz2 (Zd 6<|Zz9 (okZf T) hr T.qZf ZP<|Zz0 (pv 0)<|Zz0 (pv 3)<|Zz0 (pv 5) Zz3)
   (Zz2 (ZN7 (i:=7) Z scZm.nd Z Z (sc0:=Zb<|top 42) (N0:=["web","lengths","made","marks","length","level","merged","spots","tie","ends"]) (N':=["mark","later"]) (o:=2) (fr:=[]) ⟨Z,XT,XT,XT,Z,XT⟩ (Zf10 K Z T.n_zip<|Zz0 (pv 3)<|Zz0 (pv 6) Zz3) (Zr3<|Zz61 XU<|Zz61 XU Zs3) (λ_ _ _ _=>(ZE1 (n:=2) K Z<|Zx (Zc 0)<|Zx (Zc 1) ZD1)) (λ_ _ _ _=>ZQ) λ_ _ _ _=>(ZZ3 (Zl ZQ8 (pv 0) (pv 1)<|Zz _) Zz8<|pv 0))
   (Zz2 (Zz31 QP Z (ZX K<|pv 5) (Zc 8)
   (Zz2 (Zd 9<|ZH (Zg K) (ZU K (pv 0) Z) (pv 8) λ_ _=>rfl)
   (Zz7<|ZE5 (Zq1<|Zz0 (ZH (Zg K) (pv 7) (ZH (ZG K) (pv 9) Zz8 λ_ _=>rfl) λ_ _=>rfl)<|Zz0 (ZH (Zg K) (pv 7) (ZH (ZG K) (pv 9) Zz8 λ_ _=>rfl) λ_ _=>rfl) Zz3)<|ZQ7 (pv 2) (pv 8) Zp1)))
   (Zz7<|Zd 3<|pv 6))))))
   (Zz7<|Zq<|Zl6 T.k_Web (okZ9 T) (hr.mono XU) Z T.c_Web T.bZ9 .nil ZP<|Zz0 (ZU K (pv 0) Z)<|Zz0 (pv 2) Zz3))))),?_⟩
  let(g1,g2,g3,g4):=id hG;let(dx,tl,xs,h1,h2,h3):=id hW;let hxl:=h3.1
  exists _,Z,_,Z,w,b,n,ps,kd,ls,Z,hW,hS,λ_=>?_,λh=>absurd hl h;exists _,Z,w,_,dx,_,_,Z,h1,T.cl_Web,T.n_Web_ties,ZC1 _ _,tl,xs,Z,.inl<|SqL.of h2,λmd hmd=>?_;let u1:=Zz5 (o:=.lst xs) hmd
  let m1:=Zz1 (H:=H) (a:=md) (o:=.lst xs);generalize upd H md (.lst xs)=H1 at *;show nm ?_;dsimp only;exists _,Z,Yk _,λt0 ht0=>?_;let u2:=Zz5 (o:=.tup []) ht0
  exists w,t0,n,ps,[],Z,hW.same<|u1.m u2,hG,SqT.of Zz1,λz hz=>(by cases hz),λm0 H2 s2 hm0 hm2=>?_;let u3:=u2.m s2
  let md0:m0≠md:=Y0f (Za (u2 _ _ m1) hm0);let m2:=u3 _ _ m1
  let t2:=u1.m u3;let hmd0:H md=none:=hmd
  show nm ?_;dsimp only;exists _,Z,kd,b,ls,Z,hS.same t2,B,λLs hLa hLm lA hlA=>?_;let u4:=Zz5 (o:=.lst<|IL Ls) hlA
  let lmd:lA≠md:=Y0f (Za m2 hlA);let hl4:=Zz1 (H:=H2) (a:=lA) (o:=.lst<|IL Ls)
  let m4:=u4 _ _ m2;let hm4:=u4 _ _ hm2
  let t4:=t2.m u4;exists lA,Z,{_,SqL.of hl4},?_;generalize upd H2 lA (.lst<|IL Ls)=H4 at *;show Zv2 (K:=K) (a:=lA) (xs:=IL Ls) (λj σ H5=>∃(m:Addr)(S:List Int)(ys:List V)(v4 v5 v6 v7 v8 v9:Option V),σ=[some ↑w,some<|.ref b,some<|.ref md,some<|.ref m,v4,v5,v6,v7,v8,v9]/\Same H H5/\m≠md/\H5 m=some (.lst<|IL<|pms n.i<|Zz6 ps S)/\(∀z,z∈S↔(0<=z/\z<ps⁻¹)/\lnz ls z∈Ls.G j)/\H5 md=some (.lst ys)/\PairsV H5 ys (mdT n.i ps ls λi=>ls.getD i 0∈Ls.G j)/\H5 lA=some (.lst<|IL Ls))
   {m0,[],xs,none,none,none,none,none,none,Z,t4,md0,hm4,λz=>{λh=>(by cases h),λh=>(by cases h.2)},m4,(by rw[Zt10 λi _ h=>(by cases h)];show h3.same t4),hl4} (λj σ H5 _ zz=>by let(_,_,_,_,_,_,_,_,_,_,_,_,_,_,_,_,e):=zz;show SqL.of e) ?_ ?_
  ·rintro j v σ H5 hj ⟨m,S,ys,v4,v5,v6,v7,v8,v9,rfl,s5,mmd,hm5,hSm,hy5,hY5,hl5⟩;let(x,rfl,hx):=Zz81 hj;show nm ?_;dsimp only;exists _,Z,b,kd,Z,{_,hS.same s5},ZG10 (K:=K) (kd:=kd) (a:=b) (xs:=IL ls) (λi zs H6=>Same H5 H6/\zs=IL (lvl ls x i)) {Same.refl _,Z} (Zk<|by rw[Zz4];omega) (λi zs H6 hi zz=>by let(e,ez):=zz;show{hS.same<|s5.m e,by rw[ez,Zz4];show(ZV8 ls x i).len}) ?_ ?_
   ·rintro i v zs H6 pt hpt hi ⟨s6,rfl⟩ SS hSS;let(y,rfl,hy):=Zz81 hi;let s7:=Zz5 (o:=.tup [.int i,.int y]) hpt
    exists pt,_,Z,SqT.of Zz1,Z,_,_,Z,_,_,Z,Z,?_;let s67:=s6.m s7
    let ey:ls.getD i 0=y:=ZS hy;exists _,Z,_,Z,Z,_,Z,?_;rw[ZV];show itd2 (λhe=>?_) (λhe=>?_)
    ·exists _,Z,hSS _ _ {s67,?_};rw[ZC6,if_pos (ey.m he)];show(Zl1 ..).symm
    ·show hSS _ _ {s67,?_};rw[ZC6,if_neg λh=>he<|ey.symm.m h,YM]
   rintro zs H6 ⟨s6,rfl⟩ lv hlv;rw[Zz4,hl];let s7:=Zz5 (o:=.lst<|IL<|lvl ls x ps.f) hlv
   let hv7:=Zz1 (H:=H6) (a:=lv) (o:=.lst<|IL<|lvl ls x ps.f);let hy6:=s6 _ _ hy5
   let lvmd:lv≠md:=Y0f (Za hy6 hlv);let s57:=s6.m s7
   generalize upd H6 lv (.lst<|IL<|lvl ls x ps.f)=H7 at *;show nm ?_;dsimp only;let(up1,up2,up3):=Zu10 hG hl hLa hLm hx hSm;let at1:=Zw10 hG hl hLa hLm hx hSm
   exists _,Z,_,Z,_,Z,w,m,lv,n,ps,_,false,lvl ls x ps.f,Z,(hW.same s5).same s57,hG,s57 _ _ hm5,Zm _ _,SqL.of hv7,(ZV8 ls x ps.f).all,λm' H8 s8 hm' hm8=>?_;rw[up1]at hm8;let hy7:=s57 _ _ hy5
   let hy8:=s8 _ _ hy7;let m'md:m'≠md:=by
    rcases hm' with e|e
    ·rwa[e]
    ·show Y0f (Za hy7 e)
   let s58:=s57.m s8;let hm58:=s58 _ _ hm5
   show nm ?_;dsimp only;show⟨_,Z,_,Z,m,m',Z,{_,_,SqL.of hm58,SqL.of hm8},Zx12 (K:=K) (a:=m) (b:=m') (xs:=IL<|pms n.i<|Zz6 ps S) (ys:=IL<|pms n.i<|Zz6 ps<|S++lvl ls x ps.f) (λi zs H9=>Same H8 H9/\i<=n.i/\zs=IL ((List.range i).L (spt n.i ps ls x))) {Same.refl _,Yk _,Z} (by rw[Zz4,Zz4,Zm,Zm]) (Zk<|by rw[Zz4,Zm];omega)
    (λi zs H9 hi zz=>by let(e,hi2,ez):=zz;show{SqL.of<|e _ _ hm58,SqL.of<|e _ _ hm8,by rw[ez,Zz4,Yy7,YU];show Yy8 _}) ?_ ?_⟩
   ·rintro i u v zs H9 pt hpt hu hv ⟨s9,hil,rfl⟩ SS hSS;let(a1,rfl,ha1):=Zz81 hu;let(b1,rfl,hb1):=Zz81 hv;let hil':i<n.i:=by have:=(Yy1.S ha1).1;rwa[Zm]at this
    let s10:=Zz5 (o:=.tup [.int a1,.int b1]) hpt;exists pt,_,Z,SqT.of Zz1,Z,_,_,Z,_,_,Z,Z,?_;let ea:mk (mA n.i ps ls x) i=a1:=by rw[<-at1];unfold mk;show ZS ha1
    let eb:mk (mB n.i ps ls x) i=b1:=by rw[<-up2];unfold mk;show ZS hb1
    let es:∀y:Int,(if a1=b1 then 0 else a1)=y->IL ((List.range i).L (spt n.i ps ls x))++[V.int y]=IL ((List.range<|i+1).L (spt n.i ps ls x)):=λy hy=>by
     rw[Y0H,Yn];change _=IL (_++[spt n.i ps ls x i])
     unfold spt;rw[ea,eb,hy];show(Zl1 ..).symm
    exists _,Z,_,Z,Z,_,Z,?_;rw[ZV];show itd2 (λhe=>?_) (λhe=>?_)
    ·show hSS _ _ {s9.m s10,hil',es 0<|if_pos he}
    ·exists _,Z,hSS _ _ {s9.m s10,hil',es a1<|if_neg he}
   rintro zs H9 ⟨s9,_,rfl⟩ sp hsp;rw[Zz4,Zm];let s10:=Zz5 (o:=.lst<|IL<|(List.range n.i).L (spt n.i ps ls x)) hsp
   let hsp10:=Zz1 (H:=H9) (a:=sp) (o:=.lst<|IL<|(List.range n.i).L (spt n.i ps ls x));let hy9:=s9 _ _ hy8
   let spmd:sp≠md:=Y0f (Za hy9 hsp);let s510:=s58.m (s9.m s10)
   let s810:=s9.m s10;generalize upd H9 sp (.lst<|IL<|(List.range n.i).L (spt n.i ps ls x))=H10 at *;let hm10:=s810 _ _ hm8
   let hv10:=s810 _ _ (s8 _ _ hv7);let hy10:=s810 _ _ hy8
   let hY10:=hY5.same s510;let hl10:=s510 _ _ hl5
   let t10:=s5.m s510;show nm ?_;dsimp only;exists _,Z,lv,Z,{_,SqL.of hv10},Zv2 (K:=K) (a:=lv) (xs:=IL<|lvl ls x ps.f) (λk σ H11=>∃(ys:List V)(v8 v9:Option V),σ=[some ↑w,some<|.ref b,some<|.ref md,some<|.ref m,some<|.int x,some<|.ref lv,some<|.ref m',some<|.ref sp,v8,v9]/\(∀a o,a≠md->H10 a=some o->H11 a=some o)/\H11 md=some (.lst ys)/\PairsV H11 ys (mdT n.i ps ls λi=>ls.getD i 0∈Ls.G j\/(i:Int)∈(lvl ls x ps.f).G k)) {ys,_,_,Z,λ_ _ _ h=>h,hy10,(by rwa[ZP4 (q:=λi=>ls.getD i 0∈Ls.G j) λi _=>{λh=>h.elim id λh=>(by cases h),.inl}])} (λk σ H11 _ zz=>by let(_,_,_,_,e,_):=zz;show SqL.of<|e _ _ lvmd hv10) ?_ ?_
   ·rintro k v σ H11 hk ⟨ys,v8,v9,rfl,kp,hy11,hY11⟩;let(z,rfl,hz):=Zz81 hk;let(zb,zl):=lvl_mem.S (Yy9 hz);let t11:Same H H11:=λa o e=>kp a o (Za e hmd0) (t10 a o e)
    obtain⟨p,hp⟩:∃p,ps[z.i]?=some p:={_,Yy0 B};let(vv,hvv,tt,rfl,htt):=h3.2 z.i p hp;let(e1,e2,e3,e4):=g4 p (Yy9 hp);let ed:ps.getD z.i (0,0)=p:=ZS hp
    let hsp11:=kp _ _ spmd hsp10;let ht11:=t11 _ _ htt
    show nm ?_;dsimp only;exists _,Z,w,_,dx,_,_,Z,t11 _ _ h1,T.cl_Web,T.n_Web_ties,ZC1 _ _,_,Z,tl,xs,z,.ref tt,Z,Z,SqL.of<|t11 _ _ h2,ZE (n:=z.i) B hvv,?_;show nm ?_;dsimp only;let at_:∀y:Int,0<=y->y<n->atI (IL<|(List.range n.i).L (spt n.i ps ls x)) y=some (.int<|spt n.i ps ls x y.i):=λy y0 y1=>ZE (n:=y.i) B (by rw[Yc,Yc,Y0v B];rfl)
    let c0:atI ([.int p.1,.int p.2]:List V) 0=some (.int p.1):=rfl;let c1:atI ([.int p.1,.int p.2]:List V) 1=some (.int p.2):=rfl
    exists _,Z,_,Z,tt,_,0,_,Z,Z,SqT.of ht11,c0,sp,_,p.1,_,Z,Z,SqL.of hsp11,at_ p.1 e1 e2,_,Z,_,Z,tt,_,1,_,Z,Z,SqT.of ht11,c1,sp,_,p.2,_,Z,Z,SqL.of hsp11,at_ p.2 e3 e4,(by change 2<=sizeLine;decide),λtA htA=>?_;let s12:=Zz5 (o:=.tup [.int (spt n.i ps ls x p.1.i),.int (spt n.i ps ls x p.2.i)]) htA
    let hy12:=s12 _ _ hy11;let hA12:=Zz1 (H:=H11) (a:=tA) (o:=.tup [.int (spt n.i ps ls x p.1.i),.int (spt n.i ps ls x p.2.i)])
    let tmd:tA≠md:=Y0f (Za hy11 htA);let hY12:=hY11.same s12
    let yl:ys.f=ps.f:=by rw[hY12.1,Zn12]
    exists _,Z,_,Z,md,_,_,z.i,Z,Z,hy12,Zi14 zb.1 B,?_;exists ys.set z.i<|.ref tA,some<|.int z,some<|.ref tt,Z,λa o ha e=>?_,Zz1,?_
    ·rw[Ze ha];show s12 _ _ (kp a o ha e)
    ·have e5:(spt n.i ps ls x p.1.i,spt n.i ps ls x p.2.i)=cwP n.i ps ls z.i:=by unfold cwP;rw[ed,show ls.getD z.i 0=x from zl]
     let hP:=(hY12.mut (l:=md) (zs:=ys.set z.i<|.ref tA) hy12).set z.i (v:=.ref tA) (p:=(spt n.i ps ls x p.1.i,spt n.i ps ls x p.2.i)) {tA,Z,by rwa[Ze tmd]};rw[e5,Zm12 (q:=λi=>ls.getD i 0∈Ls.G j\/(i:Int)∈(lvl ls x ps.f).G (k+1)) λi _=>?_]at hP
     ·show hP
     ·rw[YN,hz];change _\/(i:Int)∈(lvl ls x ps.f).G k++[z]↔_
      rw[Yb,Yy2,or_assoc]
      have:(i:Int)=z↔i=z.i:=B
      rw[this]
   rintro σ H11 ⟨ys',v8,v9,rfl,kp,hy11,hY11⟩;rw[Zz4,YR]at hY11;let t11:Same H H11:=λa o e=>kp a o (Za e hmd0) (t10 a o e)
   exists _,Z,?_;show nm ?_;exists m',S++lvl ls x ps.f,ys',_,_,_,_,_,_,Z,t11,m'md,kp _ _ m'md hm10,up3,hy11,?_,kp _ _ lmd hl10;rw[ZP4 (q:=λi=>ls.getD i 0∈Ls.G (j+1)) λi hi=>?_]at hY11
   ·show hY11
   ·rw[YN,hx];change _↔ls.getD i 0∈Ls.G j++[x]
    rw[Yb,Yy2,lvl_mem];let e:lnz ls (i:Int)=ls.getD i 0:=by unfold lnz;rw[YB]
    rw[e];constructor
    ·rintro(h|h)
     ·show .inl h
     ·show .inr h.2
    ·rintro(h|h)
     ·show .inl h
     ·show .inr {⟨B,B⟩,h}
  rintro σ H5 ⟨m,S,ys,v4,v5,v6,v7,v8,v9,rfl,s5,mmd,hm5,hSm,hy5,hY5,hl5⟩;rw[Zz4,YR,Zo12 λi hi=>(hLm _).X (by rw[Yy5,Yy0 (show i<ls.f by omega)];show Y0Y _)]at hY5;exists _,Z,w,_,dx,_,_,Z,s5 _ _ h1,T.cl_Web,T.n_Web_places,Zi1 _ _,_,Z,λw2 dx2 nx2 ndx2 nex2=>?_;let v2:Same H5 (upd (upd H5 dx2<|.own w2) w2<|.ins t.A_Web dx2 []):=Zu (Zz5 ndx2) (by rwa[Ze (Y0f nex2)])
  exists w2,dx2,n,md,false,ys,_,Z,Zz1,λo=>(Zp nx2 v2).seq (SqL.of hy5),hY5.same v2,Zu9 hG hl,λH6 hW6 k6=>{Z,?_};let v3:Same H5 H6:=λb o e=>k6 b o (v2 b o e) (Za e nx2)
  show q w2 H6 (s5.m v3) hW6
inductive spZn(K:PySem.W.Q)(C:Addr)(vs:List V)(H:Hp)(Q:VK)(_:XK):Prop
 |mk (w b:Addr) (kd:Bool) (n:Int) (ps:List (Int×Int)) (ls:List Int) (_:vs=[.ref w,.ref b]) (_:WebAt C H w n ps) (_:ZM n ps) (_:SqK kd K H b (IL ls)) (_:ls.f=ps.f) (_:(∀(U:List Int)(r:Addr)(H':Hp),Zo n (cwT n.i ps ls) U->(∀W,Zo n (cwT n.i ps ls) W->HT.lexLt W U=false)->Same H H'->H' r=some (.tup<|IL U)->Q ↑r H')) (_:((∀W,¬Zo n (cwT n.i ps ls) W)->∀H':Hp,Same H H'->False))
def okZn(T:Txt K mg t):OkQ P w base CX0 T.qZn 8 (spZn K t.A_Web):=by
 show T.qZn.okI ["web","lengths"] XT λcdv A outer s H vs Q E hr h=>?_
 ·let(w,b,kd,n,ps,ls,rfl,hW,hG,hS,hl,q,qe):=h;exists _,(Zz7<|Zq<|Zz9 (okZl T) hr T.qZl ZP<|Zz0 (Zz9 (okZm T) hr T.qZm ZP<|Zz0 (pv 0)<|Zz0 (pv 1) Zz3) Zz3),?_;exists _,Z,_,Z,w,b,kd,n,ps,ls,Z,hW,hG,hS,hl,λw2 H1 s1 hW1=>?_;let hC:=Zu9 hG hl
  exists w2,n,_,Z,hW1,hC,λhf r H2 s2 hr=>?_,λhf H2 s2=>?_
  ·show q _ r H2 (ZT6 hC hf) (λW hV=>Zb8 hC hV) (s1.m s2) hr
  ·show qe (λW hV=>?_) H2 (s1.m s2)
   have:=(ZQ6 hC hV).2.1
   omega
def smW(ls ns:List Int):(Int):=(ns.L λz=>ls.getD z.i 0).sum
inductive spZo(K:PySem.W.Q)(C:Addr)(vs:List V)(H:Hp)(Q:VK)(_:XK):Prop
 |mk (w a b:Addr) (n:Int) (ps:List (Int×Int)) (kd ke:Bool) (ls ns:List Int) (_:vs=[.ref w,.ref a,.ref b]) (_:WebAt C H w n ps) (_:ps.f<=30) (_:SqK kd K H a (IL ls)) (_:SqK ke K H b (IL ns)) (_:ls.f=ps.f) (_:IsSet ps.f ns) (_:∀H':Hp,Same H H'->Q (.int<|smW ls ns) H')
def okZo(T:Txt K mg t):OkQ P w base CX0 T.qZo 4 (spZo K t.A_Web):=by
 show T.qZo.okI ["web","lengths","ties"] XT λcdv A outer s H vs Q E hr h=>?_
 ·let(w,a,b,n,ps,kd,ke,ls,ns,rfl,hW,p30,hA,hB,hl,hI,q):=h;show⟨_,(Zz2 (ZK<|Zz9 (okZa T) hr T.qZa Zz114<|Zz0 (pv 0)<|Zz0 (pv 1) Zz3)
   (Zz7<|Zq<|Zf (Zg2 K Z) XR T.n_sum Boot.«sum»<|Zz0 (ZY3 Z (sc0:=Zb<|top 41) (N0:=["web","lengths","ties"]) (N':=["tie","lengths"]) (o:=1) (fr:=[1]) ⟨Z,XT,XT,XT,Z,XT⟩ (Zp3 K<|Zz9 (okZe T) hr T.qZe ZP<|Zz0 (pv 0)<|Zz0 (pv 2) Zz3) (ZA XU) (λ_ _ _ _=>(Zc 0)) (λ_ _ _ _=>ZQ) λ_ _ _ _=>(ZH (ZB12 K) (pv 1) (pv 0) λ_ _=>rfl)) Zz3)),?_⟩
  exists _,Z,_,Z,w,a,n,ps,kd,ls,Z,hW,hA,λ_=>?_,λh=>absurd hl h;exists _,Z,_,Z,w,b,n,ps,ke,ns,Z,hW,hB,hI,λr H1 s1 hr=>?_;let hms:=isSet_iff.S hI
  let hlen:=hI.len;exists r,Z,{_,hr},ZI6 (K:=K) (a:=r) (xs:=IL ns) (λi ws H2=>H2=H1/\ws=IL ((ns.G i).L λz=>ls.getD z.i 0)/\i<=ns.f) {Z,Z,Yk _} (Zk<|by rw[Zz4];omega) (λi ws H2 hi zz=>by let(e,ew,hi2):=zz;show{e▸hr,by rw[ew,Zz4,Yy7,Yh];omega}) ?_ ?_
  ·rintro i v ws H2 hi ⟨rfl,rfl,hil⟩ S hSS;let(z,rfl,hz):=Zz81 hi;let(z0,z1):=hms.1 z (Yy9 hz);obtain⟨y,hy⟩:∃y,ls[z.i]?=some y:={_,Yy0 B};show nm ?_;exists _,Z,_,Z,kd,a,_,_,.int y,Z,Z,hA.same s1,ZE (n:=z.i) B<|ZJ3 hy,?_;show hSS _ _ {Z,?_,(Yy1.S hz).1};let e:ls.getD z.i 0=y:=ZS hy
   rw[YN,hz,Yn,<-e];show(Zl1 _ _).symm
  ·rintro ws H2 ⟨rfl,rfl,_⟩ lA hlA;exists lA,_,Z,SqL.of Zz1,?_;rw[Zz4,YR];show q _ (s1.m<|Zz5 hlA)
inductive spZp(K:PySem.W.Q)(C:Addr)(vs:List V)(H:Hp)(Q:VK)(_:XK):Prop
 |mk (w b n ps ws:_) (_:vs=[.ref w,.ref b]) (_:WebAt C H w n ps) (_:ZM n ps) (_:SqL K H b (IL ws)) (_:ws.f=ps.f) (_:∀r ys L H',Same H H'->H r=none->TabAt H r n.i H' ys L->(∀i j,i<n.i->j<n.i->fnL L i j=lapE (Zz62 ps ws) i j)->Q ↑r H')
def Zd6(x:V)(k:Nat):(List.Y k [x]).flatten=List.Y k x:=by
 induction k with
 |zero=>rfl
 |succ k ih=>rw[Yy18,Y0S,ih,Yy18];rfl
def ZY10(n i j:Nat):fnL (List.Y n (List.Y n 0)) i j=0:=by
 unfold fnL;cases h:(List.Y n<|List.Y n (0:Int))[i]? with
 |none=>
  let e:(List.Y n<|List.Y n (0:Int)).getD i []=[]:=by rw[Yy5,h];rfl
  rw[e];rfl
 |some l=>
  let e:(List.Y n<|List.Y n (0:Int)).getD i []=l:=by rw[Yy5,h];rfl
  rw[e,Y1F<|Yy9 h,Yy5,Y1K];split<;>rfl
def TabAt.get{H0 H:Hp}{r:Addr}{n:Nat}{ys:List V}{L:List (List Int)}(h:TabAt H0 r n H ys L){i j:Nat}(hi:i<n)(hj:j<n):∃A l x,ys[i]?=some ↑A/\H A=some (.lst (IL l))/\l[j]?=some x/\l.f=n/\x=fnL L i j/\H0 A=none/\∀y:Int,∃L':List (List Int),TabAt H0 r n (upd H A (.lst ((IL l).set j (.int y)))) ys L'/\∀a b,fnL L' a b=if a=i/\b=j then y else fnL L a b:=by
 let(A,l,y1,z1,hA,hl,hn,hr):=h.at hi;obtain⟨x,hx⟩:∃x,l[j]?=some x:={_,Yy0 J};exists A,l,x,y1,hA,hx,hl,(ZC2 z1 hx).symm,hn,λy=>{L.set i<|l.set j y,?_,ZQ12 z1 J};let e:(IL l).set j (.int y)=IL (l.set j y):=(List.map_set ..).symm
 rw[e];show h.put y1 z1 hr (by rwa[Y0J])
def Zz28{xs:List V}{i:Int}(h0:0<=i)(h1:i<xs⁻¹):ixN xs.f i=some i.i:=by unfold ixN;rw[if_pos h0,if_pos B]
def scZp:FnScope ["web","weights","table","ends","weight","one","other"] ["web","weights"] (Zb (top 33)):=ZE4 XT
def okZp(T:Txt K mg t):OkQ P w base CX0 T.qZp 1 (spZp K t.A_Web):=by
 show T.qZp.okI ["web","weights","table","ends","weight","one","other"] XT λcdv A outer s H vs Q E hr h=>?_
 ·let(w,b,n,ps,ws,rfl,hW,hG,hS,hwl,q):=h;show⟨_,(Zz2 (ZN7 (i:=2) Z scZp.nd Z Z (sc0:=Zb<|top 33) (N0:=["web","weights","table","ends","weight","one","other"]) (N':=["place","web"]) (o:=1) (fr:=[0]) ⟨Z,XT,XT,XT,Z,XT⟩ (ZR Z T.n_range<|Zz0 (ZU K (pv 0) Z) Zz3) (ZA XU) (λ_ _ _ _=>(Zc 0)) (λ_ _ _ _=>ZQ) λ_ _ _ _=>(Zn Zc12 (Zs1<|Zz0 Zz8 Zz3)<|ZU K (pv 1) Z))
   (Zz2 (Zz31 QP Z (Zf10 K Z T.n_zip<|Zz0 (ZU K (pv 0) Z)<|Zz0 (pv 1) Zz3) (ZE1 (n:=2) K Z<|Zx (Zc 3)<|Zx (Zc 4) ZD1)
   (Zz2 (Zd 5<|ZH (ZG K) (pv 3) Zz8 λ_ _=>rfl)
   (Zz2 (Zd 6<|ZH (ZG K) (pv 3) Zz8 λ_ _=>rfl)
   (Zz7 (ZJ1 (Zl ZP8 (pv 5) (pv 6)<|Zz _)
   (Zz2 (ZI4 (ZH (Zg K) (pv 2) (pv 5) λ_ _=>rfl) (pv 5) (Zc2 K) (pv 4) ZF12 Zp1)
   (Zz2 (ZI4 (ZH (Zg K) (pv 2) (pv 6) λ_ _=>rfl) (pv 6) (Zc2 K) (pv 4) ZF12 Zp1)
   (Zz2 (ZI4 (ZH (Zg K) (pv 2) (pv 5) λ_ _=>rfl) (pv 6) (Zc2 K) (pv 4) ZE12 Zp1)
   (Zz7<|ZI4 (ZH (Zg K) (pv 2) (pv 6) λ_ _=>rfl) (pv 5) (Zc2 K) (pv 4) ZE12 Zp1))))
   Zv)))))
   (Zz7<|Zq<|pv 2))),?_⟩
  let(dx,tl,xs,h1,h2,h3):=id hW;let hl:=h3.1
  let(g1,g2,g3,g4):=id hG;let one:1<=sizeLine:=XU
  exists _,Z,w,_,dx,_,_,Z,h1,T.cl_Web,T.n_Web_places,Zi1 _ _,n,Z,J,J,Zp2 (lo:=0) (n:=n.i) (λi zs H2=>Same H H2/\Bears (ZB7 H2) zs (List.Y i<|List.Y n.i 0)/\zs.Nodup/\∀A,V.ref A∈zs->H A=none/\∃o,H2 A=some o) {Same.refl _,{Z,λi l e=>by simp at e},.nil,λA h=>(by cases h)} (Zk J) (λi zs H2 _ zz=>by let(_,e,_):=zz;rw[e.1,YL];show Yy8 _) ?_ ?_
  ·rintro i zs H2 hi ⟨s2,hZ,hnd,hnew⟩ S hSS;show nm ?_;exists one,λp1 hp1=>?_;let u1:=Zz5 (o:=.lst [.int 0]) hp1
   exists _,Z,w,_,dx,_,_,Z,u1 _ _<|s2 _ _ h1,T.cl_Web,T.n_Web_places,Zi1 _ _,p1,n,_,Z,Z,Zz1,J,J,ZI1 (by change 1*n.i<=_;lia),λp2 hp2=>?_;let e0:(List.Y n.i [V.int 0]).flatten=IL (List.Y n.i 0):=by rw[Zd6];change _=(List.Y n.i 0).L V.int;rw[List.map_replicate]
   rw[e0];let u2:=u1.m (Zz5 (o:=.lst<|IL<|List.Y n.i 0) hp2)
   let hp20:H2 p2=none:=(Zz5 hp1).free hp2;show hSS _ _ {s2.m u2,?_,?_,λA hA=>?_}
   ·rw[List.replicate_succ'];show(hZ.imp λ_ _ zz=>by let(r',e,h):=zz;exists r',e,u2 _ _ h).snoc ⟨p2,Z,Zz1⟩
   ·show Y1n.X {hnd,D,λx hx y hy e=>?_};rw[Yy2.S hy]at e;let(_,o,ho):=hnew p2 (e▸hx);rw[hp20]at ho;cases ho
   ·rcases Yb.S hA with e|e
    ·let(a1,o,a2):=hnew A e;exists a1,o,u2 _ _ a2
    ·have e':A=p2:=by simpa using e
     rw[e'];exists s2.free hp20,_,Zz1
  rintro zs H2 ⟨s2,hZ,hnd,hnew⟩ tA htA;let s3:=s2.m (Zz5 (o:=.lst zs) htA)
  let htA0:H tA=none:=s2.free htA;let hT:TabAt H tA n.i (upd H2 tA<|.lst zs) zs (List.Y n.i<|List.Y n.i 0):={Zz1,hZ.imp λ_ _ zz=>by let(r',e,h):=zz;show{r',e,Zz5 htA _ _ h,Za h htA},YL,λl h=>by rw[Y1F h];show YL,hnd,λA h=>(hnew A h).1}
  let hzero:∀i j,fnL (List.Y n.i<|List.Y n.i 0) i j=0:=λi j=>by
   have:=ZY10 n.i i j
   show this
  generalize upd H2 tA (.lst zs)=H3 at *;generalize List.Y n.i (List.Y n.i (0:Int))=L0 at *;exists _,Z,w,_,dx,_,_,Z,s3 _ _ h1,T.cl_Web,T.n_Web_ties,ZC1 _ _,_,Z,tl,b,Z,{_,_,SqL.of<|s3 _ _ h2,s3.seq hS},ZP12 (K:=K) (a:=tl) (b:=b) (xs:=xs) (ys:=IL ws) (by rw[Zz4];lia) (λi σ H4=>∃L v3 v4 v5 v6,σ=[some ↑w,some<|.ref b,some<|.ref tA,v3,v4,v5,v6]/\Same H H4/\TabAt H tA n.i H4 zs L/\∀x y,x<n.i->y<n.i->fnL L x y=lapE (Zz62 (ps.G i)<|ws.G i) x y) {L0,none,none,none,none,Z,s3,hT,λx y _ _=>hzero x y} (λi σ H4 _ zz=>by let(_,_,_,_,_,_,e,_):=zz;exists SqL.of<|e _ _ h2,e.seq hS) ?_ ?_
  ·rintro i v v' σ H4 pt hpt hi hi' ⟨L,v3,v4,v5,v6,rfl,s4,hT4,hlap⟩;let(p,hp,tt,rfl,htt):=h3.at hi;let(wt,rfl,hwt):=Zz81 hi';let(e1,e2,e3,e4):=g4 p (Yy9 hp);let u1:=Zz5 (o:=.tup [.ref tt,.int wt]) hpt
   exists pt,_,Z,SqT.of Zz1,Z,_,_,Z,_,_,Z,Z,?_;let hT5:=hT4.same u1
   let s5:=s4.m u1;generalize upd H4 pt (.tup [.ref tt,.int wt])=H5 at *;exists _,Z,tt,_,0,.int p.1,Z,Z,SqT.of<|s5 _ _ htt,Z,?_;exists _,Z,tt,_,1,.int p.2,Z,Z,SqT.of<|s5 _ _ htt,Z,?_;exists _,Z,_,Z,Z,_,Z,?_;rw[ZV];let esn:=Zz711 hp hwt
   show itn2 (λheq=>?_) (λhne=>?_)
   ·exists L,_,_,_,_,Z,s5,hT5,λx y hx hy=>?_;rw[esn,ZT4 (by change p.1.i=p.2.i;rw[heq])];show hlap x y hx hy
   let hne':p.1.i≠p.2.i:=λe=>hne J;let(A1,l1,x1,y1,hA1,hx1,hl1,ex1,hn1,put1):=hT5.get (i:=p.1.i) (j:=p.1.i) J J;exists _,Z,_,Z,tA,zs,p.1,.ref A1,Z,Z,SqL.of hT5.tab,ZE (n:=p.1.i) J y1,_,Z,A1,_,p.1,.int x1,Z,Z,SqL.of hA1,J,ZJ3 hx1,_,Z,_,_,Z,Z,A1,_,p.1,p.1.i,Z,Z,hA1,Zz28 J (by rw[Zz4];lia),?_;let(L1,hT6,hf1):=put1 (x1+wt);let s6:Same H (upd H5 A1<|.lst<|(IL l1).set p.1.i (.int<|x1+wt)):=Zp hn1 s5
   generalize upd H5 A1 (.lst<|(IL l1).set p.1.i (.int<|x1+wt))=H6 at *;rw[ex1]at hf1;let(A2,l2,x2,y2,hA2,hx2,hl2,ex2,hn2,put2):=hT6.get (i:=p.2.i) (j:=p.2.i) J J;exists _,Z,_,Z,tA,zs,p.2,.ref A2,Z,Z,SqL.of hT6.tab,ZE (n:=p.2.i) J y2,_,Z,A2,_,p.2,.int x2,Z,Z,SqL.of hA2,J,ZJ3 hx2,_,Z,_,_,Z,Z,A2,_,p.2,p.2.i,Z,Z,hA2,Zz28 J (by rw[Zz4];lia),?_;let(L2,hT7,hf2):=put2 (x2+wt);let s7:Same H (upd H6 A2<|.lst<|(IL l2).set p.2.i (.int<|x2+wt)):=Zp hn2 s6
   generalize upd H6 A2 (.lst<|(IL l2).set p.2.i (.int<|x2+wt))=H7 at *;rw[ex2]at hf2;let(A3,l3,x3,y3,hA3,hx3,hl3,ex3,hn3,put3):=hT7.get (i:=p.1.i) (j:=p.2.i) J J;exists _,Z,_,Z,tA,zs,p.1,.ref A3,Z,Z,SqL.of hT7.tab,ZE (n:=p.1.i) J y3,_,Z,A3,_,p.2,.int x3,Z,Z,SqL.of hA3,J,ZJ3 hx3,_,Z,_,_,Z,Z,A3,_,p.2,p.2.i,Z,Z,hA3,Zz28 J (by rw[Zz4];lia),?_;let(L3,hT8,hf3):=put3 (x3-wt);let s8:Same H (upd H7 A3<|.lst<|(IL l3).set p.2.i (.int<|x3-wt)):=Zp hn3 s7
   generalize upd H7 A3 (.lst<|(IL l3).set p.2.i (.int<|x3-wt))=H8 at *;rw[ex3]at hf3;let(A4,l4,x4,y4,hA4,hx4,hl4,ex4,hn4,put4):=hT8.get (i:=p.2.i) (j:=p.1.i) J J;exists _,Z,_,Z,tA,zs,p.2,.ref A4,Z,Z,SqL.of hT8.tab,ZE (n:=p.2.i) J y4,_,Z,A4,_,p.1,.int x4,Z,Z,SqL.of hA4,J,ZJ3 hx4,_,Z,_,_,Z,Z,A4,_,p.1,p.1.i,Z,Z,hA4,Zz28 J (by rw[Zz4];lia),?_;let(L4,hT9,hf4):=put4 (x4-wt);let s9:Same H (upd H8 A4<|.lst<|(IL l4).set p.1.i (.int<|x4-wt)):=Zp hn4 s8
   generalize upd H8 A4 (.lst<|(IL l4).set p.1.i (.int<|x4-wt))=H9 at *;rw[ex4]at hf4;exists L4,_,_,_,_,Z,s9,hT9,λx y hx hy=>?_;rw[esn,ZW2,<-hlap x y hx hy];show four hne' x y hf1 hf2 hf3 hf4
  ·rintro σ H4 ⟨L,v3,v4,v5,v6,rfl,s4,hT4,hlap⟩;rw[hl,YR,<-hwl,YR]at hlap;exists _,Z,q tA zs L H4 s4 htA0 hT4 hlap
inductive spZq(K:PySem.W.Q)(C:Addr)(vs:List V)(H:Hp)(Q:VK)(_:XK):Prop
 |mk (w n ps:_) (_:vs=[.ref w]) (_:WebAt C H w n ps) (_:ZM n ps) (_:∀r ys L H',Same H H'->H r=none->TabAt H r n.i H' ys L->(∀i j,i<n.i->j<n.i->fnL L i j=lapE (Zz62 ps<|List.Y ps.f 1) i j)->Q ↑r H')
def okZq(T:Txt K mg t):OkQ P w base CX0 T.qZq 2 (spZq K t.A_Web):=by
 show T.qZq.okI ["web"] XT λcdv A outer s H vs Q E hr h=>?_
 ·let(w,n,ps,rfl,hW,hG,q):=h;exists _,(Zz7<|Zq<|Zz9 (okZp T) hr T.qZp ZP<|Zz0 (pv 0)<|Zz0 (Zn Zc12 (Zs1<|Zz0 Zz8 Zz3)<|Zf (Zi K) XR T.n_len Boot.«len»<|Zz0 (ZU K (pv 0) Z) Zz3) Zz3),?_;let(dx,tl,xs,h1,h2,h3):=id hW;let hl:=h3.1
  let g3:=hG.2.2.1;exists _,Z,(by change 1<=sizeLine;decide),λp1 hp1=>?_;let u1:=Zz5 (o:=.lst [.int 1]) hp1
  exists _,Z,w,_,dx,_,_,Z,u1 _ _ h1,T.cl_Web,T.n_Web_ties,ZC1 _ _,tl,xs,Z,.inl<|SqL.of<|u1 _ _ h2,p1,xs⁻¹,_,Z,Z,Zz1,J,J,ZI1 (by change 1*_<=_;lia),λp2 hp2=>?_;let e0:(List.Y (xs.f:Int).i [V.int 1]).flatten=IL (List.Y ps.f 1):=by
   rw[YB,hl,Zd6];change _=(List.Y ps.f 1).L V.int
   rw[List.map_replicate]
  rw[e0];let u2:=u1.m (Zz5 (o:=.lst<|IL<|List.Y ps.f 1) hp2)
  exists w,p2,n,ps,List.Y ps.f 1,Z,hW.same u2,hG,SqL.of Zz1,YL,λr ys L H' s hr hT hf=>?_;show q r ys L H' (u2.m s) (u2.free hr) {hT.tab,hT.rows,hT.len,hT.all,hT.nd,λA h=>u2.free<|hT.new A h} hf
inductive spZr(K:PySem.W.Q)(C:Addr)(vs:List V)(H:Hp)(Q:VK)(_:XK):Prop
 |mk (w n ps:_) (_:vs=[.ref w]) (_:WebAt C H w n ps) (_:ZM n ps) (_:∀c H',TC n ps c->Same H H'->Q (.int c) H')
def Zz69(u v i:Nat):(ind u v i).natAbs<=1:=by unfold ind;split<;>split<;>decide
def Zz09:∀{E:List Ed},(∀e∈E,e.2.2=1)->∀i j,(lapE E i j).natAbs<=E.f
 |[],_,i,j=>Yy8 0
 |e::E,h,i,j=>by
  let ih:=Zz09 (λf hf=>h f<|Yd _ hf) i j;let h1:=Zz69 e.1 e.2.1 i
  let h2:=Zz69 e.1 e.2.1 j;let h3:(ind e.1 e.2.1 i*ind e.1 e.2.1 j).natAbs<=1:=by rw[Yy22];show Y1t h1 h2
  change(e.2.2*(ind e.1 e.2.1 i*ind e.1 e.2.1 j)+lapE E i j).natAbs<=(e::E).f;rw[h e Ye,Y0X,Yu]
  have:=Y2z (ind e.1 e.2.1 i*ind e.1 e.2.1 j) (lapE E i j)
  lia
def Zj7{α:Type}{l:List α}{i:Nat}(hi:l.f=i+1):cutz l (i:Int)=l.G i:=by unfold cutz;rw[YB,YH J,YM]
def okZr(T:Txt K mg t):OkQ P w base CX0 T.qZr 3 (spZr K t.A_Web):=by
 show T.qZr.okI ["web"] XT λcdv A outer s H vs Q E hr h=>?_
 ·let(w,n,ps,rfl,hW,hG,q):=h;exists _,(Zz7<|Zq<|Zz9 (okZ3 T) hr T.qZ3 ZP<|Zz0 (Zz9 (okZ5 T) hr T.qZ5 ZP<|Zz0 (Zz9 (okZq T) hr T.qZq ZP<|Zz0 (pv 0) Zz3)<|Zz0 (Zn ZS2 (ZU K (pv 0) Z) Zz8) Zz3) Zz3),?_;let(g1,g2,g3,g4):=id hG;exists _,Z,w,n,ps,Z,hW,hG,λr ys L H1 s1 hr hT hf=>?_;let(dx,tl,xs,h1,h2,h3):=id hW;exists _,Z,w,_,dx,_,_,Z,s1 _ _ h1,T.cl_Web,T.n_Web_places,Zi1 _ _,_,_,Z,Z,?_;obtain⟨k,hk⟩:∃k:Nat,n-1=(k:Int):={(n-1).i,J};let hnk:n.i=k+1:=XS
  let hLl:=hT.len;let hTB:Bears (ZB7 H1) ys L:=hT.rows.imp λ_ _ h=>h.list
  exists r,ys,L,k,?_,SqL.of hT.tab,hTB,XS,λl h=>by rw[hT.all l h];lia,J,λr2 zs H2 s2 hr2 hZ=>?_
  ·show [V.ref r,V.int (n-1)]=_;rw[hk]
  let w1:∀e∈Zz62 ps (List.Y ps.f (1:Int)),e.2.2=1:=λe he=>by
   unfold Zz62 at he;let(i,hi):=YC he;rw[Y1c]at hi;cases h1:ps[i]? with
   |none=>rw[h1]at hi;cases hi
   |some p=>
    cases h2:(List.Y ps.f (1:Int))[i]? with
    |none=>rw[h1,h2]at hi;cases hi
    |some w=>
     rw[h1,h2]at hi;let rfl:=Yl hi;show Y1F (Yy9 h2)
  let el:(Zz62 ps<|List.Y ps.f (1:Int)).f<=30:=by unfold Zz62;rw[Y1D,YL];lia
  let hM:(cutz L (k:Int)).L (λl=>cutz l (k:Int))=(L.G k).L λl=>l.G k:=by rw[Zj7 J];show YW λl hl=>Zj7 (by rw[hT.all l (Yy00 hl)];omega)
  rw[hM]at hZ;let hMl:((L.G k).L λl=>l.G k).f=k:=by rw[Yy7,Yh];grind
  let hfn:∀i j,i<k->j<k->fnL ((L.G k).L λl=>l.G k) i j=lapE (Zz62 ps<|List.Y ps.f 1) i j:=λi j hi hj=>by
   rw[<-hf i j XS XS];obtain⟨l,hl⟩:∃l,L[i]?=some l:={_,Yy0 XS};let hll:=hT.all l (Yy9 hl)
   obtain⟨x,hx⟩:∃x,l[j]?=some x:={_,Yy0 XS};rw[ZC2 hl hx];show ZC2 (l:=l.G k) (by rw[Yc,Y0D,if_pos hi,hl];rfl) (by rwa[Y0D,if_pos hj])
  exists r2,false,zs,(L.G k).L λl=>l.G k,Z,SqL.of hr2,hZ.imp (λ_ _ zz=>by let(r',e,h):=zz;exists r',false,e,SqL.of h),by rw[hMl];lia,λi j hi hj=>?_,λ_ H3 s3=>?_,λh=>absurd (λl hl=>?_) h
  ·rw[hMl]at hi hj;rw[hfn i j hi hj];show Yv (Zz09 w1 i j) (Yv el<|Yv (by decide:30<=2^5)<|Yy25 XU XU)
  ·have hd:det ((L.G k).L λl=>l.G k).f (fnL<|(L.G k).L λl=>l.G k)=det (n-1).i (lapE<|Zz62 ps<|List.Y ps.f 1):=by rw[hMl,show(n-1).i=k by lia];show Zj λi j hi hj=>hfn i j hi hj
   obtain⟨c,M,a1,a2,a3⟩:∃c,TC n ps c:=by let(M,a1,a2,_):=Zx1 _ (n-1).i (Zz62 ps<|List.Y ps.f 1) Z (ZV12 hG _);exists M.f,M,a1,λl=>by rw[a2,Zz59 g1 YL],Z
   rw[hd,ZK9 hG a1 a2,a3];show q c H3 ⟨M,a1,a2,a3⟩ (s1.m<|s2.m s3)
  ·let(l0,h0,rfl):=Yx.S hl;rw[hMl,Yh,hT.all l0 (Yy00 h0)];grind
inductive spZs(K:PySem.W.Q)(C:Addr)(vs:List V)(H:Hp)(Q:VK)(_:XK):Prop
 |mk (w a b:Addr) (n:Int) (ps:List (Int×Int)) (Is Os:List Int) (_:vs=[.ref w,.ref a,.ref b]) (_:WebAt C H w n ps) (_:ZM n ps) (_:SqT K H a (IL Is)) (_:SqT K H b (IL Os)) (_:IsSet ps.f Is) (_:Os.f<=30) (_:(∀z∈Is,z∉Os)) (_:∀(c:Nat)(H':Hp),PC n ps Is Os c->Same H H'->Q (.int c) H')
def Zz613{K:PySem.W.Q}{H:Hp}{a b:Addr}{l m:List Int}{Q:VK}(ha:SqT K H a (IL l))(hb:SqT K H b (IL m))(hl:l.f+m.f<=1000)(k:∀(r:Addr)(H':Hp),Same H H'->SqT K H' r (IL (l++m))->Q ↑r H'):ZC14 K ↑a ↑b H Q:=by
 exists a,b,_,_,Z,Z,ha,hb,by rw[Zz4,Zz4];show Yv hl XU,λe=>?_,λ_ e=>?_,λ_ _ p hp=>?_
 ·have el:l=[]:=List.map_eq_nil_iff.S e;rw[el,Y1b]at k;show k b H (Same.refl _) hb
 ·have em:m=[]:=List.map_eq_nil_iff.S e;rw[em,YM]at k;show k a H (Same.refl _) ha
 ·show k p _ (Zz5 hp) (SqT.of ?_);rw[Zz1,ZV4]
def Zz07{gone:List Int}(j:Nat):freT (j+1) gone=freT j gone++(if ((j:Int)∈gone) then [] else [(j:Int)]):=by
 unfold freT;rw[Zz510,Y0E];congr 1;cases c:(j:Int)∈gone
 ·rw[if_pos c,Y0w,if_neg (by simp[c])];rfl
 ·rw[if_neg c,Y0w,if_pos (by simp[c])];rfl
def scZs:FnScope ["web","inside","outside","marks","firsts","numbers","gone","free"] ["web","inside","outside"] (Zb (top 36)):=ZE4 XT
def okZs(T:Txt K mg t):OkQ P w base CX0 T.qZs 4 (spZs K t.A_Web):=by
 show T.qZs.okI ["web","inside","outside","marks","firsts","numbers","gone","free"] XT λcdv A outer s H vs Q E hr h=>?_
 ·let(w,a,b,n,ps,Is,Os,rfl,hW,hG,hA,hB,hI,hO,hIO,q):=h;show⟨_,(Zz2 (Zd 3<|Zz9 (okZg T) hr T.qZg ZP<|Zz0 (pv 0)<|Zz0 (pv 1) Zz3)
   (Zz2 (ZN2 (i:=4) scZs.nd Z (Or.inr Z)<|ZX3 K Z Z T.n_sorted Z T.n_set<|Zz0 (pv 3) Zz3)
   (Zz2 (ZJ1 (Zl Zr6 (Zn Zt1 (Zf (Zi K) XR T.n_len Boot.«len»<|Zz0 (pv 4) Zz3)<|Zf (Zi K) XR T.n_len Boot.«len»<|Zz0 (pv 1) Zz3) (ZU K (pv 0) Z)<|Zz _)
   (Zz7<|Zq Zz8)
   Zv)
   (Zz2 (ZN2 (i:=5) scZs.nd Z (Or.inr Z)<|ZY3 Z (sc0:=Zb<|top 36) (N0:=["web","inside","outside","marks","firsts","numbers","gone","free"]) (N':=["mark","firsts"]) (o:=1) (fr:=[4]) ⟨Z,XT,XT,XT,Z,XT⟩ (ZX K<|pv 3) (ZA XU) (λ_ _ _ _=>(Zc 0)) (λ_ _ _ _=>ZQ) λ_ _ _ _=>(ZA1 K YT PySem.F.slot_list_index PySem.F.type_list_index (ZW7 K) (pv 1)<|Zz0 (pv 0) Zz3))
   (Zz2 (ZN2 (i:=6) scZs.nd Z (Or.inr Z)<|Zn (ZR8 K) (pv 1)<|pv 2)
   (Zz2 (ZN7 (i:=7) Z scZs.nd Z Z (sc0:=Zb<|top 36) (N0:=["web","inside","outside","marks","firsts","numbers","gone","free"]) (N':=["tie","ends","gone"]) (o:=2) (fr:=[6]) ⟨Z,XT,XT,XT,Z,XT⟩ (ZR2 K Z T.n_enumerate<|Zz0 (ZU K (pv 0) Z) Zz3) (Zr3<|Zz61 XU<|Zz61 XU Zs3) (λ_ _ _ _=>(ZE1 (n:=2) K Z<|Zx (Zc 0)<|Zx (Zc 1) ZD1)) (λ_ _ _ _=>(Zn3<|Zl (ZR7 K) (pv 0) (pv 2) Z)) λ_ _ _ _=>(pv 1))
   (Zz7<|Zq<|Zz9 (okZr T) hr T.qZr ZP<|Zz0 (Zl6 T.k_Web (okZ9 T) (hr.mono XU) Z T.c_Web T.bZ9 .nil ZP<|Zz0 (Zf (Zi K) XR T.n_len Boot.«len»<|Zz0 (pv 4) Zz3)<|Zz0 (ZY3 Z (sc0:=Zb<|top 36) (N0:=["web","inside","outside","marks","firsts","numbers","gone","free"]) (N':=["ends","numbers"]) (o:=1) (fr:=[5]) ⟨Z,XT,XT,XT,Z,XT⟩ (ZX K<|pv 7) (ZA XU) (λ_ _ _ _=>(Zc 0)) (λ_ _ _ _=>ZQ) λ_ _ _ _=>(Zq1<|Zz0 (ZH (Zg K) (pv 1) (ZH (ZG K) (pv 0) Zz8 λ_ _=>rfl) λ_ _=>rfl)<|Zz0 (ZH (Zg K) (pv 1) (ZH (ZG K) (pv 0) Zz8 λ_ _=>rfl) λ_ _=>rfl) Zz3)) Zz3) Zz3))))))),?_⟩
  let(g1,g2,g3,g4):=id hG;let hIl:=hI.len
  exists _,Z,_,Z,w,a,n,ps,Is,Z,hW,hG,hA,hI.all,λmA H1 s1 hm0 hm1=>?_;let hpl:=Zm n.i (Zz6 ps Is)
  let hin:=ZL (ns:=Is) hG hI.all;let hel:(Zz6 ps Is).f=Is.f:=Yy7 ..
  show nm ?_;exists _,Z,mA,_,Z,SqL.of hm1,B,λF hF hFm fA hfA=>?_;let s2:=Zz5 (o:=.lst<|IL F) hfA
  let hf2:(upd H1 fA<|.lst<|IL F) fA=some (.lst<|IL F):=Zz1;let hm2:=s2 _ _ hm1
  let s02:=s1.m s2;show nm ?_;dsimp only;generalize upd H1 fA (.lst<|IL F)=H2 at *;let(g,hfg,hfk,hgg):=Zv10 hin hF hFm;let(k1,kn,nk):=Za4 hin B hF hFm;let hA2:=Zn1 s02 hA
  let hB2:=Zn1 s02 hB;let(dx,tl,xs,h1,h2,h3):=hW.same s02;let hlx:=h3.1
  exists _,Z,fA,_,Z,.inl<|SqL.of hf2,_,Z,a,_,Z,.inr hA2,_,_,Z,Z,_,Z,w,_,dx,_,_,Z,h1,T.cl_Web,T.n_Web_places,Zi1 _ _,_,_,Z,Z,_,Z,?_;rw[Zz4,Zz4];show itd2 (λhc=>?_) (λhc=>?_)
  ·show q 0 H2 (Zb12 hG hI hfg hfk hgg k1 kn B) s02
  exists _,Z,mA,Z,{_,SqL.of hm2},ZO1 (K:=K) (a:=mA) (xs:=IL<|pms n.i<|Zz6 ps Is) (λi zs H3=>H3=H2/\i<=n.i/\zs=IL (((pms n.i<|Zz6 ps Is).G i).L λz=>(nix F z:Int))) {Z,Yk _,Z} (Zk<|by rw[Zz4,hpl];omega) (λi zs H3 _ zz=>by let(e,hi,ez):=zz;show{e▸SqL.of hm2,by rw[ez,Zz4,Yy7,Yh];omega}) ?_ ?_
  ·rintro i v zs H3 hi ⟨rfl,hin3,rfl⟩ S hSS;let(z,rfl,hz):=Zz81 hi;let hzF:z∈F:=(hFm z).X (Yy9 hz)
   let hlt:=(Yy1.S hz).1;show nm ?_;show{_,Z,.inl {Z,_,SqL.of hf2},_,Z,fA,F,z,nix F z,Z,Z,SqL.of hf2,Zn2 hzF,λi hi e=>by have:=Zw1 (Zv1 hF) e (Zn2 hzF);omega,hSS _ _ {Z,B,?_}};rw[YN,hz,Yn];show(Zl1 _ _).symm
  rintro zs H3 ⟨rfl,_,rfl⟩ nA hnA;rw[Zz4,YR];let s3:=Zz5 (o:=.lst<|IL<|(pms n.i<|Zz6 ps Is).L λz=>(nix F z:Int)) hnA
  let hn4:(upd H3 nA<|.lst<|IL<|(pms n.i<|Zz6 ps Is).L λz=>(nix F z:Int)) nA=some (.lst<|IL<|(pms n.i<|Zz6 ps Is).L λz=>(nix F z:Int)):=Zz1;let hf4:=s3 _ _ hf2
  let hA4:=Zn1 s3 hA2;let hB4:=Zn1 s3 hB2
  let s04:=s02.m s3;generalize upd H3 nA (.lst<|IL<|(pms n.i<|Zz6 ps Is).L λz=>(nix F z:Int))=H4 at *;let nAt:∀x:Int,0<=x->x<n->((pms n.i<|Zz6 ps Is).L λz=>(nix F z:Int))[x.i]?=some (nix F (mk (pms n.i<|Zz6 ps Is) x.i):Int):=λx x0 x1=>by rw[Yc,Yy0 B];unfold mk;rw[Yy5,Yy0 B];rfl
  show nm ?_;dsimp only;exists _,Z,_,Z,Zz613 hA4 hB4 B λgA H5 s5 hg5=>?_;let s05:=s04.m s5
  let(dx,tl,xs,h1,h2,h3):=hW.same s05;let hlx:=h3.1
  show nm ?_;dsimp only;exists _,Z,w,_,dx,_,_,Z,h1,T.cl_Web,T.n_Web_ties,ZC1 _ _,tl,Z,{_,SqL.of h2},ZJ6 (K:=K) (a:=tl) (xs:=xs) (λj zs H6=>Same H5 H6/\j<=ps.f/\PairsV H6 zs ((freT j<|Is++Os).L λz=>ps.getD z.i (0,0))) {Same.refl _,Yk _,PairsV.nil} (Zk B) (λj zs H6 hj ⟨e,hj2,ez⟩=>{e.seq<|SqL.of h2,by rw[ez.1,Yy7];show Yv (Y0T ..) ?_;rw[Zd1];show Yy8 _}) ?_ ?_
  ·rintro j v zs H6 pt hpt hj ⟨s6,hjl,hZ⟩ S hSS;let(p,hp,tt,rfl,ht):=h3.at hj;let hjl':=(Yy1.S hp).1
   let s7:=Zz5 (o:=.tup [.int j,.ref tt]) hpt;exists pt,_,Z,SqT.of Zz1,Z,_,_,Z,_,_,Z,Z,?_;let hZ7:=hZ.same s7
   let s57:=s6.m s7;generalize upd H6 pt (.tup [.int j,.ref tt])=H7 at *;exists _,Z,_,Z,gA,_,Z,.inr<|Zn1 s57 hg5,Z,Zz55 _,_,Z,?_;rw[ZN6];show itn2 (λhin2=>?_) (λhin2=>?_)
   ·show hSS _ _ {s57,hjl',?_};rwa[Zz07,if_pos hin2,YM]
   ·exists _,Z,hSS _ _ {s57,hjl',?_};rw[Zz07,if_neg hin2,Yn];show hZ7.app ?_;change PairsV H7 [V.ref tt] [ps.getD ((j:Nat):Int).i (0,0)]
    rw[YB,ZS hp];show PairsV.nil.snoc {tt,Z,s57 _ _ ht}
  rintro zs H6 ⟨s6,_,hZ⟩ rA hrA;rw[hlx]at hZ;let s7:=Zz5 (o:=.lst zs) hrA
  let hr7:(upd H6 rA<|.lst zs) rA=some (.lst zs):=Zz1;let hZ7:=hZ.same s7
  let s57:=s6.m s7;generalize upd H6 rA (.lst zs)=H7 at *;let hf7:=s57 _ _ (s5 _ _ hf4)
  let hn7:=s57 _ _ (s5 _ _ hn4);let hzl:=hZ7.1
  let hfl:(freT ps.f<|Is++Os).f<=30:=by show Yv (Y0T ..) ?_;rw[Zd1];omega
  rw[Yy7]at hzl;show nm ?_;dsimp only;show⟨_,Z,fA,_,Z,.inl<|SqL.of hf7,_,Z,rA,Z,{_,SqL.of hr7},ZO1 (K:=K) (a:=rA) (xs:=zs) (λi ws H8=>Same H7 H8/\i<=(freT ps.f<|Is++Os).f/\PairsV H8 ws (((freT ps.f<|Is++Os).G i).L λz=>((nix F (mk (pms n.i<|Zz6 ps Is) (Zw ps z).1):Int),(nix F (mk (pms n.i<|Zz6 ps Is) (Zw ps z).2):Int)))) {Same.refl _,Yk _,PairsV.nil} (Zk B)
   (λi ws H8 hi zz=>by let(e,hi2,ew):=zz;show{e.seq<|SqL.of hr7,by rw[ew.1,Yy7,Yh];omega}) ?_ ?_⟩
  ·rintro i v ws H8 hi ⟨s8,hil,hPw⟩ S hSS;let(p,hp,tt,rfl,ht):=hZ7.at hi;rw[Yc]at hp;obtain⟨z,hz,ez⟩:∃z,(freT ps.f<|Is++Os)[i]?=some z/\ps.getD z.i (0,0)=p:=by
    cases hq:(freT ps.f<|Is++Os)[i]? with
    |none=>rw[hq]at hp;cases hp
    |some z=>rw[hq]at hp;exists z,Z,Yl hp
   let hz1:=(freT_mem.S<|Yy9 hz).1;obtain⟨p',hp'⟩:∃p,ps[z.i]?=some p:={_,Yy0 B};let epp:p'=p:=by rw[<-ez,ZS hp']
   rw[epp]at hp';let(e1,e2,e3,e4):=g4 p (Yy9 hp');let ee:Zw ps z=(p.1.i,p.2.i):=by unfold Zw;rw[ZS hp']
   let ht8:=s8 _ _ ht;let hn8:=s8 _ _ hn7
   show nm ?_;exists _,Z,_,Z,tt,_,0,.int p.1,Z,Z,SqT.of ht8,Z,nA,_,_,_,Z,Z,SqL.of hn8,ZE (n:=p.1.i) B<|ZJ3<|nAt p.1 e1 e2,?_;exists _,Z,_,Z,tt,_,1,.int p.2,Z,Z,SqT.of ht8,Z,nA,_,_,_,Z,Z,SqL.of hn8,ZE (n:=p.2.i) B<|ZJ3<|nAt p.2 e3 e4,(by change 2<=sizeLine;decide),λpp hpp=>?_;show hSS _ _ {s8.m<|Zz5 hpp,by have:=(Yy1.S hz).1;omega,?_};rw[YN,hz,Yn];show(hPw.same<|Zz5 hpp).snoc {pp,Z,?_};dsimp only;rw[ee];show Zz1
  rintro ws H8 ⟨s8,_,hPw⟩ la hla;rw[hzl,YR]at hPw;let s9:=Zz5 (o:=.lst ws) hla
  let hla9:(upd H8 la<|.lst ws) la=some (.lst ws):=Zz1;let hP9:=hPw.same s9
  let s79:=s8.m s9;generalize upd H8 la (.lst ws)=H9 at *;let hGc:=Zp7 (f:=λi=>nix F<|mk (pms n.i<|Zz6 ps Is) i) hG (Is++Os) hfk k1 kn
  intro x dx2 nx ndx nex;let t1:Same H9 (upd (upd H9 dx2<|.own x) x<|.ins t.A_Web dx2 []):=Zu (Zz5 ndx) (by rwa[Ze (Y0f nex)])
  exists x,dx2,F⁻¹,la,false,ws,_,by rw[Zz4];rfl,Zz1,λo=>?_,hP9.same t1,hGc,λH10 hV k10=>{Z,?_}
  ·show SqL.of (by rwa[Ze (Za hla9 nx),Ze<|Za hla9 nx,Ze (Za hla9 ndx)])
  let s10:Same H9 H10:=λb o e=>k10 b o (t1 b o e) (Za e nx);exists x,_,_,Z,hV,hGc,λc H11 hc s11=>q c H11 (ZZ14 hG hI hIO hfg hfk hgg B hc)<|s05.m<|s57.m<|s79.m<|s10.m s11
inductive spZt(K:PySem.W.Q)(C:Addr)(vs:List V)(H:Hp)(Q:VK)(_:XK):Prop
 |mk (w a:Addr) (n:Int) (ps:List (Int×Int)) (kd:Bool) (ns:List Int) (_:vs=[.ref w,.ref a]) (_:WebAt C H w n ps) (_:ZM n ps) (_:SqK kd K H a (IL ns)) (_:IsSet ps.f ns) (_:ZO5 n ps) (_:∀(c d:Nat)(p q:Int)(r:Addr)(H':Hp),PC n ps ns [] c->TC n ps d->0<d->LowF c d p q->Same H H'->H' r=some (.tup [.int p,.int q])->Q ↑r H')
def okZt(T:Txt K mg t):OkQ P w base CX0 T.qZt 7 (spZt K t.A_Web):=by
 show T.qZt.okI ["web","ties"] XT λcdv A outer s H vs Q E hr h=>?_
 ·let(w,a,n,ps,kd,ns,rfl,hW,hG,hA,hI,hJ,q):=h;show⟨_,(Zz2 (Zd 1<|Zz9 (okZe T) hr T.qZe ZP<|Zz0 (pv 0)<|Zz0 (pv 1) Zz3)
   (Zz2 (ZK<|Zz9 (okZj T) hr T.qZj ZP<|Zz0 (pv 0) Zz3)
   (Zz7<|Zq<|Zz9 (okZ7 T) hr T.qZ7 ZP<|Zz0 (Zz9 (okZs T) hr T.qZs ZP<|Zz0 (pv 0)<|Zz0 (pv 1)<|Zz0 (Zq1 Zz3) Zz3)<|Zz0 (Zz9 (okZr T) hr T.qZr ZP<|Zz0 (pv 0) Zz3) Zz3))),?_⟩
  let(g1,g2,g3,g4):=id hG;exists _,Z,_,Z,w,a,n,ps,kd,ns,Z,hW,hA,hI,λr1 H1 s1 hr1=>?_;let l1:=hI.len
  show nm ?_;dsimp only;exists _,Z,w,n,ps,Z,hW.same s1,hG,λ_ H2 s2=>?_,λhno=>absurd hJ hno;let s12:=s1.m s2
  exists _,Z,_,Z,Yk _,λe he=>?_;let s3:=Zz5 (o:=.tup []) he
  let s13:=s12.m s3;show{w,r1,e,n,ps,ns,[],Z,hW.same s13,hG,Zn1 (s2.m s3) hr1,SqT.of Zz1,hI,by change 0<=_;omega,λz _ h=>(by cases h),λc H4 hc s4=>?_};exists _,Z,w,n,ps,Z,hW.same<|s13.m s4,hG,λd H5 hd s5=>?_;let s15:=s13.m (s4.m s5)
  let dp:0<d:=by let(U,hU,_):=Zw8 hG (Zz22 _) hJ;let(L,_,hm,rfl):=hd;show Y1S ((hm U).X hU)
  let d20:=ZZ5 hG hd;let c20:c<=d:=Zz014 hc hd
  let big:∀k:Nat,k<10^20->(k:Int).natAbs<2^9000:=λk hk=>Yr (by omega:(k:Int).natAbs<10^20) (Yv (show 10^20<=2^80 by decide)<|Yy25 XU XU);exists (c:Int),(d:Int),Z,B,big c B,big d d20,λp q' hl r hr=>?_;show q c d p q' r _ hc hd dp hl (s15.m<|Zz5 hr) Zz1
inductive spZu(K:PySem.W.Q)(vs:List V)(H:Hp)(Q:VK)(_:XK):Prop
 |mk (a:Addr) (kd:Bool) (l:List Int) (_:vs=[.ref a]) (_:SqK kd K H a (IL l)) (_:l.f<=1000) (_:Told l) (_:∀H':Hp,Same H H'->Q (.str<|Str.join Zx7<|l.L nT) H')
def okZu(T:Txt K mg t):OkQ P w base CX0 T.qZu 1 (spZu K):=by
 show T.qZu.okI ["numbers"] XT λcdv A outer s H vs Q E hr h=>?_
 ·let(a,kd,l,rfl,hA,hll,hl,q):=h;exists _,(Zz7<|Zq<|ZA1 K Yy45 Y4a Yy49 (Zv6 K) ZL1<|Zz0 (ZY3 Z (sc0:=Zb<|top 47) (N0:=["numbers"]) (N':=["number"]) (o:=1) (fr:=[]) ⟨Z,XT,XT,XT,Z,XT⟩ (Zz52 K<|pv 0) (ZA XU) (λ_ _ _ _=>(Zc 0)) (λ_ _ _ _=>ZQ) λ_ _ _ _=>(Zh ZT XR T.n_str Boot.«str»<|Zz0 (pv 0) Zz3)) Zz3),?_;exists Z,_,Z,a,Z,ZF10 (k:=kd) (K:=K) (xs:=IL l) (λi ys H3=>H3=H/\ys=TL ((l.G i).L nT)) ⟨Z,Z⟩ (Zk<|by rw[Zz4];omega) (λi ys H3 _ zz=>by let(e,ey):=zz;show{e▸hA,by rw[ey,Zz92,Yy7,Yh];omega}) ?_ ?_
  ·rintro i v ys H3 hi ⟨rfl,rfl⟩ S hSS;let(z,rfl,hz):=Zz81 hi;let hb:=hl z (Yy9 hz)
   show nmY ?_;exists _,Z,z,Z,B,B,hSS _ _ {Z,?_};rw[YN,hz,Yn];show Zx4 _ _
  rintro ys H3 ⟨rfl,rfl⟩ p hp;rw[Zz4,YR];exists _,p,l.L nT,Z,Z,SqL.of Zz1,?_,q _<|Zz5 hp;change JoinOk Zx7 _=true
  rw[Zk4];show Zz29 (XX:=61) (ZO3 hl) (by rw[Yy7];omega)
inductive spZv(K:PySem.W.Q)(vs:List V)(H:Hp)(Q:VK)(_:XK):Prop
 |mk (a:Addr) (l:List Int) (_:vs=[.ref a]) (_:H a=some (.tup<|IL l)) (_:l.f<=1000) (_:Told l) (_:∀H':Hp,Same H H'->Q (.str<|ZP5 l) H')
def okZv(T:Txt K mg t):OkQ P w base CX0 T.qZv 2 (spZv K):=by
 show T.qZv.okI ["ties"] XT λcdv A outer s H vs Q E hr h=>?_
 ·let(a,l,rfl,hA,hll,hl,q):=h;exists _,(Zz7<|Zq<|ZZ3 (Zl Zr6 (Zf (Zi K) XR T.n_len Boot.«len»<|Zz0 (pv 0) Zz3) Zz8<|Zz _) (Zz9 (okZu T) hr T.qZu ZP<|Zz0 (pv 0) Zz3) ZL1),?_;exists _,Z,a,_,Z,.inr<|SqT.of hA,_,_,Z,Z,_,Z,?_;rw[Zz4];show itd2 (λh=>?_) (λh=>?_)
  ·exists _,Z,a,true,l,Z,SqT.of hA,hll,hl,λH1 s1=>?_
   have:=q H1 s1
   unfold ZP5 at this;rwa[if_neg (λe=>by rw[e]at h;show absurd h XU)]at this
  ·have:=q H (Same.refl _)
   unfold ZP5 at this;rwa[if_pos (Yy07.S B)]at this
inductive spZw(K:PySem.W.Q)(vs:List V)(H:Hp)(Q:VK)(_:XK):Prop
 |mk (a:Addr) (p q:Int) (_:vs=[.ref a]) (_:H a=some (.tup [.int p,.int q])) (_:Told [p,q]) (_:Q (.str<|Zg9 p q) H)
def okZw(T:Txt K mg t):OkQ P w base CX0 T.qZw 1 (spZw K):=by
 show T.qZw.okI ["pair"] XT λcdv A outer s H vs Q E hr h=>?_
 ·let(a,p,q,rfl,hA,hT,k):=h;exists _,(Zz7<|Zq<|Zn Zs (Zn Zs (Zh ZT XR T.n_str Boot.«str»<|Zz0 (ZH (ZG K) (pv 0) Zz8 λ_ _=>rfl) Zz3) ZL1)<|Zh ZT XR T.n_str Boot.«str»<|Zz0 (ZH (ZG K) (pv 0) Zz8 λ_ _=>rfl) Zz3),?_;let b1:=hT p D
  let b2:=hT q D;let l1:=Zu1 (k:=60) XU b1.1 b1.2
  let l2:=Zu1 (k:=60) XU b2.1 b2.2;let z1:1000<=sizeLine:=XU
  let e0:(nT p++Str.U "/").f=(nT p).f+1:=Yy12 ..;exists _,Z,a,_,0,.int p,Z,Z,SqT.of hA,Z,p,Z,B,B,_,_,Z,Z,?_,_,Z,a,_,1,.int q,Z,Z,SqT.of hA,Z,q,Z,B,B,_,_,Z,Z,?_,k
  ·show(nT p).f+1<=_;omega
  ·show(nT p++Str.U "/").f+(nT q).f<=_;omega
inductive spZx(K:PySem.W.Q)(vs:List V)(H:Hp)(Q:VK)(_:XK):Prop
 |mk (z:Int) (a:Addr) (l:List Int) (_:vs=[.int z,.ref a]) (_:H a=some (.tup<|IL l)) (_:l.f<=1000) (_:Told l) (_:-(10^65)<z) (_:z<10^65) (_:∀H':Hp,Same H H'->Q (.str<|lenT z l) H')
def okZx(T:Txt K mg t):OkQ P w base CX0 T.qZx 3 (spZx K):=by
 show T.qZx.okI ["length","tree"] XT λcdv A outer s H vs Q E hr h=>?_
 ·let(z,a,l,rfl,hA,hll,hl,z0,z1,q):=h;exists _,(Zz7<|Zq<|Zn Zs (Zn Zs (Zh ZT XR T.n_str Boot.«str»<|Zz0 (pv 0) Zz3) ZL1)<|Zz9 (okZv T) hr T.qZv ZP<|Zz0 (pv 1) Zz3),?_;let l1:=Zu1 (i:=z) (k:=65) XU z0 z1
  let z2:100000<=sizeLine:=XU;let l2:=ZP3 hll hl
  let e0:(nT z++Str.U ": ").f=(nT z).f+2:=Yy12 ..;exists _,Z,z,Z,B,B,_,_,Z,Z,?_,_,Z,a,l,Z,hA,hll,hl,λH1 s1=>{_,_,Z,Z,?_,q H1 s1}
  ·show(nT z).f+2<=_;omega
  ·show(nT z++Str.U ": ").f+(ZP5 l).f<=_;omega
def ZE8{ls:List Int}(h:Told ls):∀U:List Int,(smW ls U).natAbs<=U.f*10^60
 |[]=>Yy8 0
 |z::U=>by
  let ih:=ZE8 h U;let hz:(ls.getD z.i 0).natAbs<=10^60:=by
   rw[Yy5];cases e:ls[z.i]? with
   |none=>show Yk _
   |some y=>
    have:=h y (Yy9 e)
    change y.natAbs<=10^60;omega
  let e:smW ls (z::U)=ls.getD z.i 0+smW ls U:=rfl
  have:=Y2z (ls.getD z.i 0) (smW ls U)
  rw[e,Yu,Y3m];omega
inductive spZy(K:PySem.W.Q)(C R:Addr)(vs:List V)(H:Hp)(Q:VK)(E:XK):Prop
 |mk (w a:Addr) (n:Int) (ps:List (Int×Int)) (ls:List Int) (_:vs=[.ref w,.ref a]) (_:WebAt C H w n ps) (_:ZM n ps) (_:SqL K H a (IL ls)) (_:Told ls) (_:(ls.f=ps.f->∀(r:Addr)(txt:List Str)(H':Hp),RepT n ps ls txt->Same H H'->H r=none->H' r=some (.lst<|TL txt)->Q ↑r H')) (_:(ls.f≠ps.f->∀H':Hp,Same H H'->E ↑R none H'))
def okZy(T:Txt K mg t):OkQ P w base (CXW P w) T.qZy 9 (spZy K t.A_Web t.A_BadRow):=by
 show T.qZy.okXI ["web","lengths","many","lines","tree"] XT λcdv A outer s H vs Q E hr h=>?_
 ·let(w,a,n,ps,ls,rfl,hW,hG,hA,hT,q,qe):=h;show⟨_,(Zz2 (ZK<|Zz9 (okZa T) hr T.qZa pxs<|Zz0 (pv 0)<|Zz0 (pv 1) Zz3)
   (Zz2 (Zd 2<|Zz9 (okZr T) hr T.qZr ZP<|Zz0 (pv 0) Zz3)
   (Zz2 (Zd 3<|Zs1<|Zz0 (Zm6<|Zk6<|ZM8 (pv 2) ZL8) Zz3)
   (Zz2 (ZJ1 (Zl Zr6 (pv 2) Zz8<|Zz _)
   (Zz2 (Zd 4<|Zz9 (okZn T) hr T.qZn ZP<|Zz0 (pv 0)<|Zz0 (pv 1) Zz3)
   (Zz2 (ZK<|ZA1 K YT Y0e Y0d ZY (pv 3)<|Zz0 (Zn Zs ZL1<|Zz9 (okZx T) hr T.qZx ZP<|Zz0 (Zz9 (okZo T) hr T.qZo ZP<|Zz0 (pv 0)<|Zz0 (pv 1)<|Zz0 (pv 4) Zz3)<|Zz0 (pv 4) Zz3) Zz3)
   (Zz7<|ZK<|ZA1 K YT Y3R Y3Q ZO4 (pv 3)<|Zz0 (ZY3 Z (sc0:=Zb<|top 52) (N0:=["web","lengths","many","lines","tree"]) (N':=["tie","web"]) (o:=1) (fr:=[0]) ⟨Z,XT,XT,XT,Z,XT⟩ (Zp3 K<|Zz9 (okZc T) hr T.qZc ZP<|Zz0 (pv 0) Zz3) (ZA XU) (λ_ _ _ _=>(Zc 0)) (λ_ _ _ _=>ZQ) λ_ _ _ _=>(Zn Zs (Zm6<|Zk6<|ZM8 (pv 0)<|Zk6 ZL8)<|Zz9 (okZw T) hr T.qZw ZP<|Zz0 (Zz9 (okZt T) hr T.qZt ZP<|Zz0 (pv 1)<|Zz0 (Zq1<|Zz0 (pv 0) Zz3) Zz3) Zz3)) Zz3)))
   Zv)
   (Zz7<|Zq<|pv 3))))),?_⟩
  exists _,Z,_,Z,w,a,n,ps,false,ls,Z,hW,hA,λhl=>?_,λhl=>qe hl H<|Same.refl _;let(g1,g2,g3,g4):=id hG;let hA':SqK false K H a (IL ls):=hA
  exists _,Z,w,n,ps,Z,hW,hG,λd H1 hd s1=>?_;let d20:=ZZ5 hG hd
  let ld:=Zu1 (i:=(d:Int)) (k:=60) XU B B;let z2:100000<=sizeLine:=XU
  show nm ?_;exists _,Z,(d:Int),Z,B,B,(show 1<=sizeLine by omega),λlA hlA=>?_;let nl:=(s1.free hlA)
  let s2:=Zu s1 hlA (o:=.lst<|TL [Str.U "trees "++nT d]);let e0:Str.empty++Str.U "trees "++Str.U (toString (d:Int))=Str.U "trees "++nT d:=by rw[Str.empty_append];rfl
  rw[e0];show nm ?_;exists _,Z,_,_,Z,Z,?_;exists _,Z,?_;show itd2 (λhc=>?_) (λhc=>?_)
  ·have dp:0<d:=B;let hJ:ZO5 n ps:=YK λh=>absurd (ZF7 hd h) B
   let(W0,hW0,_):=Zw8 hG (Zz22 _) hJ;show{_,Z,_,Z,w,a,false,n,ps,ls,Z,hW.same s2,hG,hA'.same s2,hl,λU r H3 hU hm s3 hr=>?_,λhno=>absurd ((Zz313 hG hl).S ⟨W0,hW0⟩) λzz=>by let(W,hV):=zz;show(hno W hV).elim};let(u1,u2,u3):=Zs14 hG hl hU;let u4:=u1.len
   let us:=isSet_iff.S u1;show nm ?_;let h3A:H3 lA=some (.lst<|TL [Str.U "trees "++nT d]):=s3 _ _ Zz1
   let s23:=s2.m s3;exists _,Z,.inl {Z,_,SqL.of h3A},_,Z,_,Z,_,Z,w,a,r,n,ps,false,true,ls,U,Z,hW.same s23,B,hA'.same s23,SqT.of hr,hl,u1,λH4 s4=>?_;let hrU:H4 r=some (.tup<|IL U):=s4 _ _ hr
   let tU:Told U:=λz hz=>by let(a0,a1):=us.1 z hz;omega
   let big:(smW ls U).natAbs<=U.f*10^60:=ZE8 hT U;let big2:U.f*10^60<=30*10^60:=Nat.mul_le_mul_right _ B
   let ll:=Zu1 (i:=smW ls U) (k:=65) XU B B;let lt:=ZP3 (l:=U) B tU
   exists _,Z,_,r,U,Z,hrU,B,tU,B,B,λH5 s5=>?_;let h5A:H5 lA=some (.lst<|TL [Str.U "trees "++nT d]):=s5 _ _ (s4 _ _ h3A)
   let el:(lenT (smW ls U) U).f=(nT<|smW ls U).f+2+(ZP5 U).f:=by unfold lenT;rw[show ∀a b:Str,(a++b).f=a.f+b.f from λa b=>Yy12 a b,show ∀a b:Str,(a++b).f=a.f+b.f from λa b=>Yy12 a b];rfl
   exists _,_,Z,Z,?_,lA,_,_,Z,Z,h5A,(show 1<sizeLine by omega),?_
   ·show 9+_<=_;omega
   let s5':Same H (upd H5 lA<|.lst<|TL [Str.U "trees "++nT d]++[V.str (Str.U "cheapest "++lenT (smW ls U) U)]):=Zp nl (s23.m<|s4.m s5);show nm ?_;exists _,Z,.inl {Z,_,SqL.of Zz1},_,Z,w,n,ps,Z,hW.same s5',B,λr2 H6 s6 nr2 hr2=>?_;let s06:=s5'.m s6
   exists r2,Z,{_,SqT.of hr2},ZI6 (K:=K) (a:=r2) (xs:=IL<|rgL ps.f) (λi ws H7=>Same H6 H7/\∃fr:List (Int×Int),fr.f=i/\(∀(j:Nat)(f:Int×Int),fr[j]?=some f->∃c:Nat,PC n ps [(j:Int)] [] c/\LowF c d f.1 f.2)/\ws=TL (fr.zipIdx.L λx=>Str.U "tie "++nT (x.2:Int)++Str.U ": "++Zg9 x.1.1 x.1.2)) {Same.refl _,[],Z,(λj f h=>by cases h),Z} (Zk<|by rw[Zz4,Zd1];omega) (λi ws H7 hi zz=>by let(s7,fr,e1,e2,e3):=zz;show{SqT.of<|s7 _ _ hr2,by rw[e3];simp[TL,e1]}) ?_ ?_
   ·rintro i v ws H7 hi ⟨s7,fr,e1,e2,rfl⟩ S hSS;let(z,rfl,hz):=Zz81 hi;let(z0,z1):=rgL_mem.S (Yy9 hz);let rfl:z=(i:Int):=Yl (hz.symm.m<|Zz012 (by have:=(Yy1.S hz).1;rwa[Zd1]at this));show nm ?_;let li:=Zu1 (i:=(i:Int)) (k:=60) XU B B
    exists _,Z,(i:Int),Z,B,B,_,Z,_,Z,(show 1<=sizeLine by omega),λta hta=>?_;let t1:=Zz5 (o:=.tup<|IL [(i:Int)]) hta
    let s07:=(s06.m s7).m t1;exists w,ta,n,ps,true,[(i:Int)],Z,hW.same s07,hG,SqT.of Zz1,isSet_iff.X {λy hy=>by rw[Yy2.S hy];show⟨z0,z1⟩,Yy11 _ _},hJ,λc d' p q' r9 H8 hpc hd' dp' hlow s8 hr9=>?_;let rfl:=hd'.uniq hd;let cl:=Zz014 hpc hd
    let(b1,b2):=ZD6 (W:=(d':Int)) B hlow;let q0:=hlow.1
    let tpq:Told [p,q']:=λy hy=>by
     rcases Yf.S hy with e|e
     ·subst e;omega
     ·rw[Yy2.S e];omega
    exists r9,p,q',Z,hr9,tpq,?_;let lp:=Zu1 (i:=p) (k:=60) XU (tpq p D).1 (tpq p D).2
    let lq:=Zu1 (i:=q') (k:=60) XU (tpq q' D).1 (tpq q' D).2;let lf:(Zg9 p q').f=(nT p).f+1+(nT q').f:=by unfold Zg9;rw[show ∀a b:Str,(a++b).f=a.f+b.f from λa b=>Yy12 a b,show ∀a b:Str,(a++b).f=a.f+b.f from λa b=>Yy12 a b];rfl
    let e0:Str.empty++Str.U "tie "++Str.U (toString (i:Int))++Str.U ": "=Str.U "tie "++nT i++Str.U ": ":=by rw[Str.empty_append];rfl
    rw[e0];let l0:(Str.U "tie "++nT i++Str.U ": ").f=4+(nT i).f+2:=by rw[show ∀a b:Str,(a++b).f=a.f+b.f from λa b=>Yy12 a b,show ∀a b:Str,(a++b).f=a.f+b.f from λa b=>Yy12 a b];rfl
    show{_,_,Z,Z,by rw[l0,lf];omega,?_};show hSS _ _ {(s7.m t1).m s8,fr++[(p,q')],by rw[Yy3,e1];rfl,λj f hf=>?_,?_}
    ·by_cases hj:j<fr.f
     ·rw[Yp hj]at hf;show e2 j f hf
     ·rw[Yj B]at hf;let hj2:j-fr.f=0:=by
       have:=(Yy1.S hf).1
       simp at this;omega
      rw[hj2]at hf;let rfl:=Yl hf;let rfl:j=i:=B;exists c,hpc,hlow
    ·rw[List.zipIdx_append,Yn,e1,Y0n];show Zx4 _ _
   ·rintro ws H7 ⟨s7,fr,e1,e2,rfl⟩ lB hlB;rw[Zz4,Zd1]at e1;let h7A:=s7 _ _ (s6 _ _<|Zz1 (H:=H5) (a:=lA) (o:=.lst<|TL [Str.U "trees "++nT d]++[V.str (Str.U "cheapest "++lenT (smW ls U) U)]))
    exists lA,lB,_,_,Z,Z,Zz5 hlB _ _ h7A,Zz1,?_,?_
    ·simp[TL,e1];omega
    ·exists _,Z,q hl lA _ _ {d,hd,.inr ⟨dp,U,fr,hU,hm,e1,e2,Z⟩} (Zp nl<|(s06.m s7).m (Zz5 hlB)) nl Zz1
  ·exists _,Z,q hl lA _ _ {d,hd,.inl ⟨B,Z⟩} s2 nl Zz1
inductive spZz(K:PySem.W.Q)(vs:List V)(H:Hp)(Q:VK)(_:XK):Prop
 |mk (a ns k:_) (_:vs=[.ref a,.int k]) (_:SqL K H a (IL ns)) (_:0<=k) (_:∀r:Int,0<=r->r<10^60->Q (.int r) H)
def okZz(T:Txt K mg t):OkQ P w base CX0 T.qZz 1 (spZz K):=by
 show T.qZz.okI ["script","k"] XT λcdv A outer s H vs Q E hr h=>?_
 ·let(a,ns,k,rfl,hS,hk,q):=h;show⟨_,(Zz2 (ZJ1 (Zl Zl10 (pv 1) (Zf (Zi K) XR T.n_len Boot.«len»<|Zz0 (pv 0) Zz3)<|Zz _)
   (Zz7<|Zq<|Zn ZO (ZH (Zg K) (pv 0) (pv 1) λ_ _=>rfl)<|Zn Zz04 Zz8 Zz8)
   Zv)
   (Zz7<|Zq Zz8)),?_⟩
  exists _,Z,_,Z,a,_,Z,.inl hS,_,_,Z,Z,_,Z,?_;show ite2 (λhc=>?_) (λ_=>?_)
  ·have hc:=YS hc;rw[Zz4]at hc;obtain⟨z,hz⟩:∃z,ns[k.i]?=some z:={_,Yy0 J};exists _,Z,_,Z,a,_,k,.int z,Z,Z,hS,ZE (n:=k.i) J (by rw[Yc,hz];rfl),_,_,Z,Z,⟨XU,XU,XU⟩,_,_,Z,Z,?_,?_
   ·show(0:Int)<10^60;decide
   ·show q _ (Yy06 _ XU) (Y0a _ XU)
  ·show q 0 XU XU
inductive spZA(vs:List V)(H:Hp)(Q:VK)(_:XK):Prop
 |mk (c k:_) (_:vs=[.int c,.int k]) (_:∀r:Int,0<=r->r<2147483587->Q (.int r) H)
def okZA(T:Txt K mg t):OkQ P w base CX0 T.qZA 1 spZA:=by
 show T.qZA.okI ["cell","k","first","second"] XT λcdv A outer s H vs Q E hr h=>?_
 ·let(c,k,rfl,q):=h;show⟨_,(Zz2 (Zd 2<|Zn ZO (Zn Zm2 (Zn Zt1 (Zn Zt1 (pv 0)<|Zn Zm2 Zz8<|pv 1) Zz8) Zz8) Zz8)
   (Zz2 (Zd 3<|Zn ZO (Zn Zt1 (Zn Zt1 (Zn Zm2 (pv 2)<|pv 2)<|Zn Zm2 Zz8<|pv 1) Zz8) Zz8)
   (Zz7<|Zq<|Zn Ze1 (Zn ZO (Zn Zm2 (pv 3)<|pv 3) Zz8) Zz8))),?_⟩
  exists _,Z,_,Z,_,_,Z,Z,.inl ⟨XU,XU⟩,_,_,Z,Z,_,_,Z,Z,_,_,Z,Z,.inr ⟨XU,XU⟩,_,_,Z,Z,(by change(0:Int)<2147483647;decide),?_;let f0:0<=((c+7919*k+1)*48271)%2147483647:=Yy06 _ XU
  let f1:((c+7919*k+1)*48271)%2147483647<2147483647:=Y0a _ XU;exists _,Z,_,Z,_,_,Z,Z,.inl ⟨XS,XS⟩,_,Z,_,_,Z,Z,.inl ⟨XU,XU⟩,_,_,Z,Z,_,_,Z,Z,_,_,Z,Z,(by change(0:Int)<2147483629;decide),?_;generalize ((c+7919*k+1)*48271)%2147483647=u at *;let g0:0<=(u*u+40692*k+3)%2147483629:=Yy06 _ XU
  let g1:(u*u+40692*k+3)%2147483629<2147483629:=Y0a _ XU;exists _,Z,_,Z,_,_,Z,Z,.inl ⟨XS,XS⟩,_,_,Z,Z,(by change(0:Int)<2147483587;decide),_,_,Z,Z,⟨XU,XU⟩,?_;generalize (u*u+40692*k+3)%2147483629=v at *;let h0:0<=(v*v)%2147483587:=Yy06 _ XU
  let h1:(v*v)%2147483587<2147483587:=Y0a _ XU;generalize (v*v)%2147483587=x at *;show q _ J J
def Zl4{p:Int->Prop}{l:List Int}{x:Int}(h:∀z∈l,p z)(hx:p x):∀z∈l++[x],p z:=λz hz=>by
 rcases Yb.S hz with q|q
 ·show h z q
 ·rwa[Yy2.S q]
inductive spZB(K:PySem.W.Q)(vs:List V)(H:Hp)(Q:VK)(_:XK):Prop
 |mk (a:Addr) (ns:List Int) (st c:Nat) (way:Int) (_:vs=[.ref a,.int st,.int c,.int way]) (_:SqL K H a (IL ns)) (_:ns.f<=63) (_:st<=63) (_:c<=100) (_:∀l ds H',Same H H'->H l=none->H' l=some (.lst<|IL ds)->ds.f=c->(∀z∈ds,0<=z)->Q ↑l H')
def scZB:FnScope ["script","start","count","way","total","folded","k","at","told"] ["script","start","count","way"] (Zb (top 56)):=ZE4 XT
def okZB(T:Txt K mg t):OkQ P w base CX0 T.qZB 2 (spZB K):=by
 show T.qZB.okI ["script","start","count","way","total","folded","k","at","told"] XT λcdv A outer s H vs Q E hr h=>?_
 ·let(a,ns,st,c,way,rfl,hS,hn,hst,hc,q):=h;show⟨_,(Zz2 (Zd 4<|Zn ZO (Zf (Zg2 K Z) XR T.n_sum Boot.«sum»<|Zz0 (ZY3 Z (sc0:=Zb<|top 56) (N0:=["script","start","count","way","total","folded","k","at","told"]) (N':=["cell"]) (o:=1) (fr:=[]) ⟨Z,XT,XT,XT,Z,XT⟩ (ZX K<|Zr1 (Zo1 K) (pv 0) (Zz32<|pv 1) Zz42) (ZA XU) (λ_ _ _ _=>(Zc 0)) (λ_ _ _ _=>ZQ) λ_ _ _ _=>(Zn ZO (pv 0)<|Zn Zz04 Zz8 Zz8)) Zz3)<|Zn Zz04 Zz8 Zz8)
   (Zz2 (ZN7 (i:=5) Z scZB.nd Z Z (sc0:=Zb<|top 56) (N0:=["script","start","count","way","total","folded","k","at","told"]) (N':=["k"]) (o:=1) (fr:=[]) ⟨Z,XT,XT,XT,Z,XT⟩ (ZR Z T.n_range<|Zz0 (pv 2) Zz3) (ZA XU) (λ_ _ _ _=>(Zc 0)) (λ_ _ _ _=>ZQ) λ_ _ _ _=>(Zn Zt1 (Zn Zm2 Zz8<|pv 0) Zz8))
   (Zz2 (Zz31 QP Z (ZK4 Z T.n_range<|Zz0 (pv 1)<|Zz0 (Zf (Zi K) XR T.n_len Boot.«len»<|Zz0 (pv 0) Zz3) Zz3) (Zc 6)
   (Zz2 (Zd 7<|Zn ZO (pv 6)<|Zf (Zz73 Z) XR T.n_max Boot.«max»<|Zz0 Zz8<|Zz0 (pv 2) Zz3)
   (Zz7 (ZJ1 (Zl Zr6 (pv 2) Zz8<|Zz _)
   (Zz7<|ZE5 (Zn ZO (Zn Zt1 (Zn Zm2 (ZH (Zg K) (pv 5) (pv 7) λ_ _=>rfl) Zz8)<|ZH (Zg K) (pv 0) (pv 6) λ_ _=>rfl)<|Zn Zz04 Zz8 Zz8)<|ZQ7 (pv 5) (pv 7) Zp1)
   Zv))))
   (Zz2 (Zd 8<|Zs1 Zz3)
   (Zz2 (Zz31 QP Z (ZR Z T.n_range<|Zz0 (pv 2) Zz3) (Zc 6)
   (Zz7 (ZJ1 (PW.pt<|Zz512 (Zl ZQ8 (pv 3) Zz8<|Zz _)<|ZJ8<|Zl Zr6 (pv 4) Zz8<|Zz _)
   (Zz2 (ZK<|ZA1 K YT Y0e Y0d ZY (pv 8)<|Zz0 (Zn ZO (pv 4) Zz8) Zz3)
   (Zz7<|Zd 4<|Zn Ze1 (pv 4) Zz8))
   (Zz7<|ZK<|ZA1 K YT Y0e Y0d ZY (pv 8)<|Zz0 (Zz9 (okZA T) hr T.qZA ZP<|Zz0 (ZH (Zg K) (pv 5) (pv 6) λ_ _=>rfl)<|Zz0 (pv 6) Zz3) Zz3))))
   (Zz7<|Zq<|pv 8)))))),?_⟩
  exists _,Z,_,Z,(st:Int),Z,a,IL ns,Z,hS,λl1 hl1=>?_;let s1:Same H (upd H l1<|.lst<|cutV (IL ns) (some (st:Int)) none):=Zz5 hl1
  obtain⟨ms,hms,hml⟩:∃ms:List Int,cutV (IL ns) (some (st:Int)) none=IL ms/\ms.f<=63:=by
   exists (ns.drop<|HT.sIx (IL ns).f 0 (some (st:Int))).G (HT.sIx (IL ns).f (IL ns).f none-HT.sIx (IL ns).f 0 (some (st:Int))),?_,?_
   ·unfold cutV;rw[Zz79,ZI12]
   ·rw[Yh,YV];lia
  show⟨l1,Z,{_,SqL.of Zz1},ZO1 (K:=K) (a:=l1) (xs:=cutV (IL ns) (some (st:Int)) none) (λi ys H2=>H2=upd H l1 (.lst<|cutV (IL ns) (some (st:Int)) none)/\∃rs:List Int,ys=IL rs/\rs.f=i/\i<=ms.f) {Z,[],Z,Z,Yk _} (by rw[hms,Zz4];show Zk J)
   (λi ys H2 _ zz=>by let(e,rs,ey,el,_):=zz;show{e▸SqL.of Zz1,by rw[ey,Zz4];lia}) ?_ ?_⟩
  ·rintro i x ys H2 hi ⟨rfl,rs,rfl,el,hil⟩ S hSS;rw[hms]at hi;let(z,rfl,hz):=Zz81 hi;let hlt:=(Yy1.S hz).1
   show nmY ?_;exists _,Z,_,_,Z,Z,⟨XU,XU,XU⟩,_,_,Z,Z,(by change(0:Int)<10^60;decide),?_;show hSS _ _ {Z,rs++[z%10^60],?_,?_,hlt}
   ·show(Zl1 _ _).symm
   ·rw[Yy3,el];rfl
  ·rintro ys H2 ⟨rfl,rs,rfl,el,_⟩ l2 hl2;let s2:=Zu (o:=.lst<|IL rs) s1 hl2
   exists l2,rs,Z,SqL.of Zz1,_,_,Z,Z,⟨XU,XU,XU⟩,_,_,Z,Z,(by change(0:Int)<10^60;decide),?_;let t0:0<=rs.sum%(10:Int)^((60:Int).i):=Yy06 _ XU
   show⟨_,Z,(c:Int),Z,J,J,Zp2 (lo:=0) (n:=((c:Int)).i) (λi ys H3=>H3=upd (upd H l1<|.lst<|cutV (IL ns) (some (st:Int)) none) l2 (.lst<|IL rs)/\∃fs:List Int,ys=IL fs/\fs.f=i) {Z,[],Z,Z} (Zk J)
    (λi ys H3 _ zz=>by let(_,fs,e,el):=zz;rw[e,Zz4];lia) ?_ ?_⟩
   ·rintro i ys H3 hi ⟨rfl,fs,rfl,el2⟩ S hSS;show nmY ?_;exists _,Z,_,_,Z,Z,.inl ⟨XU,XU⟩,_,_,Z,Z,?_;show hSS _ _ {Z,fs++[7*(0+(i:Int))+5],?_,?_}
    ·show(Zl1 _ _).symm
    ·rw[Yy3,el2];rfl
   ·rintro ys H3 ⟨rfl,fs,rfl,el2⟩ l3 hl3;let s3:=Zu (o:=.lst<|IL fs) s2 hl3
    let hl30:H l3=none:=s2.free hl3;exists _,Z,_,Z,a,_,Z,.inl<|s3.seq hS,(st:Int),((IL ns).f:Int),Z,{J,J,J,by rw[Zz4];lia},?_;show Zz11 (lo:=(st:Int)) (n:=(((IL ns).f:Int)-(st:Int)).i) (λj σ H4=>∃fs v6 v7,σ=[some ↑a,some<|.int st,some<|.int c,some<|.int way,some<|.int<|rs.sum%(10:Int)^((60:Int).i),some<|.ref l3,v6,v7,none]/\Same H H4/\H4 l3=some (.lst<|IL fs)/\fs.f=c)
     {fs,none,none,Z,s3,Zz1,by rw[el2];simp} ?_ ?_
    ·rintro j σ H4 hj ⟨gs,v6,v7,rfl,s4,h4,eg⟩;rw[Zz4]at hj;exists _,Z,_,Z,_,_,Z,_,_,Z,Z,?_,?_
     ·show(0:Int)<if (c:Int)>1 then (c:Int) else 1
      split<;>lia
     ·exists _,Z,_,_,Z,Z,_,Z,?_;show itd2 (λhc0=>?_) (λhc0=>?_)
      ·have hmax:(if (c:Int)>1 then (c:Int) else 1)=(c:Int):=by split<;>lia
       let at0:0<=((st:Int)+(j:Int))%(c:Int):=Yy06 _ J;let at1:((st:Int)+(j:Int))%(c:Int)<(c:Int):=Y0a _ hc0
       rw[hmax];generalize hat:((st:Int)+(j:Int))%(c:Int)=at' at *;obtain⟨f,hf⟩:∃f,gs[at'.i]?=some f:={_,Yy0 XS};obtain⟨z,hz⟩:∃z,ns[st+j]?=some z:={_,Yy0 J};exists _,Z,_,Z,l3,_,_,_,Z,Z,SqL.of h4,ZE (n:=at'.i) J (by rw[Yc,hf];rfl),_,_,Z,Z,.inr ⟨XU,XU⟩,_,Z,_,Z,a,_,_,_,Z,Z,s4.seq hS,ZE (n:=st+j) J (by rw[Yc,hz];rfl),_,_,Z,Z,_,_,Z,Z,⟨XU,XU,XU⟩,_,_,Z,Z,(by change(0:Int)<10^60;decide),?_;exists _,Z,_,Z,l3,_,_,at'.i,Z,Z,h4,?_,?_
       ·try rw[hat]
        unfold ixN;rw[if_pos at0,if_pos (by rw[Zz4];grind)]
       ·show{gs.set at'.i<|(f*31+z)%(10:Int)^((60:Int).i),_,_,Z,Zp hl30 s4,?_,by rwa[Y0J]};rw[Zz1,ZN10]
      ·exists gs,_,_,Z,s4,h4,eg
    ·rintro σ H4 ⟨gs,v6,v7,rfl,s4,h4,eg⟩;exists Yk _,λl5 hl5=>?_;let hl50:H l5=none:=s4.free hl5
     let n35:l3≠l5:=Za h4 hl5;show⟨_,Z,(c:Int),Z,J,J,Zz11 (lo:=0) (n:=((c:Int)).i) (λj σ H6=>∃tot ds v6 v7,σ=[some ↑a,some<|.int st,some<|.int c,some<|.int way,some<|.int tot,some<|.ref l3,v6,v7,some ↑l5]/\Same H H6/\H6 l3=some (.lst<|IL gs)/\H6 l5=some (.lst<|IL ds)/\ds.f=j/\(∀z∈ds,0<=z)/\0<=tot)
      {_,[],_,_,Z,Zu s4 hl5,by rw[Ze n35];show h4,Zz1,Z,λz hz=>(by cases hz),t0} ?_ ?_⟩
     ·rintro j σ H6 hj ⟨tot,ds,w6,w7,rfl,s6,h63,h65,edl,hds,htot⟩;let jc:j<c:=J
      let app:∀r:Int,(upd H6 l5<|.lst<|IL ds++[.int r]) l5=some (.lst<|IL<|ds++[r]):=λr=>by rw[Zz1,Zl1]
      let dlen:(IL ds).f<sizeLine:=by rw[Zz4];show Zk J
      obtain⟨f,hf⟩:∃f,gs[j]?=some f:={_,Yy0 J};exists _,Z,Z,_,Z,?_;show itd2 (λhw=>?_) (λhw=>?_)
      ·exists _,Z,_,_,Z,Z,_,Z,?_;show itd2 (λhtp=>?_) (λhtp=>?_)
       ·exists _,Z,.inl {Z,_,SqL.of h65},_,Z,_,_,Z,Z,(by change(0:Int)<210;decide),l5,_,_,Z,Z,h65,dlen,?_;exists _,Z,_,_,Z,Z,⟨XU,XU⟩,?_;show{_,ds++[tot%210],_,_,Z,Zp hl50 s6,by rw[Ze n35];show h63,app _,by rw[Yy3,edl];rfl,Zl4 hds<|Yy06 _ XU,?_};lia
       ·exists _,Z,.inl {Z,_,SqL.of h65},_,Z,_,Z,l3,_,_,_,Z,Z,SqL.of h63,ZE (n:=j) J (by rw[Yc,hf];rfl),_,Z,_,_,Z,λr r0 r1=>?_;exists l5,_,_,Z,Z,h65,dlen,?_;exists _,ds++[r],_,_,Z,Zp hl50 s6,by rw[Ze n35];show h63,app _,by rw[Yy3,edl];rfl,Zl4 hds r0,htot
      ·exists _,Z,.inl {Z,_,SqL.of h65},_,Z,_,Z,l3,_,_,_,Z,Z,SqL.of h63,ZE (n:=j) J (by rw[Yc,hf];rfl),_,Z,_,_,Z,λr r0 r1=>?_;exists l5,_,_,Z,Z,h65,dlen,?_;exists _,ds++[r],_,_,Z,Zp hl50 s6,by rw[Ze n35];show h63,app _,by rw[Yy3,edl];rfl,Zl4 hds r0,htot
     ·rintro σ H6 ⟨tot,ds,w6,w7,rfl,s6,h63,h65,edl,hds,htot⟩;exists _,Z,q l5 ds H6 s6 hl50 h65 J hds
def PairsV.good{H:Hp}{xs:List V}{ps:List (Int×Int)}{v:V}{p:Int×Int}{n:Int}(h:∀p∈ps,0<=p.1/\p.1<n/\0<=p.2/\p.2<n)(hp:0<=p.1/\p.1<n/\0<=p.2/\p.2<n):∀q∈ps++[p],0<=q.1/\q.1<n/\0<=q.2/\q.2<n:=λq hq=>by
 rcases Yb.S hq with z|z
 ·show h q z
 ·rwa[Yy2.S z]
inductive spZC(K:PySem.W.Q)(vs:List V)(H:Hp)(Q:VK)(_:XK):Prop
 |mk (a ds n hang:_) (_:vs=[.ref a,.int n,.bl hang]) (_:SqL K H a (IL ds)) (_:ds.f<=100) (_:(∀z∈ds,0<=z)) (_:1<=n) (_:n<=1000) (_:∀l xs ps H',Same H H'->H l=none->H' l=some (.lst xs)->PairsV H' xs ps->ps.f=ds.f->(∀p∈ps,0<=p.1/\p.1<n/\0<=p.2/\p.2<n)->Q ↑l H')
def okZC(T:Txt K mg t):OkQ P w base CX0 T.qZC 1 (spZC K):=by
 show T.qZC.okI ["draws","places","hang","ties","k","one","other","ends","turn"] XT λcdv A outer s H vs Q E hr h=>?_
 ·let(a,ds,n,hang,rfl,hS,hdl,hds,n1,n2,q):=h;show⟨_,(Zz2 (Zd 3<|Zs1 Zz3)
   (Zz2 (Zz31 QP Z (ZR Z T.n_range<|Zz0 (Zf (Zi K) XR T.n_len Boot.«len»<|Zz0 (pv 0) Zz3) Zz3) (Zc 4)
   (Zz2 (Zd 5<|Zn ZO (ZH (Zg K) (pv 0) (pv 4) λ_ _=>rfl)<|pv 1)
   (Zz2 (Zd 6<|Zn ZO (Zn Ze1 (ZH (Zg K) (pv 0) (pv 4) λ_ _=>rfl)<|pv 1)<|pv 1)
   (Zz2 (ZJ1 (PW.pt<|Zz512 (Zg6<|pv 2)<|ZJ8<|Zl Zl10 (pv 4) (Zn ZS2 (pv 1) Zz8)<|Zz _)
   (Zz2 (Zd 7<|Zq1<|Zz0 (Zn ZO (ZH (Zg K) (pv 0) (pv 4) λ_ _=>rfl)<|Zn Zt1 (pv 4) Zz8)<|Zz0 (Zn Zt1 (pv 4) Zz8) Zz3)
   (Zz2 (Zd 5<|ZH (ZG K) (pv 7) (Zn ZO (Zn Ze1 (ZH (Zg K) (pv 0) (pv 4) λ_ _=>rfl) Zz8) Zz8) λ_ _=>rfl)
   (Zz7<|Zd 6<|ZH (ZG K) (pv 7) (Zn ZS2 Zz8<|Zn ZO (Zn Ze1 (ZH (Zg K) (pv 0) (pv 4) λ_ _=>rfl) Zz8) Zz8) λ_ _=>rfl)))
   Zv)
   (Zz7<|ZK<|ZA1 K YT Y0e Y0d ZY (pv 3)<|Zz0 (Zq1<|Zz0 (pv 5)<|Zz0 (pv 6) Zz3) Zz3)))))
   (Zz2 (Zd 8<|Zn ZO (Zf (Zg2 K Z) XR T.n_sum Boot.«sum»<|Zz0 (pv 0) Zz3)<|Zf (Zz73 Z) XR T.n_max Boot.«max»<|Zz0 Zz8<|Zz0 (Zf (Zi K) XR T.n_len Boot.«len»<|Zz0 (pv 3) Zz3) Zz3)
   (Zz7<|Zq<|Zn ZT7 (Zr1 (Zo1 K) (pv 3) (Zz32<|pv 8) Zz42)<|Zr1 (Zo1 K) (pv 3) Zz42<|Zz32<|pv 8)))),?_⟩
  exists Yk _,λl hl=>?_;show⟨_,Z,a,_,Z,.inl<|(Zz5 hl).seq hS,_,Z,J,by rw[Zz4];omega,Zz11 (lo:=0) (n:=((IL ds).f:Int).i) (λi σ H2=>∃xs ps v4 v5 v6 v7,σ=[some ↑a,some<|.int n,some<|.bl hang,some<|.ref l,v4,v5,v6,v7,none]/\Same H H2/\H2 l=some (.lst xs)/\PairsV H2 xs ps/\ps.f=i/\∀p∈ps,0<=p.1/\p.1<n/\0<=p.2/\p.2<n)
   {[],[],none,none,none,none,Z,Zz5 hl,Zz1,PairsV.nil,Z,λp hp=>(by cases hp)} ?_ ?_⟩
  ·rintro i σ H2 hi ⟨xs,ps,v4,v5,v6,v7,rfl,s2,h2,hP,hlp,hb⟩;let hi':i<ds.f:=by rw[Zz4]at hi;lia
   obtain⟨d,hd⟩:∃d,ds[i]?=some d:={_,Yy0 hi'};let d0:0<=d:=hds d (Yy9 hd)
   let iD:atI (IL ds) (0+(i:Int))=some (.int d):=ZE (n:=i) J (ZJ3 hd);let xl:xs.f<sizeLine:=Zk (by rw[hP.1];lia)
   let put:∀x y H3 r,Same H2 H3->H3 r=none->0<=x->x<n->0<=y->y<n->∀u5 u6 u7:Option V,∃xs' ps' v4 v5 v6 v7,
     ([some ↑a,some<|.int n,some<|.bl hang,some<|.ref l,some<|.int<|0+(i:Int),u5,u6,u7,none]:List (Option V))=[some ↑a,some<|.int n,some<|.bl hang,some<|.ref l,v4,v5,v6,v7,none]/\
     Same H (upd (upd H3 r<|.tup [.int x,.int y]) l<|.lst<|xs++[.ref r])/\(upd (upd H3 r<|.tup [.int x,.int y]) l<|.lst<|xs++[.ref r]) l=some (.lst xs')/\PairsV (upd (upd H3 r<|.tup [.int x,.int y]) l<|.lst<|xs++[.ref r]) xs' ps'/\ps'.f=i+1/\∀p∈ps',0<=p.1/\p.1<n/\0<=p.2/\p.2<n:=by
    intro x y H3 r s3 hr x0 x1 y0 y1 u5 u6 u7;let h3:=s3 _ _ h2
    let s4:=Zu (o:=.tup [.int x,.int y]) s3 hr;let nlr:l≠r:=Za h3 hr
    show{xs++[.ref r],ps++[(x,y)],_,_,_,_,Z,Zp hl<|s2.m s4,Zz1,?_,by rw[Yy3,hlp];rfl,PairsV.good (H:=H) (xs:=[]) (v:=.non) hb ⟨x0,x1,y0,y1⟩};let hP4:PairsV (upd H3 r<|.tup [.int x,.int y]) (xs++[.ref r]) (ps++[(x,y)]):=(hP.same s4).snoc ⟨r,Z,Zz1⟩
    exists hP4.1,λj p e=>?_;let(v,e1,tt,e2,e3):=hP4.2 j p e;exists v,e1,tt,e2,by rwa[Ze (Zq10 e3 (s4 _ _ h2) (λz=>nomatch z))]
   exists _,Z,_,Z,a,_,_,_,Z,Z,s2.seq hS,iD,_,Z,_,_,Z,Z,(by change 0<n;lia),?_;exists _,Z,_,Z,a,_,_,_,Z,Z,s2.seq hS,iD,_,Z,_,_,Z,Z,{by change 0<n;lia,by change n<1073741824;lia},_,Z,_,_,Z,Z,(by change 0<n;omega),?_;let o0:0<=d%n:=Yy06 _ J
   let o1:d%n<n:=Y0a _ B;let q0:0<=d/n%n:=Yy06 _ J
   let q1:d/n%n<n:=Y0a _ B;exists _,Z,_,Z,?_;show itb (λhh=>?_) (λhh=>?_)
   ·exists _,Z,_,Z,_,_,Z,Z,_,_,Z,Z,_,Z,?_;show itd2 (λhk=>?_) (λhk=>?_)
    ·have k1:(0:Int)<0+(i:Int)+1:=J;let r0:0<=d%(0+(i:Int)+1):=Yy06 _ J
     let r1:d%(0+(i:Int)+1)<0+(i:Int)+1:=Y0a _ k1;exists _,Z,_,Z,a,_,_,_,Z,Z,s2.seq hS,iD,_,Z,_,_,Z,Z,_,_,Z,Z,k1,_,Z,_,_,Z,Z,(by change 2<=sizeLine;decide),λe he=>?_;let se:=Zz5 (o:=.tup [.int (d%(0+(i:Int)+1)),.int (0+(i:Int)+1)]) he
     let m0:0<=d/105%2:=Yy06 _ XU;let m1:d/105%2<2:=Y0a _ XU
     obtain⟨x,hx,x0,x1⟩:∃x:Int,atI ([.int (d%(0+(i:Int)+1)),.int (0+(i:Int)+1)]:List V) (d/105%2)=some (.int x)/\0<=x/\x<n:=by
      rcases(by lia:d/105%2=0\/d/105%2=1) with e|e
      ·rw[e];exists _,Z,r0,J
      ·rw[e];exists _,Z,J,J
     obtain⟨y,hy,y0,y1⟩:∃y:Int,atI ([.int (d%(0+(i:Int)+1)),.int (0+(i:Int)+1)]:List V) (1-d/105%2)=some (.int y)/\0<=y/\y<n:=by
      rcases(by lia:d/105%2=0\/d/105%2=1) with e|e
      ·rw[e];exists _,Z,J,J
      ·rw[e];exists _,Z,r0,J
     let c2:CDiv d 105:=⟨XU,XU⟩;exists _,Z,_,Z,_,Z,a,_,_,_,Z,Z,(s2.m se).seq hS,iD,_,_,Z,Z,c2,_,_,Z,Z,(by change(0:Int)<2;decide),e,_,_,_,Z,Z,SqT.of Zz1,hx,?_;exists _,Z,_,Z,_,Z,a,_,_,_,Z,Z,(s2.m se).seq hS,iD,_,_,Z,Z,c2,_,_,Z,Z,(by change(0:Int)<2;decide),_,_,Z,Z,e,_,_,_,Z,Z,SqT.of Zz1,hy,?_;exists _,Z,.inl {Z,_,SqL.of<|se _ _ h2},_,Z,_,Z,(by change 2<=sizeLine;decide),λr hr=>?_;exists l,xs,_,Z,Z,(Zu se hr) _ _ h2,xl,put x y _ r se hr x0 x1 y0 y1 _ _ _
    ·exists _,Z,.inl {Z,_,SqL.of h2},_,Z,_,Z,(by change 2<=sizeLine;decide),λr hr=>?_;exists l,xs,_,Z,Z,(Zz5 hr) _ _ h2,xl,put _ _ _ r (Same.refl _) hr o0 o1 q0 q1 _ _ _
   ·exists _,Z,.inl {Z,_,SqL.of h2},_,Z,_,Z,(by change 2<=sizeLine;decide),λr hr=>?_;exists l,xs,_,Z,Z,(Zz5 hr) _ _ h2,xl,put _ _ _ r (Same.refl _) hr o0 o1 q0 q1 _ _ _
  ·rintro σ H2 ⟨xs,ps,v4,v5,v6,v7,rfl,s2,h2,hP,hlp,hb⟩;let hlp:ps.f=ds.f:=by rw[hlp,Zz4];simp
   exists _,Z,a,ds,Z,s2.seq hS,_,Z,l,xs,Z,.inl<|SqL.of h2,_,_,Z,_,_,Z,Z,?_,?_
   ·show(0:Int)<if xs⁻¹>1 then xs⁻¹ else 1
    split<;>lia
   ·generalize hT:ds.sum%(if xs⁻¹>1 then xs⁻¹ else 1)=T0;let T1:0<=T0:=by rw[<-hT];show Yy06 _ (by split<;>lia)
    let T2:T0.i<=xs.f:=by
     have:T0<(if xs⁻¹>1 then xs⁻¹ else 1):=by rw[<-hT];show Y0a _ (by split<;>lia)
     split at this<;>grind
    let e1:cutV xs (some T0) none=xs.drop T0.i:=Ze11 T1 T2;let e2:cutV xs none (some T0)=xs.G T0.i:=Zt14 T1 T2
    exists _,rfl,_,rfl,T0,(by first|rfl|show YI V.int hT),l,xs,rfl,SqL.of h2,λr1 hr1=>?_
    let s3:=Zz5 (o:=.lst<|cutV xs (some T0) none) hr1;exists _,rfl,_,rfl,T0,(by first|rfl|show YI V.int hT),l,xs,rfl,SqL.of<|s3 _ _ h2,λr2 hr2=>?_
    let s4:=Zu (o:=.lst<|cutV xs none<|some T0) s3 hr2;let n12:r1≠r2:=Za Zz1 hr2
    exists r1,r2,_,_,Z,Z,by rw[Ze n12,Zz1],Zz1,?_,λr hr=>?_
    ·rw[e1,e2,YV,Yh];show ZI1 (by rw[hP.1];grind)
    ·have s5:=Zu (o:=.lst<|cutV xs (some T0) none++cutV xs none (some T0)) s4 hr;show q r _ (ps.drop T0.i++ps.G T0.i) _ (s2.m s5) ((s2.m s4).free hr) Zz1 ?_ ?_ λp hp=>?_
     ·have z:=((hP.same s5).drop T0.i).app ((hP.same s5).G T0.i);rwa[<-e1,<-e2]at z
     ·rw[Yy3,YV,Yh,<-hP.1]
      have:=hP.1
      grind
     ·rcases Yb.S hp with z|z
      ·show hb p (Y0l z)
      ·show hb p (Yy00 z)
inductive spZD(K:PySem.W.Q)(vs:List V)(H:Hp)(Q:VK)(_:XK):Prop
 |mk (a ns most count:_) (_:vs=[.ref a,.int most,.int count]) (_:SqL K H a (IL ns)) (_:ns.f<=63) (_:1<=most) (_:most<=14) (_:0<=count) (_:count<=30) (_:∀r l n xs ps H',Same H H'->H' r=some (.tup [.int n,.ref l])->H l=none->H' l=some (.lst xs)->PairsV H' xs ps->ZM n ps->n<=most->ps⁻¹<=count->Q ↑r H')
def okZD(T:Txt K mg t):OkQ P w base CX0 T.qZD 3 (spZD K):=by
 show T.qZD.okI ["script","most","count","head","places","many","draws"] XT λcdv A outer s H vs Q E hr h=>?_
 ·let(a,ns,most,count,rfl,hS,hn,m1,m2,c1,c2,q):=h;show⟨_,(Zz2 (Zd 3<|Zz9 (okZz T) hr T.qZz ZP<|Zz0 (pv 0)<|Zz0 Zz8 Zz3)
   (Zz2 (Zd 4<|Zn Zt1 Zz8<|Zn ZO (pv 3)<|pv 1)
   (Zz2 (Zd 5<|Zf (Zl5 Z) XR T.n_min Boot.«min»<|Zz0 (pv 2)<|Zz0 (Zn Zt1 (Zn ZO (Zn Ze1 (pv 3)<|pv 1)<|Zn Zt1 (pv 2) Zz8)<|Zn Zm2 (Zn ZO (Zn Ze1 (pv 3) Zz8) Zz8)<|pv 4) Zz3)
   (Zz2 (Zd 6<|Zz9 (okZB T) hr T.qZB ZP<|Zz0 (pv 0)<|Zz0 Zz8<|Zz0 (pv 5)<|Zz0 (Zn ZO (Zn Ze1 (pv 3) Zz8) Zz8) Zz3)
   (Zz7<|Zq<|Zq1<|Zz0 (pv 4)<|Zz0 (Zz9 (okZC T) hr T.qZC ZP<|Zz0 (pv 6)<|Zz0 (pv 4)<|Zz0 (Zn6 Zr6 (Zn ZO (Zn Ze1 (pv 3) Zz8) Zz8) Zz8<|Zz _) Zz3) Zz3))))),?_⟩
  exists _,Z,a,ns,0,Z,hS,XU,λhd h0 h1=>?_;let n0:0<=hd%most:=Yy06 _ J
  let n1:hd%most<most:=Y0a _ J;exists _,Z,_,Z,_,_,Z,Z,(by change 0<most;lia),_,_,Z,Z,?_;exists _,Z,_,Z,_,Z,_,_,Z,Z,{by change 0<most;omega,by change most<1073741824;lia},_,Z,_,_,Z,Z,_,_,Z,Z,(by change 0<count+1;lia),_,Z,_,_,Z,Z,⟨XU,XU⟩,_,_,Z,Z,(by change(0:Int)<2;decide),_,Z,_,_,Z,Z,.inr {by change -(2^64)<1+hd%most;lia,by change 1+hd%most<2^64;lia},_,_,Z,Z,_,_,Z,?_;let e0:0<=hd/most%(count+1):=Yy06 _ J
  let f0:0<=hd/97%2:=Yy06 _ XU;let g0:0<=hd/97%2*(1+hd%most):=Int.mul_nonneg f0 J
  obtain⟨c,hc⟩:∃c:Nat,(if hd/most%(count+1)+hd/97%2*(1+hd%most)<count then hd/most%(count+1)+hd/97%2*(1+hd%most) else count)=(c:Int):=
   {(if hd/most%(count+1)+hd/97%2*(1+hd%most)<count then hd/most%(count+1)+hd/97%2*(1+hd%most) else count).i,by split<;>lia}
  let k1:(c:Int)<=count:=by rw[<-hc];split<;>grind
  exists _,Z,_,Z,_,Z,_,_,Z,Z,⟨XU,XU⟩,_,_,Z,Z,(by change(0:Int)<2;decide),a,ns,1,c,_,YI (λz:Int=>[V.ref a,V.int 1,V.int z,V.int (hd/194%2)]) hc,hS,hn,XU,J,λl ds H1 s1 hl0 hl1 edl hds=>?_;exists _,Z,_,Z,_,Z,_,Z,_,_,Z,Z,⟨XU,XU⟩,_,_,Z,Z,(by change(0:Int)<3;decide),_,_,Z,Z,l,ds,_,_,Z,SqL.of hl1,J,hds,(by change 1<=1+hd%most;lia),(by change 1+hd%most<=1000;lia),λl2 xs ps H2 s2 hl20 hl21 hP ePl hb=>?_;exists (by change 2<=sizeLine;decide),λr hr=>?_;let s3:=Zz5 (o:=.tup [.int (1+hd%most),.ref l2]) hr
  show q r l2 (1+hd%most) xs ps _ ((s1.m s2).m s3) Zz1 (s1.free hl20) (s3 _ _ hl21) (hP.same s3) ⟨J,J,J,hb⟩ J J
inductive spZE(K:PySem.W.Q)(vs:List V)(H:Hp)(Q:VK)(_:XK):Prop
 |mk (n:Int) (a b:Addr) (xs:List V) (ps:List (Int×Int)) (kd:Bool) (ns:List Int) (_:vs=[.int n,.ref a,.ref b]) (_:SqL K H a xs) (_:PairsV H xs ps) (_:ZM n ps) (_:SqK kd K H b (IL ns)) (_:(∀z∈ns,0<=z/\z<ps⁻¹)) (_:∀(m:Addr)(H':Hp),Same H H'->H m=none->H' m=some (.lst<|IL<|lms n.i<|Zz6 ps ns)->Q ↑m H')
def okZE(T:Txt K mg t):OkQ P w base CX0 T.qZE 1 (spZE K):=by
 show T.qZE.okI ["places","ties","some","marks","tie","one","other","gone","kept","place"] XT λcdv A outer s H vs Q E hr h=>?_
 ·let(n,a,b,xs,ps,kd,ns,rfl,hA,h3,(g1,g2,g3,g4),hS,hI,q):=h;show⟨_,(Zz2 (Zd 3<|Zh (Zz72 Z) XR T.n_list Boot.«list»<|Zz0 (Zh Zz63 XR T.n_range Boot.«range»<|Zz0 (pv 0) Zz3) Zz3)
   (Zz2 (Zz31 QP Z (Zz52 K<|pv 2) (Zc 4)
   (Zz2 (ZE5 (ZH (Zg K) (pv 1) (pv 4) λ_ _=>rfl)<|ZE1 (n:=2) K Z<|Zx (Zc 5)<|Zx (Zc 6) ZD1)
   (Zz7 (ZJ1 (Zl ZP8 (ZH (Zg K) (pv 3) (pv 5) λ_ _=>rfl) (ZH (Zg K) (pv 3) (pv 6) λ_ _=>rfl)<|Zz _)
   (Zz2 (Zd 7<|ZH (Zg K) (pv 3) (pv 6) λ_ _=>rfl)
   (Zz2 (Zd 8<|ZH (Zg K) (pv 3) (pv 5) λ_ _=>rfl)
   (Zz7 (Zz31 QP Z (ZR Z T.n_range<|Zz0 (pv 0) Zz3) (Zc 9)
   (Zz7 (ZJ1 (Zl ZQ8 (ZH (Zg K) (pv 3) (pv 9) λ_ _=>rfl) (pv 7)<|Zz _)
   (Zz7<|ZE5 (pv 8)<|ZQ7 (pv 3) (pv 9) Zp1)
   Zv))))))
   Zv))))
   (Zz7<|Zq<|pv 3))),?_⟩
  exists _,Z,n,Z,λr hr0=>{r,0,n,Z,Zz1,⟨XU,XU,B,B⟩,B,λm hm=>?_};let sm:Same H (upd (upd H r<|.rng 0 n) m<|.lst<|(rngI 0 n).L V.int):=Zu (Zz5 hr0) hm
  let hm0:H m=none:=(Zz5 hr0).free hm;show⟨_,Z,b,Z,Zy3 (k:=kd) (K:=K) (a:=b) (xs:=IL ns) (λi σ H2=>∃(v4 v5 v6 v7 v8 v9:Option V),σ=[some (.int n),some<|.ref a,some<|.ref b,some<|.ref m,v4,v5,v6,v7,v8,v9]/\Same H H2/\H2 m=some (.lst<|IL<|lms n.i<|Zz6 ps<|ns.G i))
   {none,none,none,none,none,none,Z,sm,?_} (λi σ H2 _ zz=>by let(_,_,_,_,_,_,_,s2,_):=zz;show hS.same s2) ?_ ?_⟩
  ·rw[Zz1,ZF4];rfl
  ·rintro i x σ H2 hi ⟨v4,v5,v6,v7,v8,v9,rfl,s2,hm2⟩;let(z,rfl,hz):=Zz81 hi;let(z0,z1):=hI z (Yy9 hz);obtain⟨p,hp⟩:∃p,ps[z.i]?=some p:={_,Yy0 B};let(v,hv,tt,rfl,htt):=h3.2 z.i p hp;let(e1,e2,e3,e4):=g4 p (Yy9 hp);let ed:ps.getD z.i (0,0)=p:=ZS hp
   exists _,Z,_,Z,a,xs,z,.ref tt,Z,Z,s2.seq hA,ZE (n:=z.i) B hv,tt,_,Z,SqT.of<|s2 _ _ htt,Z,_,_,Z,_,_,Z,Z,?_;let hl:(lms n.i<|Zz6 ps<|ns.G i).f=n.i:=Zy _ _
   generalize hM:lms n.i (Zz6 ps<|ns.G i)=M at *;let ha:M[p.1.i]?=some (mk M p.1.i):=ZM1 B
   let hb:M[p.2.i]?=some (mk M p.2.i):=ZM1 B;let iA:atI (IL M) p.1=some (.int<|mk M p.1.i):=ZE (n:=p.1.i) B (by rw[Yc,ha];rfl)
   let iB:atI (IL M) p.2=some (.int<|mk M p.2.i):=ZE (n:=p.2.i) B (by rw[Yc,hb];rfl);let step:lms n.i (Zz6 ps<|ns.G<|i+1)=lm M p.1.i p.2.i:=by rw[ZH2 hz,Zz71,hM,ed]
   exists _,Z,_,Z,m,_,p.1,_,Z,Z,SqL.of hm2,iA,_,Z,_,Z,m,_,p.2,_,Z,Z,SqL.of hm2,iB,Z,_,Z,?_;rw[ZV];show itn2 (λhc=>?_) (λhc=>?_)
   ·exists _,_,_,_,_,_,Z,s2,?_;rw[hm2,step];unfold lm;rw[if_neg (by simpa using hc)]
   ·exists _,Z,_,Z,m,_,p.2,_,Z,Z,SqL.of hm2,iB,?_;exists _,Z,_,Z,m,_,p.1,_,Z,Z,SqL.of hm2,iA,?_;show⟨_,Z,n,Z,B,B,Zz11 (lo:=0) (n:=n.i) (λj σ H3=>∃(v4 v5 v6 v9:Option V),σ=[some (.int n),some<|.ref a,some<|.ref b,some<|.ref m,v4,v5,v6,some<|.int<|mk M p.2.i,some<|.int<|mk M p.1.i,v9]/\Same H H3/\
      H3 m=some (.lst<|IL<|(M.G j).L (λk=>if k=mk M p.2.i then mk M p.1.i else k)++M.drop j)) {_,_,_,_,Z,s2,by rw[hm2];rfl} ?_ ?_⟩
    ·rintro j σ H3 hj ⟨w4,w5,w6,w9,rfl,s3,hm3⟩;let hjM:M[j]?=some (mk M j):=ZM1 B
     let hlt:((M.G j).L λk=>if k=mk M p.2.i then mk M p.1.i else k).f=j:=by rw[Yy7,Yh];omega
     let hjv:((M.G j).L (λk=>if k=mk M p.2.i then mk M p.1.i else k)++M.drop j)[j]?=some (mk M j):=by rwa[Yj B,hlt,Y0W,Yy19,Nat.add_zero]
     let ezj:(0:Int)+(j:Int)=(j:Int):=Y1i _;let iJ:atI (IL<|(M.G j).L (λk=>if k=mk M p.2.i then mk M p.1.i else k)++M.drop j) (0+(j:Int))=some (.int<|mk M j):=ZE (n:=j) ezj (by rw[Yc,hjv];rfl)
     let dj:M.drop j=mk M j::M.drop (j+1):=by
      rw[Y0s B];congr 1
      have:=hjM
      rw[Yy0 B]at this;show Yl this
     exists _,Z,_,Z,m,_,_,_,Z,Z,SqL.of hm3,iJ,_,Z,Z,_,Z,?_;rw[ZV];show itd2 (λhe=>?_) (λhe=>?_)
     ·exists _,Z,_,Z,_,Z,m,_,_,j,Z,Z,hm3,?_,?_
      ·unfold ixN;rw[if_pos B,if_pos (by rw[Zz4,Yy3,hlt,YV];omega)];simp
      ·exists _,_,_,_,Z,Zp hm0 s3,?_;rw[Zz1,YN,hjM];congr 2;rw[<-ZN10,Y2P _ _ (by rw[hlt];show Yy8 _),hlt,Yy19,dj,Yn,List.set_cons_zero,Yw];change IL (_++_::_)=IL (_++((if mk M j=mk M p.2.i then mk M p.1.i else mk M j)::_))
       rw[if_pos he];rfl
     ·exists _,_,_,_,Z,s3,?_;rw[hm3,YN,hjM,dj];congr 2;rw[Yn,Yw];change IL (_++_::_)=IL (_++((if mk M j=mk M p.2.i then mk M p.1.i else mk M j)::_))
      rw[if_neg he];rfl
    ·rintro σ H3 ⟨w4,w5,w6,w9,rfl,s3,hm3⟩;exists _,_,_,_,_,_,Z,s3,?_;rw[hm3,step];unfold lm;rw[if_pos hc,YF B,YH B,YM]
  ·rintro σ H2 ⟨v4,v5,v6,v7,v8,v9,rfl,s2,hm2⟩;rw[Zz4,YR]at hm2;exists _,Z,q m H2 s2 hm0 hm2
inductive spZF(K:PySem.W.Q)(vs:List V)(H:Hp)(Q:VK)(_:XK):Prop
 |mk (n:Int) (a:Addr) (xs:List V) (ps:List (Int×Int)) (_:vs=[.int n,.ref a]) (_:SqL K H a xs) (_:PairsV H xs ps) (_:ZM n ps) (_:n<=5) (_:ps.f<=9) (_:∀(r:Addr)(ys:List V)(L:List (List Int))(H':Hp),Same H H'->H' r=some (.lst ys)->TupsV H' ys L->L.f<=10000->(∀l,l∈L↔Zo n ps l)->L.C lexS->Q ↑r H')
def scZF:FnScope ["places","ties","told","k","longer","some","first"] ["places","ties"] (Zb (top 60)):=ZE4 XT
def okZF(T:Txt K mg t):OkQ P w base CX0 T.qZF 2 (spZF K):=by
 show T.qZF.okI ["places","ties","told","k","longer","some","first"] XT λcdv A outer s H vs Q E hr h=>?_
 ·let(n,a,xs,ps,rfl,hA,hP,hG,n5,p9,q):=h;show⟨_,(Zz2 (Zd 2<|Zs1<|Zz0 (Zq1 Zz3) Zz3)
   (Zz2 (Zz31 QP Z (ZR Z T.n_range<|Zz0 (Zn ZS2 (pv 0) Zz8) Zz3) (Zc 3)
   (Zz2 (Zd 4<|Zs1 Zz3)
   (Zz2 (Zz31 QP Z (ZX K<|pv 2) (ZL4 (i:=5) scZF.nd Z<|Or.inr Z)
   (Zz2 (Zd 6 Zz8)
   (Zz2 (ZJ1 (Zl Zr6 (pv 3) Zz8<|Zz _)
   (Zz7<|Zd 6<|Zn Zt1 (ZH (ZG K) (pv 5) (Zn ZS2 (pv 3) Zz8) λ_ _=>rfl) Zz8)
   Zv)
   (Zz7<|ZK<|ZA1 K YT Y3R Y3Q ZO4 (pv 4)<|Zz0 (ZY3 rfl (sc0:=Zb<|top 60) (N0:=["places","ties","told","k","longer","some","first"]) (N':=["tie","some"]) (o:=1) (fr:=[5]) ⟨rfl,XT,XT,XT,rfl,XT⟩ (ZK4 rfl T.n_range<|Zz0 (pv 6)<|Zz0 (Zf (Zi K) XR T.n_len Boot.«len»<|Zz0 (pv 1) Zz3) Zz3) (ZA XU) (λ_ _ _ _=>(Zc 0)) (λ_ _ _ _=>ZQ) λ_ _ _ _=>(Zn (ZR8 K) (pv 1)<|Zq1<|Zz0 (pv 0) Zz3)) Zz3))))
   (Zz7<|Zd 2<|pv 4))))
   (Zz7<|Zq<|ZY3 rfl (sc0:=Zb<|top 60) (N0:=["places","ties","told","k","longer","some","first"]) (N':=["some","places","ties"]) (o:=1) (fr:=[0,1]) ⟨rfl,XT,XT,XT,rfl,XT⟩ (ZX K<|pv 2) (ZA XU) (λ_ _ _ _=>(Zc 0)) (λ_ _ _ _=>(Zn3<|Zl ZQ8 (Zf ZF3 XR T.n_len Boot.«len»<|Zz0 (Zh (Zq8 K rfl) XR T.n_set Boot.«set»<|Zz0 (Zz9 (okZE T) hr T.qZE ZP<|Zz0 (pv 1)<|Zz0 (pv 2)<|Zz0 (pv 0) Zz3) Zz3) Zz3) Zz8<|Zz _)) λ_ _ _ _=>(pv 0)))),?_⟩
  let(g1,g2,g3,g4):=id hG;let hlx:=hP.1
  let one:1<=sizeLine:=XU;let big:∀k:Nat,k<=4->(cmb ps⁻¹ k).f<=6561:=λk hk=>Yv (Zv9 p9 k) (by rcases(by omega:k=0\/k=1\/k=2\/k=3\/k=4) with e|e|e|e|e<;>rw[e]<;>decide)
  exists Yk _,λt0 ht0=>{one,λd0 hd0=>?_};let s0:=Zu (Zz5 (o:=.tup []) ht0) (o:=.lst [.ref t0]) hd0
  let k0:(upd (upd H t0<|.tup []) d0<|.lst [.ref t0]) t0=some (.tup []):=Zz5 hd0 _ _ Zz1;show⟨_,Z,_,_,Z,Z,_,Z,B,B,Zz11 (lo:=0) (n:=(n-1).i) (λi σ H2=>∃(d:Addr)(ys:List V)(v3 v4 v5 v6:Option V),σ=[some (.int n),some<|.ref a,some<|.ref d,v3,v4,v5,v6]/\Same H H2/\H2 d=some (.lst ys)/\TupsV H2 ys (cmb ps⁻¹ i))
   {d0,[.ref t0],none,none,none,none,Z,s0,Zz1,.one ⟨t0,Z,k0⟩} ?_ ?_⟩
  ·rintro i σ H2 hi ⟨d,ys,v3,v4,v5,v6,rfl,s2,hd,hL⟩;let hi4:i<4:=B
   exists Yk _,λe he=>?_;let s3:=Zz5 (o:=.lst []) he
   show⟨_,Z,d,Z,{_,SqL.of<|s3 _ _ hd},Zv2 (K:=K) (a:=d) (xs:=ys) (λj σ H4=>∃(zs:List V)(v5 v6:Option V),σ=[some (.int n),some<|.ref a,some<|.ref d,some<|.int<|0+(i:Int),some<|.ref e,v5,v6]/\Same H2 H4/\H4 e=some (.lst zs)/\TupsV H4 zs (((cmb ps⁻¹ i).G j).flatMap (ext1 ps⁻¹)))
    {[],_,_,Z,s3,Zz1,TupsV.nil} (λj σ H4 _ zz=>by let(_,_,_,_,e,_):=zz;show SqL.of<|e _ _ hd) ?_ ?_⟩
   ·rintro j v σ H4 hj ⟨zs,v5,v6,rfl,s4,he4,hZ⟩;let(l,hl,tt,rfl,htt2):=hL.at hj;let htt:=s4 _ _ htt2
    let(ll,hI):=cmb_mem.S (Yy9 hl);let zl:zs.f<=9*6561:=by
     rw[hZ.1];let h1:=Zz03 (m:=ps.f) ((cmb ps⁻¹ i).G j) λs hs=>(cmb_mem.S<|Yy00 hs).2
     let h2:=big i B;let h3:((cmb ps⁻¹ i).G j).f<=6561:=by rw[Yh];omega
     show Yv h1 (Y1t p9 h3)
    let nx0:0<=nxt l:=by
     unfold nxt;cases q:l.getLast? with
     |none=>show Y1e 0
     |some x=>have:=(hI.all x<|Y1y q).1;change 0<=x+1;omega
    let nx1:nxt l<=30:=by
     unfold nxt;cases q:l.getLast? with
     |none=>show(0:Int)<=30;decide
     |some x=>have:=(hI.all x<|Y1y q).2;change x+1<=30;omega
    exists _,Z,_,_,Z,Z,_,Z,?_;show itd2 (λhk=>?_) (λhk=>?_)
    ·have hne:l.f-1<l.f:=B;obtain⟨y,hy⟩:∃y,l[l.f-1]?=some y:={_,Yy0 hne};let gl:l.getLast?=some y:=by rwa[List.getLast?_eq_getElem?]
     let hF:y+1=nxt l:=by unfold nxt;rw[gl]
     let hat:atI (IL l) (0+(i:Int)-1)=some (.int y):=ZE (n:=l.f-1) B (ZJ3 hy);exists _,Z,_,Z,_,_,Z,Z,tt,_,_,_,Z,Z,SqT.of htt,hat,_,_,Z,Z,?_;let f0:0<=(y+1):=by let h:=nx0;rwa[<-hF]at h
     let f1:(y+1)<=30:=by let h:=nx1;rwa[<-hF]at h
     exists _,Z,.inl {Z,_,SqL.of he4},_,Z,_,Z,a,xs,Z,.inl<|(s2.m s4).seq hA,(y+1),xs⁻¹,Z,⟨B,B,B,B⟩,Zp2 (lo:=(y+1)) (n:=(xs⁻¹-(y+1)).i) (λi2 ws H5=>Same H4 H5/\TupsV H5 ws ((List.range i2).L λ(t:Nat)=>l++[(y+1)+(t:Int)])) {Same.refl _,TupsV.nil} (Zk B) (λi2 ws H5 _ zz=>by let(_,e):=zz;rw[e.1,Yy7,YU];show Yy8 _) ?_ ?_
     ·rintro i2 ws H5 hi2 ⟨s5,hW⟩ S hSS;show nm ?_;exists _,Z,_,Z,one,λp2 hp2=>?_;let s6:=Zz5 (o:=.tup<|IL [(y+1)+(i2:Int)]) hp2
      let s56:=s5.m s6;exists tt,p2,IL l,IL [(y+1)+(i2:Int)],Z,Z,SqT.of<|s56 _ _ htt,SqT.of Zz1,ZI1 (by rw[Zz4,Zz4,Yu,Y1o];omega),λe=>?_,λ_ e=>(nomatch e),λ_ _ p3 hp3=>?_
      ·show hSS _ _ {s56,?_};let e0:l=[]:=by cases h:l with|nil=>rfl|cons x r=>rw[h]at e;cases e
       rw[Y0H,Yn];show(hW.same s6).snoc {p2,Z,by rw[e0];show Zz1}
      ·show hSS _ _ {s56.m<|Zz5 hp3,?_};rw[Y0H,Yn];show((hW.same s6).same (Zz5 hp3)).snoc {p3,Z,by rw[Zz1];congr 2;show(Yn ..).symm}
     ·rintro ws H5 ⟨s5,hW⟩ p hp;let s6:=s5.m (Zz5 (o:=.lst ws) hp)
      let he6:=s6 _ _ he4;let wl:ws.f<=100:=by rw[hW.1,Yy7,YU];omega
      exists e,p,zs,ws,Z,Z,he6,Zz1,ZI1 B,?_;exists _,_,_,Z,Zp he<|s4.m s6,Zz1,?_;rw[Zz45 hl];let ee:ext1 ps⁻¹ l=(List.range (xs⁻¹-(y+1)).i).L λ(t:Nat)=>l++[(y+1)+(t:Int)]:=by unfold ext1;rw[<-hF,hlx]
      rw[ee];show(((hZ.same s6).app (hW.same<|Zz5 hp))).mut he6
    ·have hF:(0:Int)=nxt l:=by have:l=[]:=Yy07.S B;rw[this];rfl
     let f0:0<=(0:Int):=by let h:=nx0;rwa[<-hF]at h
     let f1:(0:Int)<=30:=by let h:=nx1;rwa[<-hF]at h
     exists _,Z,.inl {Z,_,SqL.of he4},_,Z,_,Z,a,xs,Z,.inl<|(s2.m s4).seq hA,(0:Int),xs⁻¹,Z,⟨B,B,B,B⟩,Zp2 (lo:=(0:Int)) (n:=(xs⁻¹-(0:Int)).i) (λi2 ws H5=>Same H4 H5/\TupsV H5 ws ((List.range i2).L λ(t:Nat)=>l++[(0:Int)+(t:Int)])) {Same.refl _,TupsV.nil} (Zk B) (λi2 ws H5 _ zz=>by let(_,e):=zz;rw[e.1,Yy7,YU];show Yy8 _) ?_ ?_
     ·rintro i2 ws H5 hi2 ⟨s5,hW⟩ S hSS;show nm ?_;exists _,Z,_,Z,one,λp2 hp2=>?_;let s6:=Zz5 (o:=.tup<|IL [(0:Int)+(i2:Int)]) hp2
      let s56:=s5.m s6;exists tt,p2,IL l,IL [(0:Int)+(i2:Int)],Z,Z,SqT.of<|s56 _ _ htt,SqT.of Zz1,ZI1 (by rw[Zz4,Zz4,Yu,Y1o];omega),λe=>?_,λ_ e=>(nomatch e),λ_ _ p3 hp3=>?_
      ·show hSS _ _ {s56,?_};let e0:l=[]:=by cases h:l with|nil=>rfl|cons x r=>rw[h]at e;cases e
       rw[Y0H,Yn];show(hW.same s6).snoc {p2,Z,by rw[e0];show Zz1}
      ·show hSS _ _ {s56.m<|Zz5 hp3,?_};rw[Y0H,Yn];show((hW.same s6).same (Zz5 hp3)).snoc {p3,Z,by rw[Zz1];congr 2;show(Yn ..).symm}
     ·rintro ws H5 ⟨s5,hW⟩ p hp;let s6:=s5.m (Zz5 (o:=.lst ws) hp)
      let he6:=s6 _ _ he4;let wl:ws.f<=100:=by rw[hW.1,Yy7,YU];omega
      exists e,p,zs,ws,Z,Z,he6,Zz1,ZI1 B,?_;exists _,_,_,Z,Zp he<|s4.m s6,Zz1,?_;rw[Zz45 hl];let ee:ext1 ps⁻¹ l=(List.range (xs⁻¹-(0:Int)).i).L λ(t:Nat)=>l++[(0:Int)+(t:Int)]:=by unfold ext1;rw[<-hF,hlx]
      rw[ee];show(((hZ.same s6).app (hW.same<|Zz5 hp))).mut he6
   ·rintro σ H4 ⟨zs,v5,v6,rfl,s4,he4,hZ⟩;exists _,Z,e,zs,_,_,_,_,Z,s2.m s4,he4,?_;rwa[hL.1,YR]at hZ
  ·rintro σ H2 ⟨d,ys,v3,v4,v5,v6,rfl,s2,hd,hL⟩;show⟨_,Z,d,Z,{_,SqL.of hd},ZO1 (K:=K) (a:=d) (xs:=ys) (λi ws H3=>Same H2 H3/\i<=ys.f/\TupsV H3 ws (((cmb ps⁻¹ (n-1).i).G i).filter λl=>decide<|(L2.seen<|lms n.i<|Zz6 ps l).f=1)) {Same.refl _,Yk _,TupsV.nil} (Zk<|by rw[hL.1];have:=big (n-1).i B;omega)
    (λi ws H3 hi zz=>by let(e,hi2,ey):=zz;show{SqL.of<|e _ _ hd,by rw[ey.1];show Yv (Y0T ..)<|by rw[Yh];omega}) ?_ ?_⟩
   ·rintro i v ws H3 hi ⟨s3,hil,hW⟩ S hSS;let(l,hl,tt,rfl,htt2):=hL.at hi;let htt:=s3 _ _ htt2
    let hil':i<ys.f:=(Yy1.S hi).1;let(ll,hI):=cmb_mem.S (Yy9 hl);let s23:=s2.m s3
    show nm ?_;exists _,Z,_,Z,_,Z,n,a,tt,xs,ps,true,l,Z,s23.seq hA,hP.same s23,hG,SqT.of htt,hI.all,λm H7 s7 hm0 hm7=>?_;let lL:(lms n.i<|Zz6 ps l).f=n.i:=Zy _ _
    let sl1:(L2.seen<|lms n.i<|Zz6 ps l).f<=(lms n.i<|Zz6 ps l).f:=PyProof.Rows.firstMet_length_le _ _;exists m,lms n.i<|Zz6 ps l,Z,SqL.of hm7,(by change(lms n.i<|Zz6 ps l).f+1<4096;omega),λst hst=>?_;let s8:=Zz5 (o:=.set (λk=>(L2.seen<|lms n.i<|Zz6 ps l).any (· == k)) (L2.seen<|lms n.i<|Zz6 ps l).f) hst
    exists st,_,_,Z,Zz1,B,Z,_,Z,?_;rw[ZV];show itd2 (λhc=>?_) (λhc=>?_)
    ·exists _,Z,hSS _ _ {(s3.m s7).m s8,hil',?_};rw[Yz3 hl,if_pos (YY B)];show((hW.same s7).same s8).snoc {tt,Z,s8 _ _<|s7 _ _ htt}
    ·show hSS _ _ {(s3.m s7).m s8,hil',?_};rw[Yz3 hl,if_neg (by rw[YQ];omega),YM];show(hW.same s7).same s8
   ·rintro ws H3 ⟨s3,_,hW⟩ p hp;rw[hL.1,YR]at hW;show q p ws _ _ ((s2.m s3).m (Zz5 hp)) Zz1 (hW.same<|Zz5 hp) ?_ (λl=>?_) ((Zs7 _ _).sublist List.filter_sublist)
    ·show Yv (Y0T ..) (by have:=big (n-1).i B;omega)
    ·rw[Ym,cmb_mem,YQ];constructor
     ·rintro⟨⟨h1,h2⟩,h3⟩;exists h2,B,(ZD4 B<|ZL hG h2.all).S h3
     ·rintro⟨h1,h2,h3⟩;exists ⟨B,h1⟩,(ZD4 B<|ZL hG h1.all).X h3
inductive spZG(K:PySem.W.Q)(vs:List V)(H:Hp)(Q:VK)(_:XK):Prop
 |mk (a:Addr) (ns:List Int) (c:Nat) (_:vs=[.ref a,.int c]) (_:SqL K H a (IL ns)) (_:ns.f<=63) (_:c<=30) (_:∀r l H',Same H H'->H r=none->H' r=some (.lst<|IL l)->l.f=c->Told l->Q ↑r H')
def scZG:FnScope ["script","count","folded","k","told","m"] ["script","count"] (Zb (top 61)):=ZE4 XT
def okZG(T:Txt K mg t):OkQ P w base CX0 T.qZG 2 (spZG K):=by
 show T.qZG.okI ["script","count","folded","k","told","m"] XT λcdv A outer s H vs Q E hr h=>?_
 ·let(a,ns,c,rfl,hA,hn63,hc,q):=h;show⟨_,(Zz2 (ZN7 (i:=2) Z scZG.nd Z Z (sc0:=Zb<|top 61) (N0:=["script","count","folded","k","told","m"]) (N':=["k"]) (o:=1) (fr:=[]) ⟨Z,XT,XT,XT,Z,XT⟩ (ZR Z T.n_range<|Zz0 (pv 1) Zz3) (ZA XU) (λ_ _ _ _=>(Zc 0)) (λ_ _ _ _=>ZQ) λ_ _ _ _=>(Zn Zt1 (Zn Zm2 Zz8<|pv 0) Zz8))
   (Zz2 (Zz31 QP Z (ZR Z T.n_range<|Zz0 (Zf (Zi K) XR T.n_len Boot.«len»<|Zz0 (pv 0) Zz3) Zz3) (Zc 3)
   (Zz7 (ZJ1 (Zl Zr6 (pv 1) Zz8<|Zz _)
   (Zz7<|ZE5 (Zn ZO (Zn Zt1 (Zn Zm2 (ZH (Zg K) (pv 2) (Zn ZO (pv 3)<|pv 1) λ_ _=>rfl) Zz8)<|ZH (Zg K) (pv 0) (pv 3) λ_ _=>rfl)<|Zn Zz04 Zz8 Zz8)<|ZQ7 (pv 2) (Zn ZO (pv 3)<|pv 1) Zp1)
   Zv)))
   (Zz2 (Zd 4<|Zs1 Zz3)
   (Zz2 (Zz31 QP Z (ZR Z T.n_range<|Zz0 (pv 1) Zz3) (Zc 3)
   (Zz2 (Zd 5<|Zz9 (okZA T) hr T.qZA ZP<|Zz0 (ZH (Zg K) (pv 2) (pv 3) λ_ _=>rfl)<|Zz0 (Zn Zt1 Zz8<|pv 3) Zz3)
   (Zz7<|ZK<|ZA1 K YT Y0e Y0d ZY (pv 4)<|Zz0 (ZH (Zg K) (Zs1<|Zz0 (Zn ZO (Zn Ze1 (pv 5) Zz8) Zz8)<|Zz0 (Zn ZS2 (Zn ZO (Zn Ze1 (pv 5) Zz8) Zz8) Zz8)<|Zz0 Zz8<|Zz0 (Zn ZS2 (Zn ZO (ZH (Zg K) (pv 2) (pv 3) λ_ _=>rfl)<|Zn Zm2 Zz8<|Zn Zz04 Zz8 Zz8)<|Zn Zz04 Zz8 Zz8) Zz3) (Zn ZO (pv 5) Zz8) λ_ _=>rfl) Zz3)))
   (Zz7<|Zq<|pv 4))))),?_⟩
  let four:4<=sizeLine:=XU;exists _,Z,(c:Int),Z,J,J,Zp2 (lo:=0) (n:=((c:Int)).i) (λi ys H3=>H3=H/\∃fs:List Int,ys=IL fs/\fs.f=i) {Z,[],Z,Z} (Zk J) (λi ys H3 _ zz=>by let(_,fs,e,el):=zz;rw[e,Zz4];lia) ?_ ?_
  ·rintro i ys H3 hi ⟨rfl,fs,rfl,el2⟩ S hSS;show nmY ?_;exists _,Z,_,_,Z,Z,.inl ⟨XU,XU⟩,_,_,Z,Z,?_;show hSS _ _ {Z,fs++[5*(0+(i:Int))+2],?_,?_}
   ·show(Zl1 _ _).symm
   ·rw[Yy3,el2];rfl
  rintro ys H3 ⟨rfl,fs,rfl,el2⟩ l3 hl3;let s3:=Zz5 (o:=.lst<|IL fs) hl3
  show nm ?_;exists _,Z,a,_,Z,.inl<|s3.seq hA,_,Z,J,by rw[Zz4];omega,Zz11 (lo:=0) (n:=((IL ns).f:Int).i) (λj σ H4=>∃fs v3,σ=[some ↑a,some<|.int c,some<|.ref l3,v3,none,none]/\Same H3 H4/\H4 l3=some (.lst<|IL fs)/\fs.f=c) {fs,none,Z,s3,Zz1,by rw[el2];lia} ?_ ?_
  ·rintro j σ H4 hj ⟨gs,v3,rfl,s4,h4,eg⟩;rw[Zz4]at hj;show nm ?_;dsimp only;exists _,Z,_,_,Z,Z,_,Z,?_;show itd2 (λhc0=>?_) λ_=>{gs,_,Z,s4,h4,eg};let at0:0<=(0+(j:Int))%(c:Int):=Yy06 _ J
   let at1:(0+(j:Int))%(c:Int)<(c:Int):=Y0a _ hc0;generalize hat:(0+(j:Int))%(c:Int)=at' at *;obtain⟨f,hf⟩:∃f,gs[at'.i]?=some f:={_,Yy0 XS};obtain⟨z,hz⟩:∃z,ns[j]?=some z:={_,Yy0 J};show{_,rfl,_,rfl,_,rfl,_,_,rfl,rfl,hc0,l3,_,_,_,rfl,rfl,SqL.of h4,by(try rw[hat]);show ZE (n:=at'.i) J<|ZJ3 hf,_,_,rfl,rfl,.inr ⟨XU,XU⟩,_,rfl,_,rfl,a,_,_,_,rfl,rfl,s4.seq hA,ZE (n:=j) J<|ZJ3 hz,_,_,rfl,rfl,_,_,rfl,rfl,⟨XU,XU,XU⟩,_,_,rfl,rfl,(by change(0:Int)<10^60;decide),?_};exists _,rfl,_,rfl,_,rfl,_,_,rfl,rfl,hc0,l3,_,_,at'.i,rfl,rfl,h4,?_,?_
   ·(try rw[hat])
    unfold ixN;rw[if_pos at0,if_pos (by rw[Zz4];grind)]
   ·show{gs.set at'.i<|(f*7+z)%(10:Int)^((60:Int).i),_,Z,Zp hl3 s4,?_,by rwa[Y0J]};rw[Zz1,ZN10]
  rintro σ H4 ⟨gs,v3,rfl,s4,h4,eg⟩;exists Yk _,λl5 hl5=>?_;let n35:l3≠l5:=Za h4 hl5
  let hl50:H3 l5=none:=s4.free hl5;let u5:=Zz5 (o:=.lst []) hl5
  let s5:=s4.m u5;let h35:=u5 _ _ h4
  let h55:(upd H4 l5<|.lst []) l5=some (.lst<|IL []):=Zz1;generalize upd H4 l5 (.lst [])=H5 at *;show nm ?_;exists _,Z,_,Z,J,J,Zz11 (lo:=0) (n:=((c:Int)).i) (λj σ H6=>∃L v3 v5,σ=[some ↑a,some<|.int c,some<|.ref l3,v3,some<|.ref l5,v5]/\Same H3 H6/\H6 l3=some (.lst<|IL gs)/\H6 l5=some (.lst<|IL L)/\L.f=j/\Told L) {[],v3,none,Z,s5,h35,h55,Z,λz hz=>(by cases hz)} ?_ ?_;rotate_left
  ·rintro σ H6 ⟨L,w3,w5,rfl,s6,_,h56,hL,hT⟩;exists _,Z,q l5 L H6 s6 hl50 h56 J hT
  rintro j σ H6 hj ⟨L,w3,w5,rfl,s6,h36,h56,hL,hT⟩;obtain⟨f,hf⟩:∃f,gs[j]?=some f:={_,Yy0 XS};let hfa:atI (IL gs) (0+(j:Int))=some (.int f):=ZE (n:=j) J (ZJ3 hf)
  show nm ?_;dsimp only;exists _,Z,_,Z,l3,_,_,_,Z,Z,SqL.of h36,hfa,_,Z,_,_,Z,Z,_,_,Z,λm m0 m1=>?_;show nm ?_;let d8:0<=m/8:=J
  exists _,Z,.inl {Z,_,SqL.of h56},_,Z,_,_,Z,Z,⟨XU,XU⟩,_,_,Z,Z,(by change(0:Int)<5;decide),_,Z,_,_,Z,Z,⟨XU,XU⟩,_,_,Z,Z,(by change(0:Int)<19;decide),_,_,Z,Z,_,Z,_,Z,l3,_,_,_,Z,Z,SqL.of h36,hfa,_,_,Z,Z,⟨XU,XU,XU⟩,_,_,Z,Z,.inl ⟨XU,XU⟩,_,_,Z,Z,(by change(0:Int)<2*10^59;decide),_,_,Z,Z,⟨XU,XU,XU⟩,_,_,Z,Z,four,λc4 hc4=>?_;obtain⟨x,hx,hxb⟩:∃x:Int,atI (IL [m/8%5,m/8%19-9,1,f%(2*10^(59:Int).i)-10^(59:Int).i]) (m%4)=some (.int x)/\(-(10^60)<x/\x<(10:Int)^60):=by
   let p59:(10:Int)^(59:Int).i=10^59:=rfl;let e4:0<=f%(2*10^59)/\f%(2*10^59)<2*10^59:={Yy06 _ XU,Y0a _ XU}
   rcases(by lia:m%4=0\/m%4=1\/m%4=2\/m%4=3) with e|e|e|e<;>rw[e]
   ·exists _,Z,XS
   ·exists _,Z,XS
   ·exists _,Z,J
   ·exists _,Z,?_;rw[p59];lia
  let w1:=Zz5 (o:=.lst<|IL [m/8%5,m/8%19-9,1,f%(2*10^(59:Int).i)-10^(59:Int).i]) hc4;exists _,Z,_,_,Z,Z,(by change(0:Int)<4;decide),c4,_,_,.int x,Z,Z,SqL.of Zz1,hx,?_;show{l5,_,_,Z,Z,w1 _ _ h56,Zk (by rw[Zz4];grind),L++[x],_,_,Z,Zp hl50<|s6.m w1,?_,by rw[Zz1,Zl1],by rw[Yy3,hL];rfl,λz hz=>(Yb.S hz).elim (hT z) λh=>by rwa[Yy2.S h]};rw[Ze n35];show w1 _ _ h36
inductive spZH(K:PySem.W.Q)(vs:List V)(H:Hp)(Q:VK)(_:XK):Prop
 |mk (a:Addr) (l:List Int) (_:vs=[.ref a]) (_:H a=some (.tup<|IL l)) (_:l.f<=1000) (_:Told l) (_:∀H':Hp,Same H H'->Q (.str<|ZP5 l) H')
def okZH(T:Txt K mg t):OkQ P w base CX0 T.qZH 2 (spZH K):=by
 show T.qZH.okI ["tree"] XT λcdv A outer s H vs Q E hr h=>?_
 ·let(a,l,rfl,hA,hll,hl,q):=h;show⟨_,(Zz2 (ZJ1 (Zl (Zs6 K<|hu8 hr) (pv 0) (Zq1 Zz3)<|Zz _)
   (Zz7<|Zq ZL1)
   Zv)
   (Zz7<|Zq<|ZA1 K Yy45 Y4a Yy49 (Zv6 K) ZL1<|Zz0 (ZY3 Z (sc0:=Zb<|top 62) (N0:=["tree"]) (N':=["tie"]) (o:=1) (fr:=[]) ⟨Z,XT,XT,XT,Z,XT⟩ (Zp3 K<|pv 0) (ZA XU) (λ_ _ _ _=>(Zc 0)) (λ_ _ _ _=>ZQ) λ_ _ _ _=>(Zh ZT XR T.n_str Boot.«str»<|Zz0 (pv 0) Zz3)) Zz3)),?_⟩
  exists _,Z,Yk _,λe he=>?_;let s1:=Zz5 (o:=.tup []) he
  let hA1:=s1 _ _ hA;exists 1,_,a,e,Z,Z,XU,Zz65 (SqT.of hA1) (ms:=[])<|SqT.of Zz1,_,Z,?_;show itd2 (λh=>?_) (λh=>?_)
  ·have:=q _ s1
   unfold ZP5 at this;rwa[if_pos h]at this
  generalize upd H e (.tup [])=H1 at *;change(_:Prop)
  show Zz714 ?_;exists Z,_,Z,a,Z,{_,SqT.of hA1},ZI6 (K:=K) (a:=a) (xs:=IL l) (λi ys H3=>H3=H1/\ys=TL ((l.G i).L nT)) ⟨Z,Z⟩ (Zk<|by rw[Zz4];omega) (λi ys H3 _ zz=>by let(e,ey):=zz;show{e▸SqT.of hA1,by rw[ey,Zz92,Yy7,Yh];omega}) ?_ ?_
  ·rintro i v ys H3 hi ⟨rfl,rfl⟩ S hSS;let(z,rfl,hz):=Zz81 hi;let hb:=hl z (Yy9 hz)
   show nmY ?_;exists _,Z,z,Z,B,B,hSS _ _ {Z,?_};rw[YN,hz,Yn];show Zx4 _ _
  rintro ys H3 ⟨rfl,rfl⟩ p hp;rw[Zz4,YR];exists _,p,l.L nT,Z,Z,SqL.of Zz1,?_,?_
  ·show JoinOk Zx7 _=true;rw[Zk4];show Zz29 (XX:=61) (ZO3 hl) (by rw[Yy7];omega)
  ·have:=q _ (s1.m<|Zz5 (o:=.lst<|TL<|l.L nT) hp)
   unfold ZP5 at this;rwa[if_neg h]at this
inductive spZI(K:PySem.W.Q)(vs:List V)(H:Hp)(Q:VK)(_:XK):Prop
 |mk (c d:Nat) (_:vs=[.int c,.int d]) (_:0<d) (_:c<=d) (_:d<10^9) (_:∀(p q:Int)(H':Hp),LowF c d p q->Same H H'->Q (.str<|Zg9 p q) H')
def ZU10(a b:Nat):Nat.gcd b (a%b)=Nat.gcd a b:=by rw[Y2t b,<-Nat.gcd_rec,Y2t]
def Zr12{c d:Nat}(h:0<d):LowF c d ((c:Int)/(Nat.gcd d c:Nat)) ((d:Int)/(Nat.gcd d c:Nat)):=by let(_,h2):=ZW8 (x:=(c:Int)) (y:=(d:Int)) B rfl;rw[if_neg B,Y2j _<|Y2o _,Y2j _ (Y2o _)]at h2;rwa[Y2t]
def okZI(T:Txt K mg t):OkQ P w base CX0 T.qZI 2 (spZI K):=by
 show T.qZI.okI ["top","bottom","one","other","rest"] XT λcdv A outer s H vs Q E hr h=>?_
 ·let(c,d,rfl,d0,cd,d20,q):=h;show⟨_,(Zz2 (Zd 2<|pv 1)
   (Zz2 (Zd 3<|pv 0)
   (Zz2 (ZV3 QP (Zl Zr6 (pv 3) Zz8<|Zz _)
   (Zz2 (Zd 4<|Zn ZO (pv 2)<|pv 3)
   (Zz2 (Zd 2<|pv 3)
   (Zz7<|Zd 3<|pv 4))))
   (Zz7<|Zq<|Zn Zs (Zn Zs (Zh ZT XR T.n_str Boot.«str»<|Zz0 (Zn Ze1 (pv 0)<|pv 2) Zz3) ZL1)<|Zh ZT XR T.n_str Boot.«str»<|Zz0 (Zn Ze1 (pv 1)<|pv 2) Zz3)))),?_⟩
  exists _,Z,?_;exists _,Z,?_;exists λm σ H2=>H2=H/\∃(a b:Nat)(v4:Option V),σ=[some (.int c),some<|.int d,some<|.int a,some<|.int b,v4]/\b=m/\Nat.gcd a b=Nat.gcd d c,⟨c,Z,d,c,none,Z,Z,Z⟩,?_;rintro m σ H2 ⟨rfl,a,b,v4,rfl,rfl,hg⟩;exists _,Z,_,_,Z,Z,_,Z,?_;show itd2 (λhb=>?_) (λhb=>?_)
  ·have bp:0<b:=B;exists _,λσ' H' h=>h,?_;exists _,Z,_,Z,_,_,Z,Z,(by omega:(0:Int)<(b:Int)),?_;exists _,Z,?_;exists _,Z,?_;exists a%b,Yy46 _ bp,Z,b,a%b,_,Z,Z,by rwa[ZU10]
  ·have b0:b=0:=B;subst b0;rw[Nat.gcd_zero_right]at hg;subst hg;let gp:0<Nat.gcd d c:=Nat.gcd_pos_of_pos_left _ d0
   let lg:=Zr12 (c:=c) d0;let(b1,b2):=ZD6 (W:=(d:Int)) B lg;let q0:=lg.1
   let g9:Nat.gcd d c<=d:=Nat.gcd_le_left _ d0;exists _,Z,_,Z,_,_,Z,Z,⟨B,B⟩,_,Z,B,B,_,_,Z,Z,?_,_,Z,_,Z,_,_,Z,Z,⟨B,B⟩,_,Z,B,B,_,_,Z,Z,?_,q _ _ _ lg<|Same.refl _
   ·have l1:=Zu1 (i:=(c:Int)/(Nat.gcd d c:Nat)) (k:=60) XU B B;let z2:100000<=sizeLine:=XU
    change(nT _).f+1<=_;omega
   ·have l1:=Zu1 (i:=(c:Int)/(Nat.gcd d c:Nat)) (k:=60) XU B B;let l2:=Zu1 (i:=(d:Int)/(Nat.gcd d c:Nat)) (k:=60) XU B B
    let z2:100000<=sizeLine:=XU;rw[show ∀a b:Str,(a++b).f=a.f+b.f from λa b=>Yy12 a b];change(nT _).f+1+(nT _).f<=_
    omega
def RkV(H:Hp)(v:V)(x:Int×List Int):(Prop):=∃a q,v=.ref a/\H a=some (.tup [.int x.1,.ref q])/\H q=some (.tup<|IL x.2)
def RkV.same{H H':Hp}{v:V}{x:Int×List Int}(s:Same H H')(h:RkV H v x):RkV H' v x:=by let(a,q,e,h1,h2):=h;exists a,q,e,s _ _ h1,s _ _ h2
def Yz8{ls:List Int}(h:Told ls):∀U:List Int,(sumL ls U).natAbs<=U.f*10^60
 |[]=>Yy8 0
 |z::U=>by
  let ih:=Yz8 h U;let hz:(lnz ls z).natAbs<=10^60:=by
   unfold lnz;rw[Yy5];cases e:ls[z.i]? with
   |none=>show Yk _
   |some y=>
    have:=h y (Yy9 e)
    change y.natAbs<=10^60;omega
  let e:sumL ls (z::U)=lnz ls z+sumL ls U:=rfl
  have:=Y2z (lnz ls z) (sumL ls U)
  rw[e,Yu,Y3m];omega
def Zd13(a b:Str):(a++b).f=a.f+b.f:=Yy12 a b
inductive spZJ(K:PySem.W.Q)(vs:List V)(H:Hp)(Q:VK)(_:XK):Prop
 |mk (n:Int) (a b:Addr) (xs:List V) (ps:List (Int×Int)) (ls:List Int) (_:vs=[.int n,.ref a,.ref b]) (_:SqL K H a xs) (_:PairsV H xs ps) (_:ZM n ps) (_:n<=5) (_:ps.f<=9) (_:SqL K H b (IL ls)) (_:ls.f=ps.f) (_:Told ls) (_:∀(r:Addr)(txt:List Str)(H':Hp),RepT n ps ls txt->Same H H'->H' r=some (.lst<|TL txt)->Q ↑r H')
def scZJ:FnScope ["places","ties","lengths","trees","told","ranks","tie","having"] ["places","ties","lengths"] (Zb (top 64)):=ZE4 XT
def okZJ(T:Txt K mg t):OkQ P w base CX0 T.qZJ 4 (spZJ K):=by
 show T.qZJ.okI ["places","ties","lengths","trees","told","ranks","tie","having"] XT λcdv A outer s H vs Q E hr h=>?_
 ·let(n,a,b,xs,ps,ls,rfl,hA,hP,hG,h5,h9,hS,hl,hTd,q):=h;show⟨_,(Zz2 (Zd 3<|Zz9 (okZF T) hr T.qZF ZP<|Zz0 (pv 0)<|Zz0 (pv 1) Zz3)
   (Zz2 (Zd 4<|Zs1<|Zz0 (Zn Zs ZL1<|Zh ZT XR T.n_str Boot.«str»<|Zz0 (Zf (Zi K) XR T.n_len Boot.«len»<|Zz0 (pv 3) Zz3) Zz3) Zz3)
   (Zz2 (ZJ1 (Zl (Zs6 K<|hu8 hr) (pv 3) (Zs1 Zz3)<|Zz _)
   (Zz7<|Zq<|pv 4)
   Zv)
   (Zz2 (Zd 5<|Zf (ZD3 K<|hu8 hr) XR T.n_sorted Boot.«sorted»<|Zz0 (ZY3 Z (sc0:=Zb<|top 64) (N0:=["places","ties","lengths","trees","told","ranks","tie","having"]) (N':=["tree","lengths"]) (o:=1) (fr:=[2]) ⟨Z,XT,XT,XT,Z,XT⟩ (ZX K<|pv 3) (ZA XU) (λ_ _ _ _=>(Zc 0)) (λ_ _ _ _=>ZQ) λ_ _ _ _=>(Zq1<|Zz0 (Zf (Zg2 K Z) XR T.n_sum Boot.«sum»<|Zz0 (ZY3 Z (sc0:=({kind:=PySem.ScopeKind.function,names:=[ (PySem.Str.U ".0",PySem.NameKind.local),(PySem.Str.U "tree",PySem.NameKind.local),(PySem.Str.U "sum",PySem.NameKind.globalImplicit),(PySem.Str.U "lengths",PySem.NameKind.cell)],isGenerator:=false,isCoroutine:=false,more:=[]:PySem.Scope})) (N0:=["tree","lengths"]) (N':=["tie","lengths"]) (o:=1) (fr:=[1]) ⟨Z,XT,XT,XT,Z,XT⟩ (Zp3 K<|pv 0) (ZA XU) (λ_ _ _ _=>(Zc 0)) (λ_ _ _ _=>ZQ) λ_ _ _ _=>(ZH (Zg K) (pv 1) (pv 0) λ_ _=>rfl)) Zz3)<|Zz0 (pv 0) Zz3)) Zz3)
   (Zz2 (ZK<|ZA1 K YT Y0e Y0d ZY (pv 4)<|Zz0 (Zn Zs (Zn Zs (Zn Zs ZL1<|Zh ZT XR T.n_str Boot.«str»<|Zz0 (ZH (ZG K) (ZH (Zg K) (pv 5) Zz8 λ_ _=>rfl) Zz8 λ_ _=>rfl) Zz3) ZL1)<|Zz9 (okZH T) hr T.qZH ZP<|Zz0 (ZH (ZG K) (ZH (Zg K) (pv 5) Zz8 λ_ _=>rfl) Zz8 λ_ _=>rfl) Zz3) Zz3)
   (Zz2 (Zz31 QP Z (ZR Z T.n_range<|Zz0 (Zf (Zi K) XR T.n_len Boot.«len»<|Zz0 (pv 1) Zz3) Zz3) (ZL4 (i:=6) scZJ.nd Z<|Or.inr Z)
   (Zz2 (Zd 7<|Zf (Zi K) XR T.n_len Boot.«len»<|Zz0 (ZY3 Z (sc0:=Zb<|top 64) (N0:=["places","ties","lengths","trees","told","ranks","tie","having"]) (N':=["tree","tie"]) (o:=1) (fr:=[6]) ⟨Z,XT,XT,XT,Z,XT⟩ (ZX K<|pv 3) (ZA XU) (λ_ _ _ _=>(Zc 0)) (λ_ _ _ _=>(Zn3<|Zl (Zz414 K) (pv 1) (pv 0) Z)) λ_ _ _ _=>(pv 0)) Zz3)
   (Zz7<|ZK<|ZA1 K YT Y0e Y0d ZY (pv 4)<|Zz0 (Zn Zs (Zn Zs (Zn Zs ZL1<|Zh ZT XR T.n_str Boot.«str»<|Zz0 (pv 6) Zz3) ZL1)<|Zz9 (okZI T) hr T.qZI ZP<|Zz0 (pv 7)<|Zz0 (Zf (Zi K) XR T.n_len Boot.«len»<|Zz0 (pv 3) Zz3) Zz3) Zz3)))
   (Zz7<|Zq<|pv 4))))))),?_⟩
  let(g1,g2,g3,g4):=id hG;let hlx:=hP.1
  let z2:100000<=sizeLine:=XU;let two:2<=sizeLine:=XU
  exists _,Z,_,Z,n,a,xs,ps,Z,hA,hP,hG,h5,h9,λTA ys L H1 s1 hTA hTL hL4 hmem hasc=>?_;show nm ?_;dsimp only;let hyl:=hTL.1
  let hnd:L.Nodup:=ZG6 hasc;let hd:TC n ps L.f:=⟨L,hnd,hmem,Z⟩
  let ld:=Zu1 (i:=L⁻¹) (k:=60) XU B B;exists _,Z,TA,ys,Z,.inl<|SqL.of hTA,ys⁻¹,Z,B,B,_,_,Z,Z,?_,(show 1<=sizeLine by omega),λlA hlA=>?_
  ·rw[hyl];change 6+(nT _).f<=_
   omega
  let et:Str.U "trees "++Str.U (toString ys⁻¹)=Str.U "trees "++nT L⁻¹:=by rw[hyl];rfl
  rw[et];let nl:H lA=none:=s1.free hlA
  let s2:=Zu s1 hlA (o:=.lst<|TL [Str.U "trees "++nT L⁻¹]);let k2:(upd H1 lA<|.lst<|TL [Str.U "trees "++nT L⁻¹]) lA=some (.lst<|TL [Str.U "trees "++nT L⁻¹]):=Zz1
  let w1:=Zz5 (o:=.lst<|TL [Str.U "trees "++nT L⁻¹]) hlA;show nm ?_;dsimp only;change tSeq _ _ _ _ (upd H1 lA<|.lst<|TL [Str.U "trees "++nT L⁻¹]);generalize upd H1 lA (.lst<|TL [Str.U "trees "++nT L⁻¹])=H2 at *;let hTA2:=w1 _ _ hTA
  let hTL2:=hTL.same w1;exists _,Z,Yk _,λe he=>?_;let w2:=Zz5 (o:=.lst []) he
  exists 2,_,TA,e,Z,Z,XU,Zk8 (M:=[]) (SqL.of<|w2 _ _ hTA2) (SqL.of Zz1) (hTL2.same w2) {Z,λi l e=>by simp at e},_,Z,?_;show itd2 (λh0=>?_) (λh0=>?_)
  ·exists _,Z,q lA _ _ {L.f,hd,.inl {by rw[h0];rfl,Z}} (s2.m w2)<|w2 _ _ k2
  change(_:Prop);show Zz714 ?_;let s3:=s2.m w2
  let k3:=w2 _ _ k2;let hTA3:=w2 _ _ hTA2
  let hTL3:=hTL2.same w2;generalize upd H2 e (.lst [])=H3 at *;let hL3:=s3.seq hS
  show⟨_,Z,TA,Z,{_,SqL.of hTA3},ZO1 (K:=K) (a:=TA) (xs:=ys) (λi zs H7=>Same H3 H7/\i<=ys.f/\Bears (RkV H7) zs ((L.G i).L λT=>(sumL ls T,T))) {Same.refl _,Yk _,{Z,λi l e=>by simp at e}} (Zk B)
   (λi zs H7 hi zz=>by let(e,hi2,ey):=zz;show{SqL.of<|e _ _ hTA3,by rw[ey.1,Yy7,Yh];omega}) ?_ ?_⟩
  ·rintro i v zs H7 hi ⟨s7,hil,hR⟩ S hSS;let(T,hTi,tt,rfl,htt):=hTL3.at hi;let hil':i<ys.f:=(Yy1.S hi).1
   let hT:=(hmem T).S (Yy9 hTi);let hms:=isSet_iff.S hT.1
   let htl:=hT.1.len;let htt7:=s7 _ _ htt
   let hL7:=s7.seq hL3;show nm ?_;exists _,Z,tt,Z,{_,SqT.of htt7},ZI6 (K:=K) (a:=tt) (xs:=IL T) (λj ws H8=>H8=H7/\ws=IL ((T.G j).L (lnz ls))/\j<=T.f) {Z,Z,Yk _} (Zk<|by rw[Zz4];omega) (λj ws H8 hj zz=>by let(e,ew,hj2):=zz;show{e▸SqT.of htt7,by rw[ew,Zz4,Yy7,Yh];omega}) ?_ ?_
   ·rintro j v ws H8 hj ⟨rfl,rfl,hjl⟩ S2 hSS2;let(z,rfl,hz):=Zz81 hj;let(z0,z1):=hms.1 z (Yy9 hz);obtain⟨y,hy⟩:∃y,ls[z.i]?=some y:={_,Yy0 B};show nm ?_;exists _,Z,_,Z,b,_,_,.int y,Z,Z,hL7,ZE (n:=z.i) B<|ZJ3 hy,?_;show hSS2 _ _ {Z,?_,(Yy1.S hz).1};let e:lnz ls z=y:=ZS hy
    rw[YN,hz,Yn];change _=IL (_++[lnz ls z])
    rw[e];show(Zl1 _ _).symm
   ·rintro ws H8 ⟨rfl,rfl,_⟩ lB hlB;rw[Zz4,YR];let u8:=Zz5 (o:=.lst<|IL<|T.L<|lnz ls) hlB
    exists lB,_,Z,SqL.of Zz1,_,Z,two,λpa hpa=>?_;let u9:=Zz5 (o:=.tup [.int (T.L<|lnz ls).sum,.ref tt]) hpa
    show hSS _ _ {s7.m<|u8.m u9,hil',?_};rw[YN,hTi,Yn];show(hR.imp λ_ _ h=>(h.same u8).same u9).snoc {pa,tt,Z,Zz1,u9 _ _<|u8 _ _ htt7}
  rintro zs H7 ⟨s7,_,hR⟩ RA hRA;rw[hyl,YR]at hR;let hzl:=hR.1
  rw[Yy7]at hzl;let u8:=Zz5 (o:=.lst zs) hRA
  let hR8:Bears (RkV<|upd H7 RA<|.lst zs) zs (L.L λT=>(sumL ls T,T)):=hR.imp λ_ _ h=>h.same u8;let k8:(upd H7 RA<|.lst zs) RA=some (.lst zs):=Zz1
  let s38:=s7.m u8;generalize upd H7 RA (.lst zs)=H8 at *;clear hR;exists RA,zs,_,RkV H8,Z,SqL.of k8,hR8,λv y hv=>?_,B,λws M hM hMp hMs rl hrl=>?_
  ·let(b,q,e,h1,h2):=hv;exists b,q,e,SqT.of h1,SqT.of h2
  let u9:=Zz5 (o:=.lst ws) hrl;let k9:(upd H8 rl<|.lst ws) rl=some (.lst ws):=Zz1
  let hM9:Bears (RkV<|upd H8 rl<|.lst ws) ws M:=hM.imp λ_ _ h=>h.same u9;let s39:=s38.m u9
  show nm ?_;dsimp only;change tSeq _ _ _ _ (upd H8 rl<|.lst ws);generalize upd H8 rl (.lst ws)=H9 at *;let hMl:M.f=L.f:=by rw[hMp.length_eq,Yy7]
  let hLp:0<L.f:=List.length_pos_iff.X h0;obtain⟨x,hx0⟩:∃x,M[0]?=some x:={_,Yy0 B};let(ex,hU,hm):=Zz011 hG hl hmem hMp hMs hx0;let(v,hv,tp,tr,rfl,q1,q2):=hM9.2 0 x hx0;generalize hxU:x.2=U at *;rw[ex]at q1;let hT:=((Zh7 hG hl).S hU).1
  let us:=isSet_iff.S hT.1;let ul:=hT.1.len
  let tU:Told U:=λz hz=>by let(a0,a1):=us.1 z hz;omega
  let big:=Yz8 hTd U;let big2:U.f*10^60<=30*10^60:=Nat.mul_le_mul_right _ B
  let ll:=Zu1 (i:=sumL ls U) (k:=65) XU B B;let lt:=ZP3 (l:=U) B tU
  let k39:=s39 _ _ k3;let at0:atI ws 0=some ↑tp:=ZE (n:=0) Z hv
  let l9:∀a b:Str,(a++b).f=a.f+b.f:=Zd13;exists _,Z,.inl {Z,_,SqL.of k39},_,Z,rl,_,0,.ref tp,Z,Z,SqL.of k9,at0,tp,_,0,.int<|sumL ls U,Z,Z,SqT.of q1,Z,_,Z,B,B,_,_,Z,Z,?_,_,_,Z,Z,?_,_,Z,rl,_,0,.ref tp,Z,Z,SqL.of k9,at0,tp,_,1,.ref tr,Z,Z,SqT.of q1,Z,tr,U,Z,q2,B,tU,λHA sA=>?_
  ·show 9+(nT _).f<=_;omega
  ·rw[l9];change 9+(nT _).f+2<=_
   omega
  let kA:=sA _ _ k39;exists _,_,Z,Z,?_,lA,_,_,Z,Z,kA,(show 1<sizeLine by omega),?_
  ·rw[l9,l9];change 9+(nT _).f+2+_<=_
   omega
  let s1A:Same H1 HA:=w1.m (w2.m<|s39.m sA);let ec:Str.U "cheapest "++Str.U (toString<|sumL ls U)++Str.U ": "++ZP5 U=Str.U "cheapest "++lenT (sumL ls U) U:=by unfold lenT nT;rw[Yy42,Yy42,Yy42]
  rw[ec];generalize htc:Str.U "cheapest "++lenT (sumL ls U) U=tc at *;let s1B:Same H1 (upd HA lA<|.lst<|TL [Str.U "trees "++nT L⁻¹]++[V.str tc]):=Zp hlA s1A
  let kB:(upd HA lA<|.lst<|TL [Str.U "trees "++nT L⁻¹]++[V.str tc]) lA=some (.lst<|TL [Str.U "trees "++nT L⁻¹,tc]):=Zz1;generalize upd HA lA (.lst<|TL [Str.U "trees "++nT L⁻¹]++[V.str tc])=HB at *;exists _,Z,a,xs,Z,.inl<|(s1.m s1B).seq hA,_,Z,B,B,Zz11 (lo:=0) (n:=(xs.f:Int).i) (λi σ HC=>∃v6 v7:Option V,σ=[some (.int n),some<|.ref a,some<|.ref b,some<|.ref TA,some<|.ref lA,some<|.ref rl,v6,v7]/\Same H1 HC/\∃fr:List (Int×Int),fr.f=i/\(∀(j:Nat)(f:Int×Int),fr[j]?=some f->∃c:Nat,PC n ps [(j:Int)] [] c/\LowF c L.f f.1 f.2)/\HC lA=some (.lst<|TL<|(Str.U "trees "++nT L⁻¹)::tc::(fr.zipIdx.L λx=>Str.U "tie "++nT (x.2:Int)++Str.U ": "++Zg9 x.1.1 x.1.2))) {none,none,Z,s1B,[],Z,(λj f h=>by cases h),kB} ?_ ?_
  ·rintro i σ HC hi ⟨v6,v7,rfl,sC,fr,e1,e2,kC⟩;let hi':i<ps.f:=B
   show nm ?_;dsimp only;let hTLC:=hTL.same sC
   exists _,Z,TA,Z,{_,SqL.of<|sC _ _ hTA},ZO1 (K:=K) (a:=TA) (xs:=ys) (λj zs H8=>H8=HC/\j<=ys.f/\zs.f=((L.G j).filter λT=>decide<|(i:Int)∈T).f) {Z,Yk _,Z} (Zk B) (λj zs H8 hj zz=>by let(e,hj2,ez):=zz;show{e▸SqL.of (sC _ _ hTA),by rw[ez];have:=Y0T (λT=>decide<|(i:Int)∈T) (L.G j);rw[Yh]at this;omega}) ?_ ?_
   ·rintro j v zs H8 hj ⟨rfl,hjl,hz⟩ S hSS;let(T,hTj,tt,rfl,htt):=hTLC.at hj;let hjl':j<ys.f:=(Yy1.S hj).1
    show nm ?_;exists _,Z,_,Z,tt,_,Z,.inr<|SqT.of htt,Z,Zz55 _,_,Z,?_;rw[ZN6,Y1i];show itd2 (λh=>?_) (λh=>?_)
    ·exists _,Z,hSS _ _ {Z,hjl',?_};rw[YN,hTj,Y0E,Yy3,Yy3,hz];change _+1=_+(List.filter _ [T]).f
     rw[Y2E (by simpa using h)];rfl
    ·show hSS _ _ {Z,hjl',?_};rw[YN,hTj,Y0E,Yy3,hz];change _=_+(List.filter _ [T]).f
     rw[Y2F (by simpa using h)];rfl
   rintro zs H8 ⟨rfl,_,hz⟩ zA hzA;rw[hyl,YR]at hz;let hpc:PC n ps [(i:Int)] [] zs.f:=⟨L.filter λT=>decide<|(i:Int)∈T,hnd.filter _,λT=>by
    rw[Ym,hmem,Y3d];constructor
    ·rintro⟨r1,r2⟩;exists r1,λz hz=>by rw[Yy2.S hz];show r2,λz hz=>(by cases hz)
    ·rintro⟨r1,r2,_⟩;show{r1,r2 _<|Yy2.X Z},hz.symm⟩
   let cl:=Zz014 hpc hd;let y1:=Zz5 (o:=.lst zs) hzA
   let li:=Zu1 (i:=(i:Int)) (k:=60) XU B B;exists zA,zs,Z,.inl<|SqL.of Zz1,?_;show nm ?_;dsimp only;let sD:=sC.m y1
   let kD:=y1 _ _ kC;let hTAD:=y1 _ _ (sC _ _ hTA)
   generalize upd H8 zA (.lst zs)=HD at *;exists _,Z,.inl {Z,_,SqL.of kD},_,Z,_,Z,B,B,_,_,Z,Z,?_,_,_,Z,Z,?_,_,Z,_,Z,TA,ys,Z,.inl<|SqL.of hTAD,zs.f,L.f,?_,hLp,cl,B,λp q' HE hlow sE=>?_
   ·rw[Y1i];change 4+(nT _).f<=_
    omega
   ·rw[l9,Y1i];change 4+(nT _).f+2<=_
    omega
   ·rw[hyl];rfl
   let(b1,b2):=ZD6 (W:=L⁻¹) B hlow;let q0:=hlow.1
   let lp:=Zu1 (i:=p) (k:=60) XU B B;let lq:=Zu1 (i:=q') (k:=60) XU B B
   let kE:=sE _ _ kD;exists _,_,Z,Z,?_,lA,_,_,Z,Z,kE,?_,?_
   ·unfold Zg9;rw[l9,l9,l9,l9,Y1i];change 4+(nT _).f+2+(_+1+_)<=_
    omega
   ·rw[Zz92,Yu,Yu,Yy7,List.length_zipIdx,e1];omega
   exists _,_,Z,Zp hlA<|sD.m sE,fr++[(p,q')],by rw[Yy3,e1];rfl,λj f hf=>?_,?_
   ·by_cases hj:j<fr.f
    ·rw[Yp hj]at hf;show e2 j f hf
    ·rw[Yj B]at hf;let hj2:j-fr.f=0:=by
      have:=(Yy1.S hf).1
      simp at this;omega
     rw[hj2]at hf;let rfl:=Yl hf;let rfl:j=i:=B;exists _,hpc,hlow
   ·rw[Zz1,List.zipIdx_append,Yn,e1,Y0n,Y1i];show YI some (YI HO.lst<|Zx4 _ _)
  ·rintro σ HC ⟨v6,v7,rfl,sC,fr,e1,e2,kC⟩;rw[YB,hlx]at e1;exists _,Z,q lA _ _ {L.f,hd,.inr {hLp,U,fr,hU,hm,e1,e2,by rw[htc]}} (s1.m sC) kC
inductive spZK(K:PySem.W.Q)(C:Addr)(vs:List V)(H:Hp)(Q:VK)(_:XK):Prop
 |mk (w a:Addr) (n:Int) (ps:List (Int×Int)) (ls:List Int) (_:vs=[.ref w,.ref a]) (_:WebAt C H w n ps) (_:ZM n ps) (_:SqL K H a (IL ls)) (_:Told ls) (_:ls.f≠ps.f) (_:∀H':Hp,Q (.bl true) H')
def scZK:FnScope ["web","lengths","kinds","e"] ["web","lengths"] (Zb (top 65)):=ZE4 XT
def okZK(T:Txt K mg t):OkQ P w base CX0 T.qZK 10 (spZK K t.A_Web):=by
 show T.qZK.okI ["web","lengths","kinds","e"] XT λcdv A outer s H vs Q E hr h=>?_
 ·let(w,a,n,ps,ls,rfl,hW,hG,hA,hT,hne,q):=h;show⟨_,(Zz2 (Zd 2<|Zs1 Zz3)
   (Zz2 (ZS13 (i:=3) Z Z Z scZK.nd Z Z T.c_WebError Z (λR _=>(Zz7<|ZK<|Zk10 (okZy T) (hr.mono XU) Z T.qZy.mm T.qZy.fn.kp T.qZy.bi .nil pxT<|Zz0 (pv 0)<|Zz0 (pv 1) Zz3)) λe C oe _ hoe=>(Zz7<|Zd 2<|Zs1<|Zz0 (Zf (Zz93 K (Yy _<|Yy2.X Z) hoe) XR T.n_isinstance Boot.«isinstance»<|Zz0 (pv 3)<|Zz0 (ZM4 (v:=V.ref t.A_BadRow) Z T.c_BadRow Z) Zz3)<|Zz0 (Zf (Zz93 K (Yy _<|Yy2.X Z) hoe) XR T.n_isinstance Boot.«isinstance»<|Zz0 (pv 3)<|Zz0 (ZO8 (v:=V.ty "ValueError") Z T.n_ValueError Boot.«ValueError» Z) Zz3)<|Zz0 (Zf (Zz93 K (Yy _<|Yy2.X Z) hoe) XR T.n_isinstance Boot.«isinstance»<|Zz0 (pv 3)<|Zz0 (ZM4 (v:=V.ref t.A_BadText) Z T.c_BadText Z) Zz3) Zz3))
   (Zz7<|Zq<|Zn6 (Zs6 K<|hu8 hr) (pv 2) (Zs1<|Zz0 Zu11<|Zz0 Zu11<|Zz0 Zu11 Zz3)<|Zz _))),?_⟩
  let three:3<=sizeLine:=XU;exists Yk _,λkl hkl=>?_;let s0:=Zz5 (o:=.lst []) hkl
  exists _,Z,_,Z,w,a,n,ps,ls,Z,hW.same s0,hG,s0.seq hA,hT,λh=>absurd h hne,λ_ H1 s1=>{_,Z,T.em_BadRow,λe he=>?_};exists _,Z,_,_,_,Z,λz h=>h,T.x_BadRow,ZK6,_,Z,_,_,_,Z,λz h=>h,T.x_BadRow,T.ki_BadRow_ValueError,_,Z,_,_,_,Z,λz h=>h,T.x_BadRow,T.ki_BadRow_BadText,three,λkk hkk=>?_;exists _,Z,three,λe1 he1=>{1,decide<|([true,true,false]:List Bool)=[true,true,false],kk,e1,Z,Z,XU,Zl8 (bs:=[true,true,false]) (cs:=[true,true,false]) (SqL.of<|Zz5 he1 _ _ Zz1)<|SqL.of Zz1,?_};show q _
inductive spZL(K:PySem.W.Q)(vs:List V)(H:Hp)(Q:VK)(_:XK):Prop
 |mk (a:Addr) (ns:List Int) (_:vs=[.ref a]) (_:SqL K H a (IL ns)) (_:ns.f<=63) (_:∀H',Q (.bl true) H')
def okZL(T:Txt K mg t):OkQ P w base CX0 T.qZL 11 (spZL K):=by
 show T.qZL.okI ["script","places","ties","web","lengths","due","turn","handed","found"] XT λcdv A outer s H vs Q E hr h=>?_
 ·let(a,ns,rfl,hS,hn,k):=h;show⟨_,(Zz2 (ZE5 (Zz9 (okZD T) hr T.qZD ZP<|Zz0 (pv 0)<|Zz0 Zz8<|Zz0 Zz8 Zz3)<|ZE1 (n:=2) K Z<|Zx (Zc 1)<|Zx (Zc 2) ZD1)
   (Zz2 (Zd 3<|Zl6 T.k_Web (okZ9 T) (hr.mono XU) Z T.c_Web T.bZ9 .nil ZP<|Zz0 (pv 1)<|Zz0 (pv 2) Zz3)
   (Zz2 (Zd 4<|Zz9 (okZG T) hr T.qZG ZP<|Zz0 (pv 0)<|Zz0 (Zf (Zi K) XR T.n_len Boot.«len»<|Zz0 (pv 2) Zz3) Zz3)
   (Zz2 (Zd 5<|Zz9 (okZJ T) hr T.qZJ ZP<|Zz0 (pv 1)<|Zz0 (pv 2)<|Zz0 (pv 4) Zz3)
   (Zz2 (Zz31 QP Z (ZR Z T.n_range<|Zz0 Zz8 Zz3) (Zc 6)
   (Zz2 (Zd 7<|Zh (ZW K) XR T.n_list Boot.«list»<|Zz0 (pv 4) Zz3)
   (Zz2 (Zd 8<|Zz9 (okZy T) hr T.qZy Zz114<|Zz0 (pv 3)<|Zz0 (pv 7) Zz3)
   (Zz2 (ZJ1 (PW.pt<|Zj13 (ZD5<|Zg6<|Zf (Zr8 K (T:="list")) XR T.n_isinstance Boot.«isinstance»<|Zz0 (pv 8)<|Zz0 (ZO8 (v:=V.ty "list") Z T.n_list Boot.«list» Z) Zz3)<|Zj13 (Zl (Zp6 K<|hu8 hr) (pv 8) (pv 5)<|Zz _)<|Zz810<|Zl (Zp6 K<|hu8 hr) (pv 7) (pv 4)<|Zz _)
   (Zz7<|Zq Zu11)
   Zv)
   (Zz7<|ZK<|ZN8 K YT PySem.F.slot_list_clear PySem.F.type_list_clear Zs10<|pv 8)))))
   (Zz7<|Zq<|Zz9 (okZK T) hr T.qZK ZP<|Zz0 (pv 3)<|Zz0 (Zn ZT7 (pv 4)<|Zs1<|Zz0 Zz8 Zz3) Zz3)))))),?_⟩
  exists _,Z,a,ns,5,9,Z,hS,hn,XU,XU,XU,XU,λr l n xs ps H1 s1 hr1 hl0 hl1 hP hG hnm hcc=>?_;exists r,_,Z,SqT.of hr1,Z,_,_,Z,_,_,Z,Z,?_;let one:1<=sizeLine:=XU
  exists _,Z,_,Z,λx dx nx ndx nex=>?_;let s2:Same H1 (upd (upd H1 dx<|.own x) x<|.ins t.A_Web dx []):=Zu (Zz5 ndx) (by rwa[Ze (Y0f nex)])
  exists x,dx,n,l,false,xs,ps,Z,Zz1,λo=>?_,hP.same s2,hG,λH2 hW k2=>{Z,?_}
  ·show SqL.of (by rwa[Ze (Za hl1 nx),Ze<|Za hl1 nx,Ze (Za hl1 ndx)])
  let s3:Same H1 H2:=λb o e=>k2 b o (s2 b o e) (Za e nx);let hl2:=s3 _ _ hl1
  let hS2:=(s1.m s3).seq hS;let hps:xs.f=ps.f:=hP.1
  let(g1,g2,g3,g4):=id hG;exists _,Z,_,Z,l,xs,Z,.inl<|SqL.of hl2,a,ns,xs.f,Z,hS2,hn,B,λb ls H3 s4 _ hb hll hTl=>?_;let hl:ls.f=ps.f:=B
  show nm ?_;dsimp only;let hl3:=s4 _ _ hl2
  exists _,Z,_,Z,_,Z,n,l,b,xs,ps,ls,Z,SqL.of hl3,hP.same<|s3.m s4,hG,hnm,B,SqL.of hb,hl,hTl,λdA txt H4 hrep s5 hdA=>?_;show nm ?_;dsimp only;let hW4:=(hW.same s4).same s5
  let hb4:=s5 _ _ hb;exists 2,Z,XU,XU,Zz11 (lo:=0) (n:=2) (λi σ H5=>∃(v6 v7 v8:Option V),σ=[some ↑a,some<|.int n,some<|.ref l,some<|.ref x,some<|.ref b,some<|.ref dA,v6,v7,v8]/\Same H4 H5) {none,none,none,Z,Same.refl _} ?_ ?_
  ·rintro i σ H5 hi ⟨v6,v7,v8,rfl,s6⟩;show nm ?_;dsimp only;exists _,Z,b,_,Z,.inl<|SqL.of<|s6 _ _ hb4,λhA hhA=>?_;let t1:=Zz5 (o:=.lst<|IL ls) hhA
   let k1:(upd H5 hA<|.lst<|IL ls) hA=some (.lst<|IL ls):=Zz1;show nm ?_;dsimp only;let s7:=s6.m t1
   change tSeq _ _ _ _ (upd H5 hA<|.lst<|IL ls);generalize upd H5 hA (.lst<|IL ls)=H6 at *;exists _,Z,_,Z,x,hA,n,ps,ls,Z,hW4.same s7,hG,SqL.of k1,hTl,λ_ fA txt2 H7 hrep2 s8 hf0 hf7=>?_,λh=>absurd hl h;let rfl:=hrep2.uniq hrep;show nm ?_;dsimp only;let s9:=s7.m s8
   exists _,Z,_,_,_,Z,TyOf.lst hf7,ZK6,_,Z,?_;show iteF ?_;exists _,Z,_,Z,1,_,fA,dA,Z,Z,XU,Zz411 (SqL.of hf7)<|SqL.of<|s9 _ _ hdA,_,Z,?_;show itn Z ?_;exists _,Z,_,Z,1,_,hA,b,Z,Z,XU,Zz67 (SqL.of<|s8 _ _ k1)<|SqL.of<|s9 _ _ hb4,_,Z,?_;show itn Z ?_;change(_:Prop)
   show Zz714 ?_;exists _,Z,.inl {Z,_,SqL.of hf7},fA,_,Z,Z,hf7,?_;exists _,_,_,Z,Zp (s7.free hf0) s9
  ·rintro σ H5 ⟨v6,v7,v8,rfl,s6⟩;exists _,Z,_,Z,one,λz0 hz0=>?_;let t1:=Zz5 (o:=.lst<|IL [0]) hz0
   let z9:100<=sizeLine:=XU;exists b,z0,IL ls,IL [0],Z,Z,t1 _ _<|s6 _ _ hb4,Zz1,?_,λcA hcA=>?_
   ·rw[Zz4];change _+1<=_
    omega
   let ec:IL ls++IL [0]=IL (ls++[0]):=(Yn ..).symm;rw[ec];let t2:=Zz5 (o:=.lst<|IL<|ls++[0]) hcA
   exists x,cA,n,ps,ls++[0],Z,hW4.same<|s6.m<|t1.m t2,hG,SqL.of Zz1,λz hz=>?_,?_,λH'=>k H'
   ·rcases Yb.S hz with q|q
    ·show hTl z q
    ·rw[Yy2.S q];exists XU,XU
   ·rw[Yy3];change ls.f+1≠_
    omega
end
end My
namespace My
open PySem L2
def law_binds{K:PySem.W.Q}{f:Addr}{fd:FuncData}(F:Fun K "law" "law" sZL f fd)(s:Shared)(u:Value):BindsTo s fd {[u],[]} [("script",u)]:=by let(oc,od,kV,doc,pm,an,cdv,ct,osl,rfl,lk,hcd):=F.ex;show .of_eq rfl
end My
end
open PySem PySem.W PyProof.Rows
set_option maxRecDepth 100000 in
set_option maxHeartbeats 0 in
theorem PySem.Challenge.cw_spanrow_k89_reports_holds : PySem.Challenge.rw_spanrow_k89_reports.Holds := by
 w_on;o_law;k_head;(case hw=>w_witness2)
 k_fill
 refine L2.walk_ofK (l:=PySem.Challenge.rw_spanrow_k89_reports) (n:=63) (k:=11) (x:="script") (CX:=L2.CX0) (sp:=My.spZL) rfl (by decide) rfl ⟨rfl,by decide,by decide⟩ (λw h Y=>PySem.W.kIn_of Y) ?F (λ_ H a ns hl _ hS=>⟨a,ns,rfl,hS,hl,λ_=>rfl⟩) (λ_ _ _ _ z=>z)
 case F =>
  intro w mg fa h KX G hmg
  let f x n:=My.FQ (L2.KOf KX) mg x (My.top n)
  obtain⟨⟨aZ0,dZ0,qZ0⟩,⟨aZ1,dZ1,qZ1⟩,⟨aZ2,dZ2,qZ2⟩,⟨aZ3,dZ3,qZ3⟩,⟨aZ4,dZ4,qZ4⟩,⟨aZ5,dZ5,qZ5⟩,⟨aZ6,dZ6,qZ6⟩,⟨aZ7,dZ7,qZ7⟩,⟨aZ8,dZ8,qZ8⟩,⟨aZa,dZa,qZa⟩,⟨aZb,dZb,qZb⟩,⟨aZc,dZc,qZc⟩,⟨aZd,dZd,qZd⟩,⟨aZe,dZe,qZe⟩,⟨aZf,dZf,qZf⟩,⟨aZg,dZg,qZg⟩,⟨aZh,dZh,qZh⟩,⟨aZi,dZi,qZi⟩,⟨aZj,dZj,qZj⟩,⟨aZk,dZk,qZk⟩,⟨aZl,dZl,qZl⟩,⟨aZm,dZm,qZm⟩,⟨aZn,dZn,qZn⟩,⟨aZo,dZo,qZo⟩,⟨aZp,dZp,qZp⟩,⟨aZq,dZq,qZq⟩,⟨aZr,dZr,qZr⟩,⟨aZs,dZs,qZs⟩,⟨aZt,dZt,qZt⟩,⟨aZu,dZu,qZu⟩,⟨aZv,dZv,qZv⟩,⟨aZw,dZw,qZw⟩,⟨aZx,dZx,qZx⟩,⟨aZy,dZy,qZy⟩,⟨aZz,dZz,qZz⟩,⟨aZA,dZA,qZA⟩,⟨aZB,dZB,qZB⟩,⟨aZC,dZC,qZC⟩,⟨aZD,dZD,qZD⟩,⟨aZE,dZE,qZE⟩,⟨aZF,dZF,qZF⟩,⟨aZG,dZG,qZG⟩,⟨aZH,dZH,qZH⟩,⟨aZI,dZI,qZI⟩,⟨aZJ,dZJ,qZJ⟩,⟨aZK,dZK,qZK⟩,⟨aZL,dZL,qZL⟩⟩:f "refuse_not_square" 9 ["table"]/\f "row_taken_off" 10 ["row","pivot","last"]/\f "first_with_some" 11 ["rows"]/\f "determinant" 12 ["table"]/\f "row_without" 13 ["row","number"]/\f "table_without" 14 ["table","number"]/\f "common_divisor" 15 ["one","other"]/\f "fraction" 16 ["top","bottom"]/\f "refuse_bad_web" 21 ["places","ties"]/\f "refuse_bad_row" 23 ["web","numbers"]/\f "is_tie" 22 ["web","number"]/\f "all_ties" 24 ["web"]/\f "is_set" 25 ["web","ties"]/\f "made_set" 26 ["web","ties"]/\f "merged_marks" 27 ["web","marks","ties"]/\f "piece_marks" 28 ["web","ties"]/\f "pieces_of" 29 ["web","ties"]/\f "is_joined" 30 ["web","ties"]/\f "refuse_parted" 31 ["web"]/\f "grown_tree" 38 ["web","inside","order"]/\f "least_tree" 39 ["web"]/\f "cheapest_web" 42 ["web","lengths"]/\f "cheapest_tree" 43 ["web","lengths"]/\f "length_of" 41 ["web","lengths","ties"]/\f "weighted_table" 33 ["web","weights"]/\f "pull_table" 34 ["web"]/\f "tree_count" 35 ["web"]/\f "part_count" 36 ["web","inside","outside"]/\f "share_of" 45 ["web","ties"]/\f "numbers_text" 47 ["numbers"]/\f "ties_text" 48 ["ties"]/\f "fraction_text" 49 ["pair"]/\f "length_text" 50 ["length","tree"]/\f "report" 52 ["web","lengths"]/\f "_law_cell" 54 ["script","k"]/\f "_law_mixed" 55 ["cell","k"]/\f "_law_draws" 56 ["script","start","count","way"]/\f "_law_ties" 57 ["draws","places","hang"]/\f "_law_web" 58 ["script","most","count"]/\f "_law_marks" 59 ["places","ties","some"]/\f "_law_all" 60 ["places","ties"]/\f "_law_lengths" 61 ["script","count"]/\f "_law_tree_text" 62 ["tree"]/\f "_law_share_text" 63 ["top","bottom"]/\f "_law_due" 64 ["places","ties","lengths"]/\f "_law_refused" 65 ["web","lengths"]/\My.FQ (L2.KOf KX) mg "law" My.sZL ["script"]:=by
   dsimp only [L2.KOf,f]
   and_intros
   all_goals (refine' My.fq_mk KX G ?a ?l ?c ?k ?b;(case a | l | c | k=>k_is);(case b=>first | exact λ_ _ _ _ _ _=>My.un1 λ_=>rfl | exact λ_ _ _ _ _ _=>My.un2 λ_ _=>rfl | exact λ_ _ _ _ _ _=>My.un3 λ_ _ _=>rfl | exact λ_ _ _ _ _ _=>My.un4 λ_ _ _ _=>rfl))
  have h_Web:My.CXF (L2.KOf KX) mg "Web" "Web.__init__" My.sZ9 ["places","ties"]:=by
   dsimp only [L2.KOf];refine' My.cx_mk KX G ?aC ?a ?i ?l ?c ?k ?pg ?hd ?po ?sa ?mk ?kc ?na
   (case aC | a | i | l | c | k | pg | hd | po | sa | mk | kc=>k_is)
   (case na=>(intro f hf;simp only [Yf,List.not_mem_nil,or_false]at hf;rcases hf with rfl | rfl <;> k_is))
  have hX:∃ A_WebError A_BadRow A_BadText:Addr,mg "WebError"=some (.ref A_WebError)/\mg "BadRow"=some (.ref A_BadRow)/\mg "BadText"=some (.ref A_BadText)/\L2.XCls (L2.KOf KX) (A_BadRow)/\PySem.W.kitOne (L2.KOf KX) (.ref (A_BadRow)) (.type "ValueError")=some true/\PySem.W.kitOne (L2.KOf KX) (.ref (A_BadRow)) (.ref (A_BadText))=some false/\PySem.W.exmOne (L2.KOf KX) (.ref (A_BadRow)) (.ref (A_WebError))=some true:=by
   dsimp only [L2.KOf];refine' My.xI (My.xI (My.xI (⟨Y2e KX G ?m_WebError,Y2e KX G ?m_BadRow,Y2e KX G ?m_BadText,⟨?x_BadRow_ex,?x_BadRow_ga,?x_BadRow_gh,?x_BadRow_cl,?x_BadRow_ob,?x_BadRow_bx⟩,?ki_BadRow_ValueError,?ki_BadRow_BadText,?em_BadRow⟩)))
   (case m_WebError=>k_is)
   (case m_BadRow=>k_is)
   (case m_BadText=>k_is)
   (case x_BadRow_ex=>k_exc);(case x_BadRow_ga=>k_is);(case x_BadRow_gh=>k_is);(case x_BadRow_cl=>k_is);(case x_BadRow_ob=>k_is);(case x_BadRow_bx=>k_is)
   (case ki_BadRow_ValueError=>kit_is)
   (case ki_BadRow_BadText=>kit_is)
   (case em_BadRow=>kts_exm)
  have h_MOST_PLACES:∃ tk,mg "MOST_PLACES"=some (.int 14 tk):=by
   refine' My.const_mk KX G ?a ?b
   (case a=>k_is);(case b=>exact⟨_,rfl⟩)
  have h_MOST_TIES:∃ tk,mg "MOST_TIES"=some (.int 30 tk):=by
   refine' My.const_mk KX G ?a ?b
   (case a=>k_is);(case b=>exact⟨_,rfl⟩)
  obtain⟨h_ValueError,h_abs,h_enumerate,h_isinstance,h_len,h_list,h_max,h_min,h_range,h_set,h_sorted,h_str,h_sum,h_tuple,h_zip⟩:mg "ValueError"=none/\mg "abs"=none/\mg "enumerate"=none/\mg "isinstance"=none/\mg "len"=none/\mg "list"=none/\mg "max"=none/\mg "min"=none/\mg "range"=none/\mg "set"=none/\mg "sorted"=none/\mg "str"=none/\mg "sum"=none/\mg "tuple"=none/\mg "zip"=none:=by and_intros <;> refine' PySem.W.mg_none_of KX G ?_ <;> k_is
  obtain⟨A_Web,aZ9,dZ9,c_Web,fZ9,cl_Web,k_Web,na_Web⟩:=h_Web;obtain⟨A_WebError,A_BadRow,A_BadText,c_WebError,c_BadRow,c_BadText,x_BadRow,ki_BadRow_ValueError,ki_BadRow_BadText,em_BadRow⟩:=hX;have T:My.Txt (L2.KOf KX) mg ⟨aZ0,aZ1,aZ2,aZ3,aZ4,aZ5,aZ6,aZ7,aZ8,aZ9,aZa,aZb,aZc,aZd,aZe,aZf,aZg,aZh,aZi,aZj,aZk,aZl,aZm,aZn,aZo,aZp,aZq,aZr,aZs,aZt,aZu,aZv,aZw,aZx,aZy,aZz,aZA,aZB,aZC,aZD,aZE,aZF,aZG,aZH,aZI,aZJ,aZK,aZL,A_Web,A_WebError,A_BadRow,A_BadText,dZ0,dZ1,dZ2,dZ3,dZ4,dZ5,dZ6,dZ7,dZ8,dZ9,dZa,dZb,dZc,dZd,dZe,dZf,dZg,dZh,dZi,dZj,dZk,dZl,dZm,dZn,dZo,dZp,dZq,dZr,dZs,dZt,dZu,dZv,dZw,dZx,dZy,dZz,dZA,dZB,dZC,dZD,dZE,dZF,dZG,dZH,dZI,dZJ,dZK,dZL⟩:=⟨⟨⟨⟨⟨⟨⟨qZ0,qZ1⟩,qZ2⟩,⟨qZ3,qZ4⟩⟩,⟨⟨⟨qZ5,qZ6⟩,qZ7⟩,⟨qZ8,fZ9⟩⟩⟩,⟨⟨⟨⟨fZ9.binds (λ_ _ _ _ _ _=>My.un3 λ_ _ _=>rfl),qZa⟩,qZb⟩,⟨qZc,qZd⟩⟩,⟨⟨⟨qZe,qZf⟩,qZg⟩,⟨qZh,qZi⟩⟩⟩⟩,⟨⟨⟨⟨⟨qZj,qZk⟩,qZl⟩,⟨qZm,qZn⟩⟩,⟨⟨⟨qZo,qZp⟩,qZq⟩,⟨qZr,qZs⟩⟩⟩,⟨⟨⟨⟨qZt,qZu⟩,qZv⟩,⟨qZw,qZx⟩⟩,⟨⟨qZy,qZz⟩,⟨qZA,qZB⟩⟩⟩⟩⟩,⟨⟨⟨⟨⟨⟨qZC,qZD⟩,qZE⟩,⟨qZF,qZG⟩⟩,⟨⟨⟨qZH,qZI⟩,qZJ⟩,⟨qZK,qZL⟩⟩⟩,⟨⟨⟨⟨c_Web,cl_Web⟩,k_Web⟩,⟨na_Web _ (by simp),na_Web _ (by simp)⟩⟩,⟨⟨⟨c_WebError,c_BadRow⟩,c_BadText⟩,⟨x_BadRow,ki_BadRow_ValueError⟩⟩⟩⟩,⟨⟨⟨⟨⟨ki_BadRow_BadText,em_BadRow⟩,h_MOST_PLACES⟩,⟨h_MOST_TIES,h_ValueError⟩⟩,⟨⟨⟨h_abs,h_enumerate⟩,h_isinstance⟩,⟨h_len,h_list⟩⟩⟩,⟨⟨⟨⟨h_max,h_min⟩,h_range⟩,⟨h_set,h_sorted⟩⟩,⟨⟨h_str,h_sum⟩,⟨h_tuple,h_zip⟩⟩⟩⟩⟩⟩
  have e0:=hmg.symm.trans qZL.mm;cases e0;exact⟨dZL,λs u=>My.law_binds qZL.fn s u,λbase _ _=>My.okZL T⟩
#print axioms PySem.Challenge.cw_spanrow_k89_reports_holds
