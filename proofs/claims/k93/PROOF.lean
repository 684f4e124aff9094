import PyProof.Rows.All
import Wide.All
import OpenK.AllK
import Wide.FinOn
import Lean
import PyProof.EqAt
import PyProof.EqKinds
import PyProof.TupleCall
import PySem.Challenge.RW_spanrow_k93_whole_shares_and_counts
set_option Elab.async false
set_option linter.all false
set_option maxRecDepth 100000
namespace PySem.W.Fast
def tw11062794254695120699:=0
def tw13417040322041998983:=0
def tw12732304729022490411:=0
def tw13851308936675303074:=0
def tw12711069882694690252:=0
def tw843229058110084611:=0
def tw1164586568723440985:=0
def tw1281844198141531281:=0
def tw8756964812268744925:=0
def tw15456019528011570518:=0
def tw12075200208464079957:=0
def tw17150133729196341547:=0
def tw9810181792590840434:=0
def tw11602952975697377245:=0
def tw14506832172183457800:=0
def tw11961277108503495321:=0
def tw6262862940748016209:=0
def tw2501569564177475180:=0
def tw16485874946224381341:=0
def tw4369811054168842401:=0
def tw10215745365874027841:=0
def tw7945874603179384059:=0
def tw966739921090882403:=0
def tw18188907781693396227:=0
def tw12212688282271720336:=0
def tw13993448421246498257:=0
def tw7691619356809252016:=0
def tw15853535017290587823:=0
def tw18286362072062601441:=0
def tw4959708720478784467:=0
def tw18360224041546853039:=0
def tw3318253289559584195:=0
def tw16440732320191223735:=0
def tw6513616369463676832:=0
def tw12310366176712468279:=0
def tw2841054730626898321:=0
def tw10314490055379821143:=0
def tw3863320482853178823:=0
def tw3739774272027243891:=0
def tw2916648559982376785:=0
def tw11645458506167784276:=0
def tw9920623194085469650:=0
def tw18281376899378385392:=0
def tw3062970555602186912:=0
def tw10675044162386978206:=0
def tw11845393271296387813:=0
def tw7041864673373043874:=0
def tw2199720957400967527:=0
def tw8203487602049677891:=0
def tw974888866967830440:=0
def tw13522999468977750750:=0
def tw7683781303138070058:=0
def tw8489274662454247500:=0
def tw8000125397837136453:=0
def tw1479840546326831371:=0
def tw14303970940914340163:=0
def tw7593554594518713074:=0
def tw12468131164436976057:=0
def tw4081573168483055737:=0
def tw2043812502145266376:=0
def tw10811617593796048903:=0
def tw14565708524305546498:=0
def tw16043875128569891954:=0
def tw15113042295628311118:=0
def tw8104524797514315509:=0
def tw11203976903160918629:=0
def tw13988741205642392083:=0
def tw5846584441256804693:=0
def tw10910196765901128440:=0
def tw13494880725559858802:=0
def tw13398810411905256602:=0
def tw7958166000701181620:=0
def tw17183698081154363760:=0
def tw256655564820969094:=0
def tw66605827564733596:=0
def tw3653746569511085990:=0
def tw904663623998189258:=0
def tw17615679758803436749:=0
def tw8553487029049725110:=0
def tw8407802943952289140:=0
def tw308999477788252332:=0
def tw5254587061519883346:=0
def tw17039508715754555692:=0
def tw4346829305377573563:=0
def tw17231718458059737871:=0
def tw13937829604748386451:=0
def tw5722452093525199311:=0
def tw8357943972492510503:=0
def tw9872816649815702596:=0
def tw4021135565089251503:=0
def tw12557902838380820936:=0
def tw11889467744840703147:=0
def tw4228202856922878496:=0
def tw10559409458877349040:=0
def tw5237780679193875000:=0
def tw12015259177395801490:=0
def tw4916595985931484689:=0
def tw5151147535862451803:=0
def tw2186259032411680348:=0
def tw3528480577844938232:=0
def tw12810242748179361013:=0
def tw16994831093607662569:=0
def tw18365036115898002264:=0
def tw12517694534689799637:=0
def tw9161456981240304794:=0
def tw4329273719868973591:=0
def tw16315627022577159059:=0
def tw531252389694505318:=0
def tw14965594373913713542:=0
def tw5776713326919682488:=0
def tw9848099646916277976:=0
def tw9428158501798322027:=0
def tw6953969306785303108:=0
def tw8598529305453047329:=0
def tw10089424607948593340:=0
def tw4599461964771614563:=0
def tw16576226692064195330:=0
def tw3458517346810214170:=0
def tw1638433236333652524:=0
def tw9169918308254673391:=0
def tw8940662004216493126:=0
def tw5672927988551649912:=0
def tw6363107895004058730:=0
def tw4108712998925561958:=0
def tw4980024565666822923:=0
def tw16687112861764914312:=0
def tw11913364102651121621:=0
def tw8980580194735791724:=0
def tw13197122925178915193:=0
def tw271588573701429614:=0
def tw2567888021963280563:=0
def tw12481445616326318082:=0
def tw3698015016221646348:=0
def tw5036898642312115698:=0
def tw8023269494003200084:=0
def tw4229992135294230311:=0
def tw11377179956700536330:=0
def tw984630584111212248:=0
def tw9765284514543797008:=0
def tw8245206305142433115:=0
def tw7893286761607080634:=0
def tw14540413744852550769:=0
def tw13334319149480085919:=0
def tw18206450577307815065:=0
def tw7565458197570445707:=0
def tw11231135483873757047:=0
def tw8572580977627732328:=0
def tw8077666943896306082:=0
def tw8262538890980662195:=0
def tw7254853279195031565:=0
def tw5633305012103304947:=0
def tw13673036832352805356:=0
def tw11920368772294761015:=0
def tw10491837352787840940:=0
def tw8041711989672883749:=0
def tw2996588164621313426:=0
def tw14947744912309320092:=0
def tw12617011351768520442:=0
def tw12171861674598034968:=0
def tw17922495009092735660:=0
def tw12645123191322719889:=0
def tw16164583700715313826:=0
def tw3790606513084866590:=0
def tw13758335311155580514:=0
def tw1979654640948960302:=0
def tw16055882247719655241:=0
def tw5692955325830842262:=0
def tw3930264038032907922:=0
def tw14059957766996084311:=0
def tw13653229690973285954:=0
def tw10070809860379370739:=0
def tw8013165317284641874:=0
def tw14920906361127358556:=0
def tw13483444311245372756:=0
def tw8550222691654189460:=0
def tw9412858972748312090:=0
def tw1783776149397154886:=0
def tw16458855513567057286:=0
def tw1432413596288071420:=0
def tw2078976805342261132:=0
def tw8437936726135328154:=0
def tw8031880447984056763:=0
def tw10142832277093985496:=0
def tw9169364806837157427:=0
def tw8684525283027296742:=0
def tw9920866660276618681:=0
def tw6254146124984797161:=0
def tw12841511202917265237:=0
def tw18071454846034631637:=0
def tw17051432750323864680:=0
def tw12444280384250177331:=0
def tw6833358310012182131:=0
def tw10482890895230392190:=0
def tw8736667501123138438:=0
def tw8765987595524402560:=0
def tw1404449048925083723:=0
def tw4534335737432450562:=0
def tw2914072080773229546:=0
def tw16433955543627181741:=0
def tw11447689803918365415:=0
def tw1699319204136561351:=0
def tw1215617768615851874:=0
def tw2737567728601641378:=0
def tw10743118376964858561:=0
def tw4317195403898486755:=0
def tw17537361382370400937:=0
def tw11306700445318263020:=0
def tw10781061694610111516:=0
def tw12141384682646240597:=0
def tw10885130409253235685:=0
def tw18198176668019731001:=0
def tw17883490106277629708:=0
def tw14456126085283400962:=0
def tw5746264368730261151:=0
def tw5290501933512390090:=0
def tw46826589881368023:=0
def tw2570639664334898637:=0
def tw4096365874336285385:=0
def tw1941830786709713266:=0
def tw5327608306902636064:=0
def tw10410001726431069188:=0
def tw17675981278220140434:=0
def tw17589780802425294779:=0
def tw15167712661015925910:=0
def tw8771075842454321805:=0
def tw4771691472147723654:=0
def tw18017133313861612697:=0
def tw11788058745494857680:=0
def tw11586859662297536527:=0
def tw771871962150814032:=0
def tw16866479116789443920:=0
def tw11946677308283784375:=0
def tw12693795876271373120:=0
def tw10006879570647945340:=0
def tw16011784021991100688:=0
def tw5253841187777301370:=0
def tw4750411585643867863:=0
def tw13675548864720014099:=0
def tw14248180336146418217:=0
def tw11419948911948486642:=0
def tw15434067404796551267:=0
def tw15930543335662272753:=0
def tw8385352510645545297:=0
def tw12024949831121559044:=0
def tw8112830709333724923:=0
def tw5652292159496808428:=0
def tw11071937095668991756:=0
def tw13586233132398032495:=0
def tw1360150920371716292:=0
def tw3459960397777172020:=0
def tw6730871621644495965:=0
def tw3491237702754117038:=0
def tw17131817199379222234:=0
def tw13242334556193411319:=0
def tw16888538405419827154:=0
def tw10546996073291445994:=0
def tw7774902162952809245:=0
def tw6223544933418321650:=0
def tw6329957917668747489:=0
def tw1284395909194236096:=0
def tw10246908449636638828:=0
def tw4533252465923457607:=0
def tw163708674723134457:=0
def tw9989647309896471642:=0
def tw8880923686119047413:=0
def tw3998571207468474052:=0
def tw15723411201853871705:=0
def tw14196428860299471747:=0
def tw14117745275404414985:=0
def tw12743591625484121631:=0
def tw12056757605426629825:=0
def tw10397548614870513970:=0
def tw12994741225069403556:=0
def tw3635056043864868437:=0
def tw199542709331352365:=0
def tw8511890262885308465:=0
def tw7951700583876042516:=0
def tw4393814548809781136:=0
def tw16777566126954392826:=0
def tw16361287437766185302:=0
def tw11886507765345608839:=0
def tw8590471486519084925:=0
def tw15895640762839264352:=0
def tw7362084543917691387:=0
def tw1879782056089727525:=0
def tw17406152553723657124:=0
def tw15265339372198039787:=0
def tw845389383888916676:=0
def tw8440581322626476856:=0
def tw7697015021983829889:=0
def tw6384986397421303845:=0
def tw3647039925236361947:=0
def tw2797181583409418785:=0
def tw16255411151456881237:=0
def tw15767084753526942331:=0
def tw14346126404561446537:=0
def tw10697907264671855554:=0
def tw13123262326726812009:=0
def tw8594372177952225261:=0
def tw787958707917785467:=0
def tw6858994639459819015:=0
def tw4906286484143523260:=0
def tw2315592038513854454:=0
def tw17687463223046902226:=0
def tw17396853348024569354:=0
def tw11864256015141695973:=0
def tw11149220211246718317:=0
def tw10338760514954777582:=0
def tw17346399281319897407:=0
def tw9318717707117063292:=0
def tw7721449835634974943:=0
def tw7054889393241036297:=0
def tw4945395943099125386:=0
def tw1813628252164604411:=0
def tw15375579867362529498:=0
def tw12072190345339394974:=0
def tw10279557639104126260:=0
def tw9679136650914490:=0
def tw9502807772065316129:=0
def tw7889024685587056849:=0
def tw6778736657662781679:=0
def tw4432996037266218595:=0
def tw3386098081778240317:=0
def tw18029811530132615092:=0
def tw16464803092942766421:=0
def tw14275859532882086725:=0
def tw10661167055706653425:=0
def tw9817375774483392715:=0
def tw9739008933240298983:=0
def tw9734677372330739357:=0
def tw9607894165540454208:=0
def tw9575846619882348394:=0
def tw9470875309710980710:=0
def tw9241222907790222443:=0
def tw911123372283692104:=0
def tw88009318374702436:=0
def tw8741807664270135916:=0
def tw8731862371125600044:=0
def tw8333170223527177421:=0
def tw8132399801507954384:=0
def tw8022185519976946326:=0
def tw7914568736114619752:=0
def tw7809268592793612998:=0
def tw7808396023813128818:=0
def tw7685734005804038418:=0
def tw7391206356211059261:=0
def tw7304053306315193607:=0
def tw6672159800064851639:=0
def tw6356999285616425443:=0
def tw5823216644764097483:=0
def tw5794188858644760096:=0
def tw5698724478377375441:=0
def tw5566510573430540913:=0
def tw5301914981640371701:=0
def tw5248376603857352474:=0
def tw4992058399215656871:=0
def tw4963866755966269660:=0
def tw4310281296775868199:=0
def tw4225855062625625266:=0
def tw4112354166071490855:=0
def tw3831016523305391149:=0
def tw3041627918813394657:=0
def tw3017342650608660823:=0
def tw3001260895644128855:=0
def tw2725055828531351547:=0
def tw2457504991037600447:=0
def tw2215586619162032879:=0
def tw2044079838005515875:=0
def tw1978881212282759415:=0
def tw1889492360005036494:=0
def tw18325463139367989421:=0
def tw18114262561679385367:=0
def tw18027739199651264174:=0
def tw17976221833516124220:=0
def tw17629468600981959578:=0
def tw17458189946875396913:=0
def tw17095078631810693874:=0
def tw17086652883540119715:=0
def tw16935525562838430078:=0
def tw16847187265258397671:=0
def tw16739504361698030725:=0
def tw167182017952245638:=0
def tw16548547914646704268:=0
def tw16391304305523055715:=0
def tw1629833098579367745:=0
def tw16169102049440438946:=0
def tw16149200418213883742:=0
def tw16081697643409837059:=0
def tw16010602892004736251:=0
def tw15801531269494662721:=0
def tw15598809137544156694:=0
def tw15434638278426932486:=0
def tw1532212759139003260:=0
def tw15240914262270882864:=0
def tw15183951413989931227:=0
def tw15038952030088693151:=0
def tw14868705342552613809:=0
def tw14799364818125482202:=0
def tw14625506110228401847:=0
def tw14214514020357819116:=0
def tw14191203687801504066:=0
def tw14155402831506447205:=0
def tw14058560459926038186:=0
def tw13961711905513970347:=0
def tw13630485879815896712:=0
def tw13461814226286572180:=0
def tw13441868644014018125:=0
def tw13134968622949867391:=0
def tw12890699667387890066:=0
def tw12699423509108150699:=0
def tw12636823866613524902:=0
def tw12569041134558480164:=0
def tw12552844024400513125:=0
def tw12314950334586982714:=0
def tw12115801529891312391:=0
def tw12057749325561874829:=0
def tw11825084598797260783:=0
def tw11675220651410440531:=0
def tw11150589153115459534:=0
def tw11020774925380214859:=0
def tw10968764903539490860:=0
def tw10598207690963159367:=0
def tw10445229158259976530:=0
def tw10439736283000960965:=0
def tw10386371812114092249:=0
def tw10251597774592545482:=0
def tw10092170224507762431:=0
def tw10069967505460998747:=0
def tw10031846126193055729:=0
end PySem.W.Fast
/-! THE HAND LAYER,for ints,bools,texts,own classes,LISTS and tuples (index,slices,in,append,pop ..),calls,loops. Paste it whole ahead of your own text;what your proof does not ζO12 may be deleted. -/
namespace L2
open PySem PySem.Spec PyProof.Rows
abbrev Key:=Sum Int Str
def ζS9:Key->Value->Bool
 | .inl k,v=>Value.isInt k v
 | .inr x,v=>Value.isStrOf x v
def keyH(w:World):Key->Int
 | .inl k=>hashInt k
 | .inr x=>hashStr w x
theorem ζx:∀ {k:Key} {v:Value},ζS9 k v=true->(∃ i t,k=Sum.inl i/\v=Value.int i t)\/(∃ x t,k=Sum.inr x/\v=Value.str x t)
 | .inl i,v,h=>by
  obtain⟨t,e⟩:=Value.isInt_shape (k:=i) (v:=v) h
  exact .inl ⟨i,t,rfl,e⟩
 | .inr x,v,h=>by
  obtain⟨t,e⟩:=Value.isStrOf_shape (x:=x) (v:=v) h
  exact .inr ⟨x,t,rfl,e⟩
theorem ζ47(i:Int)(t:Tok):ζS9 (.inl i) (.int i t)=true:=by simp[ζS9,Value.isInt]
theorem ζ37(x:Str)(t:Tok):ζS9 (.inr x) (.str x t)=true:=by simp[ζS9,Value.isStrOf]
theorem ζw12(a b:Int):decide ((Sum.inl a:Key)=Sum.inl b)=(a == b):=by
 by_cases e:a=b
 ·subst e;simp
 ·have h:¬ (Sum.inl a:Key)=Sum.inl b:=fun q=>e (Sum.inl.inj q)
  rw[decide_eq_false h]
  exact(beq_eq_false_iff_ne.mpr e).symm
theorem ζt12(a b:Str):decide ((Sum.inr a:Key)=Sum.inr b)=decide (a=b):=by
 by_cases e:a=b
 ·subst e;simp
 ·have h:¬ (Sum.inr a:Key)=Sum.inr b:=fun q=>e (Sum.inr.inj q)
  rw[decide_eq_false h,decide_eq_false e]
theorem ζv12(a:Int)(b:Str):decide ((Sum.inl a:Key)=Sum.inr b)=false:=decide_eq_false (fun q=>nomatch q)
theorem ζu12(a:Str)(b:Int):decide ((Sum.inr a:Key)=Sum.inl b)=false:=decide_eq_false (fun q=>nomatch q)
def ζY(prog:Program)(w:World):PySem.KeyKind prog w Key where
 is:=ζS9
 hash:=keyH w
 inj:=fun v a b ha hb=>by
  rcases ζx ha with ⟨i,t,rfl,rfl⟩ | ⟨x,t,rfl,rfl⟩
  ·rcases ζx hb with ⟨j,u,rfl,e⟩ | ⟨y,u,rfl,e⟩
   ·injection e with e1 _;rw[e1]
   ·exact nomatch e
  ·rcases ζx hb with ⟨j,u,rfl,e⟩ | ⟨y,u,rfl,e⟩
   ·exact nomatch e
   ·injection e with e1 _;rw[e1]
 byValue:=fun k v h=>by
  rcases ζx h with ⟨i,t,rfl,rfl⟩ | ⟨x,t,rfl,rfl⟩ <;> rfl
 pyHash:=fun hv h=>by
  rcases ζx hv with ⟨i,t,rfl,rfl⟩ | ⟨x,t,rfl,rfl⟩
  ·exact wpAny_pyHash_int h
  ·exact wpAny_pyHash_str h
 eqBool:=fun hu hv h=>by
  rcases ζx hu with ⟨i,t,rfl,rfl⟩ | ⟨x,t,rfl,rfl⟩
  ·rcases ζx hv with ⟨j,u,rfl,rfl⟩ | ⟨y,u,rfl,rfl⟩
   ·rw[ζw12]at h;exact wpAny_eqBool_int h
   ·rw[ζv12]at h;exact SeqAt.EqAt.int_str i t y u _ _ _ _ h
  ·rcases ζx hv with ⟨j,u,rfl,rfl⟩ | ⟨y,u,rfl,rfl⟩
   ·rw[ζu12]at h;exact SeqAt.EqAt.str_int x t j u _ _ _ _ h
   ·rw[ζt12]at h;exact wpAny_eqBool_str h
 «strs»:=fun k x t v h=>by
  rcases ζx h with ⟨i,u,rfl,e⟩ | ⟨y,u,rfl,e⟩
  ·exact nomatch e
  ·injection e with e1 _
   subst e1
   cases v <;> rfl
theorem ζP4(prog:Program)(w:World)(i:Int)(t:Tok):(ζY prog w).is (.inl i) (.int i t)=true:=ζ47 i t
theorem ζO4(prog:Program)(w:World)(x:Str)(t:Tok):(ζY prog w).is (.inr x) (.str x t)=true:=ζ37 x t
inductive V where
 | non | bl (b:Bool) | int (i:Int) | str (x:Str) | byt (b:Array UInt8) | flt (b:UInt64) | ref (a:Addr) | ty (n:String)
 deriving DecidableEq
def RelV:V->Value->Prop
 | .non,u=>u=Value.none
 | .bl b,u=>u=Value.bool b
 | .int i,u=>∃ t,u=Value.int i t
 | .str x,u=>∃ t,u=Value.str x t
 | .byt b,u=>∃ t,u=Value.bytes b t
 | .flt b,u=>∃ t,u=Value.float b t
 | .ref a,u=>u=Value.ref a
 | .ty n,u=>u=Value.type n
abbrev Vals:List V->List Value->Prop:=Paired RelV
theorem Vals.length{xs:List V}{us:List Value}(r:Vals xs us):xs.length=us.length:=Paired.length r
theorem Vals.get:∀ {xs:List V} {us:List Value} {i:Nat} {x:V},Vals xs us->xs[i]?=some x->∃ u,us[i]?=some u/\RelV x u
 | _,_,_,_,.nil,e=>by simp at e
 | _,_,0,_,.cons r _,e=>by simp at e;subst e;exact⟨_,rfl,r⟩
 | _,_,i+1,x,.cons _ t,e=>by
  obtain⟨u,h1,h2⟩:=Vals.get (i:=i) (x:=x) t (by simpa using e)
  exact⟨u,by simpa using h1,h2⟩
theorem Vals.set{x:V}{u:Value}(r:RelV x u):∀ {xs:List V} {us:List Value} (i:Nat),Vals xs us->Vals (xs.set i x) (us.set i u)
 | _,_,_,.nil=>.nil
 | _,_,0,.cons _ t=>.cons r t
 | _,_,i+1,.cons q t=>.cons q (Vals.set r i t)
theorem Vals.append:∀ {xs ys:List V} {us ws:List Value},Vals xs us->Vals ys ws->Vals (xs++ys) (us++ws)
 | _,_,_,_,.nil,s=>s
 | _,_,_,_,.cons r t,s=>.cons r (Vals.append t s)
theorem Vals.take:∀ {xs:List V} {us:List Value} (n:Nat),Vals xs us->Vals (xs.take n) (us.take n)
 | _,_,0,_=>.nil
 | _,_,_+1,.nil=>.nil
 | _,_,n+1,.cons r t=>.cons r (Vals.take n t)
theorem Vals.drop:∀ {xs:List V} {us:List Value} (n:Nat),Vals xs us->Vals (xs.drop n) (us.drop n)
 | _,_,0,r=>r
 | _,_,_+1,.nil=>.nil
 | _,_,n+1,.cons _ t=>Vals.drop n t
def RelO:Option V->Option Value->Prop
 | some v,some u=>RelV v u
 | none,none=>True
 | _,_=>False
def KV{κ:Type}:List (κ × V)->List (κ × Value)->Prop:=Paired fun(p:κ × V) (q:κ × Value)=>p.1=q.1/\RelV p.2 q.2
def kV:Key->V
 | .inl i=>.int i
 | .inr x=>.str x
inductive HO where
 | lst (xs:List V)
 | tup (xs:List V)
 | dK (kvs:List (Key × V)) | dT (kvs:List (List Key × V))
 | set (S:Int->Bool) (n:Nat)
 | ins (C dx:Addr) (fs:List (Str × V))
 | own (x:Addr)
 | xd (fs:List (Str × V))
 | met (f x:Addr)
 | rng (lo hi:Int)
 | frz (o:Obj) (u:HO)
 | tbl (ps:Array Value)
 | ext (φ:Heap->Prop)
abbrev Hp:=Addr->Option HO
def upd(H:Hp)(a:Addr)(o:HO):Hp:=fun b=>if b=a then some o else H b
theorem ζ1{H:Hp}{a:Addr}{o:HO}:upd H a o a=some o:=by unfold upd;rw[if_pos rfl]
theorem ζ9{H:Hp}{a b:Addr}{o:HO}(h:b≠a):upd H a o b=H b:=by unfold upd;rw[if_neg h]
theorem ζV6{H:Hp}{a b:Addr}{o u:HO}(h:H a=some o)(h':H b=some u)(d:o≠u):a≠b:=by
 intro e;subst e;rw[h]at h';exact d (Option.some.inj h')
theorem ζf{H:Hp}{a b:Addr}{o:HO}(h:H a=some o)(h':H b=none):a≠b:=by
 intro e;subst e;rw[h]at h';cases h'
section
variable(P:Program)(w:World)
def ObjOk(H:Hp)(h:Heap)(a:Addr):HO->Prop
 | .lst xs=>xs.length<=sizeLine/\∃(its:List Value) (n:Nat),Vals xs its/\h.get? a=some { cls:=.type "list",data:=.seq its.toArray n }
 | .tup xs=>xs.length<=sizeLine/\∃ its:List Value,Vals xs its/\IsTup h a its.toArray
 | .dK kvs=>kvs.length<=sizeLine/\(a == sysModules)=false/\∃ vs,KV kvs vs/\h.DictOf (ζY P w) a vs
 | .dT kvs=>kvs.length<=sizeLine/\(a == sysModules)=false/\∃ xs:List (List Key × Addr × Value),
   Paired (fun(p:List Key × V) (q:List Key × Addr × Value)=>p.1=q.1/\H q.2.1=some (.tup (p.1.map kV))/\RelV p.2 q.2.2) kvs xs /\
   ∃ o es ep,h.get? a=some o/\o.ExactDict/\o.data=.dict es ep/\es.toList=xs.map (entryOfKey (tupleKind (ζY P w)))/\(xs.map (·.1)).Nodup
 | .set S n=>h.SetOf (intKind P w) a S n
 | .ins C dx fs=>H dx=some (.own a)/\fs.length<=1000/\dx≠a/\h.get? a=some (PySem.W.instObj C dx) /\
   ∃ mA,h.Ns1 dx mA/\(∀ f,RelO (fs.lookup f) (mA f))/\PySem.Within mA (fs.map (·.1))
 | .own _=>∃ o,h.get? a=some o
 | .xd fs=>∃ mA,h.Ns1 a mA/\∀ f,RelO (fs.lookup f) (mA f)
 | .rng lo hi=>∃ t u v,h.get? a=some { cls:=.type "range",data:=.fields #[.int lo t,.int hi u,.int 1 v] }
 | .frz o u=>h.get? a=some o/\ObjOk H h a u
 | .tbl ps=>h.get? a=some { cls:=.none,data:=.fields ps }
 | .met f x=>h.get? a=some (PySem.W.methodObj (.ref f) (.ref x))
 | .ext φ=>φ h/\(∃ o,h.get? a=some o)/\∀ h1 h2:Heap,φ h1->(∀ o,h1.get? a=some o->h2.get? a=some o)->φ h2
def HOk(H:Hp)(h:Heap):Prop:=∀ a o,H a=some o->ObjOk P w H h a o
end
section
variable{P:Program}{w:World}{H H':Hp}{h h':Heap}{a:Addr}{o:HO}
theorem ObjOk.lt(x:ObjOk P w H h a o):a<h.objs.size:=by
 cases o with
 | lst xs=>obtain⟨_,_,_,_,e⟩:=x;exact Heap.lt_size e
 | tup xs=>obtain⟨_,_,_,p⟩:=x;exact p.lt
 | dK kvs=>obtain⟨_,_,_,_,o,_,_,e,_⟩:=x;exact Heap.lt_size e
 | dT kvs=>obtain⟨_,_,_,_,o,_,_,e,_⟩:=x;exact Heap.lt_size e
 | set S n=>obtain⟨o,_,_,_,e,_⟩:=x;exact Heap.lt_size e
 | ins C dx fs=>obtain⟨_,_,_,e,_⟩:=x;exact Heap.lt_size e
 | own y=>obtain⟨_,e⟩:=x;exact Heap.lt_size e
 | xd fs=>obtain⟨_,⟨_,_,_,e,_⟩,_⟩:=x;exact Heap.lt_size e
 | rng lo hi=>obtain⟨_,_,_,e⟩:=x;exact Heap.lt_size e
 | frz ob u=>obtain⟨e,_⟩:=x;exact Heap.lt_size e
 | tbl ps=>exact Heap.lt_size (show h.get? a=some _ from x)
 | met f y=>exact Heap.lt_size (show h.get? a=some _ from x)
 | ext φ=>obtain⟨_,⟨_,e⟩,_⟩:=x;exact Heap.lt_size e
theorem Paired.mapP{α β:Type}{F G:α->β->Prop}:∀ {l₁:List α} {l₂:List β},Paired F l₁ l₂->(∀ a b,F a b->G a b)->Paired G l₁ l₂
 | _,_,.nil,_=>.nil
 | _,_,.cons r t,f=>.cons (f _ _ r) (Paired.mapP t f)
theorem ObjOk.stay(x:ObjOk P w H h a o)(k:∀ b u,(b=a\/H b=some (.own a))->h.get? b=some u->h'.get? b=some u)
  (ho:∀ b,H b=some (.own a)->H' b=some (.own a)) (ht:∀ b xs,H b=some (.tup xs)->H' b=some (.tup xs)):ObjOk P w H' h' a o:=by
 induction o with
 | lst xs=>obtain⟨z,its,n,r,e⟩:=x;exact⟨z,its,n,r,k _ _ (.inl rfl) e⟩
 | tup xs=>obtain⟨z,its,r,ob,e,c⟩:=x;exact⟨z,its,r,ob,k _ _ (.inl rfl) e,c⟩
 | dK kvs=>obtain⟨z,y,vs,r,ob,es,ep,e,c⟩:=x;exact⟨z,y,vs,r,ob,es,ep,k _ _ (.inl rfl) e,c⟩
 | dT kvs =>
  obtain⟨z,y,xs,r,ob,es,ep,e,c⟩:=x
  exact⟨z,y,xs,Paired.mapP r fun p q z=>⟨z.1,ht _ _ z.2.1,z.2.2⟩,ob,es,ep,k _ _ (.inl rfl) e,c⟩
 | set S n=>obtain⟨ob,es,ep,t,e,c⟩:=x;exact⟨ob,es,ep,t,k _ _ (.inl rfl) e,c⟩
 | ins C dx fs =>
  obtain⟨d,z,ne,e,mA,⟨od,es,ep,e2,c⟩,r⟩:=x
  exact⟨ho _ d,z,ne,k _ _ (.inl rfl) e,mA,⟨od,es,ep,k _ _ (.inr d) e2,c⟩,r⟩
 | own y=>obtain⟨ob,e⟩:=x;exact⟨ob,k _ _ (.inl rfl) e⟩
 | xd fs=>obtain⟨mA,⟨od,es,ep,e,c⟩,r⟩:=x;exact⟨mA,⟨od,es,ep,k _ _ (.inl rfl) e,c⟩,r⟩
 | rng lo hi=>obtain⟨t,u,v,e⟩:=x;exact⟨t,u,v,k _ _ (.inl rfl) e⟩
 | frz ob u ih=>obtain⟨e,q⟩:=x;exact⟨k _ _ (.inl rfl) e,ih q⟩
 | tbl ps =>
  have e:h.get? a=some { cls:=.none,data:=.fields ps }:=x
  show h'.get? a=some { cls:=.none,data:=.fields ps }
  exact k a _ (.inl rfl) e
 | met f y =>
  have e:h.get? a=some (PySem.W.methodObj (.ref f) (.ref y)):=x
  show h'.get? a=some (PySem.W.methodObj (.ref f) (.ref y))
  exact k a _ (.inl rfl) e
 | ext φ=>obtain⟨p,⟨o,e⟩,st⟩:=x;exact⟨st _ _ p fun o q=>k _ _ (.inl rfl) q,⟨o,k _ _ (.inl rfl) e⟩,st⟩
theorem HOk.lt(x:HOk P w H h)(e:H a=some o):a<h.objs.size:=(x a o e).lt
theorem HOk.fresh(x:HOk P w H h)(e:h.objs.size<=a):H a=none:=by
 cases q:H a with
 | none=>rfl
 | some u=>exact absurd (Nat.lt_of_lt_of_le (x.lt q) e) (Nat.lt_irrefl _)
theorem HOk.kept(x:HOk P w H h)(k:∀ b u,h.get? b=some u->h'.get? b=some u):HOk P w H h':=fun a o e =>
 (x a o e).stay (fun b u _ q=>k b u q) (fun _ q=>q) fun _ _ q=>q
theorem HOk.laid(x:HOk P w H h)(k:∀ b u,h.get? b=some u->h'.get? b=some u)(hp:h.objs.size<=a)(new:ObjOk P w (upd H a o) h' a o):HOk P w (upd H a o) h':=fun b u e=>by
 have hn:=x.fresh hp
 by_cases hb:b=a
 ·subst hb;rw[ζ1]at e;cases e;exact new
 ·rw[ζ9 hb]at e
  exact(x b u e).stay (fun c v _ q=>k c v q) (fun c q=>by rw[ζ9 (ζf q hn)];exact q) fun c xs q=>by rw[ζ9 (ζf q hn)];exact q
end
def Rd(H:Hp)(a:Addr)(u:HO):Prop:=H a=some u\/∃ o,H a=some (.frz o u)
theorem Rd.ok{P:Program}{w:World}{H:Hp}{h:Heap}{a:Addr}{u:HO}(r:Rd H a u)(x:HOk P w H h):ObjOk P w H h a u:=by
 rcases r with r | ⟨o,r⟩
 ·exact x a u r
 ·obtain⟨_,q⟩:=x a _ r
  exact q
def Mut:Option HO->Prop
 | some (.lst _)=>True
 | some (.dK _)=>True
 | some (.dT _)=>True
 | some (.set _ _)=>True
 | some (.ins _ _ _)=>True
 | some (.ext _)=>True
 | _=>False
section
variable{P:Program}{w:World}{H:Hp}{h h':Heap}{x e:Addr}{o':HO}
theorem HOk.write(ok:HOk P w H h)(mu:Mut (H x))(he:e=x\/H e=some (.own x))(k:∀ b u,b≠e->h.get? b=some u->h'.get? b=some u)(heo:∃ u,h'.get? e=some u)
  (new:ObjOk P w (upd H x o') h' x o'):HOk P w (upd H x o') h':=fun b u q=>by
 have nown:∀ c y,H c=some (.own y)->c≠x:=fun c y r z=>by subst z;rw[r]at mu;exact mu
 have ntup:∀ c xs,H c=some (.tup xs)->c≠x:=fun c xs r z=>by subst z;rw[r]at mu;exact mu
 by_cases hb:b=x
 ·subst hb;rw[ζ1]at q;cases q;exact new
 ·rw[ζ9 hb]at q
  by_cases hbe:b=e
  ·have q':H b=some (.own x):=by
    rcases he with z | z
    ·exact absurd (hbe.trans z) hb
    ·rw[hbe];exact z
   rw[q]at q';cases q'
   obtain⟨v,hv⟩:=heo
   exact⟨v,by rw[hbe];exact hv⟩
  ·refine(ok b u q).stay (fun c v hc r=>k c v ?_ r) (fun c r=>by rw[ζ9 (nown c b r)];exact r) fun c xs r=>by rw[ζ9 (ntup c xs r)];exact r
   rcases hc with rfl | hc
   ·exact hbe
   ·rintro rfl
    rcases he with z | z
    ·exact nown c b hc z
    ·rw[hc]at z;cases z;exact hb rfl
end
structure Un (fs ex:List Addr) (H H':Hp) (h h':Heap):Prop where
 keep:∀ b o,h.get? b=some o->H b=none->b∉fs->b∉ex->h'.get? b=some o
 slot:∀ b o,h.get? b=some o->H b=none->b∈fs->b∉ex->∃ sl,h'.get? b=some { o with slots:=sl }
 free:∀ b o,h.get? b=some o->H b=none->b∉ex->H' b=none
 there:∀ b o,h.get? b=some o->b∉ex->∃ o',h'.get? b=some o'
 tups:∀ b xs,H b=some (.tup xs)->H' b=some (.tup xs)
 frzs:∀ b o u,H b=some (.frz o u)->H' b=some (.frz o u)
 tbls:∀ b ps,H b=some (.tbl ps)->∃ more,H' b=some (.tbl (ps++more))
section
variable{fs fs' ex ex':List Addr}{H H1 H2:Hp}{h h1 h2 h':Heap}{a x e:Addr}{o:HO}
theorem Un.any(u:Un fs ex H H1 h h1){b:Addr}{ob:Obj}(q:h.get? b=some ob)(n:H b=none)(hx:b∉ex):∃ sl,h1.get? b=some { ob with slots:=sl }:=by
 by_cases hb:b∈fs
 ·exact u.slot b ob q n hb hx
 ·exact⟨ob.slots,u.keep b ob q n hb hx⟩
theorem Un.trans(a:Un fs ex H H1 h h1)(b:Un fs ex H1 H2 h1 h2):Un fs ex H H2 h h2 where
 keep:=fun c ob q n hc hx=>b.keep c ob (a.keep c ob q n hc hx) (a.free c ob q n hx) hc hx
 slot:=fun c ob q n hc hx=>by
  obtain⟨sl,e1⟩:=a.slot c ob q n hc hx
  obtain⟨sl',e2⟩:=b.slot c _ e1 (a.free c ob q n hx) hc hx
  exact⟨sl',e2⟩
 free:=fun c ob q n hx=>by
  obtain⟨o',e1⟩:=a.there c ob q hx
  exact b.free c o' e1 (a.free c ob q n hx) hx
 there:=fun c ob q hx=>by
  obtain⟨o',e1⟩:=a.there c ob q hx
  exact b.there c o' e1 hx
 tups:=fun c xs q=>b.tups c xs (a.tups c xs q)
 frzs:=fun c ob xs q=>b.frzs c ob xs (a.frzs c ob xs q)
 tbls:=fun c ps q=>by
  obtain⟨m1,e1⟩:=a.tbls c ps q
  obtain⟨m2,e2⟩:=b.tbls c _ e1
  exact⟨m1++m2,by rw[e2,Array.append_assoc]⟩
theorem Un.kept(k:∀ b u,h.get? b=some u->h'.get? b=some u):Un fs ex H H h h' :=
 ⟨fun b ob q _ _ _=>k b ob q,fun b ob q _ _ _=>⟨ob.slots,k b ob q⟩,fun _ _ _ n _=>n,fun b ob q _=>⟨ob,k b ob q⟩,fun _ _ q=>q,fun _ _ _ q=>q,fun _ ps q=>⟨#[],by rw[q];simp⟩⟩
theorem Un.refl:Un fs ex H H h h:=Un.kept fun _ _ q=>q
theorem Un.laid(k:∀ b u,h.get? b=some u->h'.get? b=some u)(hp:h.objs.size<=a)(hn:H a=none):Un fs ex H (upd H a o) h h' where
 keep:=fun b u q _ _ _=>k b u q
 slot:=fun b u q _ _ _=>⟨u.slots,k b u q⟩
 free:=fun b u q n _=>by rw[ζ9 (Nat.ne_of_lt (Nat.lt_of_lt_of_le (Heap.lt_size q) hp))];exact n
 there:=fun b u q _=>⟨u,k b u q⟩
 tups:=fun b xs q=>by rw[ζ9 (ζf q hn)];exact q
 frzs:=fun b u xs q=>by rw[ζ9 (ζf q hn)];exact q
 tbls:=fun b ps q=>⟨#[],by rw[ζ9 (ζf q hn),q];simp⟩
theorem Un.write(mu:Mut (H x))(he:e=x\/H e=some (.own x))(k:∀ b u,b≠e->h.get? b=some u->h'.get? b=some u)(heo:∃ u,h'.get? e=some u):Un fs ex H (upd H x o) h h':=by
 have hx:∀ b,H b=none->b≠x:=fun b n z=>by subst z;rw[n]at mu;exact mu
 have hb:∀ b,H b=none->b≠e:=fun b n z=>by
  subst z
  rcases he with r | r
  ·exact hx b n r
  ·rw[n]at r;cases r
 have hm:∀ b u,H b=some u->¬ Mut (some u)->b≠x:=fun b u q nm z=>by subst z;rw[q]at mu;exact nm mu
 refine⟨fun b u q n _ _=>k b u (hb b n) q,fun b u q n _ _=>⟨u.slots,k b u (hb b n) q⟩,fun b u q n _=>by rw[ζ9 (hx b n)];exact n,fun b u q _=>?_,
  fun b xs q=>by rw[ζ9 (hm b _ q fun z=>z)];exact q,fun b u xs q=>by rw[ζ9 (hm b _ q fun z=>z)];exact q,fun b ps q=>⟨#[],by rw[ζ9 (hm b _ q fun z=>z),q];simp⟩⟩
 by_cases hbe:b=e
 ·subst hbe;exact heo
 ·exact⟨u,k b u hbe q⟩
end
def trk(h:Heap)(H:Hp):List Addr:=(List.range h.objs.size).filter fun a=>(H a).isSome
def hidT(h:Heap)(H:Hp):Heap:=PySem.W.hideAll h (trk h H)
theorem ζ97(h:Heap)(H:Hp):(hidT h H).objs.size=h.objs.size:=PySem.W.hideAll_size _ _
theorem ζj9{h:Heap}{H:Hp}{b:Addr}{o:Obj}(e:h.get? b=some o)(n:H b=none):(hidT h H).get? b=some o :=
 PySem.W.hideAll_get _ e fun hm=>by
  have q:(H b).isSome=true:=(List.mem_filter.mp hm).2
  rw[n]at q;simp at q
theorem ζA10{h:Heap}{H:Hp}{b:Addr}{o:Obj}(e:(hidT h H).get? b=some o):h.get? b=some o/\H b=none:=by
 have e':h.get? b=some o:=PySem.W.of_hideAll (trk h H) e
 refine⟨e',?_⟩
 cases q:H b with
 | none=>rfl
 | some x =>
  have hm:b∈trk h H:=List.mem_filter.mpr ⟨List.mem_range.mpr (Heap.lt_size e'),by simp[q]⟩
  have z:(hidT h H).get? b=none:=PySem.W.hideAll_none (trk h H) hm
  rw[z]at e;cases e
def ζy11(g h:Heap)(L:Addr):List (Addr × Obj):=(List.range h.objs.size).filterMap fun a=>if a=L\/(g.get? a).isSome=true then none else (h.get? a).map fun o=>(a,o)
def rest(g h:Heap)(L d:Addr):List (Addr × Obj):=(ζy11 g h L).filter fun p=>decide (p.1≠d)
structure Mod (K:PySem.W.Frag) (mg:Str->Option Value) (base:Heap):Prop where
 kin:K.In base
 glob:base.Ns mainGlobals mg
 blt:∃ mb,base.Ns builtinsNs mb/\∀ x:Str,x≠"__name__"->mb x=bootBuiltins x
 nolimit:base.NoLimit
structure Cx where
 prog:Program
 w:World
 K:PySem.W.Frag
 mg:Str->Option Value
 base:Heap
 A:Around
 N:List Str
 s₀:Shared
 H₀:Hp
 env:Env
 outer:List Env
 stack:List Env
 ex:List Addr
 fn:Str->Bool
 calm:Bool
 pn:List (Addr × Obj)
 xe:Value->Shared->Prop
def frs(l:List Env):List Addr:=l.filterMap (·.frame)
abbrev Cx.fs(X:Cx):List Addr:=frs X.outer
def Vis(sc:Scope)(x:Str):Prop:=sc.names.lookup x=some .local\/sc.names.lookup x=some .cell\/sc.names.lookup x=some .free
def Loc(sc:Scope)(x:Str):Prop:=sc.names.lookup x=some .local\/sc.names.lookup x=some .cell
def Look(env:Env)(h:Heap)(m:Str->Option Value)(x:Str)(u:Value):Prop :=
 (env.kindOf x=some .local/\m x=some u)\/((env.kindOf x=some .cell\/env.kindOf x=some .free)/\∃ c,env.cells.lookup x=some c/\h.IsCell c (some u))
structure Cx.Ok (X:Cx):Prop where
 mod:Mod X.K X.mg X.base
 kind:X.env.scope.kind=.function
 glob:X.env.globals=mainGlobals
 blt:X.env.builtins=builtinsNs
 above:X.s₀.heap.objs.size<=X.env.locals
 inj:∀ x y c,X.env.cells.lookup x=some c->X.env.cells.lookup y=some c->x=y
 has:∀ x,(X.env.kindOf x=some .cell\/X.env.kindOf x=some .free)->∃ c,X.env.cells.lookup x=some c
 cab:∀ x c,X.fn x=true->X.env.cells.lookup x=some c->X.s₀.heap.objs.size<=c
 hd:X.calm=true->X.A.handled=none
 frames:X.A.frames=some X.stack
 stk:X.stack=X.outer\/(X.stack=X.env :: X.outer/\X.env.frame=some X.env.locals)
 exf:∀ b∈X.ex,b≠X.env.locals/\∀ x c,X.env.cells.lookup x=some c->c≠b
 bs:∀ b o,X.base.get? b=some o->X.s₀.heap.get? b=some o/\X.H₀ b=none
 bsz:X.base.objs.size<=X.s₀.heap.objs.size
 noex:∀ b o,X.base.get? b=some o->b∉X.ex
 exfs:∀ b∈X.ex,b∉X.fs
 funs:X.s₀.heap.FunFrames X.base X.outer
 frf:∀ b∈X.fs,X.H₀ b=none
structure Inv (X:Cx) (pins:List (Addr × Obj)) (σ:List (Option V)) (H:Hp) (s:Shared):Prop where
 ok:X.Ok
 os:s.os=X.s₀.os
 bare:AllBare s.gens
 base:Un X.fs X.ex X.H₀ H X.s₀.heap s.heap
 loc:∃ m,s.heap.Ns X.env.locals m/\∀(i:Nat) (x:Str) (v:V),X.N[i]?=some x->σ[i]?=some (some v)->Vis X.env.scope x->∃ u,RelV v u/\Look X.env s.heap m x u
 cell:∀ x c,X.env.cells.lookup x=some c->∃ v,s.heap.IsCell c v
 free:H X.env.locals=none
 freeC:∀ x c,X.env.cells.lookup x=some c->H c=none
 pin:∀ p∈X.pn++pins,s.heap.get? p.1=some p.2/\H p.1=none/\p.1≠X.env.locals/\p.1∉X.fs/\∀ v,p.2.data≠.cell v
 hok:HOk X.prog X.w H s.heap
 len:σ.length=X.N.length
section
variable{X:Cx}{pins:List (Addr × Obj)}{σ:List (Option V)}{H H':Hp}{s:Shared}{h':Heap}
theorem Cx.Ok.nofr(ok:X.Ok){b:Addr}{o:Obj}(e:X.base.get? b=some o):b∉X.fs:=fun hb=>by
 have:=(ok.funs.mem hb).1
 rw[e]at this;cases this
theorem Inv.bs(I:Inv X pins σ H s):∀ b o,X.base.get? b=some o->s.heap.get? b=some o/\H b=none:=fun b o e =>
 ⟨I.base.keep b o (I.ok.bs b o e).1 (I.ok.bs b o e).2 (I.ok.nofr e) (I.ok.noex b o e),I.base.free b o (I.ok.bs b o e).1 (I.ok.bs b o e).2 (I.ok.noex b o e)⟩
theorem Inv.bk(I:Inv X pins σ H s):∀ b o,X.base.get? b=some o->s.heap.get? b=some o:=fun b o e=>(I.bs b o e).1
theorem Inv.mod(I:Inv X pins σ H s):Mod X.K X.mg X.base:=I.ok.mod
theorem Inv.kIn(I:Inv X pins σ H s):X.K.In s.heap:=I.ok.mod.kin.keeps I.bk
theorem Inv.lt(I:Inv X pins σ H s):X.env.locals<s.heap.objs.size:=let ⟨_,hn,_⟩:=I.loc;hn.lt
theorem Inv.sz(I:Inv X pins σ H s):X.s₀.heap.objs.size<=s.heap.objs.size:=Nat.le_trans I.ok.above (Nat.le_of_lt I.lt)
theorem Inv.nofs(I:Inv X pins σ H s){a:Addr}(h:s.heap.objs.size<=a):a∉X.fs:=fun hb=>by
 obtain⟨_,o,ho,_⟩:=I.ok.funs.mem hb
 exact absurd (Nat.lt_of_lt_of_le (Heap.lt_size ho) (Nat.le_trans I.sz h)) (Nat.lt_irrefl _)
theorem Inv.cne(I:Inv X pins σ H s):∀ x c,X.env.cells.lookup x=some c->c≠X.env.locals:=fun x c e z=>by
 obtain⟨v,o,ho,hd⟩:=I.cell x c e
 obtain⟨m,⟨o',es,ep,ho',hd',_⟩,_⟩:=I.loc
 rw[z,ho']at ho;cases ho;rw[hd']at hd;cases hd
theorem Inv.funs(I:Inv X pins σ H s):s.heap.FunFrames X.base X.outer:=by
 have all:∀(l:List Env),(∀ b∈frs l,b∈X.fs)->X.s₀.heap.FunFrames X.base l->s.heap.FunFrames X.base l:=by
  intro l
  induction l with
  | nil=>intro _ _;trivial
  | cons env r ih =>
   intro hs hl
   obtain⟨hk,⟨L,o,hf,hn,ho,hd⟩,hr⟩:=hl
   have hL:L∈X.fs:=hs L (by unfold frs;rw[List.filterMap_cons,hf];exact List.mem_cons_self)
   obtain⟨sl,e⟩:=I.base.slot L o ho (I.ok.frf L hL) hL fun z=>I.ok.exfs L z hL
   exact⟨hk,⟨L,_,hf,hn,e,hd⟩,ih (fun b hb=>hs b (by unfold frs;rw[List.filterMap_cons,hf];exact List.mem_cons_of_mem _ hb)) hr⟩
 exact all X.outer (fun _ hb=>hb) I.ok.funs
theorem Inv.stack(I:Inv X pins σ H s):s.heap.FunFrames X.base X.stack:=by
 rcases I.ok.stk with e | ⟨e,hf⟩
 ·rw[e];exact I.funs
 ·rw[e]
  obtain⟨m,hn,_⟩:=I.loc
  refine .cons (by rw[I.ok.kind];decide) hf hn ?_ I.funs
  exact Heap.get?_none_of_le (Nat.le_trans I.ok.bsz I.ok.above)
theorem Inv.stkSub(I:Inv X pins σ H s):∀ b∈frs X.stack,b∈X.env.locals :: X.fs:=fun b hb=>by
 rcases I.ok.stk with e | ⟨e,hf⟩
 ·rw[e]at hb;exact List.mem_cons_of_mem _ hb
 ·rw[e]at hb
  unfold frs at hb
  rw[List.filterMap_cons,hf]at hb
  exact hb
theorem Inv.stkFree(I:Inv X pins σ H s):∀ b∈frs X.stack,H b=none:=fun b hb=>by
 rcases List.mem_cons.mp (I.stkSub b hb) with e | hb
 ·rw[e];exact I.free
 ·obtain⟨_,o,ho,_⟩:=I.ok.funs.mem hb
  exact I.base.free b o ho (I.ok.frf b hb) fun z=>I.ok.exfs b z hb
theorem Inv.step{g':Array GenState}{t':Nat}{d':Drawn}{ch:List Addr}(I:Inv X pins σ H s)
  (hch:∀ b∈ch,(b∈X.ex\/X.s₀.heap.objs.size<=b)/\b≠X.env.locals/\(∀ x c,X.env.cells.lookup x=some c->c≠b)/\∀ p∈X.pn++pins,p.1≠b)
  (keep:∀ b o,b≠X.env.locals->b∉X.fs->b∉ch->s.heap.get? b=some o->H b=none->h'.get? b=some o)
  (slot:∀ b o,b≠X.env.locals->b∈X.fs->b∉ch->s.heap.get? b=some o->H b=none->∃ sl,h'.get? b=some { o with slots:=sl }) (free:∀ b o,b∉ch->s.heap.get? b=some o->H b=none->H' b=none)
  (there:∀ b o,b∉ch->s.heap.get? b=some o->∃ o',h'.get? b=some o')
  (tups:∀ b xs,H b=some (.tup xs)->H' b=some (.tup xs)) (frzs:∀ b o u,H b=some (.frz o u)->H' b=some (.frz o u)) (tbls:∀ b ps,H b=some (.tbl ps)->∃ more,H' b=some (.tbl (ps++more)))
  (ns:∀ m,s.heap.Ns X.env.locals m->h'.Ns X.env.locals m) (hok:HOk X.prog X.w H' h') (hg:AllBare g') :
  Inv X pins σ H' { s with heap:=h',gens:=g',drawn:=d',toks:=t' }:=by
 have neL:∀ b o,X.s₀.heap.get? b=some o->b≠X.env.locals:=fun b o e=>Nat.ne_of_lt (Nat.lt_of_lt_of_le (Heap.lt_size e) I.ok.above)
 have neC:∀ b o,X.s₀.heap.get? b=some o->b∉X.ex->b∉ch:=fun b o e hx hb=>by
  rcases(hch b hb).1 with z | z
  ·exact hx z
  ·exact absurd (Nat.lt_of_lt_of_le (Heap.lt_size e) z) (Nat.lt_irrefl _)
 have cellK:∀ x c,X.env.cells.lookup x=some c->∀ v,s.heap.IsCell c v->h'.IsCell c v:=fun x c e v ⟨o,ho,hd⟩=>by
  have nch:c∉ch:=fun z=>(hch c z).2.2.1 x c e rfl
  by_cases hc:c∈X.fs
  ·obtain⟨sl,q⟩:=slot c o (I.cne x c e) hc nch ho (I.freeC x c e)
   exact⟨_,q,hd⟩
  ·exact⟨o,keep c o (I.cne x c e) hc nch ho (I.freeC x c e),hd⟩
 refine⟨I.ok,I.os,hg,⟨fun b o e n hb hx=>?_,fun b o e n hb hx=>?_,fun b o e n hx=>?_,fun b o e hx=>?_,fun b xs e=>tups b xs (I.base.tups b xs e),fun b o xs e=>frzs b o xs (I.base.frzs b o xs e),fun b ps e=>?_⟩,?_,fun x c e=>?_,?_,fun x c e=>?_,fun p hp=>?_,hok,I.len⟩
 ·exact keep b o (neL b o e) hb (neC b o e hx) (I.base.keep b o e n hb hx) (I.base.free b o e n hx)
 ·obtain⟨sl,e1⟩:=I.base.slot b o e n hb hx
  obtain⟨sl',e2⟩:=slot b _ (neL b o e) hb (neC b o e hx) e1 (I.base.free b o e n hx)
  exact⟨sl',e2⟩
 ·obtain⟨o',e1⟩:=I.base.there b o e hx
  exact free b o' (neC b o e hx) e1 (I.base.free b o e n hx)
 ·obtain⟨o',e1⟩:=I.base.there b o e hx
  exact there b o' (neC b o e hx) e1
 ·obtain⟨m1,e1⟩:=I.base.tbls b ps e
  obtain⟨m2,e2⟩:=tbls b _ e1
  exact⟨m1++m2,by rw[e2,Array.append_assoc]⟩
 ·obtain⟨m,hn,hl⟩:=I.loc
  refine⟨m,ns m hn,fun i x v e1 e2 e3=>?_⟩
  obtain⟨u,r,l⟩:=hl i x v e1 e2 e3
  refine⟨u,r,?_⟩
  rcases l with l | ⟨k,c,e,z⟩
  ·exact .inl l
  ·exact .inr ⟨k,c,e,cellK x c e _ z⟩
 ·obtain⟨v,z⟩:=I.cell x c e
  exact⟨v,cellK x c e v z⟩
 ·obtain⟨m,⟨o,_,_,ho,_⟩,_⟩:=I.loc
  exact free _ o (fun z=>(hch _ z).2.1 rfl) ho I.free
 ·obtain⟨v,o,ho,hd⟩:=I.cell x c e
  exact free c o (fun z=>(hch c z).2.2.1 x c e rfl) ho (I.freeC x c e)
 ·obtain⟨e,n,ne,nf,d⟩:=I.pin p hp
  have nch:p.1∉ch:=fun z=>(hch p.1 z).2.2.2 p hp rfl
  exact⟨keep p.1 p.2 ne nf nch e n,free p.1 p.2 nch e n,ne,nf,d⟩
theorem Inv.un{t':Nat}(I:Inv X pins σ H s)(u:Un X.fs [] H H' s.heap h')(hok:HOk X.prog X.w H' h'):Inv X pins σ H' { s with heap:=h',toks:=t' }:=by
 obtain⟨m,⟨o,es,ep,ho,r⟩,_⟩:=id I.loc
 obtain⟨sl,hL⟩:=u.any ho I.free (by simp)
 exact I.step (g':=s.gens) (d':=s.drawn) (ch:=[]) (fun _ z=>nomatch z) (fun b o _ hb _ e n=>u.keep b o e n hb (by simp)) (fun b o _ hb _ e n=>u.slot b o e n hb (by simp)) (fun b o _ e n=>u.free b o e n (by simp)) (fun b o _ e=>u.there b o e (by simp)) u.tups u.frzs u.tbls (fun m' hm=>by
  obtain⟨o',es',ep',ho',r'⟩:=hm
  rw[ho]at ho';cases ho'
  exact⟨_,es',ep',hL,r'⟩) hok I.bare
theorem Inv.call{g':Array GenState}{t':Nat}{d':Drawn}{ch:List Addr}(I:Inv X pins σ H s)(u:Un (frs X.stack) ch H H' s.heap h')(hok:HOk X.prog X.w H' h')(hg:AllBare g')
  (hch:∀ b∈ch,(b∈X.ex\/X.s₀.heap.objs.size<=b)/\b≠X.env.locals/\(∀ x c,X.env.cells.lookup x=some c->c≠b)/\∀ p∈X.pn++pins,p.1≠b) :
  Inv X pins σ H' { s with heap:=h',gens:=g',drawn:=d',toks:=t' }:=by
 obtain⟨m,⟨o,es,ep,ho,r⟩,_⟩:=id I.loc
 obtain⟨sl,hL⟩:=u.any ho I.free fun z=>(hch _ z).2.1 rfl
 exact I.step (ch:=ch) hch (fun b o hL hb hc e n=>u.keep b o e n (fun z=>(List.mem_cons.mp (I.stkSub b z)).elim hL hb) hc) (fun b o _ _ hc e n=>u.any e n hc) (fun b o hc e n=>u.free b o e n hc) (fun b o hc e=>u.there b o e hc) u.tups u.frzs u.tbls (fun m' hm=>by
  obtain⟨o',es',ep',ho',r'⟩:=hm
  rw[ho]at ho';cases ho'
  exact⟨_,es',ep',hL,r'⟩) hok hg
theorem Inv.turned{t':Nat}{it:Addr}(I:Inv X pins σ H s)(k:∀ b o,b≠it->s.heap.get? b=some o->h'.get? b=some o)(hn:H it=none)(hL:it≠X.env.locals)
  (h1:it∈X.ex\/X.s₀.heap.objs.size<=it) (h2:∀ x c,X.env.cells.lookup x=some c->c≠it) (h3:∀ p∈X.pn++pins,p.1≠it):Inv X pins σ H { s with heap:=h',toks:=t' }:=by
 have nit:∀ b u,H b=some u->b≠it:=fun b u e z=>by rw[z,hn]at e;cases e
 refine I.step (g':=s.gens) (d':=s.drawn) (ch:=[it]) (fun b hb=>?_) (fun b o _ _ hc e _=>k b o (fun z=>hc (by simp[z])) e) (fun b o _ _ hc e _=>⟨o.slots,k b o (fun z=>hc (by simp[z])) e⟩) (fun _ _ _ _ n=>n)
  (fun b o hc e=>⟨o,k b o (fun z=>hc (by simp[z])) e⟩) (fun _ _ e=>e) (fun _ _ _ e=>e) (fun b ps e=>⟨#[],by rw[e];simp⟩) (fun m hm=>?_) (fun b u e=>?_) I.bare
 ·have e:b=it:=by simpa using hb
  subst e
  exact⟨h1,hL,h2,h3⟩
 ·obtain⟨o,es,ep,ho,r⟩:=hm
  exact⟨o,es,ep,k _ o (Ne.symm hL) ho,r⟩
 ·refine(I.hok b u e).stay (fun c v hc q=>k c v ?_ q) (fun _ q=>q) fun _ _ q=>q
  rcases hc with z | z
  ·rw[z];exact nit b u e
  ·exact nit c _ z
theorem Inv.tok(I:Inv X pins σ H s)(t:Nat):Inv X pins σ H { s with toks:=t }:=I.un (h':=s.heap) (t':=t) Un.refl I.hok
theorem Inv.kept{t':Nat}(I:Inv X pins σ H s)(k:∀ b u,s.heap.get? b=some u->h'.get? b=some u):Inv X pins σ H { s with heap:=h',toks:=t' }:=I.un (Un.kept k) (I.hok.kept k)
theorem Inv.laid{a:Addr}{o:HO}{t':Nat}(I:Inv X pins σ H s)(k:∀ b u,s.heap.get? b=some u->h'.get? b=some u)(hp:s.heap.objs.size<=a)(new:ObjOk X.prog X.w (upd H a o) h' a o) :
  Inv X pins σ (upd H a o) { s with heap:=h',toks:=t' }:=I.un (Un.laid k hp (I.hok.fresh hp)) (I.hok.laid k hp new)
theorem Inv.write{x e:Addr}{o:HO}{t':Nat}(I:Inv X pins σ H s)(mu:Mut (H x))(he:e=x\/H e=some (.own x))(k:∀ b u,b≠e->s.heap.get? b=some u->h'.get? b=some u)(heo:∃ u,h'.get? e=some u)
  (new:ObjOk X.prog X.w (upd H x o) h' x o):Inv X pins σ (upd H x o) { s with heap:=h',toks:=t' }:=I.un (Un.write mu he k heo) (I.hok.write mu he k heo new)
theorem Inv.weak{σ':List (Option V)}(I:Inv X pins σ H s)(hl:σ'.length=σ.length)(w:∀(i:Nat) v,σ'[i]?=some (some v)->σ[i]?=some (some v)):Inv X pins σ' H s :=
 ⟨I.ok,I.os,I.bare,I.base,let ⟨m,hn,hl'⟩:=I.loc;⟨m,hn,fun i x v e1 e2 e3=>hl' i x v e1 (w i v e2) e3⟩,I.cell,I.free,I.freeC,I.pin,I.hok,hl.trans I.len⟩
theorem Inv.pins_of{pins':List (Addr × Obj)}(I:Inv X pins σ H s)(h:∀ p∈pins',s.heap.get? p.1=some p.2/\H p.1=none/\p.1≠X.env.locals/\p.1∉X.fs/\∀ v,p.2.data≠.cell v):Inv X pins' σ H s :=
 ⟨I.ok,I.os,I.bare,I.base,I.loc,I.cell,I.free,I.freeC,fun p hp=>(List.mem_append.mp hp).elim (fun z=>I.pin p (List.mem_append_left _ z)) (h p),I.hok,I.len⟩
theorem ζB5{N:List Str}(hN:N.Nodup){i j:Nat}{x:Str}(a:N[i]?=some x)(b:N[j]?=some x):i=j:=by
 obtain⟨h1,e1⟩:=List.getElem?_eq_some_iff.mp a
 obtain⟨h2,e2⟩:=List.getElem?_eq_some_iff.mp b
 exact(List.getElem_inj hN).mp (e1.trans e2.symm)
theorem ζE6{M:Model}{A:Around}{E:Value->Shared->Prop}{i:Nat}{x:Str}{v:V}{u:Value}{Q:Unit->Shared->Prop}(I:Inv X pins σ H s)(hN:X.N.Nodup)(hi:X.N[i]?=some x)(hx:Loc X.env.scope x)(r:RelV v u)
  (h:∀ s',Inv X pins (σ.set i (some v)) H s'->(∃ a,Heap.SameBut a s.heap s'.heap/\(a=X.env.locals\/X.env.cells.lookup x=some a))->Q () s') (hf:X.fn x=true\/X.env.scope.names.lookup x=some .local:=by first | exact .inl rfl | exact .inr rfl | assumption):wpAny M A (storeName X.env x u) Q E s:=by
 obtain⟨m,hn,hl⟩:=id I.loc
 have hcls:(X.env.scope.kind == .class || (X.env.scope.kind == .module && X.env.locals != X.env.globals))=false:=by rw[I.ok.kind];rfl
 have hiσ:i<σ.length:=by rw[I.len];exact(List.getElem?_eq_some_iff.mp hi).1
 have cne:=I.cne
 have tracked:∀ {a:Addr} {h':Heap},(∃ o,s.heap.get? a=some o/\H a=none)->Heap.SameBut a s.heap h'->HOk X.prog X.w H h':=fun {a h'} ha hs b ob e=>by
  obtain⟨_,_,hfree⟩:=ha
  refine(I.hok b ob e).stay (fun c w' hc q=>(hs.2 c ?_).trans q) (fun _ q=>q) fun _ _ q=>q
  rintro rfl
  rcases hc with rfl | hc
  ·rw[hfree]at e;cases e
  ·rw[hfree]at hc;cases hc
 rcases hx with hk | hk
 ·refine wpAny_storeName_local hk hn (fun h' hn' hs=>?_) hcls
  obtain⟨oL,_,_,hoL,_⟩:=id hn
  refine h _ ⟨I.ok,I.os,I.bare,⟨fun b o e n hb hx=>?_,fun b o e n hb hx=>?_,I.base.free,fun b o e hx=>?_,I.base.tups,I.base.frzs,I.base.tbls⟩,⟨_,hn',fun j y v' e1 e2 e3=>?_⟩,fun y c e=>?_,I.free,I.freeC,fun p hp=>?_,tracked ⟨oL,hoL,I.free⟩ hs,by simpa using I.len⟩ ⟨_,hs,.inl rfl⟩
  ·exact(hs.2 b (Nat.ne_of_lt (Nat.lt_of_lt_of_le (Heap.lt_size e) I.ok.above))).trans (I.base.keep b o e n hb hx)
  ·obtain⟨sl,e1⟩:=I.base.slot b o e n hb hx
   exact⟨sl,(hs.2 b (Nat.ne_of_lt (Nat.lt_of_lt_of_le (Heap.lt_size e) I.ok.above))).trans e1⟩
  ·obtain⟨o',e1⟩:=I.base.there b o e hx
   exact⟨o',(hs.2 b (Nat.ne_of_lt (Nat.lt_of_lt_of_le (Heap.lt_size e) I.ok.above))).trans e1⟩
  ·by_cases hj:j=i
   ·subst hj
    rw[hi]at e1;cases e1
    rw[List.getElem?_set_self hiσ]at e2
    cases e2
    exact⟨u,r,.inl ⟨hk,by simp⟩⟩
   ·rw[List.getElem?_set_ne (Ne.symm hj)]at e2
    obtain⟨u',r',q⟩:=hl j y v' e1 e2 e3
    refine⟨u',r',?_⟩
    rcases q with ⟨k,e⟩ | ⟨k,c,e,z⟩
    ·refine .inl ⟨k,?_⟩
     have:y≠x:=fun e=>hj (ζB5 hN e1 (e ▸ hi))
     simp[this,e]
    ·exact .inr ⟨k,c,e,z.sameBut hs (cne y c e)⟩
  ·obtain⟨w',z⟩:=I.cell y c e
   exact⟨w',z.sameBut hs (cne y c e)⟩
  ·obtain⟨e,n,ne,nf,d⟩:=I.pin p hp
   exact⟨(hs.2 p.1 ne).trans e,n,ne,nf,d⟩
 ·have hfn:X.fn x=true:=by
   rcases hf with z | z
   ·exact z
   ·rw[z]at hk;cases hk
  obtain⟨c,hc⟩:=I.ok.has x (.inl hk)
  obtain⟨w',z⟩:=I.cell x c hc
  refine wpAny_storeName_cell I.ok.kind hk hc z (fun h' hc' hs=>?_)
  obtain⟨oc,hoc,hocd⟩:=id z
  refine h { s with heap:=h' } ⟨I.ok,I.os,I.bare,⟨fun b o e n hb hx=>?_,fun b o e n hb hx=>?_,I.base.free,fun b o e hx=>?_,I.base.tups,I.base.frzs,I.base.tbls⟩,⟨m,hn.sameBut hs (Ne.symm (cne x c hc)),fun j y v' e1 e2 e3=>?_⟩,fun y c' e=>?_,I.free,I.freeC,fun p hp=>?_,tracked ⟨oc,hoc,I.freeC x c hc⟩ hs,by simpa using I.len⟩ ⟨c,hs,.inr hc⟩
  ·exact(hs.2 b (Nat.ne_of_lt (Nat.lt_of_lt_of_le (Heap.lt_size e) (I.ok.cab x c hfn hc)))).trans (I.base.keep b o e n hb hx)
  ·obtain⟨sl,e1⟩:=I.base.slot b o e n hb hx
   exact⟨sl,(hs.2 b (Nat.ne_of_lt (Nat.lt_of_lt_of_le (Heap.lt_size e) (I.ok.cab x c hfn hc)))).trans e1⟩
  ·obtain⟨o',e1⟩:=I.base.there b o e hx
   exact⟨o',(hs.2 b (Nat.ne_of_lt (Nat.lt_of_lt_of_le (Heap.lt_size e) (I.ok.cab x c hfn hc)))).trans e1⟩
  ·by_cases hj:j=i
   ·subst hj
    rw[hi]at e1;cases e1
    rw[List.getElem?_set_self hiσ]at e2
    cases e2
    exact⟨u,r,.inr ⟨.inl hk,c,hc,hc'⟩⟩
   ·rw[List.getElem?_set_ne (Ne.symm hj)]at e2
    obtain⟨u',r',q⟩:=hl j y v' e1 e2 e3
    refine⟨u',r',?_⟩
    rcases q with q | ⟨k,c',e,z'⟩
    ·exact .inl q
    ·refine .inr ⟨k,c',e,z'.sameBut hs ?_⟩
     rintro rfl
     exact hj (ζB5 hN e1 (I.ok.inj _ _ _ e hc ▸ hi))
  ·by_cases hcc:c'=c
   ·subst hcc;exact⟨_,hc'⟩
   ·obtain⟨w2,z2⟩:=I.cell y c' e
    exact⟨w2,z2.sameBut hs hcc⟩
  ·obtain⟨e,n,ne,nf,d⟩:=I.pin p hp
   refine⟨(hs.2 p.1 ?_).trans e,n,ne,nf,d⟩
   intro q
   rw[q,hoc]at e
   have q':oc=p.2:=Option.some.inj e
   exact d w' (by rw[<- q'];exact hocd)
theorem ζp3{M:Model}{A:Around}{E:Value->Shared->Prop}{i:Nat}{x:Str}{v:V}{u:Value}{Q:Unit->Shared->Prop}(I:Inv X pins σ H s)(hN:X.N.Nodup)(hi:X.N[i]?=some x)(hx:Loc X.env.scope x)(r:RelV v u)
  (h:∀ s',Inv X pins (σ.set i (some v)) H s'->Q () s') (hf:X.fn x=true\/X.env.scope.names.lookup x=some .local:=by first | exact .inl rfl | exact .inr rfl | assumption):wpAny M A (storeName X.env x u) Q E s :=
 ζE6 I hN hi hx r (fun s' I' _=>h s' I') hf
theorem Inv.call'{s':Shared}{ch:List Addr}(I:Inv X pins σ H s)(ho:s'.os=s.os)(u:Un (frs X.stack) ch H H' s.heap s'.heap)(hok:HOk X.prog X.w H' s'.heap)(hg:AllBare s'.gens)
  (hch:∀ b∈ch,(b∈X.ex\/X.s₀.heap.objs.size<=b)/\b≠X.env.locals/\(∀ x c,X.env.cells.lookup x=some c->c≠b)/\∀ p∈X.pn++pins,p.1≠b):Inv X pins σ H' s':=by
 obtain⟨h',g',d',t',o'⟩:=s'
 have e:o'=s.os:=ho
 subst e
 exact I.call (g':=g') (t':=t') (d':=d') u hok hg hch
end
abbrev XK:=Value->Option Addr->Hp->Prop
abbrev St:=List (Option V)
abbrev VK:=V->Hp->Prop
abbrev TE:=St->Hp->VK->Prop
abbrev TT:=St->Hp->(Bool->Hp->Prop)->Prop
abbrev TA:=St->Hp->(List V->Hp->Prop)->Prop
structure Ends where
 nx:St->Hp->Prop
 rt:VK
 bk:St->Hp->Prop:=fun _ _=>False
 ct:St->Hp->Prop:=fun _ _=>False
abbrev TS:=Ends->St->Hp->Prop
def EP(X:Cx)(pins:List (Addr × Obj))(σ:St)(Q:VK)(u:Value)(s':Shared):Prop:=∃ v H',Inv X pins σ H' s'/\RelV v u/\Q v H'
def TP(X:Cx)(pins:List (Addr × Obj))(σ:St)(Q:Bool->Hp->Prop)(b:Bool)(s':Shared):Prop:=∃ H',Inv X pins σ H' s'/\Q b H'
def AP(X:Cx)(pins:List (Addr × Obj))(σ:St)(Q:List V->Hp->Prop)(us:List Value)(s':Shared):Prop:=∃ vs H',Inv X pins σ H' s'/\Vals vs us/\Q vs H'
def SP(X:Cx)(pins:List (Addr × Obj))(D:Ends)(f:Flow)(s':Shared):Prop :=
 match f with
 | .next=>∃ σ' H',Inv X pins σ' H' s'/\D.nx σ' H'
 | .brk=>∃ σ' H',Inv X pins σ' H' s'/\D.bk σ' H'
 | .cont=>∃ σ' H',Inv X pins σ' H' s'/\D.ct σ' H'
 | .ret u=>∃ v σ' H',Inv X pins σ' H' s'/\RelV v u/\D.rt v H'
def PE(X:Cx)(e:Expr)(t:TE):Prop :=
 ∀(pins:List (Addr × Obj)) (s:Shared) (σ:St) (H:Hp) (Q:VK),Inv X pins σ H s->t σ H Q->wpAny (model X.prog X.w) X.A (eval e X.env) (EP X pins σ Q) X.xe s
def PT(X:Cx)(e:Expr)(t:TT):Prop :=
 ∀(pins:List (Addr × Obj)) (s:Shared) (σ:St) (H:Hp) (Q:Bool->Hp->Prop),Inv X pins σ H s->t σ H Q->wpAny (model X.prog X.w) X.A (isTrue e X.env (eval e X.env)) (TP X pins σ Q) X.xe s
def PW(X:Cx)(e:Expr)(t:TT):Prop :=
 ∀(whole:Sem Value) (pins:List (Addr × Obj)) (s:Shared) (σ:St) (H:Hp) (Q:Bool->Hp->Prop),Inv X pins σ H s->t σ H Q->wpAny (model X.prog X.w) X.A (isTrue e X.env whole) (TP X pins σ Q) X.xe s
theorem PW.pt{X:Cx}{e:Expr}{t:TT}(h:PW X e t):PT X e t:=h _
def PA(X:Cx)(es:List Expr)(t:TA):Prop :=
 ∀(pos:Pos) (pins:List (Addr × Obj)) (s:Shared) (σ:St) (H:Hp) (Q:List V->Hp->Prop),Inv X pins σ H s->t σ H Q->wpAny (model X.prog X.w) X.A (spliced (backTo pos (starEach es X.env))) (AP X pins σ Q) X.xe s
def PS(X:Cx)(st:Stmt)(t:TS):Prop :=
 ∀(pins:List (Addr × Obj)) (s:Shared) (σ:St) (H:Hp) (D:Ends),Inv X pins σ H s->t D σ H->wpAny (model X.prog X.w) X.A (exec st X.env) (SP X pins D) X.xe s
def PSs(X:Cx)(st:List Stmt)(t:TS):Prop :=
 ∀(pins:List (Addr × Obj)) (s:Shared) (σ:St) (H:Hp) (D:Ends),Inv X pins σ H s->t D σ H->wpAny (model X.prog X.w) X.A (execs st X.env) (SP X pins D) X.xe s
theorem thn{α:Type}{t:Sem α}{Q Q':α->Shared->Prop}{M:Model}{A:Around}{E:Value->Shared->Prop}{s:Shared}(h:wpAny M A t Q E s)(hQ:∀ a s,Q a s->Q' a s):wpAny M A t Q' E s:=wpAny_mono h hQ fun _ _ x=>x
section
variable{X:Cx}
theorem bin{a b:Expr}{ta tb:TE}(ha:PE X a ta)(hb:PE X b tb){pins:List (Addr × Obj)}{s:Shared}{σ:St}{H:Hp}{R:V->V->Hp->Prop}(I:Inv X pins σ H s)(h:ta σ H fun x H1=>tb σ H1 fun y H2=>R x y H2)
  {α:Type} {Q:α->Shared->Prop} {f:Value->Value->Sem α}
  (hf:∀ v u s2 x y H2,Inv X pins σ H2 s2->RelV x v->RelV y u->R x y H2->wpAny (model X.prog X.w) X.A (f v u) Q X.xe s2) :
  wpAny (model X.prog X.w) X.A (eval a X.env) (fun v s₁=>wpAny (model X.prog X.w) X.A (eval b X.env) (fun u s₂=>wpAny (model X.prog X.w) X.A (f v u) Q X.xe s₂) X.xe s₁) X.xe s:=by
 refine thn (ha pins s σ H _ I h) fun v s1 ⟨x,H1,I1,r1,q1⟩=>?_
 refine thn (hb pins s1 σ H1 _ I1 q1) fun u s2 ⟨y,H2,I2,r2,q2⟩=>?_
 exact hf v u s2 x y H2 I2 r1 r2 q2
def tVar(i:Nat):TE:=fun σ H Q=>∃ v,σ[i]?=some (some v)/\Q v H
def tC(v:V):TE:=fun _ H Q=>Q v H
theorem ζd12 {i:Nat} {x:Str} {pos:Pos} (hN:X.N[i]?=some x) (hv:Vis X.env.scope x) (hd:(x == ("__debug__":Str))=false:=by decide) (hcd:(x == ("__classdict__":Str))=false:=by decide):PE X (.Name x pos) (tVar i):=by
 intro pins s σ H Q I h
 obtain⟨v,e,h⟩:=h
 obtain⟨m,hn,hl⟩:=I.loc
 obtain⟨u,r,l⟩:=hl i x v hN e hv
 have fin:EP X pins σ Q u s:=⟨v,H,I,r,h⟩
 rcases l with ⟨hk,hm⟩ | ⟨hk,c,hc,hcell⟩
 ·exact wpAny_Name (wpAny_loadName_local I.ok.kind hk hn hm fin) hd
 ·rcases hk with hk | hk
  ·exact wpAny_Name (wpAny_loadName_cell I.ok.kind hk hc hcell fin) hd
  ·exact wpAny_Name (wpAny_loadName_free I.ok.kind hk hc hcell fin hcd) hd
theorem ζ4{i j pos}:PE X (.Constant (.int i) j pos) (tC (.int i)):=fun _ _ _ H _ I h=>wpAny_Constant_int ⟨.int i,H,I.tok _,⟨_,rfl⟩,h⟩
theorem ζu5{b j pos}:PE X (.Constant (.bool b) j pos) (tC (.bl b)):=fun _ _ _ H _ I h=>Constant_bool ⟨.bl b,H,I,rfl,h⟩
theorem ζu10{j pos}:PE X (.Constant .none j pos) (tC .non):=fun _ _ _ H _ I h=>Constant_none ⟨.non,H,I,rfl,h⟩
theorem ζ02{x j pos}:PE X (.Constant (.str x) j pos) (tC (.str x)):=fun _ _ _ H _ I h=>Calls.Constant_str ⟨.str x,H,I.tok _,⟨_,rfl⟩,h⟩
def Gl(X:Cx)(x:Str):Prop:=X.env.kindOf x=some .globalImplicit
theorem ζK5{E:Value->Shared->Prop}{pins:List (Addr × Obj)}{s:Shared}{σ:St}{H:Hp}{x:Str}{u:Value}{pos:Pos}{Q:Value->Shared->Prop}(I:Inv X pins σ H s)(hg:Gl X x)(hm:X.mg x=some u)(h:Q u s)
  (hd:(x == ("__debug__":Str))=false:=by decide):wpAny (model X.prog X.w) X.A (eval (.Name x pos) X.env) Q E s :=
 Calls.Name_function_global I.ok.kind hg (Calls.loadGlobal_global (by rw[I.ok.glob];exact I.mod.glob.keeps I.bk) hm h) hd
theorem ζ63{E:Value->Shared->Prop}{pins:List (Addr × Obj)}{s:Shared}{σ:St}{H:Hp}{x:Str}{u:Value}{pos:Pos}{Q:Value->Shared->Prop}(I:Inv X pins σ H s)(hg:Gl X x)(hm:X.mg x=none)(hv:bootBuiltins x=some u)(h:Q u s)
  (hn:x≠"__name__":=by decide) (hd:(x == ("__debug__":Str))=false:=by decide):wpAny (model X.prog X.w) X.A (eval (.Name x pos) X.env) Q E s:=by
 obtain⟨mb,h1,h2⟩:=I.mod.blt
 exact Calls.Name_function_global I.ok.kind hg (Calls.loadGlobal_builtin (by rw[I.ok.glob];exact I.mod.glob.keeps I.bk) hm (by rw[I.ok.blt];exact h1.keeps I.bk) ((h2 x hn).trans hv) h) hd
theorem ζ44 {x:Str} {v:V} {u:Value} {pos:Pos} (hg:Gl X x) (hm:X.mg x=some u) (r:RelV v u) (hd:(x == ("__debug__":Str))=false:=by decide):PE X (.Name x pos) (tC v) :=
 fun _ _ _ H _ I h=>ζK5 I hg hm ⟨v,H,I,r,h⟩ hd
def t2I(ta tb:TE)(k:Int->Int->Hp->Prop):St->Hp->Prop:=fun σ H=>ta σ H fun x H1=>tb σ H1 fun y H2=>∃ i j,x=.int i/\y=.int j/\k i j H2
variable{a b:Expr}{ta tb:TE}{pos:Pos}
def PC(X:Cx)(op:CmpOp)(a b:Expr)(t:TE):Prop :=
 ∀(pins:List (Addr × Obj)) (s:Shared) (σ:St) (H:Hp) (Q:VK),Inv X pins σ H s->t σ H Q ->
  wpAny (model X.prog X.w) X.A (eval a X.env) (fun v s₁=>wpAny (model X.prog X.w) X.A (eval b X.env) (fun u s₂=>wpAny (model X.prog X.w) X.A (compareOp op v u) (EP X pins σ Q) X.xe s₂) X.xe s₁) X.xe s
def tCmp(p:Int->Int->Bool)(ta tb:TE):TE:=fun σ H Q=>t2I ta tb (fun i j H2=>Q (.bl (p i j)) H2) σ H
abbrev tLe:TE->TE->TE:=tCmp fun i j=>decide (i<=j)
theorem ζj12{op:CmpOp}{p:Int->Int->Bool}(ha:PE X a ta)(hb:PE X b tb)
  (rule:∀(i j:Int) (t u:Tok) (Q:Value->Shared->Prop) (s:Shared),Q (.bool (p i j)) s->wpAny (model X.prog X.w) X.A (compareOp op (.int i t) (.int j u)) Q X.xe s):PC X op a b (tCmp p ta tb):=by
 intro pins s σ H Q I h
 refine bin ha hb I h fun v u s2 x y H2 I2 rx ry q=>?_
 obtain⟨i,j,rfl,rfl,q⟩:=q
 obtain⟨t,rfl⟩:=rx
 obtain⟨t',rfl⟩:=ry
 exact rule i j t t' _ s2 ⟨.bl _,H2,I2,rfl,q⟩
theorem ζG7(ha:PE X a ta)(hb:PE X b tb):PC X .LtE a b (tLe ta tb):=ζj12 ha hb fun _ _ _ _ _ _ h=>le_int h
def tB(t:TE):TT:=fun σ H Q=>t σ H fun x H1=>∃ c,x=.bl c/\Q c H1
theorem ζN1{e:Expr}{t:TE}(h:PE X e t)(he:∀ whole,isTrue e X.env whole=(do let v <- whole;standAt e.pos;holding [v] (truthy v)):=by intro _;rfl):PT X e (tB t):=by
 intro pins s σ H Q I hw
 refine isTrue_plain (thn (h pins s σ H _ I hw) fun v s1 ⟨x,H1,I1,r1,q1⟩=>?_) (he _)
 obtain⟨d,rfl,q⟩:=q1
 cases r1
 exact wpAny_truthy_bool ⟨H1,I1,q⟩
variable{tA tB':TT}{rest:List Expr}
def tAnd(t u:TT):TT:=fun σ H Q=>t σ H fun c H1=>if c=true then u σ H1 Q else Q false H1
def tOr(t u:TT):TT:=fun σ H Q=>t σ H fun c H1=>if c=true then Q true H1 else u σ H1 Q
def tNot(t:TT):TT:=fun σ H Q=>t σ H fun c H1=>Q (!c) H1
theorem ζm5(ha:PT X a tA):PW X (.BoolOp .And [a] pos) tA:=by
 intro wh pins s σ H Q I h
 refine isTrue_and (thn (ha pins s σ H Q I h) fun c s1 e=>?_)
 cases c with
 | true=>exact isTrue_and_nil e
 | false=>exact e
theorem ζF8(ha:PT X a tA):PW X (.BoolOp .Or [a] pos) tA:=by
 intro wh pins s σ H Q I h
 refine isTrue_or (thn (ha pins s σ H Q I h) fun c s1 e=>?_)
 cases c with
 | false=>exact isTrue_or_nil e
 | true=>exact e
theorem ζG8(ha:PT X a tA)(hb:PW X (.BoolOp .And (b :: rest) pos) tB'):PW X (.BoolOp .And (a :: b :: rest) pos) (tAnd tA tB'):=by
 intro wh pins s σ H Q I h
 refine isTrue_and (thn (ha pins s σ H _ I h) fun c s1 ⟨H1,I1,q1⟩=>?_)
 cases c with
 | true=>exact hb wh pins s1 σ H1 Q I1 q1
 | false=>exact⟨H1,I1,q1⟩
theorem ζ912(ha:PT X a tA)(hb:PW X (.BoolOp .Or (b :: rest) pos) tB'):PW X (.BoolOp .Or (a :: b :: rest) pos) (tOr tA tB'):=by
 intro wh pins s σ H Q I h
 refine isTrue_or (thn (ha pins s σ H _ I h) fun c s1 ⟨H1,I1,q1⟩=>?_)
 cases c with
 | true=>exact⟨H1,I1,q1⟩
 | false=>exact hb wh pins s1 σ H1 Q I1 q1
theorem ζY1(ha:PT X a tA):PT X (.UnaryOp .Not a pos) (tNot tA):=by
 intro pins s σ H Q I h
 exact isTrue_not (ha pins s σ H (fun c H1=>Q (!c) H1) I h)
def ζ413(ta tb:TE):TE:=fun σ H Q=>ta σ H fun x H1=>∃ c,x=.bl c/\if c=true then tb σ H1 Q else Q (.bl false) H1
def tOrV(ta tb:TE):TE:=fun σ H Q=>ta σ H fun x H1=>∃ c,x=.bl c/\if c=true then Q (.bl true) H1 else tb σ H1 Q
theorem ζt10{op}{t:TE}(h:PE X a t):PE X (.BoolOp op [a] pos) t:=fun pins s σ H Q I hw=>BoolOp_one (h pins s σ H Q I hw)
theorem ζh12(ha:PE X a ta)(hb:PE X (.BoolOp .And (b :: rest) pos) tb):PE X (.BoolOp .And (a :: b :: rest) pos) (ζ413 ta tb):=by
 intro pins s σ H Q I h
 refine BoolOp_and (thn (ha pins s σ H _ I h) fun v s1 ⟨x,H1,I1,r1,q1⟩=>?_)
 obtain⟨c,rfl,q1⟩:=q1
 cases r1
 refine wpAny_truthy_bool ?_
 cases c with
 | true=>exact hb pins s1 σ H1 Q I1 q1
 | false=>exact⟨.bl false,H1,I1,rfl,q1⟩
theorem ζd13(ha:PE X a ta)(hb:PE X (.BoolOp .Or (b :: rest) pos) tb):PE X (.BoolOp .Or (a :: b :: rest) pos) (tOrV ta tb):=by
 intro pins s σ H Q I h
 refine BoolOp_or (thn (ha pins s σ H _ I h) fun v s1 ⟨x,H1,I1,r1,q1⟩=>?_)
 obtain⟨c,rfl,q1⟩:=q1
 cases r1
 refine wpAny_truthy_bool ?_
 cases c with
 | false=>exact hb pins s1 σ H1 Q I1 q1
 | true=>exact⟨.bl true,H1,I1,rfl,q1⟩
def tIf(t:TT)(ta tb:TE):TE:=fun σ H Q=>t σ H fun c H1=>if c=true then ta σ H1 Q else tb σ H1 Q
theorem ζs5{c:Expr}(hc:PT X c tA)(ha:PE X a ta)(hb:PE X b tb):PE X (.IfExp c a b pos) (tIf tA ta tb):=by
 intro pins s σ H Q I h
 refine wpAny_IfExp (thn (hc pins s σ H _ I h) fun d s1 ⟨H1,I1,q1⟩=>?_)
 cases d with
 | true=>exact ha pins s1 σ H1 Q I1 q1
 | false=>exact hb pins s1 σ H1 Q I1 q1
end
def SqL(K:PySem.W.Frag)(H:Hp)(a:Addr)(xs:List V):Prop :=
 Rd H a (.lst xs) \/
  ∃(o:Obj) (its:Array Value) (n:Nat),K.lookup a=some o/\o.cls=.type "list"/\o.dict=none/\o.data=.seq its n/\its.size<=sizeLine/\Vals xs its.toList
def SqT(K:PySem.W.Frag)(H:Hp)(a:Addr)(xs:List V):Prop :=
 Rd H a (.tup xs) \/
  ∃(o:Obj) (its:Array Value) (n:Nat),K.lookup a=some o/\o.cls=.type "tuple"/\o.data=.seq its n/\its.size<=sizeLine/\Vals xs its.toList
def absV:Value->Option V
 | .none=>some .non
 | .bool b=>some (.bl b)
 | .int i _=>some (.int i)
 | .str x _=>some (.str x)
 | .bytes b _=>some (.byt b)
 | .float b _=>some (.flt b)
 | .ref a=>some (.ref a)
 | .type n=>some (.ty n)
 | _=>none
theorem RelV.abs{x:V}{u:Value}(r:RelV x u):absV u=some x:=by
 cases x with
 | non=>cases r;rfl
 | bl _=>cases r;rfl
 | int _=>obtain⟨t,rfl⟩:=r;rfl
 | str _=>obtain⟨t,rfl⟩:=r;rfl
 | byt _=>obtain⟨t,rfl⟩:=r;rfl
 | flt _=>obtain⟨t,rfl⟩:=r;rfl
 | ref _=>cases r;rfl
 | ty _=>cases r;rfl
theorem RelV.inj{x y:V}{u:Value}(r:RelV x u)(q:RelV y u):x=y:=Option.some.inj (r.abs.symm.trans q.abs)
theorem Vals.inj:∀ {xs ys:List V} {us:List Value},Vals xs us->Vals ys us->xs=ys
 | _,_,_,.nil,.nil=>rfl
 | _,_,_,.cons r t,.cons r' t'=>by rw[r.inj r',Vals.inj t t']
section
variable{X:Cx}{pins:List (Addr × Obj)}{σ:St}{H:Hp}{s:Shared}{a:Addr}{xs ys:List V}
theorem SqL.of{K:PySem.W.Frag}(h:H a=some (.lst xs)):SqL K H a xs:=.inl (.inl h)
theorem SqT.of{K:PySem.W.Frag}(h:H a=some (.tup xs)):SqT K H a xs:=.inl (.inl h)
theorem Inv.list(I:Inv X pins σ H s)(h:SqL X.K H a xs):∃ its:List Value,Vals xs its/\PlainL s.heap a its.toArray/\xs.length<=sizeLine:=by
 rcases h with h | ⟨o,its,n,hk,hc,hd,hs,hz,r⟩
 ·obtain⟨z,its,n,r,e⟩:=h.ok I.hok
  exact⟨its,r,⟨_,n,e,rfl,rfl,rfl⟩,z⟩
 ·refine⟨its.toList,r,⟨o,n,I.kIn a o hk,hc,hd,by simpa using hs⟩,?_⟩
  have e:=r.length
  simp only [Array.length_toList]at e
  omega
theorem Inv.tuple(I:Inv X pins σ H s)(h:SqT X.K H a xs):∃ its:List Value,Vals xs its/\IsTup s.heap a its.toArray/\xs.length<=sizeLine:=by
 rcases h with h | ⟨o,its,n,hk,hc,hs,hz,r⟩
 ·obtain⟨z,its,r,p⟩:=h.ok I.hok
  exact⟨its,r,p,z⟩
 ·refine⟨its.toList,r,⟨o,I.kIn a o hk,hc,n,by simpa using hs⟩,?_⟩
  have e:=r.length
  simp only [Array.length_toList]at e
  omega
theorem Inv.list_inj(I:Inv X pins σ H s)(h:SqL X.K H a xs)(h':SqL X.K H a ys):xs=ys:=by
 obtain⟨its,r,⟨o,n,e,_,_,d⟩,_⟩:=I.list h
 obtain⟨its',r',⟨o',n',e',_,_,d'⟩,_⟩:=I.list h'
 rw[e]at e';cases e'
 rw[d]at d'
 injection d' with d1 _
 have:its=its':=by simpa using congrArg Array.toList d1
 subst this
 exact r.inj r'
theorem Inv.tuple_inj(I:Inv X pins σ H s)(h:SqT X.K H a xs)(h':SqT X.K H a ys):xs=ys:=by
 obtain⟨its,r,⟨o,e,_,n,d⟩,_⟩:=I.tuple h
 obtain⟨its',r',⟨o',e',_,n',d'⟩,_⟩:=I.tuple h'
 rw[e]at e';cases e'
 rw[d]at d'
 injection d' with d1 _
 have:its=its':=by simpa using congrArg Array.toList d1
 subst this
 exact r.inj r'
end
abbrev Cx.wish(X:Cx)(E:Value->Shared->Prop):Cx:={ X with xe:=E }
abbrev Cx.nox(X:Cx):Cx:=X.wish fun _ _=>False
theorem Cx.Ok.wish{X:Cx}(ok:X.Ok)(E:Value->Shared->Prop):(X.wish E).Ok :=
 ⟨ok.mod,ok.kind,ok.glob,ok.blt,ok.above,ok.inj,ok.has,ok.cab,ok.hd,ok.frames,ok.stk,ok.exf,ok.bs,ok.bsz,ok.noex,ok.exfs,ok.funs,ok.frf⟩
theorem Cx.Ok.unwish{X:Cx}{E:Value->Shared->Prop}(ok:(X.wish E).Ok):X.Ok :=
 ⟨ok.mod,ok.kind,ok.glob,ok.blt,ok.above,ok.inj,ok.has,ok.cab,ok.hd,ok.frames,ok.stk,ok.exf,ok.bs,ok.bsz,ok.noex,ok.exfs,ok.funs,ok.frf⟩
section
variable{X:Cx}{pins:List (Addr × Obj)}{σ:St}{H:Hp}{s:Shared}{E:Value->Shared->Prop}
theorem Inv.wish(I:Inv X pins σ H s)(E:Value->Shared->Prop):Inv (X.wish E) pins σ H s:=⟨I.ok.wish E,I.os,I.bare,I.base,I.loc,I.cell,I.free,I.freeC,I.pin,I.hok,I.len⟩
theorem Inv.unwish(I:Inv (X.wish E) pins σ H s):Inv X pins σ H s:=⟨I.ok.unwish,I.os,I.bare,I.base,I.loc,I.cell,I.free,I.freeC,I.pin,I.hok,I.len⟩
theorem SP.unwish{D:Ends}{f:Flow}{s':Shared}(h:SP (X.wish E) pins D f s'):SP X pins D f s':=by
 cases f with
 | next=>obtain⟨σ',H',I,q⟩:=h;exact⟨σ',H',I.unwish,q⟩
 | brk=>obtain⟨σ',H',I,q⟩:=h;exact⟨σ',H',I.unwish,q⟩
 | cont=>obtain⟨σ',H',I,q⟩:=h;exact⟨σ',H',I.unwish,q⟩
 | ret u=>obtain⟨v,σ',H',I,r,q⟩:=h;exact⟨v,σ',H',I.unwish,r,q⟩
theorem PSs.nox{st:List Stmt}{t:TS}(h:PSs X.nox st t):PSs X st t:=fun pins s σ H D I hw =>
 wpAny_mono (h pins s σ H D (I.wish _) hw) (fun _ _ q=>q.unwish) fun _ _ z=>False.elim z
end
section
variable{X:Cx}{st:Stmt}{rest:List Stmt}{t u:TS}{e:Expr}{te:TE}{pos:Pos}
def ζZ12:TS:=fun D σ H=>D.nx σ H
def tSeq(t u:TS):TS:=fun D σ H=>t { D with nx:=u D } σ H
theorem ζn:PSs X [] ζZ12:=fun _ _ σ H _ I h=>wpAny_execs_nil ⟨σ,H,I,h⟩
theorem ζ2(h1:PS X st t)(h2:PSs X rest u):PSs X (st :: rest) (tSeq t u):=by
 intro pins s σ H D I h
 refine wpAny_execs_cons (thn (h1 pins s σ H { D with nx:=u D } I h) fun f s1 q=>?_)
 cases f with
 | next =>
  obtain⟨σ',H',I',q⟩:=q
  exact h2 pins s1 σ' H' D I' q
 | ret v=>exact q
 | brk=>exact q
 | cont=>exact q
theorem ζ6(h1:PS X st t):PSs X [st] t:=by
 intro pins s σ H D I h
 refine wpAny_execs_cons (thn (h1 pins s σ H D I h) fun f s1 q=>?_)
 cases f with
 | next=>exact wpAny_execs_nil q
 | ret v=>exact q
 | brk=>exact q
 | cont=>exact q
theorem Inv.quiet{pins:List (Addr × Obj)}{σ:St}{H:Hp}{s:Shared}(I:Inv X pins σ H s):interactive X.env=false:=by simp[interactive,I.ok.kind]
def ζM12(te:TE):TS:=fun D σ H=>te σ H fun _ H1=>D.nx σ H1
theorem ζ51(he:PE X e te)(hs:swapsWith e none pos.line X.env=pure false:=by rfl):PS X (.Expr e pos) (ζM12 te):=by
 intro pins s σ H D I h
 exact wpAny_Expr_any (thn (he pins s σ H _ I h) fun v s1 ⟨x,H1,I1,r1,q1⟩=>⟨σ,H1,I1,q1⟩) I.quiet hs
def tRet(te:TE):TS:=fun D σ H=>te σ H D.rt
theorem ζl(he:PE X e te):PS X (.Return (some e) pos) (tRet te):=by
 intro pins s σ H D I h
 exact wpAny_Return_some (thn (he pins s σ H _ I h) fun v s1 ⟨x,H1,I1,r1,q1⟩=>⟨x,σ,H1,I1,r1,q1⟩)
def tIfS(c:TT)(t u:TS):TS:=fun D σ H=>c σ H fun b H1=>if b=true then t D σ H1 else u D σ H1
theorem ζe1{c:Expr}{a b:List Stmt}{tc:TT}(hc:PT X c tc)(ha:PSs X a t)(hb:PSs X b u):PS X (.If c a b pos) (tIfS tc t u):=by
 intro pins s σ H D I h
 refine wpAny_If (thn (hc pins s σ H _ I h) fun d s1 ⟨H1,I1,q1⟩=>?_)
 cases d with
 | true=>exact ha pins s1 σ H1 D I1 q1
 | false=>exact hb pins s1 σ H1 D I1 q1
def ζN11:TS:=fun _ _ _=>False
theorem ζJ:PS X st ζN11:=fun _ _ _ _ _ _ h=>h.elim
end
abbrev TG:=V->St->Hp->(St->Hp->Prop)->Prop
abbrev TGs:=List V->St->Hp->(St->Hp->Prop)->Prop
def PG(X:Cx)(target:Expr)(t:TG):Prop :=
 ∀(pins:List (Addr × Obj)) (s:Shared) (σ:St) (H:Hp) (v:V) (u:Value) (Q:St->Hp->Prop),Inv X pins σ H s->RelV v u->t v σ H Q ->
  wpAny (model X.prog X.w) X.A (assign target X.env u) (fun _ s'=>∃ σ' H',Inv X pins σ' H' s'/\Q σ' H') X.xe s
def PGs(X:Cx)(ts:List Expr)(t:TGs):Prop :=
 ∀(pins:List (Addr × Obj)) (s:Shared) (σ:St) (H:Hp) (vs:List V) (us:List Value) (Q:St->Hp->Prop),Inv X pins σ H s->Vals vs us->t vs σ H Q ->
  wpAny (model X.prog X.w) X.A (assignInOrder ((assignEach ts X.env).map (·.2)) us) (fun _ s'=>∃ σ' H',Inv X pins σ' H' s'/\Q σ' H') X.xe s
abbrev TSet:=V->V->V->Hp->(Hp->Prop)->Prop
def PSet(X:Cx)(t:TSet):Prop :=
 ∀(pins:List (Addr × Obj)) (s:Shared) (σ:St) (H:Hp) (o i v:V) (ov iv u:Value) (Q:Hp->Prop),Inv X pins σ H s->RelV o ov->RelV i iv->RelV v u->t o i v H Q ->
  wpAny (model X.prog X.w) X.A (setItem ov iv u) (fun _ s'=>∃ H',Inv X pins σ H' s'/\Q H') X.xe s
abbrev TIp:=V->V->Hp->VK->Prop
def PIp(X:Cx)(op:Operator)(t:TIp):Prop :=
 ∀(pins:List (Addr × Obj)) (s:Shared) (σ:St) (H:Hp) (x y:V) (v u:Value) (Q:VK),Inv X pins σ H s->RelV x v->RelV y u->t x y H Q ->
  wpAny (model X.prog X.w) X.A (inplaceOp op v u) (EP X pins σ Q) X.xe s
section
variable{X:Cx}{pos:Pos}
def ζ58(i:Nat):TG:=fun v σ H Q=>Q (σ.set i (some v)) H
theorem ζe{i:Nat}{x:Str}(hN:X.N.Nodup)(hi:X.N[i]?=some x)(hx:Loc X.env.scope x)(hf:X.fn x=true\/X.env.scope.names.lookup x=some .local:=by first | exact .inl rfl | exact .inr rfl | assumption):PG X (.Name x pos) (ζ58 i):=by
 intro pins s σ H v u Q I r h
 exact wpAny_assign_Name (ζp3 I hN hi hx r (fun s' I'=>⟨_,H,I',h⟩) hf)
def gNil:TGs:=fun vs σ H Q=>vs=[]/\Q σ H
def ζU12(t:TG)(u:TGs):TGs:=fun vs σ H Q=>∃ v r,vs=v :: r/\t v σ H fun σ' H'=>u r σ' H' Q
theorem ζ91:PGs X [] gNil:=by
 intro pins s σ H vs us Q I r h
 obtain⟨e,h⟩:=h
 subst e
 cases r
 exact assignInOrder_nil ⟨σ,H,I,h⟩
theorem ζq{e:Expr}{es:List Expr}{t:TG}{u:TGs}(h1:PG X e t)(h2:PGs X es u)
  (hs:(assignEach (e :: es) X.env).map (·.2)=assign e X.env :: (assignEach es X.env).map (·.2):=by rfl):PGs X (e :: es) (ζU12 t u):=by
 intro pins s σ H vs us Q I r h
 obtain⟨v,vr,e1,h⟩:=h
 subst e1
 cases r with
 | cons r rr =>
  rw[hs]
  refine assignInOrder_cons (thn (h1 pins s σ H _ _ _ I r h) fun _ s1 ⟨σ1,H1,I1,q1⟩=>?_)
  exact h2 pins s1 σ1 H1 _ _ Q I1 rr q1
def gTup(K:PySem.W.Frag)(n:Nat)(t:TGs):TG:=fun v σ H Q=>∃ a xs,v=.ref a/\SqT K H a xs/\xs.length=n/\t xs σ H Q
theorem ζc12{es:List Expr}{k:Nat}{t:TGs}{n:Nat}(hc:X.calm=true)(h:PGs X es t)
  (hn:(assignEach es X.env).length=n:=by rfl) (hst:(assignEach es X.env).findIdx? (·.1)=none:=by rfl):PG X (.Tuple es k pos) (gTup X.K n t):=by
 intro pins s σ H v u Q I r hw
 obtain⟨a,xs,e1,hq,hl,hw⟩:=hw
 subst e1
 cases r
 obtain⟨its,rv,ht,hz⟩:=I.tuple hq
 refine assign_Tuple_tuple (I.ok.hd hc) ht (by simp[hn,<- hl,rv.length]) hst fun h' hx=>?_
 have I1:Inv X pins σ H { s with heap:=h' }:=I.kept (t':=s.toks) fun b o e=>hx b o (Nat.ne_of_lt (Heap.lt_size e)) e
 exact h pins _ σ H xs _ Q I1 (by simpa using rv) hw
def gSub(to ti:TE)(t:TSet):TG:=fun v σ H Q=>to σ H fun o H1=>ti σ H1 fun i H2=>t o i v H2 fun H3=>Q σ H3
theorem ζN8{o i:Expr}{to ti:TE}{t:TSet}(ho:PE X o to)(hi:PE X i ti)(hs:PSet X t)
  (ha:∀ v,assign (.Subscript o i pos) X.env v=(do
   let ov <- holding [v] (eval o X.env)
   let iv <- holding [v,ov] (eval i X.env)
   standAt pos
   holding [v,ov,iv] (setItem ov iv v)
   release [v,ov,iv] []):=by intro _;rfl):PG X (.Subscript o i pos) (gSub to ti t):=by
 intro pins s σ H v u Q I r h
 rw[ha]
 refine wpAny_bind (wpAny_holding (thn (ho pins s σ H _ I h) fun ov s1 ⟨x,H1,I1,r1,q1⟩=>?_))
 refine wpAny_bind (wpAny_holding (thn (hi pins s1 σ H1 _ I1 q1) fun iv s2 ⟨y,H2,I2,r2,q2⟩=>?_))
 refine wpAny_bind (wpAny_standAt (wpAny_bind (wpAny_holding (thn (hs pins s2 σ H2 x y v ov iv u _ I2 r1 r2 r q2) fun _ s3 ⟨H3,I3,q3⟩=>?_))))
 exact wpAny_release ⟨σ,H3,I3,q3⟩
def tAsg(te:TE)(g:TG):TS:=fun D σ H=>te σ H fun x H1=>g x σ H1 D.nx
theorem ζu3{tg e:Expr}{te:TE}{g:TG}(he:PE X e te)(hg:PG X tg g)(hs:swapsWithSole [tg] e pos.line X.env=pure false:=by rfl)(hw:swappedStores [tg] e X.env=pure none:=by rfl)
  (h1:(assignEach [tg] X.env).map (·.2)=[assign tg X.env]:=by rfl):PS X (.Assign [tg] e pos) (tAsg te g):=by
 intro pins s σ H D I h
 refine wpAny_Assign_stores (thn (he pins s σ H _ I h) fun v s1 ⟨x,H1,I1,r1,q1⟩=>?_) hs hw
 rw[h1]
 exact thn (hg pins s1 σ H1 x v _ I1 r1 q1) fun _ s2 q=>q
theorem ζh{i:Nat}{x:Str}{e:Expr}{te:TE}{pos':Pos}(hN:X.N.Nodup)(hi:X.N[i]?=some x)(hx:Loc X.env.scope x)(he:PE X e te)(hs:swapsWith e (some (.Name x pos')) pos.line X.env=pure false:=by rfl)(hf:X.fn x=true\/X.env.scope.names.lookup x=some .local:=by first | exact .inl rfl | exact .inr rfl | assumption) :
  PS X (.Assign [.Name x pos'] e pos) (tAsg te (ζ58 i)):=by
 intro pins s σ H D I h
 refine wpAny_Assign_Name (thn (he pins s σ H _ I h) fun v s1 ⟨y,H1,I1,r1,q1⟩=>?_) hs
 exact ζp3 I1 hN hi hx r1 (fun s2 I2=>⟨_,H1,I2,q1⟩) hf
def ζ313(to ti te:TE)(tget:V->V->Hp->VK->Prop)(tip:TIp)(tset:TSet):TS:=fun D σ H=>to σ H fun o H1=>ti σ H1 fun i H2=>tget o i H2 fun x H3=>te σ H3 fun y H4=>tip x y H4 fun z H5=>tset o i z H5 fun H6=>D.nx σ H6
def PGet(X:Cx)(t:V->V->Hp->VK->Prop):Prop :=
 ∀(pins:List (Addr × Obj)) (s:Shared) (σ:St) (H:Hp) (o i:V) (ov iv:Value) (Q:VK),Inv X pins σ H s->RelV o ov->RelV i iv->t o i H Q ->
  wpAny (model X.prog X.w) X.A (getItem ov iv) (EP X pins σ Q) X.xe s
theorem ζ14{o i e:Expr}{to ti te:TE}{tget:V->V->Hp->VK->Prop}{tip:TIp}{tset:TSet}{op:Operator}{tpos:Pos}(ho:PE X o to)(hi:PE X i ti)(hg:PGet X tget)(he:PE X e te)(hp:PIp X op tip)(hs:PSet X tset)
  (ha:∀ ov iv new,augStore i ov iv new=(do holding [new,ov,iv] (setItem ov iv new);release [new,ov,iv] [];pure .next):=by intros;rfl):PS X (.AugAssign (.Subscript o i tpos) op e pos) (ζ313 to ti te tget tip tset):=by
 intro pins s σ H D I h
 refine wpAny_AugAssign_SubscriptAny (thn (ho pins s σ H _ I h) fun ov s1 ⟨x1,H1,I1,r1,q1⟩=>?_) ha
 refine thn (hi pins s1 σ H1 _ I1 q1) fun iv s2 ⟨x2,H2,I2,r2,q2⟩=>?_
 refine thn (hg pins s2 σ H2 x1 x2 ov iv _ I2 r1 r2 q2) fun old s3 ⟨x3,H3,I3,r3,q3⟩=>?_
 refine thn (he pins s3 σ H3 _ I3 q3) fun v s4 ⟨x4,H4,I4,r4,q4⟩=>?_
 refine thn (hp pins s4 σ H4 x3 x4 old v _ I4 r3 r4 q4) fun new s5 ⟨x5,H5,I5,r5,q5⟩=>?_
 exact thn (hs pins s5 σ H5 x1 x2 x5 ov iv new _ I5 r1 r2 r5 q5) fun _ s6 ⟨H6,I6,q6⟩=>⟨σ,H6,I6,q6⟩
def ipI(f:Int->Int->Int):TIp:=fun x y H Q=>∃ i j,x=.int i/\y=.int j/\Q (.int (f i j)) H
theorem ζT10:PIp X .Add (ipI fun i j=>i+j):=by
 intro pins s σ H x y v u Q I r1 r2 h
 obtain⟨i,j,e1,e2,q⟩:=h
 subst e1;subst e2
 obtain⟨t,rfl⟩:=r1
 obtain⟨t',rfl⟩:=r2
 exact iadd_int ⟨.int _,H,I.tok _,⟨_,rfl⟩,q⟩
theorem ζS10:PIp X .Sub (ipI fun i j=>i - j):=by
 intro pins s σ H x y v u Q I r1 r2 h
 obtain⟨i,j,e1,e2,q⟩:=h
 subst e1;subst e2
 obtain⟨t,rfl⟩:=r1
 obtain⟨t',rfl⟩:=r2
 exact isub_int ⟨.int _,H,I.tok _,⟨_,rfl⟩,q⟩
def ζM11(c:TT)(tb:TS):TS:=fun D σ H=>∃ W:Nat->St->Hp->Prop,(∃ m,W m σ H)/\∀ m σ H,W m σ H ->
 c σ H fun b H1=>if b=true then ∃ N:St->Hp->Prop,(∀ σ' H',N σ' H'->∃ m',m'<m/\W m' σ' H')/\tb { D with nx:=N,ct:=N,bk:=D.nx } σ H1 else D.nx σ H1
theorem ζo5{c:Expr}{body:List Stmt}{tc:TT}{tb:TS}(hp:PassesOwn (model X.prog X.w) X.A X.env X.xe)(hc:PT X c tc)(hb:PSs X body tb):PS X (.While c body [] pos) (ζM11 tc tb):=by
 intro pins s σ H D I h
 obtain⟨W,⟨m0,w0⟩,turn⟩:=h
 refine wpAny_While (codeAny_whileLoop (fun n s'=>∃ σ' H',Inv X pins σ' H' s'/\W n σ' H') ?_ m0 ⟨σ,H,I,w0⟩)
 rintro n s1 ⟨σ1,H1,I1,w1⟩
 refine wpAny_passesOwn hp (thn (hc pins s1 σ1 H1 _ I1 (turn n σ1 H1 w1)) fun b s2 ⟨H2,I2,q2⟩=>?_)
 cases b with
 | true =>
  obtain⟨N,hN,q2⟩:=q2
  rw[if_pos rfl]
  refine wpAny_passesOwn hp (thn (hb pins s2 σ1 H2 _ I2 q2) fun f s3 q3=>?_)
  cases f with
  | next =>
   obtain⟨σ3,H3,I3,n3⟩:=q3
   obtain⟨m',hm,w3⟩:=hN σ3 H3 n3
   exact⟨m',hm,σ3,H3,I3,w3⟩
  | cont =>
   obtain⟨σ3,H3,I3,n3⟩:=q3
   obtain⟨m',hm,w3⟩:=hN σ3 H3 n3
   exact⟨m',hm,σ3,H3,I3,w3⟩
  | brk=>exact q3
  | ret v=>exact q3
 | false =>
  rw[if_neg Bool.false_ne_true]
  exact wpAny_execs_nil ⟨σ1,H2,I2,q2⟩
end
structure It where
 go:Nat->Hp->Prop
 yld:Nat->Hp->V->Hp->Prop
 stop:Nat->Hp->Prop
def FpOk(X:Cx)(pins:List (Addr × Obj))(H:Hp)(b:Addr):Prop :=
 H b=none/\b≠X.env.locals/\b∉X.fs/\(b∈X.ex\/X.s₀.heap.objs.size<=b)/\(∀ x c,X.env.cells.lookup x=some c->c≠b)/\∀ p∈X.pn++pins,p.1≠b
theorem Inv.fpOk{X:Cx}{pins:List (Addr × Obj)}{σ:St}{H H':Hp}{s:Shared}{b:Addr}(I:Inv X pins σ H s)(hb:s.heap.objs.size<=b)(hn:H' b=none):FpOk X pins H' b:=by
 refine⟨hn,Nat.ne_of_gt (Nat.lt_of_lt_of_le I.lt hb),I.nofs hb,.inr (Nat.le_trans I.sz hb),fun x c e z=>?_,fun p hp z=>?_⟩
 ·obtain⟨v,q⟩:=I.cell x c e
  exact absurd (Nat.lt_of_lt_of_le q.lt (by rw[z];exact hb)) (Nat.lt_irrefl _)
 ·exact absurd (Nat.lt_of_lt_of_le (Heap.lt_size (I.pin p hp).1) (by rw[z];exact hb)) (Nat.lt_irrefl _)
structure Turn (P:Program) (w:World) (K:PySem.W.Frag) (tg:Expr) (J:It) (fp:List Addr) (it:Addr) (tn:Nat->Heap->Prop):Prop where
 mem:it∈fp
 obj:∀ i h,tn i h->∀ b∈fp,∃ o,h.get? b=some o/\∀ v,o.data≠.cell v
 keep:∀ i h h',tn i h->(∀ b∈fp,∀ o,h.get? b=some o->h'.get? b=some o)->tn i h'
 item:∀(X:Cx),X.prog=P->X.w=w->X.K=K->X.calm=true->∀(i:Nat) (pins:List (Addr × Obj)) (s:Shared) (σ:St) (H:Hp) (E:Value->Shared->Prop),Inv X pins σ H s->(∀ b∈fp,FpOk X pins H b)->tn i s.heap->J.go i H ->
  wpAny (model P w) X.A (pyNext (.ref it)) (fun r s1=>∃ u,r=some u /\
   wpAny (model P w) X.A (letOwnedTupleGo tg (.ref it) u) (fun _ s2=>∃ x H',Inv X pins σ H' s2/\RelV x u/\J.yld i H x H'/\tn (i+1) s2.heap/\∀ b∈fp,H' b=none) E s1) E s
 done:∀(X:Cx),X.prog=P->X.w=w->X.K=K->X.calm=true->∀(i:Nat) (pins:List (Addr × Obj)) (s:Shared) (σ:St) (H:Hp) (E:Value->Shared->Prop),Inv X pins σ H s->(∀ b∈fp,FpOk X pins H b)->tn i s.heap->J.stop i H ->
  wpAny (model P w) X.A (pyNext (.ref it)) (fun r s1=>r=none/\Inv X pins σ H s1) E s
 self:∀(A:Around) (i:Nat) (s:Shared) (Q:Value->Shared->Prop) (E:Value->Shared->Prop),tn i s.heap->Q (.ref it) s->wpAny (model P w) A (pyIter (.ref it)) Q E s
abbrev TI:=St->Hp->(It->Hp->Prop)->Prop
def PIE(X:Cx)(pins:List (Addr × Obj))(σ:St)(tg:Expr)(R:It->Hp->Prop)(itv:Value)(s2:Shared):Prop :=
 ∃(it:Addr) (fp:List Addr) (tn:Nat->Heap->Prop) (J:It) (H':Hp),itv=.ref it/\Inv X pins σ H' s2/\Turn X.prog X.w X.K tg J fp it tn/\tn 0 s2.heap/\(∀ b∈fp,FpOk X pins H' b)/\R J H'
def PI(X:Cx)(tg iter:Expr)(wi:TI):Prop :=
 ∀(pins:List (Addr × Obj)) (s:Shared) (σ:St) (H:Hp) (R:It->Hp->Prop),Inv X pins σ H s->wi σ H R ->
  wpAny (model X.prog X.w) X.A (eval iter X.env) (fun v s1=>wpAny (model X.prog X.w) X.A (pyIter v) (PIE X pins σ tg R) X.xe s1) X.xe s
theorem ζC11{M:Model}{A:Around}{E:Value->Shared->Prop}{s:Shared}{tg:Expr}{it:Addr}{u:Value}{o:Obj}{n:String}{vs:Array Value}{Q:Unit->Shared->Prop}(ho:s.heap.get? it=some o)(hc:o.cls=.type n)(hd:o.data=.fields vs)
  (hn:["enumerate","zip","dict_itemiterator","dict_reverseitemiterator","odict_iterator","itertools.zip_longest","itertools.pairwise"].contains n=false) (hQ:Q () s):wpAny M A (letOwnedTupleGo tg (.ref it) u) Q E s:=by
 unfold letOwnedTupleGo
 cases tg <;> first
  | exact wpAny_pure hQ
  | (cases u <;> first
    | exact wpAny_pure hQ
    | (refine wpAny_bind (wpAny_load ho ?_)
       rw[hc,hd]
       show wpAny M A (if (["enumerate","zip","dict_itemiterator","dict_reverseitemiterator","odict_iterator","itertools.zip_longest","itertools.pairwise"].contains n && vs[0]? == some (rawInt _))=true then _ else _) Q E s
       rw[if_neg (by intro h;rw[hn,Bool.false_and]at h;cases h)]
       exact wpAny_pure hQ))
def Itl(K:PySem.W.Frag)(a:Addr):It :=
 ⟨fun i H=>∃ xs x,SqL K H a xs/\xs[i]?=some x,fun i H x H'=>H'=H/\∀ xs,SqL K H a xs->xs[i]?=some x,fun i H=>∃ xs,SqL K H a xs/\xs.length<=i⟩
def Itt(K:PySem.W.Frag)(a:Addr):It :=
 ⟨fun i H=>∃ xs x,SqT K H a xs/\xs[i]?=some x,fun i H x H'=>H'=H/\∀ xs,SqT K H a xs->xs[i]?=some x,fun i H=>∃ xs,SqT K H a xs/\xs.length<=i⟩
def Itr(lo:Int)(n:Nat):It:=⟨fun i _=>i<n,fun i H x H'=>H'=H/\x=.int (lo+i),fun i _=>n<=i⟩
theorem ζX3{P:Program}{w:World}{K:PySem.W.Frag}{tg:Expr}(a it:Addr):Turn P w K tg (Itl K a) [it] it (fun i h=>h.IsListIter it a i) where
 mem:=by simp
 obj:=fun i h st b hb=>by
  have e:b=it:=by simpa using hb
  subst e
  obtain⟨o,e,c,d⟩:=st
  exact⟨o,e,fun v z=>by rw[d]at z;cases z⟩
 keep:=fun i h h' st k=>st.at fun o e=>k it (by simp) o e
 item:=by
  intro X hP hw hK hc i pins s σ H E I hf st hg
  subst hP hw hK
  obtain⟨xs,x,hq,hx⟩:=hg
  obtain⟨its,rv,p,hz⟩:=I.list hq
  obtain⟨u,hu,ru⟩:=rv.get hx
  obtain⟨f0,f1,f2,f3,f4,f5⟩:=hf it (by simp)
  refine wpAny_pyNext_list_item st p.isList (x:=u) (by simpa using hu) fun h' st' sb=>?_
  have I1:Inv X pins σ H { s with heap:=h' }:=I.turned (t':=s.toks) (fun b o hb e=>(sb.2 b hb).trans e) f0 f1 f3 f4 f5
  obtain⟨o,e,c,d⟩:=id st'
  exact⟨u,rfl,ζC11 (s:={ s with heap:=h' }) e c d (by decide) ⟨x,H,I1,ru,⟨rfl,fun ys hy=>by rw[I.list_inj hy hq];exact hx⟩,st',fun b hb=>(hf b hb).1⟩⟩
 done:=by
  intro X hP hw hK hc i pins s σ H E I hf st hg
  subst hP hw hK
  obtain⟨xs,hq,hx⟩:=hg
  obtain⟨its,rv,p,hz⟩:=I.list hq
  obtain⟨f0,f1,f2,f3,f4,f5⟩:=hf it (by simp)
  have hl:=rv.length
  exact wpAny_pyNext_list_end (I.ok.hd hc) st p.isList (by simp;omega) fun h' eb=>⟨rfl,I.turned (t':=s.toks) (fun b o hb e=>eb b o hb e) f0 f1 f3 f4 f5⟩
 self:=fun _ _ _ _ _ st h=>wpAny_pyIter_listiter st h
theorem ζW2{P:Program}{w:World}{K:PySem.W.Frag}{tg:Expr}(a it:Addr):Turn P w K tg (Itt K a) [it] it (fun i h=>h.IsTupleIter it a i) where
 mem:=by simp
 obj:=fun i h st b hb=>by
  have e:b=it:=by simpa using hb
  subst e
  obtain⟨o,e,c,d⟩:=st
  exact⟨o,e,fun v z=>by rw[d]at z;cases z⟩
 keep:=fun i h h' st k=>st.at fun o e=>k it (by simp) o e
 item:=by
  intro X hP hw hK hc i pins s σ H E I hf st hg
  subst hP hw hK
  obtain⟨xs,x,hq,hx⟩:=hg
  obtain⟨its,rv,p,hz⟩:=I.tuple hq
  obtain⟨u,hu,ru⟩:=rv.get hx
  obtain⟨f0,f1,f2,f3,f4,f5⟩:=hf it (by simp)
  refine wpAny_pyNext_tuple_item st (show s.heap.IsTuple a its.toArray from p) (x:=u) (by simpa using hu) fun h' st' sb=>?_
  have I1:Inv X pins σ H { s with heap:=h' }:=I.turned (t':=s.toks) (fun b o hb e=>(sb.2 b hb).trans e) f0 f1 f3 f4 f5
  obtain⟨o,e,c,d⟩:=id st'
  exact⟨u,rfl,ζC11 (s:={ s with heap:=h' }) e c d (by decide) ⟨x,H,I1,ru,⟨rfl,fun ys hy=>by rw[I.tuple_inj hy hq];exact hx⟩,st',fun b hb=>(hf b hb).1⟩⟩
 done:=by
  intro X hP hw hK hc i pins s σ H E I hf st hg
  subst hP hw hK
  obtain⟨xs,hq,hx⟩:=hg
  obtain⟨its,rv,p,hz⟩:=I.tuple hq
  obtain⟨f0,f1,f2,f3,f4,f5⟩:=hf it (by simp)
  have hl:=rv.length
  exact wpAny_pyNext_tuple_end (I.ok.hd hc) st (show s.heap.IsTuple a its.toArray from p) (by simp;omega) fun h' eb=>⟨rfl,I.turned (t':=s.toks) (fun b o hb e=>eb b o hb e) f0 f1 f3 f4 f5⟩
 self:=fun _ _ _ _ _ st h=>wpAny_pyIter_tupleiter st h
theorem ζ95{P:Program}{w:World}{K:PySem.W.Frag}{tg:Expr}(it:Addr)(lo:Int)(n:Nat):Turn P w K tg (Itr lo n) [it] it (fun i h=>IsRangeIter h it (lo+(i:Nat) * 1) ((n:Int) - (i:Nat)) 1) where
 mem:=by simp
 obj:=fun i h st b hb=>by
  have e:b=it:=by simpa using hb
  subst e
  exact⟨_,st,fun v z=>by
   have z':Data.fields _=Data.cell v:=z
   cases z'⟩
 keep:=fun i h h' st k=>k it (by simp) _ st
 item:=by
  intro X hP hw hK hc i pins s σ H E I hf st hg
  subst hP hw hK
  obtain⟨f0,f1,f2,f3,f4,f5⟩:=hf it (by simp)
  have W:=Walks.range (prog:=X.prog) (w:=X.w) (I.ok.hd hc) it lo 1 n
  refine W.item i s _ _ hg st fun v h' tk hv st' kk=>?_
  obtain⟨t,rfl⟩:=hv
  have I1:Inv X pins σ H { s with heap:=h',toks:=tk }:=I.turned (fun b o hb e=>kk b o (by simpa using hb) e) f0 f1 f3 f4 f5
  refine⟨_,rfl,ζC11 (s:={ s with heap:=h',toks:=tk }) (n:="range_iterator") st' rfl rfl (by decide) ⟨.int (lo+i),H,I1,⟨t,?_⟩,⟨rfl,rfl⟩,st',fun b hb=>(hf b hb).1⟩⟩
  rw[Int.mul_one]
 done:=by
  intro X hP hw hK hc i pins s σ H E I hf st hg
  subst hP hw hK
  obtain⟨f0,f1,f2,f3,f4,f5⟩:=hf it (by simp)
  exact wpAny_pyNext_range_end (I.ok.hd hc) st (by have:n<=i:=hg;omega) fun h' eb=>⟨rfl,I.turned (t':=s.toks) (fun b o hb e=>eb b o hb e) f0 f1 f3 f4 f5⟩
 self:=fun _ _ _ _ _ st h=>wpAny_pyIter_rangeiter st h
section
variable{X:Cx}{tg:Expr}
def ζS12(K:PySem.W.Frag)(tl:TE):TI:=fun σ H R=>tl σ H fun x H1=>∃ a,x=.ref a/\(∃ xs,SqL K H1 a xs)/\R (Itl K a) H1
def iTup(K:PySem.W.Frag)(tl:TE):TI:=fun σ H R=>tl σ H fun x H1=>∃ a,x=.ref a/\(∃ xs,SqT K H1 a xs)/\R (Itt K a) H1
theorem ζr10{l:Expr}{tl:TE}(hl:PE X l tl):PI X tg l (ζS12 X.K tl):=by
 intro pins s σ H R I h
 refine thn (hl pins s σ H _ I h) fun v s1 ⟨x,H1,I1,r1,q1⟩=>?_
 obtain⟨a,e,⟨xs,hq⟩,q⟩:=q1
 subst e
 cases r1
 obtain⟨its,rv,p,hz⟩:=I1.list hq
 refine wpAny_pyIter_list p.isList ?_
 refine⟨s1.heap.objs.size,[s1.heap.objs.size],_,_,H1,rfl,I1.kept (t':=s1.toks) fun b o e=>Heap.get?_push_of_some _ e,ζX3 a _,⟨_,Heap.get?_push_size _ rfl,rfl,rfl⟩,fun b hb=>?_,q⟩
 have e:b=s1.heap.objs.size:=by simpa using hb
 subst e
 exact I1.fpOk (Nat.le_refl _) (I1.hok.fresh (Nat.le_refl _))
theorem ζb12{l:Expr}{tl:TE}(hl:PE X l tl):PI X tg l (iTup X.K tl):=by
 intro pins s σ H R I h
 refine thn (hl pins s σ H _ I h) fun v s1 ⟨x,H1,I1,r1,q1⟩=>?_
 obtain⟨a,e,⟨xs,hq⟩,q⟩:=q1
 subst e
 cases r1
 obtain⟨its,rv,p,hz⟩:=I1.tuple hq
 refine wpAny_pyIter_tuple (show s1.heap.IsTuple a its.toArray from p) ?_
 refine⟨s1.heap.objs.size,[s1.heap.objs.size],_,_,H1,rfl,I1.kept (t':=s1.toks) fun b o e=>Heap.get?_push_of_some _ e,ζW2 a _,⟨_,Heap.get?_push_size _ rfl,rfl,rfl⟩,fun b hb=>?_,q⟩
 have e:b=s1.heap.objs.size:=by simpa using hb
 subst e
 exact I1.fpOk (Nat.le_refl _) (I1.hok.fresh (Nat.le_refl _))
theorem ζl5{pins:List (Addr × Obj)}{σ:St}{H:Hp}{s:Shared}{R:It->Hp->Prop}{E:Value->Shared->Prop}{lo hi:Int}{t u v:Tok}{tk:Nat}(I:Inv X pins σ H s)(h1:-(2 ^ 62)<=lo)(h2:lo<2 ^ 62)(h3:-(2 ^ 62)<=hi)(h4:hi<2 ^ 62)
  (q:R (Itr lo (hi - lo).toNat) H):wpAny (model X.prog X.w) X.A (pyIter (.ref s.heap.objs.size)) (PIE X pins σ tg R) E { s with heap:=s.heap.push { cls:=.type "range",data:=.fields #[.int lo t,.int hi u,.int 1 v] },toks:=tk }:=by
 refine wpAny_pyIter_range (IsRange.new ..) (small_one h1 h2 h3 h4) ?_
 have I1:Inv X pins σ H { s with heap:=s.heap.push { cls:=.type "range",data:=.fields #[.int lo t,.int hi u,.int 1 v] },toks:=tk }:=I.kept fun b o e=>Heap.get?_push_of_some _ e
 refine⟨(s.heap.push { cls:=.type "range",data:=.fields #[.int lo t,.int hi u,.int 1 v] }).objs.size,[(s.heap.push { cls:=.type "range",data:=.fields #[.int lo t,.int hi u,.int 1 v] }).objs.size],_,_,H,rfl,
  I1.kept (t':=tk) fun b o e=>Heap.get?_push_of_some _ e,ζ95 _ lo (hi - lo).toNat,?_,fun b hb=>?_,q⟩
 ·have e1:lo+((0:Nat):Int) * 1=lo:=by simp
  have e2:(((hi - lo).toNat:Nat):Int) - ((0:Nat):Int)=Builtin.Range.rangeSize lo hi 1:=by rw[rangeSize_one];split <;> omega
  show IsRangeIter _ _ (lo+((0:Nat):Int) * 1) ((((hi - lo).toNat:Nat):Int) - ((0:Nat):Int)) 1
  rw[e1,e2]
  exact Heap.get?_push_size _ rfl
 ·have e:b=(s.heap.push { cls:=.type "range",data:=.fields #[.int lo t,.int hi u,.int 1 v] }).objs.size:=by simpa using hb
  subst e
  exact I1.fpOk (Nat.le_refl _) (I1.hok.fresh (Nat.le_refl _))
def ζl13(ta:TA):TI:=fun σ H R=>ta σ H fun vs H1=>∃ j:Int,vs=[.int j]/\-(2 ^ 62)<=j/\j<2 ^ 62/\R (Itr 0 j.toNat) H1
def ζk13(ta:TA):TI:=fun σ H R=>ta σ H fun vs H1=>∃ i j:Int,vs=[.int i,.int j]/\(-(2 ^ 62)<=i/\i<2 ^ 62/\-(2 ^ 62)<=j/\j<2 ^ 62)/\R (Itr i (j - i).toNat) H1
theorem ζF {a:Expr} {ta:TA} {p pos:Pos} (hg:Gl X "range") (hm:X.mg "range"=none) (ha:PA X [a] ta) (hs:starEach [a] X.env=[(false,eval a X.env)]:=by rfl):PI X tg (.Call (.Name "range" p) [a] [] pos) (ζl13 ta):=by
 intro pins s σ H R I h
 refine Call_ (ζ63 I hg hm boot_range (PyProof.Rows.callWith_type1 (thn (ha pos pins s σ H _ I h) fun us s1 ⟨vs,H1,I1,r1,q1⟩=>?_) hs rfl))
 obtain⟨j,e,q1,q2,q⟩:=q1
 subst e
 cases r1 with
 | cons r rr =>
  cases rr
  obtain⟨t,rfl⟩:=r
  exact call_range_1 (ζl5 I1 (by omega) (by omega) q1 q2 (by simpa using q))
theorem ζN6 {a b:Expr} {ta:TA} {p pos:Pos} (hg:Gl X "range") (hm:X.mg "range"=none) (ha:PA X [a,b] ta) (hs:starEach [a,b] X.env=[(false,eval a X.env),(false,eval b X.env)]:=by rfl) (hs2:starEach [b] X.env=[(false,eval b X.env)]:=by rfl) :
  PI X tg (.Call (.Name "range" p) [a,b] [] pos) (ζk13 ta):=by
 intro pins s σ H R I h
 refine Call_ (ζ63 I hg hm boot_range (PyProof.Rows.callWith_type1 (thn (ha pos pins s σ H _ I h) fun us s1 ⟨vs,H1,I1,r1,q1⟩=>?_) (by rw[hs,hs2]) (by rw[hs2];rfl)))
 obtain⟨i,j,e,⟨q1,q2,q3,q4⟩,q⟩:=q1
 subst e
 cases r1 with
 | cons r rr =>
  cases rr with
  | cons r' rr =>
   cases rr
   obtain⟨t,rfl⟩:=r
   obtain⟨t',rfl⟩:=r'
   exact call_range_2 (ζl5 I1 q1 q2 q3 q4 q)
def tFor(wi:TI)(g:TG)(tb:TS):TS:=fun D σ H=>wi σ H fun J H1=>∃ W:Nat->Nat->St->Hp->Prop,(∃ m,W 0 m σ H1)/\∀ i m σ H,W i m σ H ->
 (J.stop i H/\D.nx σ H)\/(J.go i H/\∃ N:St->Hp->Prop,(∀ σ' H',N σ' H'->∃ m',m'<m/\W (i+1) m' σ' H')/\∀ x H',J.yld i H x H'->g x σ H' fun σ2 H2=>tb { D with nx:=N,ct:=N,bk:=D.nx } σ2 H2)
def ζz2(fp:List Addr)(h:Heap):List (Addr × Obj):=fp.filterMap fun b=>(h.get? b).map fun o=>(b,o)
theorem ζC1{fp:List Addr}{h:Heap}{b:Addr}{o:Obj}(hb:b∈fp)(e:h.get? b=some o):(b,o)∈ζz2 fp h:=List.mem_filterMap.mpr ⟨b,hb,by rw[e];rfl⟩
theorem ζ84{fp:List Addr}{h:Heap}{p:Addr × Obj}(hp:p∈ζz2 fp h):p.1∈fp/\h.get? p.1=some p.2:=by
 obtain⟨b,hb,e⟩:=List.mem_filterMap.mp hp
 cases q:h.get? b with
 | none=>rw[q]at e;cases e
 | some o =>
  rw[q]at e
  have e':(b,o)=p:=Option.some.inj e
  subst e'
  exact⟨hb,q⟩
theorem Inv.pinned{pins:List (Addr × Obj)}{σ:St}{H:Hp}{s:Shared}{fp:List Addr}(I:Inv X pins σ H s)(hf:∀ b∈fp,FpOk X pins H b)(ho:∀ b∈fp,∃ o,s.heap.get? b=some o/\∀ v,o.data≠.cell v):Inv X (pins++ζz2 fp s.heap) σ H s :=
 I.pins_of fun p hp=>(List.mem_append.mp hp).elim (fun z=>I.pin p (List.mem_append_right _ z)) fun z=>by
  obtain⟨hb,e⟩:=ζ84 z
  obtain⟨f0,f1,f2,_⟩:=hf p.1 hb
  obtain⟨o,e',d⟩:=ho p.1 hb
  rw[e]at e';cases e'
  exact⟨e,f0,f1,f2,d⟩
theorem Inv.unpinned{pins pl:List (Addr × Obj)}{σ:St}{H:Hp}{s:Shared}(I:Inv X (pins++pl) σ H s):Inv X pins σ H s:=I.pins_of fun p hp=>I.pin p (List.mem_append_right _ (List.mem_append_left _ hp))
theorem ζ81{iter:Expr}{body:List Stmt}{wi:TI}{g:TG}{tb:TS}{pos:Pos}(hp:PassesOwn (model X.prog X.w) X.A X.env X.xe)(hc:X.calm=true)(hi:PI X tg iter wi)(hg:PG X tg g)(hb:PSs X body tb)
  (hs:∀ x,foldedSetIterable iter X.env x=pure x:=by intro _;rfl):PS X (.For tg iter body [] pos) (tFor wi g tb):=by
 intro pins s σ H D I h
 refine wpAny_For (thn (hi pins s σ H _ I h) fun v s1 h1=>thn h1 fun itv s2 h2=>?_) hs
 obtain⟨it,fp,tn,J,H2,e,I2,T,st2,f2,W,⟨m0,w0⟩,turn⟩:=h2
 subst e
 have stat:∀ {H':Hp},(∀ b∈fp,H' b=none)->∀ b∈fp,FpOk X pins H' b:=fun hn b hb=>⟨hn b hb,(f2 b hb).2⟩
 refine codeAny_forLoop_any (fun n s'=>∃ i σ' H',Inv X pins σ' H' s'/\tn i s'.heap/\(∀ b∈fp,H' b=none)/\W i n σ' H') ?_ m0 ⟨0,σ,H2,I2,st2,fun b hb=>(f2 b hb).1,w0⟩
 rintro n s3 ⟨i,σ3,H3,I3,st3,fr3,w3⟩
 rcases turn i n σ3 H3 w3 with ⟨stop,qn⟩ | ⟨go,N,hN,step⟩
 ·refine wpAny_passesOwn hp (thn (T.done X rfl rfl rfl hc i pins s3 σ3 H3 X.xe I3 (stat fr3) st3 stop) fun r s4 ⟨hr,I4⟩=>?_)
  subst hr
  exact wpAny_execs_nil ⟨σ3,H3,I4,qn⟩
 ·refine wpAny_passesOwn hp (thn (T.item X rfl rfl rfl hc i pins s3 σ3 H3 X.xe I3 (stat fr3) st3 go) fun r s4 ⟨u,hr,h4⟩=>?_)
  subst hr
  refine wpAny_passesOwn hp (thn h4 fun _ s5 ⟨x,H5,I5,r5,y5,st5,fr5⟩=>?_)
  have I5':=I5.pinned (stat fr5) (T.obj _ _ st5)
  refine wpAny_passesOwn hp (thn (hg _ s5 σ3 H5 x u _ I5' r5 (step x H5 y5)) fun _ s6 ⟨σ6,H6,I6,q6⟩=>?_)
  refine wpAny_passesOwn hp (thn (hb _ s6 σ6 H6 _ I6 q6) fun f s7 q7=>?_)
  have again:∀ {σ7:St} {H7:Hp},Inv X (pins++ζz2 fp s5.heap) σ7 H7 s7->N σ7 H7->∃ m,m<n/\∃ i σ' H',Inv X pins σ' H' s7/\tn i s7.heap/\(∀ b∈fp,H' b=none)/\W i m σ' H':=fun {σ7 H7} I7 n7=>by
   obtain⟨m',hm,w7⟩:=hN σ7 H7 n7
   refine⟨m',hm,i+1,σ7,H7,I7.unpinned,T.keep _ _ _ st5 fun b hb o e=>(I7.pin (b,o) (List.mem_append_right _ (List.mem_append_right _ (ζC1 hb e)))).1,fun b hb=>?_,w7⟩
   obtain⟨o,e,d⟩:=T.obj _ _ st5 b hb
   exact(I7.pin (b,o) (List.mem_append_right _ (List.mem_append_right _ (ζC1 hb e)))).2.1
  cases f with
  | next=>obtain⟨σ7,H7,I7,n7⟩:=q7;exact again I7 n7
  | cont=>obtain⟨σ7,H7,I7,n7⟩:=q7;exact again I7 n7
  | brk=>obtain⟨σ7,H7,I7,q7⟩:=q7;exact⟨σ7,H7,I7.unpinned,q7⟩
  | ret v=>obtain⟨x7,σ7,H7,I7,r7,q7⟩:=q7;exact⟨x7,σ7,H7,I7.unpinned,r7,q7⟩
end
theorem ζo9{K:PySem.W.Frag}{a:Addr}{xs:List V}{g:TG}{tb:TS}{D:Ends}{σ:St}{H:Hp}(Pv:Nat->St->Hp->Prop)(h0:Pv 0 σ H)(hl:∀ i σ H,i<=xs.length->Pv i σ H->SqL K H a xs)
  (hs:∀ i x σ H,xs[i]?=some x->Pv i σ H->g x σ H fun σ2 H2=>tb { D with nx:=Pv (i+1),ct:=Pv (i+1),bk:=D.nx } σ2 H2) (hd:∀ σ H,Pv xs.length σ H->D.nx σ H) :
  ∃ W:Nat->Nat->St->Hp->Prop,(∃ m,W 0 m σ H)/\∀ i m σ H,W i m σ H ->
   ((Itl K a).stop i H/\D.nx σ H)\/((Itl K a).go i H/\∃ N:St->Hp->Prop,(∀ σ' H',N σ' H'->∃ m',m'<m/\W (i+1) m' σ' H')/\∀ x H',(Itl K a).yld i H x H'->g x σ H' fun σ2 H2=>tb { D with nx:=N,ct:=N,bk:=D.nx } σ2 H2):=by
 refine⟨fun i m σ H=>m=xs.length - i/\i<=xs.length/\Pv i σ H,⟨xs.length,by simp,Nat.zero_le _,h0⟩,?_⟩
 rintro i m σ H ⟨rfl,hi,p⟩
 have q:=hl i σ H hi p
 by_cases hlt:i<xs.length
 ·refine .inr ⟨⟨xs,xs[i],q,by simp[hlt]⟩,Pv (i+1),fun σ' H' p'=>⟨xs.length - (i+1),by omega,rfl,hlt,p'⟩,fun x H' y=>?_⟩
  obtain⟨e,y⟩:=y
  subst e
  exact hs i x σ _ (y xs q) p
 ·have e:i=xs.length:=by omega
  subst e
  exact .inl ⟨⟨xs,q,Nat.le_refl _⟩,hd σ H p⟩
theorem ζ16{K:PySem.W.Frag}{a:Addr}{xs:List V}{g:TG}{tb:TS}{D:Ends}{σ:St}{H:Hp}(Pv:Nat->St->Hp->Prop)(h0:Pv 0 σ H)(hl:∀ i σ H,i<=xs.length->Pv i σ H->SqT K H a xs)
  (hs:∀ i x σ H,xs[i]?=some x->Pv i σ H->g x σ H fun σ2 H2=>tb { D with nx:=Pv (i+1),ct:=Pv (i+1),bk:=D.nx } σ2 H2) (hd:∀ σ H,Pv xs.length σ H->D.nx σ H) :
  ∃ W:Nat->Nat->St->Hp->Prop,(∃ m,W 0 m σ H)/\∀ i m σ H,W i m σ H ->
   ((Itt K a).stop i H/\D.nx σ H)\/((Itt K a).go i H/\∃ N:St->Hp->Prop,(∀ σ' H',N σ' H'->∃ m',m'<m/\W (i+1) m' σ' H')/\∀ x H',(Itt K a).yld i H x H'->g x σ H' fun σ2 H2=>tb { D with nx:=N,ct:=N,bk:=D.nx } σ2 H2):=by
 refine⟨fun i m σ H=>m=xs.length - i/\i<=xs.length/\Pv i σ H,⟨xs.length,by simp,Nat.zero_le _,h0⟩,?_⟩
 rintro i m σ H ⟨rfl,hi,p⟩
 have q:=hl i σ H hi p
 by_cases hlt:i<xs.length
 ·refine .inr ⟨⟨xs,xs[i],q,by simp[hlt]⟩,Pv (i+1),fun σ' H' p'=>⟨xs.length - (i+1),by omega,rfl,hlt,p'⟩,fun x H' y=>?_⟩
  obtain⟨e,y⟩:=y
  subst e
  exact hs i x σ _ (y xs q) p
 ·have e:i=xs.length:=by omega
  subst e
  exact .inl ⟨⟨xs,q,Nat.le_refl _⟩,hd σ H p⟩
theorem ζV{lo:Int}{n:Nat}{g:TG}{tb:TS}{D:Ends}{σ:St}{H:Hp}(Pv:Nat->St->Hp->Prop)(h0:Pv 0 σ H)
  (hs:∀ i σ H,i<n->Pv i σ H->g (.int (lo+i)) σ H fun σ2 H2=>tb { D with nx:=Pv (i+1),ct:=Pv (i+1),bk:=D.nx } σ2 H2) (hd:∀ σ H,Pv n σ H->D.nx σ H) :
  ∃ W:Nat->Nat->St->Hp->Prop,(∃ m,W 0 m σ H)/\∀ i m σ H,W i m σ H ->
   ((Itr lo n).stop i H/\D.nx σ H)\/((Itr lo n).go i H/\∃ N:St->Hp->Prop,(∀ σ' H',N σ' H'->∃ m',m'<m/\W (i+1) m' σ' H')/\∀ x H',(Itr lo n).yld i H x H'->g x σ H' fun σ2 H2=>tb { D with nx:=N,ct:=N,bk:=D.nx } σ2 H2):=by
 refine⟨fun i m σ H=>m=n - i/\i<=n/\Pv i σ H,⟨n,by simp,Nat.zero_le _,h0⟩,?_⟩
 rintro i m σ H ⟨rfl,hi,p⟩
 by_cases hlt:i<n
 ·refine .inr ⟨hlt,Pv (i+1),fun σ' H' p'=>⟨n - (i+1),by omega,rfl,hlt,p'⟩,fun x H' y=>?_⟩
  obtain⟨e,y⟩:=y
  subst e y
  exact hs i σ _ hlt p
 ·have e:i=n:=by omega
  subst e
  exact .inl ⟨Nat.le_refl _,hd σ H p⟩
abbrev R2:=V->V->Hp->VK->Prop
def OpR(X:Cx)(f:Value->Value->Sem Value)(r:R2):Prop :=
 ∀(pins:List (Addr × Obj)) (s:Shared) (σ:St) (H:Hp) (x y:V) (v u:Value) (Q:VK),Inv X pins σ H s->RelV x v->RelV y u->r x y H Q ->
  wpAny (model X.prog X.w) X.A (f v u) (EP X pins σ Q) X.xe s
def UnR(X:Cx)(f:Value->Sem Value)(r:V->Hp->VK->Prop):Prop :=
 ∀(pins:List (Addr × Obj)) (s:Shared) (σ:St) (H:Hp) (x:V) (v:Value) (Q:VK),Inv X pins σ H s->RelV x v->r x H Q ->
  wpAny (model X.prog X.w) X.A (f v) (EP X pins σ Q) X.xe s
def ζi2(X:Cx)(f:Value)(r:List V->Hp->VK->Prop):Prop :=
 ∀(pins:List (Addr × Obj)) (s:Shared) (σ:St) (H:Hp) (xs:List V) (us:List Value) (Q:VK),Inv X pins σ H s->Vals xs us->r xs H Q ->
  wpAny (model X.prog X.w) X.A (call f us) (EP X pins σ Q) X.xe s
def tOp(r:R2)(ta tb:TE):TE:=fun σ H Q=>ta σ H fun x H1=>tb σ H1 fun y H2=>r x y H2 Q
def tUn(r:V->Hp->VK->Prop)(ta:TE):TE:=fun σ H Q=>ta σ H fun x H1=>r x H1 Q
def rI(C:Int->Int->Prop)(g:Int->Int->V):R2:=fun x y H Q=>∃ i j,x=.int i/\y=.int j/\C i j/\Q (g i j) H
def rI0(g:Int->Int->V):R2:=fun x y H Q=>∃ i j,x=.int i/\y=.int j/\Q (g i j) H
def rU(g:Int->V):V->Hp->VK->Prop:=fun x H Q=>∃ i,x=.int i/\Q (g i) H
section
variable{X:Cx}{a b c:Expr}{ta tb tc:TE}{pos:Pos}
theorem binT(ha:PE X a ta)(hb:PE X b tb){pins:List (Addr × Obj)}{s:Shared}{σ:St}{H:Hp}{R:V->V->Hp->Prop}(I:Inv X pins σ H s)
  (h:ta σ H fun x H1=>tb σ H1 fun y H2=>R x y H2) {Q:Value->Shared->Prop} {f:Value->Value->Sem Value}
  (hf:∀ v u s2 x y H2,Inv X pins σ H2 s2->RelV x v->RelV y u->R x y H2->wpAny (model X.prog X.w) X.A (f v u) Q X.xe s2) :
  wpAny (model X.prog X.w) X.A (eval a X.env) (fun v s₁=>wpAny (model X.prog X.w) X.A (eval b X.env) (fun u s₂=>wpAny (model X.prog X.w) X.A (f v u) Q X.xe s₂) X.xe s₁) X.xe s:=by
 refine thn (ha pins s σ H _ I h) fun v s1 ⟨x,H1,I1,r1,q1⟩=>?_
 refine thn (hb pins s1 σ H1 _ I1 q1) fun u s2 ⟨y,H2,I2,r2,q2⟩=>?_
 exact hf v u s2 x y H2 I2 r1 r2 q2
theorem ζk{op:Operator}{r:R2}(ho:OpR X (binaryOp op) r)(ha:PE X a ta)(hb:PE X b tb):PE X (.BinOp a op b pos) (tOp r ta tb):=by
 intro pins s σ H Q I h
 exact wpAny_BinOp (binT ha hb I h fun v u s2 x y H2 I2 rx ry q=>ho pins s2 σ H2 x y v u Q I2 rx ry q)
theorem ζe12{op:UnaryOp}{r:V->Hp->VK->Prop}(ho:UnR X (unaryOp op) r)(ha:PE X a ta):PE X (.UnaryOp op a pos) (tUn r ta):=by
 intro pins s σ H Q I h
 exact UnaryOp_ (thn (ha pins s σ H _ I h) fun v s1 ⟨x,H1,I1,r1,q1⟩=>ho pins s1 σ H1 x v Q I1 r1 q1)
theorem opI{f:Value->Value->Sem Value}{C:Int->Int->Prop}{g:Int->Int->Int}
  (rule:∀(i j:Int) (t u:Tok) (s:Shared) (Q:Value->Shared->Prop) (E:Value->Shared->Prop),C i j->Q (.int (g i j) s.toks) { s with toks:=s.toks+1 }->wpAny (model X.prog X.w) X.A (f (.int i t) (.int j u)) Q E s) :
  OpR X f (rI C fun i j=>.int (g i j)):=by
 intro pins s σ H x y v u Q I rx ry h
 obtain⟨i,j,rfl,rfl,hc,q⟩:=h
 obtain⟨t,rfl⟩:=rx
 obtain⟨t',rfl⟩:=ry
 exact rule i j t t' s _ _ hc ⟨.int (g i j),H,I.tok _,⟨_,rfl⟩,q⟩
theorem opI0{f:Value->Value->Sem Value}{g:Int->Int->Int}
  (rule:∀(i j:Int) (t u:Tok) (s:Shared) (Q:Value->Shared->Prop) (E:Value->Shared->Prop),Q (.int (g i j) s.toks) { s with toks:=s.toks+1 }->wpAny (model X.prog X.w) X.A (f (.int i t) (.int j u)) Q E s) :
  OpR X f (rI0 fun i j=>.int (g i j)):=by
 intro pins s σ H x y v u Q I rx ry h
 obtain⟨i,j,rfl,rfl,q⟩:=h
 obtain⟨t,rfl⟩:=rx
 obtain⟨t',rfl⟩:=ry
 exact rule i j t t' s _ _ ⟨.int (g i j),H,I.tok _,⟨_,rfl⟩,q⟩
theorem opB0{f:Value->Value->Sem Value}{g:Int->Int->Bool}
  (rule:∀(i j:Int) (t u:Tok) (s:Shared) (Q:Value->Shared->Prop) (E:Value->Shared->Prop),Q (.bool (g i j)) s->wpAny (model X.prog X.w) X.A (f (.int i t) (.int j u)) Q E s) :
  OpR X f (rI0 fun i j=>.bl (g i j)):=by
 intro pins s σ H x y v u Q I rx ry h
 obtain⟨i,j,rfl,rfl,q⟩:=h
 obtain⟨t,rfl⟩:=rx
 obtain⟨t',rfl⟩:=ry
 exact rule i j t t' s _ _ ⟨.bl (g i j),H,I,rfl,q⟩
def CDiv(i j:Int):Prop:=0<j/\j<1073741824
def CPow(i j:Int):Prop:=0<=j/\j<=1000000/\i.natAbs<2 ^ 64
def CMul(i j:Int):Prop:=(-(2 ^ 64)<i/\i<2 ^ 64)\/(-(2 ^ 64)<j/\j<2 ^ 64)
theorem CMul.ok{i j:Int}(h:CMul i j):IntMulOk i j:=by
 rcases h with ⟨h1,h2⟩ | ⟨h1,h2⟩
 ·exact .of_left (intBits_le_64 h1 h2)
 ·exact .of_right (intBits_le_64 h1 h2)
theorem ζS:OpR X (binaryOp .Add) (rI0 fun i j=>.int (i+j)):=opI0 fun _ _ _ _ _ _ _ q=>add_int q
theorem ζj2:OpR X (binaryOp .Sub) (rI0 fun i j=>.int (i - j)):=opI0 fun _ _ _ _ _ _ _ q=>sub_int q
theorem ζ12:OpR X (binaryOp .Mult) (rI CMul fun i j=>.int (i * j)):=opI fun _ _ _ _ _ _ _ hc q=>mul_int q hc.ok
theorem ζ61:OpR X (binaryOp .FloorDiv) (rI CDiv fun i j=>.int (i / j)):=opI fun i j _ _ _ _ _ hc q=>by
 have h1:(0:Int)<j:=hc.1
 have h2:j<1073741824:=hc.2
 exact floordiv_int (by omega) (by rw[Int.fdiv_eq_ediv_of_nonneg i (by omega)];exact q) (.inl (PyProof.noPylong_small (by omega)))
theorem ζz:OpR X (binaryOp .Mod) (rI (fun _ j=>0<j) fun i j=>.int (i % j)):=opI fun i j _ _ _ _ _ hc q=>by
 have h1:(0:Int)<j:=hc
 exact mod_int' (by omega) (by rw[Int.fmod_eq_emod_of_nonneg i (by omega)];exact q)
theorem ζw3:OpR X (binaryOp .Pow) (rI CPow fun i j=>.int (i ^ j.toNat)):=opI fun _ _ _ _ _ _ _ hc q=>pow_int_small hc.1 hc.2.1 hc.2.2 q
theorem unI{f:Value->Sem Value}{g:Int->Int}
  (rule:∀(i:Int) (t:Tok) (s:Shared) (Q:Value->Shared->Prop) (E:Value->Shared->Prop),Q (.int (g i) s.toks) { s with toks:=s.toks+1 }->wpAny (model X.prog X.w) X.A (f (.int i t)) Q E s) :
  UnR X f (rU fun i=>.int (g i)):=by
 intro pins s σ H x v Q I rx h
 obtain⟨i,rfl,q⟩:=h
 obtain⟨t,rfl⟩:=rx
 exact rule i t s _ _ ⟨.int (g i),H,I.tok _,⟨_,rfl⟩,q⟩
theorem ζo8:UnR X (unaryOp .USub) (rU fun i=>.int (-i)):=unI fun _ _ _ _ _ q=>neg_int q
end
def scal:V->V->Bool
 | .non,.non=>true | .non,.int _=>true | .int _,.non=>true | .non,.bl _=>true | .bl _,.non=>true | .non,.str _=>true | .str _,.non=>true
 | .int _,.int _=>true | .bl _,.bl _=>true | .str _,.str _=>true | .byt _,.byt _=>true
 | .int _,.str _=>true | .str _,.int _=>true | .bl _,.str _=>true | .str _,.bl _=>true
 | _,_=>false
def rEq:R2:=fun x y H Q=>scal x y=true/\Q (.bl (decide (x=y))) H
def rNe:R2:=fun x y H Q=>scal x y=true/\Q (.bl (!decide (x=y))) H
theorem ζI{i j:Int}:decide (V.int i=V.int j)=(i == j):=by
 rw[Bool.eq_iff_iff]
 simp
theorem ζB9{i j:Bool}:decide (V.bl i=V.bl j)=(i == j):=by
 rw[Bool.eq_iff_iff]
 simp
theorem ζd8{i j:Str}:decide (V.str i=V.str j)=(i == j):=by
 rw[Bool.eq_iff_iff]
 simp
theorem ζe8{i j:Array UInt8}:decide (V.byt i=V.byt j)=(i.toList == j.toList):=by
 rw[Bool.eq_iff_iff]
 cases i
 cases j
 simp
section
variable{X:Cx}{a b c:Expr}{ta tb tc:TE}{pos:Pos}
theorem ζA{pins:List (Addr × Obj)}{σ:St}{H:Hp}{s:Shared}{Q:VK}{k k':Bool}(I:Inv X pins σ H s)(q:Q (.bl k) H)(e:k=k'):EP X pins σ Q (.bool k') s:=by
 subst e
 exact⟨.bl k,H,I,rfl,q⟩
theorem ζT8:OpR X (compareOp .Eq) rEq:=by
 intro pins s σ H x y v u Q I rx ry h
 obtain⟨hs,q⟩:=h
 cases x with
 | non =>
  cases rx
  cases y with
  | non=>cases ry;exact PySem.EqNone.eq_none_none (ζA I q (by simp))
  | bl j=>cases ry;exact PySem.EqNone.eq_none_bool (ζA I q (by simp))
  | int j=>obtain⟨t',rfl⟩:=ry;exact PySem.EqNone.eq_none_int (ζA I q (by simp))
  | str j=>obtain⟨t',rfl⟩:=ry;exact PySem.EqNone.eq_none_str (ζA I q (by simp))
  | _=>exact absurd (show false=true from hs) Bool.false_ne_true
 | bl i =>
  cases rx
  cases y with
  | non=>cases ry;exact PySem.EqNone.eq_bool_none (ζA I q (by simp))
  | bl j=>cases ry;exact eq_bool (ζA I q ζB9)
  | str j=>obtain⟨t',rfl⟩:=ry;exact PySem.EqMixed.eq_bool_str (ζA I q (by simp))
  | _=>exact absurd (show false=true from hs) Bool.false_ne_true
 | int i =>
  obtain⟨t,rfl⟩:=rx
  cases y with
  | non=>cases ry;exact PySem.EqNone.eq_int_none (ζA I q (by simp))
  | int j=>obtain⟨t',rfl⟩:=ry;exact eq_int (ζA I q ζI)
  | str j=>obtain⟨t',rfl⟩:=ry;exact PySem.EqMixed.eq_int_str (ζA I q (by simp))
  | _=>exact absurd (show false=true from hs) Bool.false_ne_true
 | str i =>
  obtain⟨t,rfl⟩:=rx
  cases y with
  | non=>cases ry;exact PySem.EqNone.eq_str_none (ζA I q (by simp))
  | bl j=>cases ry;exact PySem.EqMixed.eq_str_bool (ζA I q (by simp))
  | int j=>obtain⟨t',rfl⟩:=ry;exact PySem.EqMixed.eq_str_int (ζA I q (by simp))
  | str j=>obtain⟨t',rfl⟩:=ry;exact eq_str (ζA I q ζd8)
  | _=>exact absurd (show false=true from hs) Bool.false_ne_true
 | byt i =>
  obtain⟨t,rfl⟩:=rx
  cases y with
  | byt j=>obtain⟨t',rfl⟩:=ry;exact PySem.W.eq_bytes (ζA I q ζe8)
  | _=>exact absurd (show false=true from hs) Bool.false_ne_true
 | _=>cases y <;> exact absurd (show false=true from hs) Bool.false_ne_true
theorem ζ74:OpR X (compareOp .NotEq) rNe:=by
 intro pins s σ H x y v u Q I rx ry h
 obtain⟨hs,q⟩:=h
 cases x with
 | non =>
  cases rx
  cases y with
  | non=>cases ry;exact PySem.EqNone.ne_none_none (ζA I q (by simp))
  | bl j=>cases ry;exact PySem.EqNone.ne_none_bool (ζA I q (by simp))
  | int j=>obtain⟨t',rfl⟩:=ry;exact PySem.EqNone.ne_none_int (ζA I q (by simp))
  | str j=>obtain⟨t',rfl⟩:=ry;exact PySem.EqNone.ne_none_str (ζA I q (by simp))
  | _=>exact absurd (show false=true from hs) Bool.false_ne_true
 | bl i =>
  cases rx
  cases y with
  | non=>cases ry;exact PySem.EqNone.ne_bool_none (ζA I q (by simp))
  | bl j=>cases ry;exact ne_bool (ζA I q (congrArg not ζB9))
  | str j=>obtain⟨t',rfl⟩:=ry;exact PySem.EqMixed.ne_bool_str (ζA I q (by simp))
  | _=>exact absurd (show false=true from hs) Bool.false_ne_true
 | int i =>
  obtain⟨t,rfl⟩:=rx
  cases y with
  | non=>cases ry;exact PySem.EqNone.ne_int_none (ζA I q (by simp))
  | int j=>obtain⟨t',rfl⟩:=ry;exact ne_int (ζA I q (congrArg not ζI))
  | str j=>obtain⟨t',rfl⟩:=ry;exact PySem.EqMixed.ne_int_str (ζA I q (by simp))
  | _=>exact absurd (show false=true from hs) Bool.false_ne_true
 | str i =>
  obtain⟨t,rfl⟩:=rx
  cases y with
  | non=>cases ry;exact PySem.EqNone.ne_str_none (ζA I q (by simp))
  | bl j=>cases ry;exact PySem.EqMixed.ne_str_bool (ζA I q (by simp))
  | int j=>obtain⟨t',rfl⟩:=ry;exact PySem.EqMixed.ne_str_int (ζA I q (by simp))
  | str j=>obtain⟨t',rfl⟩:=ry;exact ne_str (ζA I q (congrArg not ζd8))
  | _=>exact absurd (show false=true from hs) Bool.false_ne_true
 | byt i =>
  obtain⟨t,rfl⟩:=rx
  cases y with
  | byt j=>obtain⟨t',rfl⟩:=ry;exact PySem.W.ne_bytes (ζA I q (congrArg not ζe8))
  | _=>exact absurd (show false=true from hs) Bool.false_ne_true
 | _=>cases y <;> exact absurd (show false=true from hs) Bool.false_ne_true
theorem ζR8:OpR X (compareOp .Lt) (rI0 fun i j=>.bl (decide (i<j))):=opB0 fun _ _ _ _ _ _ _ q=>lt_int q
theorem ζI7:OpR X (compareOp .LtE) (rI0 fun i j=>.bl (decide (i<=j))):=opB0 fun _ _ _ _ _ _ _ q=>le_int q
theorem ζS8:OpR X (compareOp .Gt) (rI0 fun i j=>.bl (decide (j<i))):=opB0 fun _ _ _ _ _ _ _ q=>gt_int q
theorem ζk12:OpR X (compareOp .Is) (fun x y H Q=>y=.non/\Q (.bl (decide (x=.non))) H):=by
 intro pins s σ H x y v u Q I rx ry h
 obtain⟨rfl,q⟩:=h
 cases ry
 refine is_none_gen (ζA I q ?_)
 cases x <;> first
  | (cases rx;rfl)
  | (obtain⟨t,rfl⟩:=rx;rfl)
theorem ζx3:OpR X (compareOp .NotIn) (fun x y H Q=>∃ i j,x=.str i/\y=.str j/\Q (.bl (!(!(Builtin.Str.occurrences j i 0 j.length 1).isEmpty))) H):=by
 intro pins s σ H x y v u Q I rx ry h
 obtain⟨i,j,rfl,rfl,q⟩:=h
 obtain⟨t,rfl⟩:=rx
 obtain⟨t',rfl⟩:=ry
 exact notIn_str (ζA I q rfl)
theorem ζv(b:Expr){op:CmpOp}(h:op≠.In:=by decide)(h2:op≠.NotIn:=by decide):behindInMarks op b=false:=by
 have e1:(op == CmpOp.In)=false:=by cases op <;> first | rfl | exact absurd rfl h
 have e2:(op == CmpOp.NotIn)=false:=by cases op <;> first | rfl | exact absurd rfl h2
 cases b <;> simp[behindInMarks,e1,e2]
theorem ζA1{op:CmpOp}{r:R2}(ho:OpR X (compareOp op) r)(ha:PE X a ta)(hb:PE X b tb)(hm:behindInMarks op b=false):PE X (.Compare a [op] [b] pos) (tOp r ta tb):=by
 intro pins s σ H Q I h
 exact wpAny_Compare1 (binT ha hb I h fun v u s2 x y H2 I2 rx ry q=>ho pins s2 σ H2 x y v u Q I2 rx ry q) hm
def ζL12(t:TE):TT:=fun σ H Q=>t σ H fun x H'=>∃ k,x=.bl k/\Q k H'
theorem ζp{op:CmpOp}{r:R2}(ho:OpR X (compareOp op) r)(ha:PE X a ta)(hb:PE X b tb)(hm:behindInMarks op b=false):PT X (.Compare a [op] [b] pos) (ζL12 (tOp r ta tb)):=by
 intro pins s σ H Q I h
 refine wpAny_isTrue_Compare1 (thn (ha pins s σ H _ I h) fun v s1 ⟨x,H1,I1,r1,q1⟩=>thn (hb pins s1 σ H1 _ I1 q1) fun u s2 ⟨y,H2,I2,r2,q2⟩ =>
  thn (ho pins s2 σ H2 x y v u _ I2 r1 r2 q2) fun c s3 ⟨z,H3,I3,r3,k,e,q3⟩=>?_) hm
 subst e
 cases r3
 exact wpAny_truthy_bool ⟨H3,I3,q3⟩
def ζ410(r r':R2)(ta tb tc:TE):TE:=fun σ H Q=>ta σ H fun x H1=>tb σ H1 fun y H2=>r x y H2 fun z H3=>∃ k,z=.bl k /\
 (if k=true then tc σ H3 fun w' H4=>r' y w' H4 Q else Q (.bl false) H3)
theorem ζt5{op op':CmpOp}{r r':R2}(ho:OpR X (compareOp op) r)(ho':OpR X (compareOp op') r')(ha:PE X a ta)(hb:PE X b tb)(hc:PE X c tc)
  (hm:lastMarks [op,op'] [b,c]=false:=by with_unfolding_all rfl):PE X (.Compare a [op,op'] [b,c] pos) (ζ410 r r' ta tb tc):=by
 intro pins s σ H Q I h
 refine Compare_chain (thn (ha pins s σ H _ I h) fun v s1 ⟨x,H1,I1,r1,q1⟩=>chain_link (thn (hb pins s1 σ H1 _ I1 q1) fun u s2 ⟨y,H2,I2,r2,q2⟩ =>
  thn (ho pins s2 σ H2 x y v u _ I2 r1 r2 q2) fun d s3 ⟨z,H3,I3,r3,k,e,q3⟩=>?_)) hm
 subst e
 cases r3
 refine wpAny_truthy_bool ?_
 cases k with
 | false=>exact ite_ff ⟨.bl false,H3,I3,rfl,q3⟩
 | true=>exact ite_tt (chain_last (thn (hc pins s3 σ H3 _ I3 q3) fun w' s4 ⟨z',H4,I4,r4,q4⟩=>ho' pins s4 σ H4 y z' u w' Q I4 r2 r4 q4))
theorem ζt3{op op':CmpOp}{r r':R2}(ho:OpR X (compareOp op) r)(ho':OpR X (compareOp op') r')(ha:PE X a ta)(hb:PE X b tb)(hc:PE X c tc)
  (hm:lastMarks [op,op'] [b,c]=false:=by with_unfolding_all rfl):PT X (.Compare a [op,op'] [b,c] pos) (ζL12 (ζ410 r r' ta tb tc)):=by
 intro pins s σ H Q I h
 refine isTrue_chain (thn (ha pins s σ H _ I h) fun v s1 ⟨x,H1,I1,r1,q1⟩=>test_link (thn (hb pins s1 σ H1 _ I1 q1) fun u s2 ⟨y,H2,I2,r2,q2⟩ =>
  thn (ho pins s2 σ H2 x y v u _ I2 r1 r2 q2) fun d s3 ⟨z,H3,I3,r3,k,e,q3⟩=>?_)) hm
 subst e
 cases r3
 refine wpAny_truthy_bool ?_
 cases k with
 | false =>
  obtain⟨k',e',q'⟩:=q3
  cases e'
  exact ite_ff ⟨H3,I3,q'⟩
 | true =>
  refine ite_tt (test_last (thn (hc pins s3 σ H3 _ I3 q3) fun w' s4 ⟨z',H4,I4,r4,q4⟩=>thn (ho' pins s4 σ H4 y z' u w' _ I4 r2 r4 q4) fun d' s5 ⟨z2,H5,I5,r5,k2,e2,q5⟩=>?_))
  subst e2
  cases r5
  exact wpAny_truthy_bool ⟨H5,I5,q5⟩
theorem ζB3:(sizeLine:Nat)<2 ^ 63:=by rw[sizeLine_eq];decide
theorem ζw5:OpR X (binaryOp .Add) (fun x y H Q=>∃ i j,x=.str i/\y=.str j/\i.length+j.length<=sizeLine/\Q (.str (i++j)) H):=by
 intro pins s σ H x y v u Q I rx ry h
 obtain⟨i,j,rfl,rfl,hz,q⟩:=h
 obtain⟨t,rfl⟩:=rx
 obtain⟨t',rfl⟩:=ry
 exact add_str (fun t' tk=>⟨.str (i++j),H,I.tok _,⟨_,rfl⟩,q⟩) hz
theorem ζh3{x:V}{us:List Value}(r:Vals [x] us):∃ u,us=[u]/\RelV x u:=by
 cases r with
 | cons r1 r2=>cases r2;exact⟨_,rfl,r1⟩
theorem ζK11{x y:V}{us:List Value}(r:Vals [x,y] us):∃ u w',us=[u,w']/\RelV x u/\RelV y w':=by
 cases r with
 | cons r1 r2 =>
  cases r2 with
  | cons r3 r4=>cases r4;exact⟨_,_,rfl,r1,r3⟩
theorem ζX1 (hc:X.calm=true):ζi2 X (.builtin "max") (fun xs H Q=>∃ i j,xs=[.int i,.int j]/\Q (.int (if j > i then j else i)) H):=by
 intro pins s σ H xs us Q I r h
 obtain⟨i,j,rfl,q⟩:=h
 obtain⟨u,w',rfl,⟨t,rfl⟩,⟨t',rfl⟩⟩:=ζK11 r
 refine max_two_ints (I.ok.hd hc) fun h' tk k=>⟨_,H,I.kept k,?_,q⟩
 by_cases hj:j > i
 ·rw[if_pos hj,if_pos hj];exact⟨_,rfl⟩
 ·rw[if_neg hj,if_neg hj];exact⟨_,rfl⟩
theorem ζP2 (hc:X.calm=true):ζi2 X (.builtin "min") (fun xs H Q=>∃ i j,xs=[.int i,.int j]/\Q (.int (if j<i then j else i)) H):=by
 intro pins s σ H xs us Q I r h
 obtain⟨i,j,rfl,q⟩:=h
 obtain⟨u,w',rfl,⟨t,rfl⟩,⟨t',rfl⟩⟩:=ζK11 r
 refine min_two_ints (I.ok.hd hc) fun h' tk k=>⟨_,H,I.kept k,?_,q⟩
 by_cases hj:j<i
 ·rw[if_pos hj,if_pos hj];exact⟨_,rfl⟩
 ·rw[if_neg hj,if_neg hj];exact⟨_,rfl⟩
theorem ζO3:ζi2 X (.type "str") (fun xs H Q=>∃ i,xs=[.int i]/\i.natAbs.log2<1920/\Q (.str (toString i)) H):=by
 intro pins s σ H xs us Q I r h
 obtain⟨i,rfl,hz,q⟩:=h
 obtain⟨u,rfl,t,rfl⟩:=ζh3 r
 exact PySem.P.str_of_int hz ⟨.str _,H,I.tok _,⟨_,rfl⟩,q⟩
end
structure ObjM (h:Heap) (x dx C:Addr) (mA:Str->Option Value):Prop where
 obj:h.get? x=some (PySem.W.instObj C dx)
 ns:h.Ns1 dx mA
 ne:dx≠x
theorem ζ07{h:Heap}{dx:Addr}{mA:Str->Option Value}(n:h.Ns1 dx mA):∃ od,h.get? dx=some od/\∀ name,PySem.W.lookIn name od=some (mA name):=by
 obtain⟨o,es,ep,ho,hd,hk,_,hm⟩:=n
 refine⟨o,ho,fun name=>?_⟩
 have e:=hm name
 unfold nsFind findBy at e
 rw[<- Array.find?_toList]at e
 unfold PySem.W.lookIn
 rw[hd]
 dsimp only
 split
 ·rename_i y q
  rw[q]at e
  exact congrArg some e
 ·rename_i q
  rw[q]at e
  have a:es.toList.any (·.refKey)=false:=by
   rw[List.any_eq_false]
   intro y hy
   obtain⟨z,t,hkey⟩:=hk y (Array.mem_toList_iff.mp hy)
   simp[DictEntry.refKey,hkey]
  have a':¬ es.toList.any (·.refKey)=true:=by rw[a];exact Bool.false_ne_true
  rw[if_neg a']
  exact congrArg some e
theorem ObjM.look{h:Heap}{x dx C:Addr}{mA:Str->Option Value}(I:ObjM h x dx C mA):∃ od,PySem.W.InstAt h x (PySem.W.instObj C dx) C (some od)/\∀ name,PySem.W.lookIn name od=some (mA name) :=
 let ⟨od,ho,hl⟩:=ζ07 I.ns
 ⟨od,⟨I.obj,rfl,rfl,ho⟩,hl⟩
section
variable{prog:Program}{w:World}{A:Around}{E:Value->Shared->Prop}{s:Shared}{K:PySem.W.Frag}{x dx C f:Addr}{mA:Str->Option Value}{name:Str}{v:Value}
theorem ζ311{expr:Bool}{Q:Value->Shared->Prop}(X:K.In s.heap)(I:ObjM s.heap x dx C mA)(hg:PySem.W.plainGet K C name=true)(hh:PySem.W.hasDictIn K C=true)
  (ha:PySem.W.findIn K (.ref C) name=some none) (hv:mA name=some v) (hv':PySem.W.handedIn v=true) (h:Q v { s with toks:=s.toks+1 }) :
  wpAny (model prog w) A (getAttr (.ref x) name expr) Q E s:=by
 obtain⟨od,J,hl⟩:=I.look
 exact PySem.W.get_value X J (PySem.W.plainGet_of hg).1 (PySem.W.findObj_own hh ha rfl (by rw[hl,hv])) hv' h
theorem ζe10{ns:List Str}{Q:Unit->Shared->Prop}(X:K.In s.heap)(I:ObjM s.heap x dx C mA)
  (hs:PySem.W.findIn K (.ref C) "__setattr__"=some (some (.builtin "object.__setattr__"))) (hp:PySem.W.plainOver K C=true) (ht:PySem.W.takerIn K C name=some none) (hh:PySem.W.hasDictIn K C=true)
  (hw:PySem.Within mA ns) (hsz:ns.length<=sizeLine)
  (h:∀ h',ObjM h' x dx C (fun y=>if y=name then some v else mA y)->Heap.SameBut dx s.heap h'->Q () { s with heap:=h',toks:=s.toks+2 }) :
  wpAny (model prog w) A (setAttr (.ref x) name v) Q E s:=by
 obtain⟨od,J,hl⟩:=I.look
 refine PySem.W.set_plain X J hs (PySem.W.osa_open (s:={ s with toks:=s.toks+1 }) (r:=none) X J hp ht fun b=>?_)
 obtain⟨cd,hc,hd'⟩:=PySem.W.any_some hh
 have hx:s.heap.get? x=some ⟨.ref C,some dx,.plain,#[]⟩:=I.obj
 refine wpAny_bind (wpAny_pure (wpAny_bind (wpAny_bind (wpAny_loadPart hx (wpAny_bind (PySem.W.Looks.here (s:={ s with toks:=s.toks+1 }) (PySem.W.looks_clsIn X hc) ?_))))))
 rw[hd']
 refine wpAny_pure (a:=some dx) (wpAny_bind (wpAny_pure (wpAny_bind ?_)))
 refine wpAny_nsSet1 (s:={ s with toks:=s.toks+1 }) I.ns fun h' hn2 hs2=>?_
 obtain⟨oD,esD,epD,hoD,hdD,hcD⟩:=hn2.count (PySem.Within.cons name v hw)
 refine wpAny_bind (wpAny_lookBehind hoD (by rw[hdD];exact pastItsLine_dict (Nat.le_trans hcD (by rw[List.length_cons];omega))) ?_)
 exact wpAny_pure (h _ ⟨(hs2.2 _ (Ne.symm I.ne)).trans I.obj,hn2,I.ne⟩ hs2)
theorem ζ49{R:Result->Shared->Prop}{vs:List Value}{kw:List (Str × Value)}(X:K.In s.heap)(hm:PySem.W.makesIn K C=true)
  (hi:PySem.W.findIn K (.ref C) "__init__"=some (some (.ref f))) (hf:PySem.W.typeIn K (.ref f)=some (.type "function"))
  (h:codeAny (model prog w) (A.under (.builtin "type.__call__" ⟨.ref C :: vs,kw⟩)) (.call (.ref f) ⟨.ref (s.heap.objs.size+1) :: vs,kw⟩) (PySem.W.InitBack (s.heap.objs.size+1) R)
   { s with heap:=(s.heap.push PySem.W.emptyDict).push (PySem.W.instObj C s.heap.objs.size) }) :
  codeAny (model prog w) A (.call (.ref C) ⟨vs,kw⟩) R s:=by
 obtain⟨hh,g,d,t,os⟩:=s
 exact PySem.W.make_core (PySem.W.makes_of X hm) (PySem.W.looks_findIn X hi) (fun self=>PySem.W.bind_fn X self hf) (.inl rfl) h
end
def putF(f:Str)(v:V):List (Str × V)->List (Str × V)
 | []=>[(f,v)]
 | (g,x) :: r=>if g=f then (g,v) :: r else (g,x) :: putF f v r
theorem ζZ(f g:Str)(v:V):∀ fs:List (Str × V),(putF f v fs).lookup g=if g=f then some v else fs.lookup g
 | []=>by
  show List.lookup g [(f,v)]=_
  by_cases h:g=f
  ·have hb:(g == f)=true:=beq_iff_eq.mpr h
   simp only [List.lookup,hb,if_pos h]
  ·have hb:(g == f)=false:=beq_eq_false_iff_ne.mpr h
   simp only [List.lookup,hb,if_neg h]
 | (k,x) :: r=>by
  have ih:=ζZ f g v r
  rw[show putF f v ((k,x) :: r)=(if k=f then (k,v) :: r else (k,x) :: putF f v r) from rfl]
  by_cases hk:k=f
  ·rw[if_pos hk]
   by_cases h:g=k
   ·have hb:(g == k)=true:=beq_iff_eq.mpr h
    simp only [List.lookup,hb,if_pos (h.trans hk)]
   ·have hb:(g == k)=false:=beq_eq_false_iff_ne.mpr h
    simp only [List.lookup,hb,if_neg (fun e:g=f=>h (e.trans hk.symm))]
  ·rw[if_neg hk]
   by_cases h:g=k
   ·have hb:(g == k)=true:=beq_iff_eq.mpr h
    simp only [List.lookup,hb,if_neg (fun e:g=f=>hk (h.symm.trans e))]
   ·have hb:(g == k)=false:=beq_eq_false_iff_ne.mpr h
    simp only [List.lookup,hb]
    exact ih
theorem ζF2(f:Str)(v:V):∀ fs:List (Str × V),f∈(putF f v fs).map (·.1)/\∀ g,g∈fs.map (·.1)->g∈(putF f v fs).map (·.1)
 | []=>⟨by simp[putF],fun g h=>by simp at h⟩
 | (k,x) :: r=>by
  obtain⟨i1,i2⟩:=ζF2 f v r
  rw[show putF f v ((k,x) :: r)=(if k=f then (k,v) :: r else (k,x) :: putF f v r) from rfl]
  by_cases hk:k=f
  ·rw[if_pos hk]
   subst hk
   exact⟨by simp,fun g h=>by simpa using h⟩
  ·rw[if_neg hk]
   refine⟨?_,fun g h=>?_⟩
   ·rw[List.map_cons]
    exact List.mem_cons_of_mem _ i1
   ·rw[List.map_cons]at h ⊢
    rcases List.mem_cons.mp h with e | e
    ·exact List.mem_cons.mpr (.inl e)
    ·exact List.mem_cons_of_mem _ (i2 g e)
theorem ζo2(f:Str)(v:V):∀ fs:List (Str × V),(putF f v fs).length<=fs.length+1
 | []=>by simp[putF]
 | (k,x) :: r=>by
  have ih:=ζo2 f v r
  rw[show putF f v ((k,x) :: r)=(if k=f then (k,v) :: r else (k,x) :: putF f v r) from rfl]
  by_cases hk:k=f
  ·rw[if_pos hk,List.length_cons,List.length_cons];omega
  ·rw[if_neg hk,List.length_cons,List.length_cons];omega
theorem RelO.some_of{v:V}{o:Option Value}(r:RelO (some v) o):∃ u,o=some u/\RelV v u:=by
 cases o with
 | none=>exact(show False from r).elim
 | some u=>exact⟨u,rfl,r⟩
theorem ζa7{v:V}{u:Value}(r:RelV v u):PySem.W.handedIn u=true:=by
 cases v with
 | non=>cases (show u=Value.none from r);rfl
 | bl b=>cases (show u=Value.bool b from r);rfl
 | int i=>obtain⟨t,e⟩:=(show ∃ t,u=Value.int i t from r);cases e;rfl
 | str x=>obtain⟨t,e⟩:=(show ∃ t,u=Value.str x t from r);cases e;rfl
 | byt b=>obtain⟨t,e⟩:=(show ∃ t,u=Value.bytes b t from r);cases e;rfl
 | flt b=>obtain⟨t,e⟩:=(show ∃ t,u=Value.float b t from r);cases e;rfl
 | ref a=>cases (show u=Value.ref a from r);rfl
 | ty n=>cases (show u=Value.type n from r);rfl
section
variable{P:Program}{w:World}{H H':Hp}{h h':Heap}{a C dx:Addr}{fs fs':List (Str × V)}
theorem ζY7(hok:HOk P w H h)(e:H a=some (.ins C dx fs)):∃ mA,ObjM h a dx C mA/\(∀ f,RelO (fs.lookup f) (mA f))/\PySem.Within mA (fs.map (·.1))/\fs.length<=1000/\H dx=some (.own a):=by
 obtain⟨d,z,ne,ob,mA,n,r,q⟩:=(show ObjOk P w H h a (.ins C dx fs) from hok a _ e)
 exact⟨mA,⟨ob,n,ne⟩,r,q,z,d⟩
end
structure Cls (K:PySem.W.Frag) (C:Addr):Prop where
 pg:PySem.W.plainGet K C Str.empty=true
 hd:PySem.W.hasDictIn K C=true
 po:PySem.W.plainOver K C=true
 sa:PySem.W.findIn K (.ref C) "__setattr__"=some (some (.builtin "object.__setattr__"))
theorem Cls.get{K:PySem.W.Frag}{C:Addr}(c:Cls K C)(f:Str):PySem.W.plainGet K C f=true:=c.pg
def NoAttr(K:PySem.W.Frag)(C:Addr)(f:Str):Prop:=PySem.W.findIn K (.ref C) f=some none
theorem NoAttr.taker{K:PySem.W.Frag}{C:Addr}{f:Str}(n:NoAttr K C f):PySem.W.takerIn K C f=some none:=by
 unfold PySem.W.takerIn
 rw[show PySem.W.findIn K (.ref C) f=some none from n]
 rfl
structure Con (K:PySem.W.Frag) (C:Addr) (f:Str) (v:V) (u:Value):Prop where
 at_:PySem.W.findIn K (.ref C) f=some (some u)
 rel:RelV v u
 get:PySem.W.specialIn K u "__get__"=some none
 cp:PySem.W.copiedNames.contains f=false
structure Meth (K:PySem.W.Frag) (C:Addr) (m:Str) (f:Addr):Prop where
 at_:PySem.W.findIn K (.ref C) m=some (some (.ref f))
 fn:PySem.W.isFn K (.ref f)=true
 kp:PySem.W.keepIn K (.ref f)=true
section
variable{X:Cx}{pins:List (Addr × Obj)}{σ:St}{H:Hp}{s:Shared}{a C dx:Addr}{fs:List (Str × V)}{f:Str}{v:V}{A:Around}{E:Value->Shared->Prop}
theorem ζX5{b:Bool}{Q:Value->Shared->Prop}(I:Inv X pins σ H s)(e:H a=some (.ins C dx fs))(c:Cls X.K C)(n:NoAttr X.K C f)(l:fs.lookup f=some v)
  (h:∀ u s',Inv X pins σ H s'->RelV v u->Q u s'):wpAny (model X.prog X.w) A (getAttr (.ref a) f b) Q E s:=by
 obtain⟨mA,O,r,_,_,_⟩:=ζY7 I.hok e
 obtain⟨u,hu,ru⟩:=RelO.some_of (v:=v) (o:=mA f) (by rw[<- l];exact r f)
 exact ζ311 I.kIn O (c.get f) c.hd n hu (ζa7 ru) (h u _ (I.tok _) ru)
theorem ζi5{y:V}{u:Value}{Q:Unit->Shared->Prop}(I:Inv X pins σ H s)(e:H a=some (.ins C dx fs))(c:Cls X.K C)(n:NoAttr X.K C f)(hl:fs.length<1000)(ry:RelV y u)
  (h:∀ s',Inv X pins σ (upd H a (.ins C dx (putF f y fs))) s'->Q () s'):wpAny (model X.prog X.w) A (setAttr (.ref a) f u) Q E s:=by
 obtain⟨mA,O,r,wi,_,ho⟩:=ζY7 I.hok e
 have hz:(fs.map (·.1)).length<=sizeLine:=by rw[List.length_map,sizeLine_eq];omega
 refine ζe10 I.kIn O c.sa c.po n.taker c.hd wi hz fun h' O' sb=>h _ ?_
 have hd:∃ o,h'.get? dx=some o:=let ⟨o,_,_,e',_⟩:=O'.ns;⟨o,e'⟩
 refine I.write (x:=a) (e:=dx) (by rw[e];exact True.intro) (.inr ho) (fun b q hb z=>(sb.2 b hb).trans z) hd ?_
 refine⟨by rw[ζ9 O.ne];exact ho,?_,O.ne,O'.obj,_,O'.ns,fun g=>?_,fun g hg=>?_⟩
 ·have:=ζo2 f y fs;omega
 ·show RelO ((putF f y fs).lookup g) (if g=f then some u else mA g)
  rw[ζZ]
  by_cases q:g=f
  ·rw[if_pos q,if_pos q];exact ry
  ·rw[if_neg q,if_neg q];exact r g
 ·by_cases q:g=f
  ·rw[q];exact(ζF2 f y fs).1
  ·refine(ζF2 f y fs).2 g (wi g fun z=>hg ?_)
   show(if g=f then some u else mA g)=none
   rw[if_neg q];exact z
theorem Inv.made(I:Inv X pins σ H s):Inv X pins σ (upd (upd H s.heap.objs.size (.own (s.heap.objs.size+1))) (s.heap.objs.size+1) (.ins C s.heap.objs.size []))
  { s with heap:=(s.heap.push PySem.W.emptyDict).push (PySem.W.instObj C s.heap.objs.size) }:=by
 have e1:(s.heap.push PySem.W.emptyDict).get? s.heap.objs.size=some PySem.W.emptyDict:=Heap.get?_push_size s.heap rfl
 have e2:((s.heap.push PySem.W.emptyDict).push (PySem.W.instObj C s.heap.objs.size)).get? (s.heap.objs.size+1)=some (PySem.W.instObj C s.heap.objs.size):=by
  have:=Heap.get?_push_size (s.heap.push PySem.W.emptyDict) (o:=PySem.W.instObj C s.heap.objs.size) rfl
  rwa [Heap.size_push]at this
 have e3:(s.heap.push PySem.W.emptyDict).Ns s.heap.objs.size (fun _=>none):=⟨PySem.W.emptyDict,#[],_,e1,rfl,(fun e he=>absurd he (by simp)),fun _=>rfl⟩
 have I1:=I.laid (a:=s.heap.objs.size) (o:=.own (s.heap.objs.size+1)) (h':=s.heap.push PySem.W.emptyDict) (t':=s.toks) (fun b u q=>Heap.get?_push_of_some _ q) (Nat.le_refl _) ⟨_,e1⟩
 refine I1.laid (a:=s.heap.objs.size+1) (o:=.ins C s.heap.objs.size []) (t':=s.toks) (fun b u q=>Heap.get?_push_of_some _ q) (Nat.le_of_eq (Heap.size_push _ _)) ?_
 have ne:s.heap.objs.size≠s.heap.objs.size+1:=Nat.ne_of_lt (Nat.lt_succ_self _)
 refine⟨by rw[ζ9 ne,ζ1],Nat.zero_le _,ne,e2,fun _=>none,(Heap.Ns1.of_empty e3).at fun o q=>Heap.get?_push_of_some _ q,fun _=>True.intro,fun y hy=>absurd rfl hy⟩
theorem ζw11{prog:Program}{w:World}{env:Env}{e:Expr}{f:Str}{pos:Pos}{s:Shared}{Q:Value->Shared->Prop}(hb:attributeBase e f env (eval e env)=eval e env)
  (h:wpAny (model prog w) A (eval e env) (fun o s₁=>wpAny (model prog w) A (getAttr o f true) Q E s₁) E s):wpAny (model prog w) A (eval (.Attribute e f pos) env) Q E s :=
 Attribute_any_ h (by rw[arm_eval_Attribute,hb])
end
def tFld(K:PySem.W.Frag)(ta:TE)(f:Str):TE:=fun σ H Q=>ta σ H fun x H1=>∃ a C dx fs v,x=.ref a/\H1 a=some (.ins C dx fs)/\Cls K C/\NoAttr K C f/\fs.lookup f=some v/\Q v H1
def sFld(K:PySem.W.Frag)(ta tv:TE)(f:Str):TS:=fun D σ H=>tv σ H fun y H1=>ta σ H1 fun x H2=>∃ a C dx fs,x=.ref a/\H2 a=some (.ins C dx fs)/\Cls K C/\NoAttr K C f/\fs.length<1000 /\
 D.nx σ (upd H2 a (.ins C dx (putF f y fs)))
section
variable{X:Cx}{o e value:Expr}{f:Str}{pos pos' tpos:Pos}{ta tv:TE}
theorem ζf12(he:PE X e ta)(hb:attributeBase e f X.env (eval e X.env)=eval e X.env):PE X (.Attribute e f pos) (tFld X.K ta f):=by
 intro pins s σ H Q I h
 refine ζw11 hb (thn (he pins s σ H _ I h) fun u s1 ⟨x,H1,I1,rx,a,C,dx,fs,v,ex,ea,c,n,l,q⟩=>?_)
 subst ex
 obtain rfl:u=Value.ref a:=rx
 exact ζX5 I1 ea c n l fun u' s2 I2 ru=>⟨v,H1,I2,ru,q⟩
theorem ζo10(ha:PE X o ta)(hv:PE X value tv)(hs:swapsWith value (some (.Attribute o f pos')) pos.line X.env=pure false):PS X (.Assign [.Attribute o f pos'] value pos) (sFld X.K ta tv f):=by
 intro pins s σ H D I h
 refine plainObj_wpAny_Assign_Attribute (thn (hv pins s σ H _ I h) fun u s1 ⟨y,H1,I1,ry,q⟩=>thn (ha pins s1 σ H1 _ I1 q) fun ov s2 ⟨x,H2,I2,rx,a,C,dx,fs,ex,ea,c,n,l,q2⟩=>?_) hs
 subst ex
 obtain rfl:ov=Value.ref a:=rx
 exact ζi5 I2 ea c n l ry fun s3 I3=>⟨σ,_,I3,q2⟩
end
section
variable{X:Cx}{pins:List (Addr × Obj)}{σ:St}{H:Hp}{s:Shared}{A:Around}{E:Value->Shared->Prop}{Q:Value->Shared->Prop}{c:Value}{b:Bool}
inductive TyOf (K:PySem.W.Frag) (H:Hp):V->Value->Prop where
 | non:TyOf K H .non (.type "NoneType")
 | bl (x:Bool):TyOf K H (.bl x) (.type "bool")
 | int (i:Int):TyOf K H (.int i) (.type "int")
 | str (x:Str):TyOf K H (.str x) (.type "str")
 | flt (x:UInt64):TyOf K H (.flt x) (.type "float")
 | lst {a:Addr} {xs:List V} (e:H a=some (.lst xs)):TyOf K H (.ref a) (.type "list")
 | frz {a:Addr} {o:Obj} {xs:List V} (e:H a=some (.frz o (.lst xs))):TyOf K H (.ref a) (.type "list")
 | tup {a:Addr} {xs:List V} (e:H a=some (.tup xs)):TyOf K H (.ref a) (.type "tuple")
 | dK {a:Addr} {kvs:List (Key × V)} (e:H a=some (.dK kvs)):TyOf K H (.ref a) (.type "dict")
 | dT {a:Addr} {kvs:List (List Key × V)} (e:H a=some (.dT kvs)):TyOf K H (.ref a) (.type "dict")
 | ins {a C dx:Addr} {fs:List (Str × V)} (e:H a=some (.ins C dx fs)) (cl:Cls K C) (ha:PySem.W.findIn K (.ref C) "__class__"=some (some (.builtin "object.__class__")))
   (hn:PySem.W.specialIn K (.builtin "object.__class__") "__get__"=some (some (.builtin "getset_descriptor.__get__"))) (htk:PySem.W.takesIn K (.builtin "object.__class__")=some true)
   (hm:PySem.W.mroIn K C (.type "object")=some true):TyOf K H (.ref a) (.ref C)
end
structure Room (k:Nat) (A:Around):Prop where
 hd:A.handled=none
 dp:A.depth+3 * k+5<recursionLimit
 un:A.units+16 * k+200<cLine
theorem Room.mono{j k:Nat}{A:Around}(r:Room k A)(h:j<=k):Room j A:=⟨r.hd,by have:=r.dp;omega,by have:=r.un;omega⟩
theorem Room.deeper{k:Nat}{A:Around}(r:Room (k+1) A)(env:Env):Room k (A.deeper env) :=
 ⟨r.hd,by have:=r.dp;show A.depth+1+3 * k+5<_;omega,by have:=r.un;show A.units+3+16 * k+200<_;omega⟩
theorem ζI5 {A:Around} {C:Addr} {us:List Value} {kw:List (Str × Value)}:(A.under (.builtin "type.__call__" ⟨.ref C :: us,kw⟩)).depth=A.depth+1:=by
 first | rfl | simp[Around.under,Code.weight,Code.isCreation,Code.isGuard,Code.isCaller,Code.frames,Code.isFrame,guardIds]
theorem ζH5 {A:Around} {C:Addr} {us:List Value} {kw:List (Str × Value)}:(A.under (.builtin "type.__call__" ⟨.ref C :: us,kw⟩)).units=A.units+1:=by
 first | rfl | simp[Around.under,Code.cUnits,Code.frames,Code.isFrame]
theorem Room.make {k:Nat} {A:Around} (r:Room (k+1) A) (C:Addr) (us:List Value) (kw:List (Str × Value)):Room k (A.under (.builtin "type.__call__" ⟨.ref C :: us,kw⟩)) :=
 ⟨r.hd,by have:=r.dp;rw[ζI5];omega,by have:=r.un;rw[ζH5];omega⟩
theorem Room.depth{k:Nat}{A:Around}(r:Room k A):A.depth<recursionLimit:=by have:=r.dp;omega
theorem Room.units{k:Nat}{A:Around}(r:Room k A):A.units+64<cLine:=by have:=r.un;omega
def tNil:TA:=fun _ H Q=>Q [] H
def ζ113(ta:TE)(tr:TA):TA:=fun σ H Q=>ta σ H fun x H1=>tr σ H1 fun xs H2=>Q (x :: xs) H2
section
variable{X:Cx}{e:Expr}{es:List Expr}{te:TE}{t:TA}{pos:Pos}
theorem ζ3:PA X [] tNil:=fun _ _ _ _ H Q I h=>Calls.spliced_nil ⟨[],H,I,.nil,h⟩
theorem ζ0(ha:PE X e te)(hr:PA X es t)(hs:starEach (e :: es) X.env=(false,eval e X.env) :: starEach es X.env:=by rfl):PA X (e :: es) (ζ113 te t):=by
 intro pos pins s σ H Q I h
 rw[hs]
 show wpAny _ _ (spliced ((false,eval e X.env) :: backTo pos (starEach es X.env))) _ _ s
 refine Calls.spliced_cons (thn (ha pins s σ H _ I h) fun u s1 ⟨x,H1,I1,r1,q1⟩=>?_)
 exact thn (hr pos pins s1 σ H1 _ I1 q1) fun us s2 ⟨xs,H2,I2,r2,q2⟩=>⟨x :: xs,H2,I2,.cons r1 r2,q2⟩
def tTup(t:TA):TE:=fun σ H Q=>t σ H fun xs H1=>xs.length<=sizeLine/\∀ p,H1 p=none->Q (.ref p) (upd H1 p (.tup xs))
def tLst(t:TA):TE:=fun σ H Q=>t σ H fun xs H1=>xs.length<=sizeLine/\∀ p,H1 p=none->Q (.ref p) (upd H1 p (.lst xs))
theorem ζq1{x1}(h:PA X es t):PE X (.Tuple es x1 pos) (tTup t):=by
 intro pins s σ H Q I hq
 refine wpAny_Tuple_spliced (thn (h pos pins s σ H _ I hq) fun us s1 ⟨xs,H1,I1,r,z,q⟩=>⟨by rw[<- r.length];exact z,?_⟩)
 have hf:H1 s1.heap.objs.size=none:=I1.hok.fresh (Nat.le_refl _)
 refine⟨.ref s1.heap.objs.size,upd H1 s1.heap.objs.size (.tup xs),I1.laid (t':=s1.toks) (fun b u e=>Heap.get?_push_of_some _ e) (Nat.le_refl _) ?_,rfl,q _ hf⟩
 exact⟨z,us,r,⟨_,Heap.get?_push_size _ rfl,rfl,_,rfl⟩⟩
theorem ζR(h:PA X es t):PE X (.List es pos) (tLst t):=by
 intro pins s σ H Q I hq
 refine wpAny_List_spliced (thn (h pos pins s σ H _ I hq) fun us s1 ⟨xs,H1,I1,r,z,q⟩=>⟨by rw[<- r.length];exact z,?_⟩)
 have hf:H1 s1.heap.objs.size=none:=I1.hok.fresh (Nat.le_refl _)
 refine⟨.ref s1.heap.objs.size,upd H1 s1.heap.objs.size (.lst xs),I1.laid (t':=s1.toks) (fun b u e=>Heap.get?_push_of_some _ e) (Nat.le_refl _) ?_,rfl,q _ hf⟩
 exact⟨z,us,0,r,Heap.get?_push_size _ rfl⟩
end
abbrev Sp:=List V->Hp->VK->XK->Prop
abbrev CXT:=List Env->Hp->Shared->XK->Value->Shared->Prop
structure Env0 (P:Program) (w:World) (K:PySem.W.Frag) (mg:Str->Option Value) (base:Heap) (A:Around) (outer:List Env) (s:Shared) (H:Hp):Prop where
 frames:A.frames=some outer
 mod:Mod K mg base
 bs:∀ b o,base.get? b=some o->s.heap.get? b=some o/\H b=none
 bsz:base.objs.size<=s.heap.objs.size
 funs:s.heap.FunFrames base outer
 frf:∀ b∈frs outer,H b=none
 hok:HOk P w H s.heap
 bare:AllBare s.gens
def CE(outer:List Env)(P:Program)(w:World)(H:Hp)(s:Shared)(Q:VK)(u:Value)(s':Shared):Prop :=
 ∃ v H',s'.os=s.os/\AllBare s'.gens/\Un (frs outer) [] H H' s.heap s'.heap/\HOk P w H' s'.heap/\RelV v u/\Q v H'
def CR(CX:CXT)(outer:List Env)(P:Program)(w:World)(H:Hp)(s:Shared)(Q:VK)(E:XK)(r:Result)(s':Shared):Prop :=
 match r with
 | .ok (.ret u)=>CE outer P w H s Q u s'
 | .ok _=>False
 | .error e=>CX outer H s E e s'
structure FnOk (P:Program) (w:World) (K:PySem.W.Frag) (mg:Str->Option Value) (base:Heap) (CX:CXT) (k:Nat) (f:Addr) (fd:FuncData) (ps:List Str) (sp:Sp):Prop where
 len:∀ vs H Q E,sp vs H Q E->vs.length=ps.length
 run:∀(A:Around) (outer:List Env) (s:Shared) (H:Hp) (args:Args) (us:List Value) (vs:List V) (Q:VK) (E:XK),Room k A->Env0 P w K mg base A outer s H->BindsTo s fd args (ps.zip us)->Vals vs us->sp vs H Q E ->
  codeAny (model P w) A (.call (.ref f) args) (CR CX outer P w H s Q E) s
theorem FnOk.imp{P:Program}{w:World}{K:PySem.W.Frag}{mg:Str->Option Value}{base:Heap}{CX:CXT}{k:Nat}{f:Addr}{fd:FuncData}{ps:List Str}{sp sp':Sp}(F:FnOk P w K mg base CX k f fd ps sp)
  (h:∀ vs H Q E,sp' vs H Q E->sp vs H Q E):FnOk P w K mg base CX k f fd ps sp' :=
 ⟨fun vs H Q E q=>F.len vs H Q E (h _ _ _ _ q),fun A outer s H args us vs Q E hr he hb hv hs=>F.run A outer s H args us vs Q E hr he hb hv (h _ _ _ _ hs)⟩
theorem Env0.make{P:Program}{w:World}{K:PySem.W.Frag}{mg:Str->Option Value}{base:Heap}{A:Around}{outer:List Env}{s:Shared}{H:Hp}(e:Env0 P w K mg base A outer s H)(C:Addr)(us:List Value)(kw:List (Str × Value)) :
  Env0 P w K mg base (A.under (.builtin "type.__call__" ⟨.ref C :: us,kw⟩)) outer s H:=⟨by first | exact e.frames | (simpa [Around.under,Code.envs,Code.isFrame,pushEnvs] using e.frames),e.mod,e.bs,e.bsz,e.funs,e.frf,e.hok,e.bare⟩
section
variable{X:Cx}{pins:List (Addr × Obj)}{σ:St}{H:Hp}{s s':Shared}
theorem Inv.env0(I:Inv X pins σ H s):Env0 X.prog X.w X.K X.mg X.base X.A X.stack s H :=
 ⟨I.ok.frames,I.ok.mod,I.bs,Nat.le_trans I.ok.bsz I.sz,I.stack,I.stkFree,I.hok,I.bare⟩
theorem Inv.after{Q:VK}{u:Value}(I:Inv X pins σ H s)(h:CE X.stack X.prog X.w H s Q u s'):EP X pins σ Q u s':=by
 obtain⟨v,H',os,bare,un,hok,r,q⟩:=h
 obtain⟨hh,g,d,t,os'⟩:=s'
 obtain rfl:os'=s.os:=os
 exact⟨v,H',I.call (h':=hh) (g':=g) (d':=d) (t':=t) (ch:=[]) un hok bare (fun b z=>absurd z (by simp)),r,q⟩
end
def ζ213(sp:Sp)(dvs:List V)(E:XK)(t:TA):TE:=fun σ H Q=>t σ H fun vs H1=>sp (vs++dvs) H1 Q E
def ζ013(C:Addr)(sp:Sp)(dvs:List V)(E:XK)(t:TA):TE:=fun σ H Q=>t σ H fun vs H1=>∀ x dx,H1 x=none->H1 dx=none->dx≠x ->
 sp (.ref x :: (vs++dvs)) (upd (upd H1 dx (.own x)) x (.ins C dx [])) (fun v H2=>v=.non/\Q (.ref x) H2) E
def Binds(K:PySem.W.Frag)(fd:FuncData)(ps:List Str)(ds:List Value):Prop :=
 ∀(s:Shared) (us:List Value),K.In s.heap->(us++ds).length=ps.length->BindsTo s fd ⟨us,[]⟩ (ps.zip (us++ds))
theorem Binds.all{K:PySem.W.Frag}{fd:FuncData}{ps:List Str}(h:∀ us:List Value,us.length=ps.length->bindArgs fd ⟨us,[]⟩=pure (ps.zip us)):Binds K fd ps []:=fun s us _ hl=>by
 rw[List.append_nil]at hl ⊢
 exact .of_eq (h us hl)
def ζw6(CX:CXT)(X:Cx)(E:XK):Prop:=∀(pins:List (Addr × Obj)) (σ:St) (H:Hp) (s:Shared) (e:Value) (s':Shared),Inv X pins σ H s->CX X.stack H s E e s'->X.xe e s'
section
variable{X:Cx}{CX:CXT}{k:Nat}{f C:Addr}{fd:FuncData}{ps:List Str}{sp:Sp}{dvs:List V}{ds:List Value}{E:XK}{x m:Str}{p pos apos:Pos}{e o:Expr}{es:List Expr}{ta:TE}{t:TA}
theorem ζ112{pins:List (Addr × Obj)}{σ:St}{H:Hp}{s:Shared}{Q:VK}{us:List Value}{vs:List V}(F:FnOk X.prog X.w X.K X.mg X.base CX k f fd ps sp)(hr:Room k X.A)(hb:Binds X.K fd ps ds)(hd:Vals dvs ds)(hx:ζw6 CX X E)
  (I:Inv X pins σ H s) (r:Vals vs us) (h:sp (vs++dvs) H Q E):wpAny (model X.prog X.w) X.A (call (.ref f) us) (EP X pins σ Q) X.xe s:=by
 have r2:Vals (vs++dvs) (us++ds):=r.append hd
 have hl:(us++ds).length=ps.length:=by rw[<- r2.length];exact F.len _ _ _ _ h
 refine wpAny_call (codeAny_mono (F.run X.A X.stack s H ⟨us,[]⟩ (us++ds) (vs++dvs) Q E hr I.env0 (hb s us I.kIn hl) r2 h) fun r s' hq=>?_)
 cases r with
 | error e=>exact hx pins σ H s e s' I hq
 | ok fl =>
  cases fl with
  | ret u=>exact I.after hq
  | next=>exact False.elim hq
  | brk=>exact False.elim hq
  | cont=>exact False.elim hq
theorem ζ8(F:FnOk X.prog X.w X.K X.mg X.base CX k f fd ps sp)(hr:Room k X.A)(hg:Gl X x)(hm:X.mg x=some (.ref f))(hk:PySem.W.keepIn X.K (.ref f)=true)(hb:Binds X.K fd ps ds)(hd:Vals dvs ds)(hx:ζw6 CX X E)
  (ha:PA X (e :: es) t) (hdb:(x == ("__debug__":Str))=false:=by decide) (he:starEach (e :: es) X.env=(false,eval e X.env) :: starEach es X.env:=by rfl) (hpl:(backTo pos (starEach es X.env)).any (·.1)=false:=by rfl) :
  PE X (.Call (.Name x p) (e :: es) [] pos) (ζ213 sp dvs E t):=by
 intro pins s σ H Q I h
 refine wpAny_Call_Name_kw (ζK5 I hg hm ?_ hdb)
 refine PySem.W.callWith_K (h₀:=X.base) I.ok.mod.kin hk (thn (ha pos pins s σ H _ I h) fun us s1 ⟨vs,H1,I1,r,q⟩=>⟨I1.kIn,?_⟩) he hpl
 exact ζ112 F hr hb hd hx I1 r q
structure Mk (K:PySem.W.Frag) (C f:Addr):Prop where
 makes:PySem.W.makesIn K C=true
 init:PySem.W.findIn K (.ref C) "__init__"=some (some (.ref f))
 fn:PySem.W.isFn K (.ref f)=true
 kp:PySem.W.keepIn K (.ref C)=true
theorem ζC8{pins:List (Addr × Obj)}{σ:St}{H:Hp}{s:Shared}{Q:VK}{us:List Value}{vs:List V}(M:Mk X.K C f)(F:FnOk X.prog X.w X.K X.mg X.base CX k f fd ps sp)(hr:Room (k+1) X.A)(hb:Binds X.K fd ps ds)(hd:Vals dvs ds)
  (hx:ζw6 CX X E) (I:Inv X pins σ H s) (r:Vals vs us)
  (h:∀ x dx,H x=none->H dx=none->dx≠x->sp (.ref x :: (vs++dvs)) (upd (upd H dx (.own x)) x (.ins C dx [])) (fun v H2=>v=.non/\Q (.ref x) H2) E) :
  wpAny (model X.prog X.w) X.A (call (.ref C) us) (EP X pins σ Q) X.xe s:=by
 have hq:=h (s.heap.objs.size+1) s.heap.objs.size (I.hok.fresh (Nat.le_succ _)) (I.hok.fresh (Nat.le_refl _)) (Nat.ne_of_lt (Nat.lt_succ_self _))
 have I2:=Inv.made (C:=C) I
 have r2:Vals (V.ref (s.heap.objs.size+1) :: (vs++dvs)) (Value.ref (s.heap.objs.size+1) :: (us++ds)):=.cons rfl (r.append hd)
 have hl:(Value.ref (s.heap.objs.size+1) :: us++ds).length=ps.length:=by
  have e:=r2.length
  rw[F.len _ _ _ _ hq]at e
  exact e.symm
 refine wpAny_call (ζ49 (f:=f) I.kIn M.makes M.init (beq_iff_eq.mp M.fn) (codeAny_mono (F.run _ X.stack _ _ ⟨Value.ref (s.heap.objs.size+1) :: us,[]⟩ (Value.ref (s.heap.objs.size+1) :: (us++ds)) _ _ E (hr.make C us [])
  (I2.env0.make C us []) (hb _ (Value.ref (s.heap.objs.size+1) :: us) I2.kIn hl) r2 hq) fun r s' hq'=>?_))
 cases r with
 | error e=>exact hx pins σ _ _ e s' I2 hq'
 | ok fl =>
  cases fl with
  | ret u =>
   obtain⟨v,H',I3,rv,ev,q3⟩:=I2.after hq'
   subst ev
   exact⟨rv,⟨V.ref (s.heap.objs.size+1),H',I3,rfl,q3⟩⟩
  | next=>exact False.elim hq'
  | brk=>exact False.elim hq'
  | cont=>exact False.elim hq'
theorem ζF7(M:Mk X.K C f)(F:FnOk X.prog X.w X.K X.mg X.base CX k f fd ps sp)(hr:Room (k+1) X.A)(hg:Gl X x)(hm:X.mg x=some (.ref C))(hb:Binds X.K fd ps ds)(hd:Vals dvs ds)(hx:ζw6 CX X E)
  (ha:PA X (e :: es) t) (hdb:(x == ("__debug__":Str))=false:=by decide) (he:starEach (e :: es) X.env=(false,eval e X.env) :: starEach es X.env:=by rfl) (hpl:(backTo pos (starEach es X.env)).any (·.1)=false:=by rfl) :
  PE X (.Call (.Name x p) (e :: es) [] pos) (ζ013 C sp dvs E t):=by
 intro pins s σ H Q I h
 refine wpAny_Call_Name_kw (ζK5 I hg hm ?_ hdb)
 refine PySem.W.callWith_K (h₀:=X.base) I.ok.mod.kin M.kp (thn (ha pos pins s σ H _ I h) fun us s1 ⟨vs,H1,I1,r,q⟩=>⟨I1.kIn,?_⟩) he hpl
 exact ζC8 M F hr hb hd hx I1 r q
end
section
variable{X:Cx}{CX:CXT}{k:Nat}{f C:Addr}{fd:FuncData}{ps ks:List Str}{sp:Sp}{E:XK}{x m:Str}{p pos apos kpos:Pos}{e o:Expr}{es:List Expr}{kws:List Keyword}{te ta:TE}{t tk:TA}{nm:Option Str}
structure KBinds (K:PySem.W.Frag) (fd:FuncData) (ps ks:List Str) (g:List Value->List Value->List Value) (gV:List V->List V->List V):Prop where
 to:∀(s:Shared) (us ws:List Value),K.In s.heap->(g us ws).length=ps.length->BindsTo s fd ⟨us,ks.zip ws⟩ (ps.zip (g us ws))
 rel:∀ {vs:List V} {us:List Value} {zs:List V} {ws:List Value},Vals vs us->Vals zs ws->Vals (gV vs zs) (g us ws)
variable{g:List Value->List Value->List Value}{gV:List V->List V->List V}
end
structure FnScope (N P:List Str) (sc:Scope):Prop where
 kind:sc.kind=.function
 co:sc.isCoroutine=false
 gen:sc.isGenerator=false
 nd:N.Nodup
 pre:N.take P.length=P
 par:∀ x∈P,sc.names.lookup x=some .local\/sc.names.lookup x=some .cell
 nofree:∀ y∈sc.names,y.2≠.free
theorem ζC4{kindOf:Str->Option NameKind}{x:Str}:∀ {binds:List (Str × Value)} {m:Str->Option Value},(∀ v,(x,v)∉binds)->bindL kindOf binds m x=m x
 | [],_,_=>rfl
 | (n,v) :: r,m,h=>by
  unfold bindL
  rw[ζC4 fun w hw=>h w (List.mem_cons_of_mem _ hw)]
  split
  ·have:x≠n:=by rintro rfl;exact h v List.mem_cons_self
   simp[this]
  ·rfl
theorem ζE4{kindOf:Str->Option NameKind}{x:Str}:∀ {binds:List (Str × Value)} {m:Str->Option Value},(∀ v,(x,v)∉binds)->bindC kindOf binds m x=m x
 | [],_,_=>rfl
 | (n,v) :: r,m,h=>by
  unfold bindC
  rw[ζE4 fun w hw=>h w (List.mem_cons_of_mem _ hw)]
  split
  ·rfl
  ·have:x≠n:=by rintro rfl;exact h v List.mem_cons_self
   simp[this]
theorem ζD4{kindOf:Str->Option NameKind}{x:Str}{v:Value}:∀ {P:List Str} {vs:List Value} {i:Nat} {m:Str->Option Value},P.Nodup->P[i]?=some x->vs[i]?=some v->kindOf x=some .local ->
  bindL kindOf (P.zip vs) m x=some v
 | [],_,_,_,_,h,_,_=>by simp at h
 | _ :: _,[],_,_,_,_,h,_=>by simp at h
 | p :: P,w :: vs,0,m,nd,h1,h2,hk=>by
  simp at h1 h2;subst h1;subst h2
  show bindL kindOf ((p,w) :: P.zip vs) m p=_
  unfold bindL
  rw[ζC4 fun v hv=>(List.nodup_cons.mp nd).1 (List.of_mem_zip hv).1,if_pos hk]
  simp
 | p :: P,w :: vs,i+1,m,nd,h1,h2,hk=>by
  show bindL kindOf ((p,w) :: P.zip vs) m x=_
  unfold bindL
  exact ζD4 (i:=i) (List.nodup_cons.mp nd).2 (by simpa using h1) (by simpa using h2) hk
theorem ζF4{kindOf:Str->Option NameKind}{x:Str}{v:Value}:∀ {P:List Str} {vs:List Value} {i:Nat} {m:Str->Option Value},P.Nodup->P[i]?=some x->vs[i]?=some v->kindOf x≠some .local ->
  bindC kindOf (P.zip vs) m x=some v
 | [],_,_,_,_,h,_,_=>by simp at h
 | _ :: _,[],_,_,_,_,h,_=>by simp at h
 | p :: P,w :: vs,0,m,nd,h1,h2,hk=>by
  simp at h1 h2;subst h1;subst h2
  show bindC kindOf ((p,w) :: P.zip vs) m p=_
  unfold bindC
  rw[ζE4 fun v hv=>(List.nodup_cons.mp nd).1 (List.of_mem_zip hv).1,if_neg hk]
  simp
 | p :: P,w :: vs,i+1,m,nd,h1,h2,hk=>by
  show bindC kindOf ((p,w) :: P.zip vs) m x=_
  unfold bindC
  exact ζF4 (i:=i) (List.nodup_cons.mp nd).2 (by simpa using h1) (by simpa using h2) hk
def start(N:List Str)(vs:List V):St:=vs.map some++List.replicate (N.length - vs.length) none
def cxOf(CX:CXT)(P:Program)(w:World)(K:PySem.W.Frag)(mg:Str->Option Value)(base:Heap)(N:List Str)(qual:Str)(scope:Scope)(f:Addr)(cd:Value)(A:Around)(outer:List Env)(s:Shared)(H:Hp)(E:XK):Cx where
 prog:=P
 w:=w
 K:=K
 mg:=mg
 base:=base
 A:=A.deeper (envOfC qual scope s.heap.objs.size f cd)
 N:=N
 s₀:=s
 H₀:=H
 env:=envOfC qual scope s.heap.objs.size f cd
 outer:=outer
 stack:=envOfC qual scope s.heap.objs.size f cd :: outer
 ex:=[]
 calm:=true
 fn:=fun _=>true
 pn:=[]
 xe:=fun e s'=>wpAny (model P w) (A.deeper (envOfC qual scope s.heap.objs.size f cd)) (leaving (envOfC qual scope s.heap.objs.size f cd) e) (fun _ s''=>CX outer H s E e s'') (fun e' s''=>CX outer H s E e' s'') s'
theorem ζq6{sc:Scope}{n:Nat}{x:Str}(h:sc.names.lookup x=some .cell):∃ c,(cellsFrom n sc.names []).lookup x=some c:=by
 have q:=PySem.W.cellsFrom_some sc.names n [] (.inl h)
 exact Option.isSome_iff_exists.mp q
theorem ζ67{CX:CXT}{P:Program}{w:World}{K:PySem.W.Frag}{mg:Str->Option Value}{base:Heap}{N ps:List Str}{qual:Str}{scope:Scope}{f:Addr}{cd:Value}{A:Around}{outer:List Env}{s s1:Shared}{H:Hp}{E:XK}{us:List Value}{vs:List V}
  (S:FnScope N ps scope) (hd:A.handled=none) (e0:Env0 P w K mg base A outer s H) (hl:vs.length=ps.length) (r:Vals vs us)
  (x:InCallC s s.heap.objs.size (bindL (envOfC qual scope s.heap.objs.size f cd).kindOf (ps.zip us) fun _=>none) (cellsFrom (s.heap.objs.size+1) scope.names []) (bindC (envOfC qual scope s.heap.objs.size f cd).kindOf (ps.zip us) fun _=>none) s1) :
  Inv (cxOf CX P w K mg base N qual scope f cd A outer s H E) [] (start N vs) H s1:=by
 have hpl:ps.length<=N.length:=by have:=congrArg List.length S.pre;rw[List.length_take]at this;omega
 obtain⟨h1,tk,rfl,hk⟩:=x.done
 have noA:∀ b:Addr,b∉(cxOf CX P w K mg base N qual scope f cd A outer s H E).ex:=fun b z=>absurd (show b∈([]:List Addr) from z) (by simp)
 refine⟨⟨e0.mod,S.kind,rfl,rfl,Nat.le_refl _,fun y z c h1 h2=>?_,fun y hy=>?_,fun y c _ h=>?_,fun _=>hd,Around.frames_deeper e0.frames,.inr ⟨rfl,rfl⟩,fun b z=>absurd z (noA b),e0.bs,e0.bsz,fun b _ _=>noA b,fun b z=>absurd z (noA b),e0.funs,e0.frf⟩,
  rfl,e0.bare,Un.kept hk,⟨_,x.toInCall.ns,fun i y v h1 h2 h3=>?_⟩,fun y c h=>⟨_,x.cell y c h⟩,e0.hok.fresh (Nat.le_refl _),fun y c h=>?_,fun p hp=>absurd (show p∈([]:List (Addr × Obj)) from hp) (by simp),e0.hok.kept hk,?_⟩
 ·exact name_of_addr x.apart (PySem.mem_of_lookup h1) (PySem.mem_of_lookup h2)
 ·have hy:scope.names.lookup y=some .cell\/scope.names.lookup y=some .free:=hy
  rcases hy with hy | hy
  ·exact ζq6 hy
  ·exact absurd rfl (S.nofree _ (PySem.mem_of_lookup hy))
 ·exact Nat.le_of_lt (x.above y c (PySem.mem_of_lookup h))
 ·have hi:i<vs.length:=by
   unfold start at h2
   by_cases hi:i<vs.length
   ·exact hi
   ·rw[List.getElem?_append_right (by simpa using hi)]at h2
    rw[List.getElem?_replicate]at h2
    split at h2 <;> cases h2
  have ha:vs[i]?=some v:=by
   unfold start at h2
   rw[List.getElem?_append_left (by simpa using hi),List.getElem?_map]at h2
   cases e:vs[i]? with
   | none=>rw[e]at h2;cases h2
   | some a=>rw[e]at h2;cases h2;rfl
  obtain⟨u,hu,rv⟩:=r.get ha
  have hp:ps[i]?=some y:=by
   rw[<- S.pre,List.getElem?_take_of_lt (by omega)];exact h1
  have ndP:ps.Nodup:=by rw[<- S.pre];exact S.nd.sublist (List.take_sublist _ _)
  refine⟨u,rv,?_⟩
  rcases S.par y (List.mem_of_getElem? hp) with k | k
  ·exact .inl ⟨k,ζD4 ndP hp hu k⟩
  ·obtain⟨c,e⟩:=ζq6 (n:=s.heap.objs.size+1) k
   refine .inr ⟨.inl k,c,e,?_⟩
   have q:=x.cell y c e
   rw[ζF4 ndP hp hu (by show scope.names.lookup y≠_;rw[k];decide)]at q
   exact q
 ·exact e0.hok.fresh (Nat.le_of_lt (x.above y c (PySem.mem_of_lookup h)))
 ·unfold start
  show _=N.length
  rw[List.length_append,List.length_map,List.length_replicate]
  omega
theorem ζm13{CX:CXT}{P:Program}{w:World}{K:PySem.W.Frag}{mg:Str->Option Value}{base:Heap}{k:Nat}{f:Addr}{name qual:Str}{params:Arguments}{body:List Stmt}{scope:Scope}{dV kV doc pm cdv ct oc:Value}{an od:Option Addr}
  {osl:Array (Option Value)} {N ps:List Str} {sp:Sp} (lk:K.lookup f=some ⟨oc,od,.func (PySem.W.fnOf name qual params body scope dV kV doc pm an cdv ct),osl⟩) (hcd:PySem.W.codeIn K cdv qual=true) (S:FnScope N ps scope)
  (len:∀ vs H Q E,sp vs H Q E->vs.length=ps.length)
  (hbody:∀(A:Around) (outer:List Env) (s:Shared) (H:Hp) (vs:List V) (Q:VK) (E:XK),Room k (A.deeper (envOfC qual scope s.heap.objs.size f cdv))->sp vs H Q E ->
   ∃ t,PSs (cxOf CX P w K mg base N qual scope f cdv A outer s H E) body t/\t { nx:=fun _ H'=>Q .non H',rt:=Q } (start N vs) H) :
  FnOk P w K mg base CX (k+1) f (PySem.W.fnOf name qual params body scope dV kV doc pm an cdv ct) ps sp:=by
 refine⟨len,fun A outer s H args us vs Q E hr e0 hb r hsp=>?_⟩
 have hl:=len _ _ _ _ hsp
 have KX:K.In s.heap:=e0.mod.kin.keeps fun b o e=>(e0.bs b o e).1
 have lim:s.heap.NoLimit:=e0.mod.nolimit.keeps fun b o e=>(e0.bs b o e).1
 have hkind:∀ y∈ps.zip us,scope.names.lookup y.1=some .local\/(scope.names.lookup y.1=some .cell/\((cellsFrom (s.heap.objs.size+1) scope.names []).lookup y.1).isSome=true):=fun⟨n,v⟩ hy=>by
  rcases S.par n (List.of_mem_zip hy).1 with q | q
  ·exact .inl q
  ·exact .inr ⟨q,PySem.W.cellsFrom_some _ _ _ (.inl q)⟩
 refine codeAny_call_function hr.depth (KX _ _ lk) rfl S.co S.gen rfl (PySem.W.codeRec_of KX hcd) (hb _ _ _ _ ?_)
 refine wpAny_newFunctionEnv_cells S.kind hkind fun env he s1 x=>?_
 subst he
 refine⟨lim.keeps x.toInCall.keep,codeAny_func ?_⟩
 obtain⟨t,ht,hq⟩:=hbody A outer s H vs Q E (hr.deeper _) hsp
 have I:Inv (cxOf CX P w K mg base N qual scope f cdv A outer s H E) [] (start N vs) H s1:=ζ67 S hr.hd e0 hl r x
 refine wpAny_mono (ht [] s1 (start N vs) H _ I hq) (fun fl s' hs=>?_) fun e s' hs=>hs
 have fin:∀ {σ':St} {H':Hp} {v:V} {u:Value},Inv (cxOf CX P w K mg base N qual scope f cdv A outer s H E) [] σ' H' s'->RelV v u->Q v H'->CE outer P w H s Q u s' :=
  fun {σ' H' v u} J rv q=>⟨v,H',J.os,J.bare,J.base,J.hok,rv,q⟩
 cases fl with
 | ret u =>
  obtain⟨v,σ',H',J,rv,q⟩:=hs
  exact fin J rv q
 | next =>
  obtain⟨σ',H',J,q⟩:=hs
  exact fin (v:=V.non) (u:=Value.none) J rfl q
 | brk =>
  obtain⟨_,_,_,q⟩:=hs
  exact False.elim q
 | cont =>
  obtain⟨_,_,_,q⟩:=hs
  exact False.elim q
section
variable{X:Cx}{x:Str}{p pos:Pos}{e:Expr}{es:List Expr}{t:TA}{id T:String}{r:List V->Hp->VK->Prop}
def tCB(r:List V->Hp->VK->Prop)(t:TA):TE:=fun σ H Q=>t σ H fun vs H1=>r vs H1 Q
theorem ζb (hc:ζi2 X (.builtin id) r) (hg:Gl X x) (hm:X.mg x=none) (hv:bootBuiltins x=some (.builtin id)) (ha:PA X (e :: es) t) (hn:x≠"__name__":=by decide) (hdb:(x == ("__debug__":Str))=false:=by decide)
  (he:starEach (e :: es) X.env=(false,eval e X.env) :: starEach es X.env:=by rfl) (hpl:(backTo pos (starEach es X.env)).any (·.1)=false:=by rfl):PE X (.Call (.Name x p) (e :: es) [] pos) (tCB r t):=by
 intro pins s σ H Q I h
 refine wpAny_Call_Name_kw (ζ63 I hg hm hv ?_ hn hdb)
 exact PyProof.Rows.callWith_builtin1 (thn (ha pos pins s σ H _ I h) fun us s1 ⟨vs,H1,I1,r1,q1⟩=>hc pins s1 σ H1 vs us Q I1 r1 q1) he hpl
theorem ζo (hc:ζi2 X (.type T) r) (hg:Gl X x) (hm:X.mg x=none) (hv:bootBuiltins x=some (.type T)) (ha:PA X (e :: es) t) (hn:x≠"__name__":=by decide) (hdb:(x == ("__debug__":Str))=false:=by decide)
  (he:starEach (e :: es) X.env=(false,eval e X.env) :: starEach es X.env:=by rfl) (hpl:(backTo pos (starEach es X.env)).any (·.1)=false:=by rfl):PE X (.Call (.Name x p) (e :: es) [] pos) (tCB r t):=by
 intro pins s σ H Q I h
 refine wpAny_Call_Name_kw (ζ63 I hg hm hv ?_ hn hdb)
 exact PyProof.Rows.callWith_type1 (thn (ha pos pins s σ H _ I h) fun us s1 ⟨vs,H1,I1,r1,q1⟩=>hc pins s1 σ H1 vs us Q I1 r1 q1) he hpl
end
end L2
namespace HT
open PySem PyProof.Rows
section
open PySem.SeqAt
open PySem.AutoSeq1 (wpAny_loadPart')
open PySem.MeetsSeq PySem.MeetsSeq2 PySem.MeetsSeq3
end
section
variable{prog:Program}{w:World}{A:Around}{E:Value->Shared->Prop}{s:Shared}
theorem cat_tup{t b:Addr}{vs ws:List Value}{Q:Value->Shared->Prop}(ht:IsTup s.heap t vs.toArray)(hb:IsTup s.heap b ws.toArray)(hv:vs≠[])
  (h1:ws=[]->Q (.ref t) s) (h2:ws≠[]->Q (.ref s.heap.objs.size) { s with heap:=s.heap.push { cls:=.type "tuple",data:=.seq (vs++ws).toArray } })
  (hsz:vs.length+ws.length<=sizeLine):wpAny (model prog w) A (binaryOp .Add (.ref t) (.ref b)) Q E s:=by
 obtain⟨⟨cls,dd,data,sl⟩,ho,hc,n,hd⟩:=id ht
 obtain⟨⟨cls2,dd2,data2,sl2⟩,ho2,hc2,n2,hd2⟩:=id hb
 simp only at hc hd hc2 hd2
 subst hc hd hc2 hd2
 have e:vs.toArray++ws.toArray=(vs++ws).toArray:=by simp
 by_cases hw:ws=[]
 ·exact concat_meets ⟨_,ho,rfl⟩ ⟨_,ho2,rfl⟩ noFill_tuple_add seq_tuple_add PySem.F.slot_tuple_add PySem.F.entry_tuple_add (PySem.F.args_tuple_add_2 _ _)
   (tuple_addW1 t b vs.toArray ws.toArray n n2 dd dd2 sl sl2 (by simpa using hv) (by simp[hw])) ⟨ho,ho2,h1 hw⟩
 ·refine concat_meets ⟨_,ho,rfl⟩ ⟨_,ho2,rfl⟩ noFill_tuple_add seq_tuple_add PySem.F.slot_tuple_add PySem.F.entry_tuple_add (PySem.F.args_tuple_add_2 _ _)
   (tuple_addW2 t b vs.toArray ws.toArray n n2 dd dd2 sl sl2 (by simpa using hv) (by simpa using hw) (by rw[List.size_toArray,List.size_toArray];exact hsz)) ⟨ho,ho2,?_⟩
  rw[e]
  exact h2 hw
def sIx(n d:Nat):Option Int->Nat
 | none=>d
 | some v=>if v<0 then (v+(n:Int)).toNat else min v.toNat n
theorem sIx_none(n d:Nat):sIx n d none=d:=rfl
theorem ζ012(n d:Nat)(hd:d<=n)(o:Option Int):sIx n d o<=n:=by
 cases o with
 | none=>exact hd
 | some v =>
  show(if v<0 then (v+(n:Int)).toNat else min v.toNat n)<=n
  by_cases hv:v<0
  ·rw[if_pos hv];omega
  ·rw[if_neg hv];exact Nat.min_le_right _ _
theorem ζg8(v:Int)(n d:Nat):(if v<0 then max (v+(n:Int)) 0 else min v (n:Int))=((sIx n d (some v):Nat):Int):=by
 show(if v<0 then max (v+(n:Int)) 0 else min v (n:Int))=(((if v<0 then (v+(n:Int)).toNat else min v.toNat n):Nat):Int)
 by_cases hv:v<0
 ·simp only [if_pos hv];omega
 ·simp only [if_neg hv];omega
theorem ζv6(lo hi:Option Int)(n:Nat):Builtin.Slice.sliceAdjust lo hi 1 (n:Int)=(((sIx n 0 lo:Nat):Int),((sIx n n hi:Nat):Int)):=by
 have h1:¬ ((1:Int)<0):=by omega
 unfold Builtin.Slice.sliceAdjust
 simp only [h1,if_false]
 refine Prod.ext ?_ ?_
 ·cases lo with
  | none=>rfl
  | some v=>exact ζg8 v n 0
 ·cases hi with
  | none=>rfl
  | some v=>exact ζg8 v n n
theorem ζq5(i j:Nat):Builtin.Slice.slicePlaces (i:Int) (j:Int) 1=j - i:=by
 unfold Builtin.Slice.slicePlaces
 have h1:(1:Int) > 0:=by omega
 simp only [h1,if_true,Int.ediv_one]
 split <;> omega
theorem ζ03{v:Value}{o:Option Int}{Q:Option Int->Shared->Prop}(p:IsPart v o)(h:Q o s):wpAny (model prog w) A (Builtin.Slice.slicePartIndex v) Q E s:=by
 cases p with
 | none=>exact slicePart_none h
 | int i t=>exact slicePart_int h
theorem sliceApplied_gen{sl:Addr}{vl vu:Value}{lo hi:Option Int}{n:Nat}{Q:Int × Int × Nat->Shared->Prop}(hs:s.heap.IsSliceOf sl vl vu .none)(pl:IsPart vl lo)(pu:IsPart vu hi)
  (h:Q (((sIx n 0 lo:Nat):Int),1,sIx n n hi - sIx n 0 lo) s):wpAny (model prog w) A (Builtin.Slice.sliceApplied (.ref sl) (pure (n:Int))) Q E s:=by
 obtain⟨os,hos,hcs,hds⟩:=id hs
 unfold Builtin.Slice.sliceApplied Builtin.Slice.sliceFields
 refine wpAny_bind (wpAny_bind (wpAny_field hos hds (x:=vl) rfl (wpAny_bind (wpAny_field hos hds (x:=vu) rfl (wpAny_bind (wpAny_field hos hds (x:=.none) rfl (wpAny_pure ?_)))))))
 refine wpAny_bind (slicePart_none ?_)
 show wpAny _ _ (if ((1:Int) == 0)=true then _ else _) _ _ s
 rw[if_neg (by decide)]
 refine wpAny_bind (ζ03 pl (wpAny_bind (ζ03 pu (wpAny_bind (wpAny_pure ?_)))))
 show wpAny _ _ (match Builtin.Slice.sliceAdjust lo hi 1 (n:Int) with | (lo,hi)=>pure (lo,(1:Int),Builtin.Slice.slicePlaces lo hi 1)) _ _ s
 rw[ζv6 lo hi n]
 show wpAny _ _ (pure (((sIx n 0 lo:Nat):Int),(1:Int),Builtin.Slice.slicePlaces ((sIx n 0 lo:Nat):Int) ((sIx n n hi:Nat):Int) 1)) _ _ s
 rw[ζq5]
 exact wpAny_pure h
theorem ζL8(xs:Array Value)(i k:Nat):((List.range k).filterMap fun(m:Nat)=>xs[((i:Int)+(m:Int) * 1).toNat]?).toArray=((xs.toList.drop i).take k).toArray:=by
 have e:(fun(m:Nat)=>xs[((i:Int)+(m:Int) * 1).toNat]?)=fun m=>xs[i+m]?:=by
  funext m
  have:((i:Int)+(m:Int) * 1).toNat=i+m:=by omega
  rw[this]
 rw[e]
 have:=pick_run xs i k
 rw[List.filterMap_map]at this
 have e2:((fun x=>xs[x]?) ∘ fun x=>i+x)=fun m=>xs[i+m]?:=rfl
 rw[e2]at this
 rw[this]
theorem getItem_tuple_cut{t sl:Addr}{items:Array Value}{vl vu:Value}{lo hi:Option Int}{Q:Value->Shared->Prop}(ht:IsTup s.heap t items)(hs:s.heap.IsSliceOf sl vl vu .none)(pl:IsPart vl lo)(pu:IsPart vu hi)
  (hw:¬ (sIx items.size 0 lo=0/\sIx items.size items.size hi=items.size))
  (h:Q (.ref s.heap.objs.size) { s with heap:=s.heap.push { cls:=.type "tuple",data:=.seq ((items.toList.drop (sIx items.size 0 lo)).take (sIx items.size items.size hi - sIx items.size 0 lo)).toArray } })
  (hsz:items.size<=sizeLine):wpAny (model prog w) A (getItem (.ref t) (.ref sl)) Q E s:=by
 have htake:sizeOk (.seq ((items.toList.drop (sIx items.size 0 lo)).take (sIx items.size items.size hi - sIx items.size 0 lo)).toArray):=by
  show((items.toList.drop (sIx items.size 0 lo)).take (sIx items.size items.size hi - sIx items.size 0 lo)).toArray.size<=sizeLine
  rw[List.size_toArray,List.length_take,List.length_drop,Array.length_toList]
  omega
 have hj:sIx items.size items.size hi<=items.size:=ζ012 _ _ (Nat.le_refl _) hi
 obtain⟨os,hos,hcs,hds⟩:=id hs
 have hTs:s.TypeIs (.ref sl) "slice":=⟨os,hos,hcs⟩
 unfold getItem
 try with_reducible refine wpAny_holding ?_
 first | refine wpAny_bind (wpAny_pure ?_) | skip
 refine wpAny_bind (wpAny_sequenceKey ht.typeIs (by decide) ?_)
 refine wpAny_bind (wpAny_callSpecial?_slot (name:=Str.ofString "__getitem__") ht.typeIs PyProof.Rows.slot_tuple_getitem
  (wpAny_call_entry PyProof.Rows.slot_tuple_getitem ht.typeIs entry_tuple_getitem ?_ (args_tuple_getitem _ _)))
 show wpAny _ _ (Builtin.Tuple.tupleItemsOf (.ref t) >>= _) _ _ s
 refine wpAny_bind (tupleItemsOf_ ht ?_)
 refine wpAny_bind (wpAny_typeOf hTs ?_)
 rw[if_pos (by decide)]
 refine wpAny_bind (sliceApplied_gen hs pl pu ?_)
 have hno:¬ ((((sIx items.size 0 lo:Nat):Int) == 0 && (1:Int) == 1 && (sIx items.size items.size hi - sIx items.size 0 lo) == items.size)=true):=by
  intro q
  rw[Bool.and_eq_true,Bool.and_eq_true]at q
  have q1:((sIx items.size 0 lo:Nat):Int)=0:=eq_of_beq q.1.1
  have q2:sIx items.size items.size hi - sIx items.size 0 lo=items.size:=eq_of_beq q.2
  exact hw ⟨by omega,by omega⟩
 show wpAny _ _ (if (((sIx items.size 0 lo:Nat):Int) == 0 && (1:Int) == 1 && (sIx items.size items.size hi - sIx items.size 0 lo) == items.size)=true then _ else _) _ _ s
 rw[if_neg hno,ζL8]
 first
  | exact wpAny_bind (m:=Builtin.Tuple.tupleExact _) (wpAny_newObj_type (wpAny_pure ⟨_,rfl,wpAny_pure h⟩) htake)
  | exact wpAny_bind (m:=Builtin.Tuple.tupleExact _) (wpAny_newObj_type (wpAny_bind (wpAny_pure (wpAny_pure ⟨_,rfl,wpAny_pure h⟩))) htake)
  | exact wpAny_bind (wpAny_bind (m:=Builtin.Tuple.tupleExact _) (wpAny_newObj_type (wpAny_pure (wpAny_pure ⟨_,rfl,wpAny_pure h⟩)) htake))
  | exact wpAny_bind (wpAny_bind (m:=Builtin.Tuple.tupleExact _) (wpAny_newObj_type (wpAny_pure ⟨_,rfl,wpAny_pure h⟩) htake))
end
end HT
namespace L2
open PySem PySem.Spec PyProof.Rows
abbrev TO:=St->Hp->(Option Int->Hp->Prop)->Prop
def PO(X:Cx)(e:Option Expr)(t:TO):Prop :=
 ∀(pins:List (Addr × Obj)) (s:Shared) (σ:St) (H:Hp) (Q:Option Int->Hp->Prop),Inv X pins σ H s->t σ H Q ->
  wpAny (model X.prog X.w) X.A (evalPart e X.env) (fun u s'=>∃ o H',Inv X pins σ H' s'/\IsPart u o/\Q o H') X.xe s
def ζ310:TO:=fun _ H Q=>Q none H
def ζY12(t:TE):TO:=fun σ H Q=>t σ H fun x H1=>∃ i,x=.int i/\Q (some i) H1
section
variable{X:Cx}{e:Expr}{te:TE}{lo hi:Option Expr}{tl th:TO}{pos p2:Pos}
theorem ζU:PO X none ζ310:=by
 intro pins s σ H Q I h
 rw[evalPart_none]
 exact wpAny_pure ⟨none,H,I,.none,h⟩
theorem ζT(h:PE X e te):PO X (some e) (ζY12 te):=by
 intro pins s σ H Q I hw
 rw[evalPart_some]
 refine thn (h pins s σ H _ I hw) fun u s1 ⟨x,H1,I1,r1,q1⟩=>?_
 obtain⟨i,rfl,q⟩:=q1
 obtain⟨t,rfl⟩:=r1
 exact⟨some i,H1,I1,.int i t,q⟩
def SlR(X:Cx)(r:V->Option Int->Option Int->Hp->VK->Prop):Prop :=
 ∀(pins:List (Addr × Obj)) (s:Shared) (σ:St) (H:Hp) (x:V) (v vl vu:Value) (lo hi:Option Int) (sl:Addr) (Q:VK),Inv X pins σ H s->RelV x v->s.heap.IsSliceOf sl vl vu .none->IsPart vl lo->IsPart vu hi->r x lo hi H Q ->
  ∃ T id,typeLookup (.type T) "__getitem__"=pure (some (.builtin id))/\s.TypeIs v T/\wpAny (model X.prog X.w) X.A (getItem v (.ref sl)) (EP X pins σ Q) X.xe s
def tSl(r:V->Option Int->Option Int->Hp->VK->Prop)(te:TE)(tl th:TO):TE:=fun σ H Q=>te σ H fun x H1=>tl σ H1 fun l H2=>th σ H2 fun u H3=>r x l u H3 Q
theorem ζG{r:V->Option Int->Option Int->Hp->VK->Prop}(hr:SlR X r)(he:PE X e te)(hl:PO X lo tl)(hu:PO X hi th):PE X (.Subscript e (.Slice lo hi none p2) pos) (tSl r te tl th):=by
 intro pins s σ H Q I h
 refine Subscript_ (thn (he pins s σ H _ I h) fun v s1 ⟨x,H1,I1,r1,q1⟩=>?_)
 refine wpAny_Slice (thn (hl pins s1 σ H1 _ I1 q1) fun vl s2 ⟨l,H2,I2,pl,q2⟩=>thn (hu pins s2 σ H2 _ I2 q2) fun vu s3 ⟨u,H3,I3,pu,q3⟩=>?_)
 rw[evalPart_none]
 refine wpAny_pure ?_
 have I4:Inv X pins σ H3 { s3 with heap:=s3.heap.push { cls:=.type "slice",data:=.fields #[vl,vu,.none] } }:=I3.kept (t':=s3.toks) fun b ob q=>Heap.get?_push_of_some _ q
 obtain⟨T,id,hT,ht,hg⟩:=hr pins { s3 with heap:=s3.heap.push { cls:=.type "slice",data:=.fields #[vl,vu,.none] } } σ H3 x v vl vu l u s3.heap.objs.size Q I4 r1 (Heap.IsSliceOf.new ..) pl pu q3
 show wpAny (model X.prog X.w) X.A (subscriptTail e (.Slice lo hi none p2) v (.ref s3.heap.objs.size)) (EP X pins σ Q) X.xe { s3 with heap:=s3.heap.push { cls:=.type "slice",data:=.fields #[vl,vu,.none] } }
 exact tail_any (ops:=[.ref s3.heap.objs.size,v]) ht hT hg (by with_unfolding_all rfl)
def cutV(xs:List V)(lo hi:Option Int):List V:=(xs.drop (HT.sIx xs.length 0 lo)).take (HT.sIx xs.length xs.length hi - HT.sIx xs.length 0 lo)
theorem ζi1(xs:List V)(lo hi:Option Int):(cutV xs lo hi).length<=xs.length:=by
 unfold cutV
 rw[List.length_take,List.length_drop]
 omega
def rSlT(K:PySem.W.Frag):V->Option Int->Option Int->Hp->VK->Prop:=fun x lo hi H Q=>∃ a xs,x=.ref a/\SqT K H a xs /\
 ¬ (HT.sIx xs.length 0 lo=0/\HT.sIx xs.length xs.length hi=xs.length)/\∀ p,H p=none->Q (.ref p) (upd H p (.tup (cutV xs lo hi)))
theorem ζT11:SlR X (rSlT X.K):=by
 intro pins s σ H x v vl vu lo hi sl Q I rx hs pl pu h
 obtain⟨a,xs,rfl,hx,hw,q⟩:=h
 cases rx
 obtain⟨its,r,ht,hz⟩:=I.tuple hx
 have hlen:its.toArray.size=xs.length:=by rw[List.size_toArray];exact r.length.symm
 refine⟨"tuple",_,PyProof.Rows.slot_tuple_getitem.lookup,ht.typeIs,?_⟩
 refine HT.getItem_tuple_cut ht hs pl pu (by rw[hlen];exact hw) ?_ (by rw[hlen];exact hz)
 rw[hlen]
 refine⟨.ref s.heap.objs.size,_,I.laid (t':=s.toks) (o:=.tup (cutV xs lo hi)) (fun b ob q=>Heap.get?_push_of_some _ q) (Nat.le_refl _) ?_,rfl,q _ (I.hok.fresh (Nat.le_refl _))⟩
 exact⟨Nat.le_trans (ζi1 xs lo hi) hz,_,(r.drop (HT.sIx xs.length 0 lo)).take (HT.sIx xs.length xs.length hi - HT.sIx xs.length 0 lo),IsTup.new _ _⟩
def ζQ12(K:PySem.W.Frag):R2:=fun x y H Q=>∃ a b xs ys,x=.ref a/\y=.ref b/\SqT K H a xs/\SqT K H b ys/\xs≠[]/\xs.length+ys.length<=sizeLine /\
 (ys=[]->Q (.ref a) H)/\(ys≠[]->∀ p,H p=none->Q (.ref p) (upd H p (.tup (xs++ys))))
theorem Vals.nil_iff{xs:List V}{us:List Value}(r:Vals xs us):us=[]↔xs=[]:=by
 cases r with
 | nil=>simp
 | cons _ _=>simp
theorem ζy10:OpR X (binaryOp .Add) (ζQ12 X.K):=by
 intro pins s σ H x y v u Q I rx ry h
 obtain⟨a,b,xs,ys,rfl,rfl,ha,hb,hx,hz,q1,q2⟩:=h
 cases rx
 cases ry
 obtain⟨its,r1,p1,_⟩:=I.tuple ha
 obtain⟨its2,r2,p2,_⟩:=I.tuple hb
 refine HT.cat_tup p1 p2 (fun z=>hx (r1.nil_iff.mp z)) (fun z=>⟨.ref a,H,I,rfl,q1 (r2.nil_iff.mp z)⟩) (fun z=>?_) (by rw[<- r1.length,<- r2.length];exact hz)
 refine⟨.ref s.heap.objs.size,_,I.laid (t':=s.toks) (o:=.tup (xs++ys)) (fun b ob q=>Heap.get?_push_of_some _ q) (Nat.le_refl _) ?_,rfl,q2 (fun w=>z (r2.nil_iff.mpr w)) _ (I.hok.fresh (Nat.le_refl _))⟩
 exact⟨by rw[List.length_append];exact hz,_,r1.append r2,IsTup.new _ _⟩
end
def ixN(n:Nat)(i:Int):Option Nat:=if 0<=i then (if i<n then some i.toNat else none) else if -(n:Int)<=i then some (i+n).toNat else none
def atI{α:Type}(xs:List α)(i:Int):Option α:=(ixN xs.length i).bind fun j=>xs[j]?
theorem ζV7{n:Nat}{i:Int}{j:Nat}(h:ixN n i=some j):seqIndex? i n=some j/\j<n/\-(n:Int)<=i/\i<n:=by
 unfold ixN at h
 by_cases h0:0<=i
 ·rw[if_pos h0]at h
  by_cases h1:i<n
  ·rw[if_pos h1]at h
   have e:i.toNat=j:=Option.some.inj h
   exact⟨by rw[seqIndex_of h0 h1,e],by omega,by omega,h1⟩
  ·rw[if_neg h1]at h;cases h
 ·rw[if_neg h0]at h
  by_cases h1:-(n:Int)<=i
  ·rw[if_pos h1]at h
   have e:(i+n).toNat=j:=Option.some.inj h
   exact⟨by rw[seqIndex_neg (by omega) h1,e],by omega,h1,by omega⟩
  ·rw[if_neg h1]at h;cases h
theorem ζu6{α:Type}{xs:List α}{i:Int}{v:α}(h:atI xs i=some v):∃ j,seqIndex? i xs.length=some j/\xs[j]?=some v/\j<xs.length/\-(xs.length:Int)<=i/\i<xs.length:=by
 unfold atI at h
 cases e:ixN xs.length i with
 | none=>rw[e]at h;cases h
 | some j =>
  rw[e]at h
  obtain⟨h1,h2,h3,h4⟩:=ζV7 e
  exact⟨j,h1,h,h2,h3,h4⟩
def ζA11(b:Expr):Prop:=∀ o i,subscripted b false o i=operate [o,i] (getItem o i)
def IxR(X:Cx)(r:R2):Prop :=
 ∀(value slice:Expr) (pins:List (Addr × Obj)) (s:Shared) (σ:St) (H:Hp) (x y:V) (v u:Value) (Q:VK),Inv X pins σ H s->RelV x v->RelV y u->r x y H Q ->
  subscripted slice false v u=operate [v,u] (getItem v u)->wpAny (model X.prog X.w) X.A (subscriptTail value slice v u) (EP X pins σ Q) X.xe s
def MtR(X:Cx)(id:String)(r:V->List V->Hp->VK->Prop):Prop :=
 ∀(pins:List (Addr × Obj)) (s:Shared) (σ:St) (H:Hp) (x:V) (xs:List V) (v:Value) (us:List Value) (Q:VK),Inv X pins σ H s->RelV x v->Vals xs us->r x xs H Q ->
  wpAny (model X.prog X.w) X.A (call (.builtin id) (v :: us)) (EP X pins σ Q) X.xe s
section
variable{X:Cx}{a b:Expr}{ta tb:TE}{pos:Pos}
theorem ζr{r:R2}(hr:IxR X r)(ha:PE X a ta)(hb:PE X b tb)(hs:ζA11 b):PE X (.Subscript a b pos) (tOp r ta tb):=by
 intro pins s σ H Q I h
 exact Subscript_ (binT ha hb I h fun v u s2 x y H2 I2 rx ry q=>hr a b pins s2 σ H2 x y v u Q I2 rx ry q (hs _ _))
def rIxL(K:PySem.W.Frag):R2:=fun x y H Q=>∃ p xs i v,x=.ref p/\y=.int i/\SqL K H p xs/\atI xs i=some v/\Q v H
def rIxT(K:PySem.W.Frag):R2:=fun x y H Q=>∃ p xs i v,x=.ref p/\y=.int i/\SqT K H p xs/\atI xs i=some v/\Q v H
def rIxS:R2:=fun x y H Q=>∃ z i c,x=.str z/\y=.int i/\z.length<=sizeLine/\atI z.cps.toList i=some c/\Q (.str ⟨#[c]⟩) H
theorem ζQ10:IxR X (rIxL X.K):=by
 intro value slice pins s σ H x y v u Q I rx ry h hs
 obtain⟨p,xs,i,z,rfl,rfl,hq,he,q⟩:=h
 cases rx
 obtain⟨t,rfl⟩:=ry
 obtain⟨its,r,pl,hz⟩:=I.list hq
 obtain⟨j,h1,h2,h3,h4,h5⟩:=ζu6 he
 obtain⟨w,ew,rw'⟩:=r.get h2
 have hl:=r.length
 have hn:=ζB3
 have fin:EP X pins σ Q w s:=⟨z,H,I,rw',q⟩
 by_cases h0:0<=i
 ·have hj:i.toNat=j:=by
   rw[seqIndex_of h0 h5]at h1
   exact Option.some.inj h1
  exact item_listR pl.isList h0 (by omega) (by rw[hj];simpa using ew) fin hs
 ·have hj:(i+(its.toArray.size:Int)).toNat=j:=by
   rw[seqIndex_neg (by omega) h4]at h1
   rw[List.size_toArray,<- hl]
   exact Option.some.inj h1
  exact subscriptTail_builtinR (x:=w) pl.isList.typeIs slot_list_getitem.lookup
   (wpAny_getItem_list_neg (Q:=fun r s'=>r=w/\EP X pins σ Q r s') pl.isList (by omega) (by rw[List.size_toArray] <;> omega) (by omega) (by rw[hj];simpa using ew) ⟨rfl,fin⟩) hs
theorem ζx12:IxR X (rIxT X.K):=by
 intro value slice pins s σ H x y v u Q I rx ry h hs
 obtain⟨p,xs,i,z,rfl,rfl,hq,he,q⟩:=h
 cases rx
 obtain⟨t,rfl⟩:=ry
 obtain⟨its,r,pl,hz⟩:=I.tuple hq
 obtain⟨j,h1,h2,h3,h4,h5⟩:=ζu6 he
 obtain⟨w,ew,rw'⟩:=r.get h2
 have hl:=r.length
 have hn:=ζB3
 have fin:EP X pins σ Q w s:=⟨z,H,I,rw',q⟩
 exact subscriptTail_builtinR (x:=w) pl.typeIs slot_tuple_getitem.lookup
  (getItem_tuple (j:=j) (Q:=fun r s'=>r=w/\EP X pins σ Q r s') pl (by omega) (by omega) (by rw[List.size_toArray,<- hl];exact h1) (by simpa using ew) ⟨rfl,fin⟩) hs
theorem ζy12:IxR X rIxS:=by
 intro value slice pins s σ H x y v u Q I rx ry h hs
 obtain⟨z,i,c,rfl,rfl,hz,he,q⟩:=h
 obtain⟨t,rfl⟩:=rx
 obtain⟨t',rfl⟩:=ry
 obtain⟨j,h1,h2,h3,h4,h5⟩:=ζu6 he
 have hl:z.cps.toList.length=z.length:=by simp[Str.length]
 rw[hl]at h1 h4 h5
 have hn:=ζB3
 exact tail_any (typeIs_str s z t) slot_str_getitem.lookup (getItem_str (c:=c) (by
  have e1:decide (i < -(2 ^ 63:Int))=false:=decide_eq_false (by omega)
  have e2:decide (i >= 2 ^ 63)=false:=decide_eq_false (by omega)
  rw[e1,e2,Bool.or_false]) (by rw[h1];simpa using h2) ⟨.str ⟨#[c]⟩,H,I.tok _,⟨_,rfl⟩,q⟩) hs
theorem ζG5 (its:List Value) (n j:Nat) (u:Value):Obj.mapSeq (·.setIfInBounds j u) { cls:=.type "list",data:=.seq its.toArray n }={ cls:=.type "list",data:=.seq (its.set j u).toArray n }:=by
 simp[Obj.mapSeq]
theorem Inv.lst{pins:List (Addr × Obj)}{σ:St}{H:Hp}{s:Shared}{p:Addr}{xs:List V}(I:Inv X pins σ H s)(h:H p=some (.lst xs)) :
  ∃(its:List Value) (n:Nat),Vals xs its/\s.heap.get? p=some { cls:=.type "list",data:=.seq its.toArray n }/\xs.length<=sizeLine:=by
 obtain⟨z,its,n,r,e⟩:=I.hok p _ h
 exact⟨its,n,r,e,z⟩
theorem Inv.lstUpd{pins:List (Addr × Obj)}{σ:St}{H:Hp}{s:Shared}{p:Addr}{xs ys:List V}{its its':List Value}{n n':Nat}{f:Obj->Obj}(I:Inv X pins σ H s)(h:H p=some (.lst xs))
  (ho:s.heap.get? p=some { cls:=.type "list",data:=.seq its.toArray n }) (hf:f { cls:=.type "list",data:=.seq its.toArray n }={ cls:=.type "list",data:=.seq its'.toArray n' }) (r:Vals ys its') (hz:ys.length<=sizeLine) (t:Nat) :
  Inv X pins σ (upd H p (.lst ys)) { s with heap:=s.heap.update p f,toks:=t }:=by
 have e:(s.heap.update p f).get? p=some { cls:=.type "list",data:=.seq its'.toArray n' }:=by
  rw[Heap.get?_update_self f ho (by rw[hf] <;> rfl),hf]
 refine I.write (x:=p) (e:=p) (by rw[h];trivial) (.inl rfl) (fun b u hb q=>(Heap.get?_update_other _ _ (Ne.symm hb)).trans q) ⟨_,e⟩ ?_
 exact⟨hz,its',n',r,e⟩
def ζ713:V->V->V->Hp->(Hp->Prop)->Prop:=fun o i v H Q=>∃ p xs k j,o=.ref p/\i=.int k/\H p=some (.lst xs)/\ixN xs.length k=some j/\Q (upd H p (.lst (xs.set j v)))
theorem ζo1:PSet X ζ713:=by
 intro pins s σ H o i v ov iv u Q I ro ri rv h
 obtain⟨p,xs,k,j,rfl,rfl,hp,hj,q⟩:=h
 cases ro
 obtain⟨t,rfl⟩:=ri
 obtain⟨its,n,r,ho,hz⟩:=I.lst hp
 obtain⟨h1,h2,h3,h4⟩:=ζV7 hj
 have hl:=r.length
 have hn:=ζB3
 have I':Inv X pins σ (upd H p (.lst (xs.set j v))) { s with heap:=s.heap.update p (Obj.mapSeq (·.setIfInBounds j u)) } :=
  I.lstUpd hp ho (ζG5 its n j u) (r.set rv j) (by rw[List.length_set];exact hz) s.toks
 by_cases h0:0<=k
 ·have hk:k.toNat=j:=by
   rw[seqIndex_of h0 h4]at h1
   exact Option.some.inj h1
  exact PySem.W.ki_setAt ho h0 (by omega) (by rw[List.size_toArray,<- hl];exact h4) (by rw[hk];exact⟨_,I',q⟩)
 ·have hk:(k+(its.toArray.size:Int)).toNat=j:=by
   rw[seqIndex_neg (by omega) h3]at h1
   rw[List.size_toArray,<- hl]
   exact Option.some.inj h1
  exact PySem.W.ki_setBack ho (by omega) (by rw[List.size_toArray,<- hl];exact h3) (by omega) (by rw[hk];exact⟨_,I',q⟩)
theorem ζq3(lo hi:Option Int)(n:Nat):(sliceBounds lo hi none n).1=((HT.sIx n 0 lo:Nat):Int)/\(sliceBounds lo hi none n).2.1=((HT.sIx n n hi:Nat):Int)/\(sliceBounds lo hi none n).2.2=1:=by
 refine⟨?_,?_,rfl⟩
 ·cases lo with
  | none=>simp[sliceBounds,HT.sIx]
  | some i =>
   simp only [sliceBounds,HT.sIx,Option.getD_none,show(1:Int) > 0 by decide,if_true]
   by_cases h:i<0
   ·simp only [h,if_true] <;> omega
   ·simp only [h,if_false] <;> omega
 ·cases hi with
  | none=>simp[sliceBounds,HT.sIx]
  | some i =>
   simp only [sliceBounds,HT.sIx,Option.getD_none,show(1:Int) > 0 by decide,if_true]
   by_cases h:i<0
   ·simp only [h,if_true] <;> omega
   ·simp only [h,if_false] <;> omega
theorem ζZ2(its:List Value)(lo hi:Option Int):slicePick its.toArray lo hi none=((its.drop (HT.sIx its.length 0 lo)).take (HT.sIx its.length its.length hi - HT.sIx its.length 0 lo)).toArray:=by
 obtain⟨h1,h2,h3⟩:=ζq3 lo hi its.toArray.size
 unfold slicePick
 rw[h1,h2,h3]
 simp only [sliceRange_one,pick_run,List.size_toArray] <;> rfl
def rSlL(K:PySem.W.Frag):V->Option Int->Option Int->Hp->VK->Prop:=fun x lo hi H Q=>∃ a xs,x=.ref a/\SqL K H a xs/\∀ p,H p=none->Q (.ref p) (upd H p (.lst (cutV xs lo hi)))
theorem ζb10:SlR X (rSlL X.K):=by
 intro pins s σ H x v vl vu lo hi sl Q I rx hs pl pu h
 obtain⟨a,xs,rfl,hx,q⟩:=h
 cases rx
 obtain⟨its,r,ht,hz⟩:=I.list hx
 have hlen:=r.length
 refine⟨"list",_,slot_list_getitem.lookup,ht.isList.typeIs,?_⟩
 refine wpAny_getItem_list_slice ht.isList hs pl pu .none (by simp) ?_ (by rw[List.size_toArray] <;> omega)
 rw[ζZ2,<- hlen]
 refine⟨.ref s.heap.objs.size,_,I.laid (t':=s.toks) (o:=.lst (cutV xs lo hi)) (fun b ob q=>Heap.get?_push_of_some _ q) (Nat.le_refl _) ?_,rfl,q _ (I.hok.fresh (Nat.le_refl _))⟩
 exact⟨Nat.le_trans (ζi1 xs lo hi) hz,_,0,(r.drop (HT.sIx xs.length 0 lo)).take (HT.sIx xs.length xs.length hi - HT.sIx xs.length 0 lo),Heap.get?_push_size _ rfl⟩
def ζi3:V->Bool
 | .non=>true
 | .bl _=>true
 | .int _=>true
 | .str _=>true
 | _=>false
def eqV:V->V->Bool
 | .non,.non=>true
 | .bl a,.bl b=>a == b
 | .bl a,.int b=>(if a then 1 else 0) == b
 | .int a,.bl b=>a == (if b then 1 else 0)
 | .int a,.int b=>a == b
 | .str a,.str b=>a == b
 | _,_=>false
theorem ζd11{A:Around}{s:Shared}{y x:V}{u v:Value}(ry:RelV y u)(rx:RelV x v)(fy:ζi3 y=true)(fx:ζi3 x=true):SeqAt.EqAt A s u v (eqV y x):=by
 cases y with
 | non =>
  cases ry
  cases x with
  | non=>cases rx;exact SeqAt.EqAt.same _
  | bl b=>cases rx;exact SeqAt.EqAt.none_bool b
  | int b=>obtain⟨t,rfl⟩:=rx;exact SeqAt.EqAt.none_int b t
  | str b=>obtain⟨t,rfl⟩:=rx;exact SeqAt.EqAt.none_str b t
  | _=>exact absurd (show false=true from fx) Bool.false_ne_true
 | bl a =>
  cases ry
  cases x with
  | non=>cases rx;exact SeqAt.EqAt.bool_none a
  | bl b=>cases rx;exact SeqAt.EqAt.bool_bool a b
  | int b=>obtain⟨t,rfl⟩:=rx;exact SeqAt.EqAt.bool_int a b t
  | str b=>obtain⟨t,rfl⟩:=rx;exact SeqAt.EqAt.bool_str a b t
  | _=>exact absurd (show false=true from fx) Bool.false_ne_true
 | int a =>
  obtain⟨t',rfl⟩:=ry
  cases x with
  | non=>cases rx;exact SeqAt.EqAt.int_none a t'
  | bl b=>cases rx;exact SeqAt.EqAt.int_bool a t' b
  | int b=>obtain⟨t,rfl⟩:=rx;exact SeqAt.EqAt.int_int a t' b t
  | str b=>obtain⟨t,rfl⟩:=rx;exact SeqAt.EqAt.int_str a t' b t
  | _=>exact absurd (show false=true from fx) Bool.false_ne_true
 | str a =>
  obtain⟨t',rfl⟩:=ry
  cases x with
  | non=>cases rx;exact SeqAt.EqAt.str_none a t'
  | bl b=>cases rx;exact SeqAt.EqAt.str_bool a t' b
  | int b=>obtain⟨t,rfl⟩:=rx;exact SeqAt.EqAt.str_int a t' b t
  | str b=>obtain⟨t,rfl⟩:=rx;exact SeqAt.EqAt.str_str a t' b t
  | _=>exact absurd (show false=true from fx) Bool.false_ne_true
 | _=>exact absurd (show false=true from fy) Bool.false_ne_true
def eqU(x:V)(u:Value):Bool:=match u with
 | .none=>eqV .non x
 | .bool b=>eqV (.bl b) x
 | .int i _=>eqV (.int i) x
 | .str z _=>eqV (.str z) x
 | _=>false
theorem ζc11{x y:V}{u:Value}(r:RelV y u)(f:ζi3 y=true):eqU x u=eqV y x:=by
 cases y with
 | non=>cases r;rfl
 | bl b=>cases r;rfl
 | int i=>obtain⟨t,rfl⟩:=r;rfl
 | str z=>obtain⟨t,rfl⟩:=r;rfl
 | _=>exact absurd (show false=true from f) Bool.false_ne_true
theorem ζg3{x:V}:∀ {xs:List V} {us:List Value},Vals xs us->xs.all ζi3=true->us.any (eqU x)=xs.any fun y=>eqV y x
 | _,_,.nil,_=>rfl
 | y :: xs,u :: us,.cons r t,f=>by
  rw[List.all_cons,Bool.and_eq_true]at f
  rw[List.any_cons,List.any_cons,ζc11 r f.1,ζg3 t f.2]
theorem ζI1{A:Around}{s:Shared}{x:V}{v:Value}(rx:RelV x v)(fx:ζi3 x=true):∀ {xs:List V} {us:List Value},Vals xs us->xs.all ζi3=true->∀ u∈us,SeqAt.EqAt A s u v (eqU x u)
 | _,_,.nil,_=>fun u hu=>by cases hu
 | y :: xs,u :: us,.cons r t,f=>fun u' hu=>by
  rw[List.all_cons,Bool.and_eq_true]at f
  rcases List.mem_cons.mp hu with rfl | hu
  ·rw[ζc11 r f.1];exact ζd11 r rx f.1 fx
  ·exact ζI1 rx fx t f.2 u' hu
def inV(x:V)(xs:List V):Bool:=xs.any fun y=>eqV y x
def rIn(K:PySem.W.Frag)(neg:Bool):R2:=fun x y H Q=>∃ p xs,y=.ref p/\(SqL K H p xs\/SqT K H p xs)/\ζi3 x=true/\xs.all ζi3=true/\Q (.bl (if neg then !inV x xs else inV x xs)) H
theorem ζS6:OpR X (compareOp .In) (rIn X.K false):=by
 intro pins s σ H x y v u Q I rx ry h
 obtain⟨p,xs,rfl,hq,fx,fs,q⟩:=h
 cases ry
 rcases hq with hq | hq
 ·obtain⟨its,r,pl,hz⟩:=I.list hq
  refine SeqAt.in_listAt (eqU x) pl.isList (fun w hw=>ζI1 rx fx r fs w (by simpa using hw)) ⟨.bl _,H,I,rfl,?_⟩
  rw[show its.toArray.any (eqU x)=its.any (eqU x) by simp,ζg3 r fs]
  exact q
 ·obtain⟨its,r,pl,hz⟩:=I.tuple hq
  refine SeqAt.in_tupleAt (eqU x) pl (fun w hw=>ζI1 rx fx r fs w (by simpa using hw)) ⟨.bl _,H,I,rfl,?_⟩
  rw[show its.toArray.any (eqU x)=its.any (eqU x) by simp,ζg3 r fs]
  exact q
theorem ζy3:OpR X (compareOp .NotIn) (rIn X.K true):=by
 intro pins s σ H x y v u Q I rx ry h
 obtain⟨p,xs,rfl,hq,fx,fs,q⟩:=h
 cases ry
 rcases hq with hq | hq
 ·obtain⟨its,r,pl,hz⟩:=I.list hq
  refine SeqAt.notIn_listAt (eqU x) pl.isList (fun w hw=>ζI1 rx fx r fs w (by simpa using hw)) ⟨.bl _,H,I,rfl,?_⟩
  rw[show its.toArray.any (eqU x)=its.any (eqU x) by simp,ζg3 r fs]
  exact q
 ·obtain⟨its,r,pl,hz⟩:=I.tuple hq
  refine SeqAt.notIn_tupleAt (eqU x) pl (fun w hw=>ζI1 rx fx r fs w (by simpa using hw)) ⟨.bl _,H,I,rfl,?_⟩
  rw[show its.toArray.any (eqU x)=its.any (eqU x) by simp,ζg3 r fs]
  exact q
theorem ζR3:ζi2 X (.builtin "len") (fun xs H Q=>∃ p ys,xs=[.ref p]/\(SqL X.K H p ys\/SqT X.K H p ys)/\Q (.int ys.length) H):=by
 intro pins s σ H xs us Q I r h
 obtain⟨p,ys,rfl,hq,q⟩:=h
 obtain⟨u,rfl,rx⟩:=ζh3 r
 cases rx
 have hn:=ζB3
 rcases hq with hq | hq
 ·obtain⟨its,r',pl,hz⟩:=I.list hq
  have hlen:=r'.length
  exact Calls.call_len_list pl.isList (by simp only [List.size_toArray] <;> omega) ⟨.int ys.length,H,I.tok _,⟨s.toks+1,by rw[List.size_toArray,hlen]⟩,q⟩
 ·obtain⟨its,r',pl,hz⟩:=I.tuple hq
  have hlen:=r'.length
  exact len_tuple pl (by simp only [List.size_toArray] <;> omega) ⟨.int ys.length,H,I.tok _,⟨s.toks+1,by rw[List.size_toArray,hlen]⟩,q⟩
theorem ζQ3:ζi2 X (.builtin "len") (fun xs H Q=>∃ z,xs=[.str z]/\z.length<=sizeLine/\Q (.int z.length) H):=by
 intro pins s σ H xs us Q I r h
 obtain⟨z,rfl,hz,q⟩:=h
 obtain⟨u,rfl,t,rfl⟩:=ζh3 r
 have hn:=ζB3
 exact len_str (by omega) ⟨.int z.length,H,I.tok _,⟨_,rfl⟩,q⟩
theorem ζP3:ζi2 X (.type "list") (fun xs H Q=>∃ p ys,xs=[.ref p]/\(SqL X.K H p ys\/SqT X.K H p ys)/\∀ l,H l=none->Q (.ref l) (upd H l (.lst ys))):=by
 intro pins s σ H xs us Q I r h
 obtain⟨p,ys,rfl,hq,q⟩:=h
 obtain⟨u,rfl,rx⟩:=ζh3 r
 cases rx
 have fin:∀(its:List Value),Vals ys its->ys.length<=sizeLine->∀(h':Heap) (c':Nat),(∀ b o',s.heap.get? b=some o'->h'.get? b=some o') ->
   h'.get? s.heap.objs.size=some { cls:=.type "list",dict:=none,data:=.seq its.toArray c',slots:=#[] }->EP X pins σ Q (.ref s.heap.objs.size) { s with heap:=h' }:=fun its r' hz h' c' kp e =>
  ⟨.ref s.heap.objs.size,_,I.laid (t':=s.toks) kp (Nat.le_refl _) (show ObjOk X.prog X.w _ h' _ (.lst ys) from⟨hz,its,c',r',e⟩),rfl,q _ (I.hok.fresh (Nat.le_refl _))⟩
 rcases hq with hq | hq
 ·obtain⟨its,r',pl,hz⟩:=I.list hq
  have hlen:=r'.length
  obtain⟨o,ho,hc,n,hd⟩:=pl.isList
  exact call_list_seq p (.inl rfl) ho hc hd (fun h' c' kp e=>fin its r' hz h' c' kp e) (by simp only [List.size_toArray] <;> omega)
 ·obtain⟨its,r',pl,hz⟩:=I.tuple hq
  have hlen:=r'.length
  obtain⟨o,ho,hc,n,hd⟩:=pl
  exact call_list_seq p (.inr rfl) ho hc hd (fun h' c' kp e=>fin its r' hz h' c' kp e) (by simp only [List.size_toArray] <;> omega)
theorem ζd3:ζi2 X (.type "tuple") (fun xs H Q=>∃ p ys,xs=[.ref p]/\((SqL X.K H p ys/\∀ l,H l=none->Q (.ref l) (upd H l (.tup ys)))\/(SqT X.K H p ys/\Q (.ref p) H))):=by
 intro pins s σ H xs us Q I r h
 obtain⟨p,ys,rfl,h⟩:=h
 obtain⟨u,rfl,rx⟩:=ζh3 r
 cases rx
 rcases h with ⟨hq,q⟩ | ⟨hq,q⟩
 ·obtain⟨its,r',pl,hz⟩:=I.list hq
  have hlen:=r'.length
  refine call_tuple_list pl.isList (fun h' kp=>?_) (by simp only [List.size_toArray] <;> omega)
  have I1:Inv X pins σ H { s with heap:=h' }:=I.kept (t':=s.toks) kp
  have I2:Inv X pins σ (upd H h'.objs.size (.tup ys)) { s with heap:=h'.push { cls:=.type "tuple",data:=.seq its.toArray } } :=
   I1.laid (t':=s.toks) (fun b o e=>Heap.get?_push_of_some _ e) (Nat.le_refl _) (show ObjOk X.prog X.w _ _ _ (.tup ys) from⟨hz,its,r',IsTup.new _ _⟩)
  exact⟨.ref h'.objs.size,_,I2,rfl,q _ (I1.hok.fresh (Nat.le_refl _))⟩
 ·obtain⟨its,r',pl,hz⟩:=I.tuple hq
  exact call_tuple_same pl ⟨.ref p,H,I,rfl,q⟩
def tyV(K:PySem.W.Frag)(T:String)(x:V)(H:Hp):Prop:=match x with
 | .str _=>T="str"
 | .int _=>T="int"
 | .ref p=>(T="list"/\∃ xs,SqL K H p xs)\/(T="tuple"/\∃ o,K.lookup p=some o/\o.cls=.type "tuple"/\o.dict=none) \/
   (T="dict"/\((∃ kvs,H p=some (.dK kvs))\/∃ kvs,H p=some (.dT kvs)))\/(T="set"/\∃ S n,H p=some (.set S n))
 | _=>False
theorem ζX9{pins:List (Addr × Obj)}{σ:St}{H:Hp}{s:Shared}{T:String}{x:V}{v:Value}(I:Inv X pins σ H s)(r:RelV x v)(ty:tyV X.K T x H) :
  s.TypeIs v T/\∀ a,v=.ref a->∃ ob,s.heap.get? a=some ob/\ob.dict=none:=by
 cases x with
 | str z =>
  obtain⟨t,rfl⟩:=r
  cases (show T="str" from ty)
  exact⟨typeIs_str s z t,fun _ e=>nomatch e⟩
 | int i =>
  obtain⟨t,rfl⟩:=r
  cases (show T="int" from ty)
  exact⟨typeIs_int s i t,fun _ e=>nomatch e⟩
 | ref p =>
  cases r
  rcases ty with ⟨rfl,xs,hq⟩ | ⟨rfl,o,hk,hc,hd⟩ | ⟨rfl,hk⟩ | ⟨rfl,S,n,hk⟩
  ·obtain⟨its,_,pl,_⟩:=I.list hq
   refine⟨pl.isList.typeIs,fun a e=>?_⟩
   cases e
   obtain⟨o,n,e,c,hd,_⟩:=pl
   exact⟨o,e,hd⟩
  ·refine⟨⟨o,I.kIn p o hk,hc⟩,fun a e=>?_⟩
   cases e
   exact⟨o,I.kIn _ o hk,hd⟩
  ·have z:∃ o,s.heap.get? p=some o/\o.ExactDict:=by
    rcases hk with ⟨kvs,hk⟩ | ⟨kvs,hk⟩
    ·obtain⟨_,_,_,_,o,_,_,e,ex,_⟩:=I.hok p _ hk
     exact⟨o,e,ex⟩
    ·obtain⟨_,_,_,_,o,_,_,e,ex,_⟩:=I.hok p _ hk
     exact⟨o,e,ex⟩
   obtain⟨o,e,ex⟩:=z
   refine⟨⟨o,e,ex.1⟩,fun a e2=>?_⟩
   cases e2
   exact⟨o,e,ex.2.1⟩
  ·obtain⟨o,_,_,_,e,ex,_⟩:=I.hok p _ hk
   refine⟨⟨o,e,ex.1⟩,fun a e2=>?_⟩
   cases e2
   exact⟨o,e,ex.2.1⟩
 | _=>exact False.elim ty
def tBM0(K:PySem.W.Frag)(T:String)(r:V->List V->Hp->VK->Prop)(to:TE):TE:=fun σ H Q=>to σ H fun x H1=>tyV K T x H1/\r x [] H1 Q
def tBM(K:PySem.W.Frag)(T:String)(r:V->List V->Hp->VK->Prop)(to:TE)(t:TA):TE:=fun σ H Q=>to σ H fun x H1=>tyV K T x H1/\t σ H1 fun xs H2=>r x xs H2 Q
variable{o e:Expr}{es:List Expr}{to:TE}{t:TA}{name:Str}{apos cpos:Pos}{T id:String}{r:V->List V->Hp->VK->Prop}
theorem ζg12 (pa:PlainAttrs T) (slot:Slot T name id) (hty:typeOf (.builtin id)=pure (.type "method_descriptor")) (hm:MtR X id r) (ho:PE X o to)
  (hbase:attributeBase o name X.env (eval o X.env)=eval o X.env:=by rfl) (hline:(apos.endLine == cpos.line)=true:=by rfl):PE X (.Call (.Attribute o name apos) [] [] cpos) (tBM0 X.K T r to):=by
 intro pins s σ H Q I h
 refine wpAny_Call_method0_late hbase hline (thn (ho pins s σ H _ I h) fun v s1 ⟨x,H1,I1,r1,ty,q1⟩=>?_)
 obtain⟨h1,h2⟩:=ζX9 I1 r1 ty
 exact⟨T,id,pa,slot,hty,h1,h2,Calls.callWith_builtin rfl (PySem.evalArgs_none (hm pins s1 σ H1 x [] v [] Q I1 r1 .nil q1))⟩
theorem ζe13 (pa:PlainAttrs T) (slot:Slot T name id) (hty:typeOf (.builtin id)=pure (.type "method_descriptor")) (hm:MtR X id r) (ho:PE X o to) (ha:PA X (e :: es) t)
  (hbase:attributeBase o name X.env (eval o X.env)=eval o X.env:=by rfl)
  (hfew:((backTo cpos (starEach (e :: es) X.env)).all (fun x=>!x.1) && (backToKw cpos (keywordEach [] X.env)).all (fun x=>x.1.isSome)
   && decide ((e :: es).length+([]:List Keyword).length+(if ([]:List Keyword).isEmpty then 0 else 1)<30))=true:=by rfl)
  (hline:(apos.endLine == cpos.line)=true:=by rfl) (hs:starEach (e :: es) X.env=(false,eval e X.env) :: starEach es X.env:=by rfl) (hplain:(backTo cpos (starEach es X.env)).any (·.1)=false:=by rfl) :
  PE X (.Call (.Attribute o name apos) (e :: es) [] cpos) (tBM X.K T r to t):=by
 intro pins s σ H Q I h
 refine wpAny_Call_method_late hbase hfew hline rfl (thn (ho pins s σ H _ I h) fun v s1 ⟨x,H1,I1,r1,ty,q1⟩=>?_)
 obtain⟨h1,h2⟩:=ζX9 I1 r1 ty
 refine⟨T,id,pa,slot,hty,h1,h2,?_⟩
 have hA:=ha cpos pins s1 σ H1 _ I1 q1
 rw[hs]at hA ⊢
 refine Calls.callWith_builtin (by show(false || (backTo cpos (starEach es X.env)).any (·.1))=false;rw[hplain] <;> rfl) (Calls.evalArgs_plain ?_)
 exact thn hA fun us s2 ⟨vs,H2,I2,r2,q2⟩=>hm pins s2 σ H2 x vs v us Q I2 r1 r2 q2
end
def MtM(X:Cx)(id:String)(r:V->List V->Hp->VK->Prop):Prop :=
 ∀(pins:List (Addr × Obj)) (s:Shared) (σ:St) (H:Hp) (x:V) (xs:List V) (v:Value) (us:List Value) (Q:VK),Inv X pins σ H s->RelV x v->Vals xs us->r x xs H Q ->
  wpAny (model X.prog X.w) X.A (call (.builtin id) (v :: us)) (EP X pins σ Q) X.xe s
theorem Vals.one:∀ {x:V} {us:List Value},Vals [x] us->∃ u,us=[u]/\RelV x u
 | _,_,.cons r .nil=>⟨_,rfl,r⟩
theorem Vals.eraseIdx:∀ {xs:List V} {us:List Value} (i:Nat),Vals xs us->Vals (xs.eraseIdx i) (us.eraseIdx i)
 | _,_,_,.nil=>.nil
 | _,_,0,.cons _ t=>t
 | _,_,i+1,.cons r t=>.cons r (Vals.eraseIdx i t)
theorem Vals.rep{xs:List V}{us:List Value}(h:Vals xs us):∀ k:Nat,Vals (List.replicate k xs).flatten (List.replicate k us).flatten
 | 0=>.nil
 | k+1=>by
  rw[List.replicate_succ,List.replicate_succ,List.flatten_cons,List.flatten_cons]
  exact Vals.append h (Vals.rep h k)
theorem ζc4{α:Type}:∀(l:List α) (i:Nat),(l.eraseIdx i).length<=l.length
 | [],_=>Nat.le_refl _
 | _ :: _,0=>Nat.le_succ _
 | _ :: r,i+1=>Nat.succ_le_succ (ζc4 r i)
theorem ζh4(its:List Value):∀(k:Nat) (acc:List Value),
  List.foldl (fun x1 x2=>x1++x2) acc.toArray (List.replicate k its.toArray)=(acc++(List.replicate k its).flatten).toArray
 | 0,acc=>by simp
 | k+1,acc=>by
  have e:acc.toArray++its.toArray=(acc++its).toArray:=by simp
  have e2:(acc++its)++(List.replicate k its).flatten=acc++(List.replicate (k+1) its).flatten:=by
   rw[List.replicate_succ,List.flatten_cons,List.append_assoc]
  rw[<- e2,<- ζh4 its k (acc++its),<- e,List.replicate_succ,List.foldl_cons]
section
variable{X:Cx}{pins:List (Addr × Obj)}{σ:St}{H:Hp}{s:Shared}{l b:Addr}{xs ys zs:List V}
theorem Inv.lset{its its':List Value}{n:Nat}{f:Array Value->Array Value}{t':Nat}(I:Inv X pins σ H s)(hH:H l=some (.lst xs))
  (e:s.heap.get? l=some { cls:=.type "list",data:=.seq its.toArray n }) (hf:f its.toArray=its'.toArray) (hv:Vals ys its') (hz:ys.length<=sizeLine) :
  Inv X pins σ (upd H l (.lst ys)) { s with heap:=s.heap.update l (Obj.mapSeq f),toks:=t' }:=by
 have q:=PySem.IsL.update e f
 rw[hf]at q
 refine I.write (x:=l) (e:=l) (by rw[hH];exact trivial) (.inl rfl) (fun b' u hb hu=>(Heap.get?_update_other s.heap (Obj.mapSeq f) (Ne.symm hb)).trans hu) ⟨_,q⟩ ?_
 exact⟨hz,its',_,hv,q⟩
theorem Inv.lnew{its:List Value}{t':Nat}(I:Inv X pins σ H s)(hv:Vals ys its)(hz:ys.length<=sizeLine) :
  Inv X pins σ (upd H s.heap.objs.size (.lst ys)) { s with heap:=s.heap.push { cls:=.type "list",data:=.seq its.toArray },toks:=t' } :=
 I.laid (fun _ _ q=>Heap.get?_push_of_some _ q) (Nat.le_refl _) ⟨hz,its,0,hv,Heap.get?_push_size _ rfl⟩
theorem Inv.fresh(I:Inv X pins σ H s):H s.heap.objs.size=none:=I.hok.fresh (Nat.le_refl _)
theorem Inv.lstM (I:Inv X pins σ H s) (hH:H l=some (.lst xs)):xs.length<=sizeLine/\∃(its:List Value) (n:Nat),Vals xs its/\xs.length=its.length/\s.heap.get? l=some { cls:=.type "list",data:=.seq its.toArray n }:=by
 obtain⟨z,its,n,r,e⟩:=I.hok l _ hH
 exact⟨z,its,n,r,r.length,e⟩
theorem ζX8{n:Nat}(h:n<=sizeLine):Builtin.List.listTooLong n=false:=by
 unfold Builtin.List.listTooLong
 exact decide_eq_false (by omega)
end
section
variable{X:Cx}
def ζn10:V->List V->Hp->VK->Prop:=fun x vs H Q=>∃ l xs y,x=.ref l/\vs=[y]/\H l=some (.lst xs)/\xs.length<sizeLine/\Q .non (upd H l (.lst (xs++[y])))
theorem ζg1:MtM X "list.append" ζn10:=by
 intro pins s σ H x vs v us Q I rx rv h
 obtain⟨l,xs,y,rfl,rfl,hH,hz,q⟩:=h
 cases rx
 obtain⟨u,rfl,ru⟩:=rv.one
 obtain⟨z,its,n,r,hl,e⟩:=I.lstM hH
 refine call_meets F.slot_list_append ⟨_,e,rfl⟩ F.entry_list_append (F.args_list_append_2 _ _) (PySem.list_append l its.toArray n u (by rw[List.size_toArray];omega)) ⟨e,?_⟩
 refine⟨.non,_,I.lset (its':=its++[u]) hH e (by simp) (r.append (.cons ru .nil)) ?_,rfl,q⟩
 rw[List.length_append,List.length_singleton]
 omega
def ζ712:V->List V->Hp->VK->Prop:=fun x vs H Q=>∃ l xs i k y,x=.ref l/\vs=[.int i]/\H l=some (.lst xs)/\-(2 ^ 63)<=i/\i<2 ^ 63/\seqIndex? i xs.length=some k/\xs[k]?=some y/\Q y (upd H l (.lst (xs.eraseIdx k)))
theorem ζ19:MtM X "list.pop" ζ712:=by
 intro pins s σ H x vs v us Q I rx rv h
 obtain⟨l,xs,i,k,y,rfl,rfl,hH,h1,h2,hk,hy,q⟩:=h
 cases rx
 obtain⟨u,rfl,ru⟩:=rv.one
 obtain⟨t,rfl⟩:=ru
 obtain⟨z,its,n,r,hl,e⟩:=I.lstM hH
 obtain⟨w,hw,rw'⟩:=r.get hy
 refine call_meets F.slot_list_pop ⟨_,e,rfl⟩ F.entry_list_pop (F.args_list_pop_2 _ _)
  (MeetsSeq.list_pop_at l its.toArray n i t k w (fitsIndex_both h1 h2) (by rw[List.size_toArray,<- hl];exact hk) (by rw[<- Array.getElem?_toList];exact hw) (by rw[List.size_toArray];omega)) ⟨e,?_⟩
 refine⟨y,_,I.lset (its':=its.eraseIdx k) hH e ?_ (r.eraseIdx k) ?_,rw',q⟩
 ·show its.toArray.eraseIdxIfInBounds k=(its.eraseIdx k).toArray
  rw[List.eraseIdxIfInBounds_toArray]
 ·have:=ζc4 xs k
  omega
def rCat:R2:=fun x y H Q=>∃ l b xs zs,x=.ref l/\y=.ref b/\H l=some (.lst xs)/\H b=some (.lst zs)/\xs.length+zs.length<=sizeLine/\∀ p,H p=none->Q (.ref p) (upd H p (.lst (xs++zs)))
theorem ζV8:OpR X (binaryOp .Add) rCat:=by
 intro pins s σ H x y v u Q I rx ry h
 obtain⟨l,b,xs,zs,rfl,rfl,hH,hB,hz,q⟩:=h
 cases rx
 cases ry
 obtain⟨z,its,n,r,hl,e⟩:=I.lstM hH
 obtain⟨z2,its2,n2,r2,hl2,e2⟩:=I.lstM hB
 refine PySem.P.add_list e e2 ?_ (by rw[List.size_toArray,List.size_toArray];omega)
 have ea:its.toArray++its2.toArray=(its++its2).toArray:=by simp
 rw[ea]
 exact⟨.ref _,_,I.lnew (t':=s.toks) (r.append r2) (by rw[List.length_append];omega),rfl,q _ I.fresh⟩
def rRep:R2:=fun x y H Q=>∃ l k xs,x=.ref l/\y=.int k/\H l=some (.lst xs)/\-(2 ^ 63)<=k/\k<2 ^ 63/\xs.length * k.toNat<=sizeLine /\
 ∀ p,H p=none->Q (.ref p) (upd H p (.lst (List.replicate k.toNat xs).flatten))
theorem ζG10{α:Type}(xs:List α)(k:Nat):(List.replicate k xs).flatten.length=k * xs.length:=by
 induction k with
 | zero=>simp
 | succ k ih=>rw[List.replicate_succ,List.flatten_cons,List.length_append,ih,Nat.succ_mul,Nat.add_comm]
theorem ζQ8:OpR X (binaryOp .Mult) rRep:=by
 intro pins s σ H x y v u Q I rx ry h
 obtain⟨l,k,xs,rfl,rfl,hH,h1,h2,hz,q⟩:=h
 cases rx
 obtain⟨t,rfl⟩:=ry
 obtain⟨z,its,n,r,hl,e⟩:=I.lstM hH
 have hlen:its.toArray.size * k.toNat<=sizeLine:=by rw[List.size_toArray,<- hl];exact hz
 have hcap:¬ its.toArray.size * k.toNat > (2 ^ 63 - 1) / 8:=by
  have:(sizeLine:Nat)<=(2 ^ 63 - 1) / 8:=by decide
  omega
 have hfit:¬ (!Builtin.List.listFitsIndex k)=true:=by
  rw[fitsIndex_both h1 h2]
  exact Bool.false_ne_true
 have hlong:¬ Builtin.List.listTooLong (its.toArray.size * k.toNat)=true:=by
  rw[ζX8 hlen]
  exact Bool.false_ne_true
 have hnew:List.foldl (fun x1 x2=>x1++x2) #[] (List.replicate (if its.toArray.isEmpty=true then 0 else k.toNat) its.toArray)=(List.replicate k.toNat its).flatten.toArray:=by
  have f0:∀ m:Nat,List.foldl (fun x1 x2=>x1++x2) #[] (List.replicate m its.toArray)=(List.replicate m its).flatten.toArray:=fun m=>by
   have:=ζh4 its m []
   rw[List.nil_append]at this
   exact this
  rw[f0]
  cases its with
  | nil=>simp
  | cons a r'=>rw[if_neg (by simp)]
 refine wpAny_binaryOp_repeat_ref (T:="list") (U:="int") (by decide) ⟨_,e,rfl⟩ (fun s'=>typeIs_int s' k t) noFill_list_mul F.fills_int_mul F.slot_int_rmul repeat_list F.slot_int_index.lookup
  (call_meets F.slot_int_rmul (typeIs_int s k t) F.entry_int_rmul (F.args_int_rmul_2 _ _) (int___rmul___int_list k t l its.toArray n)
   ⟨e,rfl,⟨_,e,rfl⟩,call_meets F.slot_list_mul ⟨_,e,rfl⟩ F.entry_list_mul (F.args_list_mul_2 _ _) (AutoListH.list___mul___list_int_3 l its.toArray n k t hfit hcap hlong) ⟨e,?_⟩⟩)
 rw[hnew]
 exact⟨.ref _,_,I.lnew (t':=s.toks) (r.rep k.toNat) (by rw[ζG10,Nat.mul_comm];exact hz),rfl,q _ I.fresh⟩
end
section
variable{prog:Program}{w:World}{A:Around}{E:Value->Shared->Prop}{s:Shared}
end
section
variable{X:Cx}
end
section
variable{κ:Type}[DecidableEq κ]
def valV(kvs:List (κ × V))(k:κ):Option V:=(kvs.find? fun kv=>decide (kv.1=k)).map (·.2)
def putK(kvs:List (κ × V))(k:κ)(v:V):List (κ × V) :=
 if (kvs.any fun kv=>decide (kv.1=k))=true then kvs.map (fun kv=>if kv.1=k then (kv.1,v) else kv) else kvs++[(k,v)]
def ζV12(kvs:List (κ × V))(k:κ):List (κ × V):=kvs.filter fun kv=>decide (kv.1≠k)
theorem ζn8{k:κ}:valV ([]:List (κ × V)) k=none:=rfl
theorem ζk3{p:κ × V}{r:List (κ × V)}{k:κ}(e:p.1=k):valV (p :: r) k=some p.2:=by simp[valV,List.find?_cons,e]
theorem ζl3{p:κ × V}{r:List (κ × V)}{k:κ}(e:¬ p.1=k):valV (p :: r) k=valV r k:=by simp[valV,List.find?_cons,e]
theorem ζ65(k:κ):∀ kvs:List (κ × V),(kvs.any fun kv=>decide (kv.1=k))=(valV kvs k).isSome
 | []=>rfl
 | p :: r=>by
  rw[List.any_cons]
  by_cases e:p.1=k
  ·simp only [ζk3 e,decide_eq_true e,Bool.true_or,Option.isSome_some]
  ·rw[ζl3 e,decide_eq_false e,Bool.false_or];exact ζ65 k r
theorem ζR4(kvs:List (κ × V))(k:κ)(v:V):(putK kvs k v).length<=kvs.length+1:=by
 unfold putK
 split
 ·rw[List.length_map];omega
 ·rw[List.length_append,List.length_cons,List.length_nil];omega
theorem ζH8{kvs:List (κ × V)}{k:κ}(v:V)(h:valV kvs k=none):putK kvs k v=kvs++[(k,v)]:=by
 unfold putK
 rw[ζ65,h]
 exact if_neg (by decide)
theorem RelO.getD{o:Option V}{u:Option Value}{d:V}{d':Value}(r:RelO o u)(rd:RelV d d'):RelV (o.getD d) (u.getD d'):=by
 cases o with
 | none=>cases u with
  | none=>exact rd
  | some _=>exact(show False from r).elim
 | some _=>cases u with
  | none=>exact(show False from r).elim
  | some _=>exact r
theorem KV.val{kvs:List (κ × V)}{vs:List (κ × Value)}(r:KV kvs vs)(k:κ):RelO (valV kvs k) (valueAt vs k):=by
 unfold KV at r
 induction r with
 | nil=>exact True.intro
 | @cons p q ps qs h t ih =>
  obtain⟨h1,h2⟩:=h
  by_cases e:p.1=k
  ·have e':q.1=k:=h1.symm.trans e
   have b:valueAt (q :: qs) k=some q.2:=by simp[valueAt,List.find?_cons,e']
   rw[ζk3 e,b];exact h2
  ·have e':¬ q.1=k:=fun z=>e (h1.trans z)
   have b:valueAt (q :: qs) k=valueAt qs k:=by simp[valueAt,List.find?_cons,e']
   rw[ζl3 e,b];exact ih
theorem KV.any{kvs:List (κ × V)}{vs:List (κ × Value)}(r:KV kvs vs)(k:κ):(kvs.any fun kv=>decide (kv.1=k))=vs.any fun kv=>decide (kv.1=k):=by
 unfold KV at r
 induction r with
 | nil=>rfl
 | cons h t ih=>rw[List.any_cons,List.any_cons,ih,h.1]
theorem KV.repl{kvs:List (κ × V)}{vs:List (κ × Value)}(r:KV kvs vs)(k:κ){y:V}{u:Value}(ry:RelV y u) :
  KV (kvs.map fun kv=>if kv.1=k then (kv.1,y) else kv) (vs.map fun kv=>if kv.1=k then (kv.1,u) else kv):=by
 unfold KV at r ⊢
 induction r with
 | nil=>exact .nil
 | @cons p q ps qs h t ih =>
  rw[List.map_cons,List.map_cons]
  refine .cons ?_ ih
  obtain⟨h1,h2⟩:=h
  by_cases e:p.1=k
  ·rw[if_pos e,if_pos (h1.symm.trans e)];exact⟨h1,ry⟩
  ·rw[if_neg e,if_neg (fun z=>e (h1.trans z))];exact⟨h1,h2⟩
theorem KV.put{kvs:List (κ × V)}{vs:List (κ × Value)}(r:KV kvs vs)(k:κ){y:V}{u:Value}(ry:RelV y u):KV (putK kvs k y) (stored vs k u):=by
 unfold putK stored
 rw[r.any k]
 by_cases e:(vs.any fun kv=>decide (kv.1=k))=true
 ·rw[if_pos e,if_pos e];exact r.repl k ry
 ·rw[if_neg e,if_neg e];exact Paired.snoc r ⟨rfl,ry⟩
theorem KV.drop{kvs:List (κ × V)}{vs:List (κ × Value)}(r:KV kvs vs)(k:κ):KV (ζV12 kvs k) (without vs k):=by
 unfold KV at r ⊢
 unfold ζV12 without
 induction r with
 | nil=>exact .nil
 | @cons p q ps qs h t ih =>
  obtain⟨h1,h2⟩:=h
  rw[List.filter_cons,List.filter_cons]
  by_cases e:p.1=k
  ·have a:¬ decide (p.1≠k)=true:=by simp[e]
   have b:¬ decide (q.1≠k)=true:=by simp[h1.symm.trans e]
   rw[if_neg a,if_neg b];exact ih
  ·have e':¬ q.1=k:=fun z=>e (h1.trans z)
   have a:decide (p.1≠k)=true:=by simp[e]
   have b:decide (q.1≠k)=true:=by simp[e']
   rw[if_pos a,if_pos b];exact .cons ⟨h1,h2⟩ ih
theorem KV.length{kvs:List (κ × V)}{vs:List (κ × Value)}(r:KV kvs vs):kvs.length=vs.length:=Paired.length r
end
theorem ζi13{P:Program}{w:World}{k:Key}{u:Value}(r:RelV (kV k) u):(ζY P w).is k u=true:=by
 cases k with
 | inl i=>obtain⟨t,e⟩:=(show ∃ t,u=Value.int i t from r);subst e;exact ζP4 P w i t
 | inr x=>obtain⟨t,e⟩:=(show ∃ t,u=Value.str x t from r);subst e;exact ζO4 P w x t
section
variable{P:Program}{w:World}{H:Hp}{h:Heap}{a:Addr}
theorem ζ613{u:HO}(ok:HOk P w H h)(e:Rd H a u):ObjOk P w H h a u:=e.ok ok
theorem ζp13{kvs:List (Key × V)}(ok:HOk P w H h)(e:Rd H a (.dK kvs)):kvs.length<=sizeLine/\(a == sysModules)=false/\∃ vs,KV kvs vs/\h.DictOf (ζY P w) a vs :=
 show ObjOk P w H h a (.dK kvs) from ζ613 ok e
theorem ζB12{kvs:List (Key × V)}(ok:HOk P w H h)(e:H a=some (.dK kvs)):kvs.length<=sizeLine/\(a == sysModules)=false/\∃ vs,KV kvs vs/\h.DictOf (ζY P w) a vs:=ζp13 ok (.inl e)
end
section
variable{X:Cx}{pins:List (Addr × Obj)}{σ:St}{H:Hp}{s:Shared}{a:Addr}{y v:V}{u r:Value}{o:Option V}{A:Around}{E:Value->Shared->Prop}
theorem Inv.big(I:Inv X pins σ H s):sysModules<s.heap.objs.size:=by
 have h:mainGlobals<s.heap.objs.size:=(I.mod.glob.keeps I.bk).lt
 exact Nat.lt_trans (by decide) h
theorem ζn11{h':Heap}{t':Nat}{ob:HO}(I:Inv X pins σ H s)(mu:Mut (H a))(hs:Heap.SameBut a s.heap h')(he:∃ q,h'.get? a=some q)(new:ObjOk X.prog X.w (upd H a ob) h' a ob) :
  Inv X pins σ (upd H a ob) { s with heap:=h',toks:=t' } :=
 I.write (x:=a) (e:=a) mu (.inl rfl) (fun b q hb z=>(hs.2 b hb).trans z) he new
theorem ζC12{P:Program}{w:World}{H':Hp}{h':Heap}{kvs:List (Key × V)}{vs:List (Key × Value)}(z:kvs.length<=sizeLine)(hd:(a == sysModules)=false)(rel:KV kvs vs)(dd:h'.DictOf (ζY P w) a vs) :
  ObjOk P w H' h' a (.dK kvs):=⟨z,hd,vs,rel,dd⟩
end
section
variable{X:Cx}{pins:List (Addr × Obj)}{σ:St}{H:Hp}{s:Shared}{a:Addr}{kvs:List (Key × V)}{k:Key}{u:Value}{A:Around}{E:Value->Shared->Prop}
end
section
variable{X:Cx}{o i e value:Expr}{pos pos' tpos:Pos}{td ty tv:TE}
end
theorem ζx9 {P:Program} {w:World} {H:Hp} (h:Heap) (hb:sysModules<h.objs.size):ObjOk P w H (h.push { cls:=.type "dict",data:=.dict #[] }) h.objs.size (.dK []) :=
 ⟨Nat.zero_le _,beq_eq_false_iff_ne.mpr (Ne.symm (Nat.ne_of_lt hb)),[],.nil,Heap.DictOf.new h⟩
def ζO11:TE:=fun _ H Q=>∀ p,H p=none->Q (.ref p) (upd H p (.dK []))
section
variable{X:Cx}{pos:Pos}
theorem ζO8:PE X (.Dict [] [] pos) ζO11:=fun pins s σ H Q I h =>
 wpAny_Dict_empty ⟨.ref s.heap.objs.size,_,I.laid (a:=s.heap.objs.size) (o:=.dK []) (t':=s.toks) (fun _ _ q=>Heap.get?_push_of_some _ q) (Nat.le_refl _) (ζx9 s.heap I.big),rfl,h _ (I.hok.fresh (Nat.le_refl _))⟩
end
structure M1 (X:Cx) (o:Expr) (m:Str) (apos:Pos) (e:Expr) (cpos:Pos):Prop where
 base:attributeBase o m X.env (eval o X.env)=eval o X.env
 few:((backTo cpos (starEach [e] X.env)).all (fun x=>!x.1) && (backToKw cpos (keywordEach [] X.env)).all (fun x=>x.1.isSome)
  && decide (([e]:List Expr).length+([]:List Keyword).length+(if ([]:List Keyword).isEmpty then 0 else 1)<30))=true
 line:(apos.endLine == cpos.line)=true
 trees:backTo cpos (starEach [e] X.env)=[(false,eval e X.env)]
structure M2 (X:Cx) (o:Expr) (m:Str) (apos:Pos) (e f:Expr) (cpos:Pos):Prop where
 base:attributeBase o m X.env (eval o X.env)=eval o X.env
 few:((backTo cpos (starEach [e,f] X.env)).all (fun x=>!x.1) && (backToKw cpos (keywordEach [] X.env)).all (fun x=>x.1.isSome)
  && decide (([e,f]:List Expr).length+([]:List Keyword).length+(if ([]:List Keyword).isEmpty then 0 else 1)<30))=true
 line:(apos.endLine == cpos.line)=true
 trees:backTo cpos (starEach [e,f] X.env)=[(false,eval e X.env),(false,eval f X.env)]
section
variable{X:Cx}{pins:List (Addr × Obj)}{σ:St}{H:Hp}{s:Shared}{a:Addr}{y d:V}{u r:Value}{o:Option V}{A:Around}{E:Value->Shared->Prop}
end
section
variable{X:Cx}{o e f:Expr}{apos cpos:Pos}{td ty tx:TE}
end
section
variable{X:Cx}{pins:List (Addr × Obj)}{σ:St}{H:Hp}{s:Shared}{a:Addr}{kvs:List (Key × V)}{A:Around}{E:Value->Shared->Prop}
end
section
variable{X:Cx}{pins:List (Addr × Obj)}{σ:St}{H:Hp}{s:Shared}{a:Addr}{y:V}{u:Value}{A:Around}{E:Value->Shared->Prop}
end
end L2
namespace Att
open PySem PySem.W PySem.Calls PyProof.Rows
theorem ζk2{P:Params}{h:Heap}:∀(ns:List Int) (vs:List Value),WellAll P h vs (ns.map WData.int)->IntsAre vs ns:=by
 intro ns
 induction ns with
 | nil =>
  intro vs w
  rw[List.map_nil]at w
  cases w
  exact .nil
 | cons n ns ih =>
  intro vs w
  rw[List.map_cons]at w
  cases w with
  | cons a b =>
   cases a
   exact .cons _ _ (ih _ b)
theorem ζG6{l:OpenLaw}{n:Nat}(hn:l.most=some n){P:Params}{h:Heap}{args:List WData}{vals:List Value}
  (hpre:l.row.toRowW.claim.pre args=true) (hwl:WellAll P h vals args) :
  ∃ a vs ns,vals=[Value.ref a]/\args=[WData.list (ns.map WData.int)]/\h.get? a=some { cls:=.type "list",data:=.seq vs.toArray }/\IntsAre vs ns/\ns.length<=n:=by
 have hsh:WShape.hasAll [] args [.list .int]=true:=(pre_splitW hpre).1
 have hc:l.pre.holds [] { args:=args }=true:=(pre_splitW hpre).2
 obtain⟨d,r,rfl,h1,h2⟩:=hasAllW_cons hsh
 obtain rfl:=hasAllW_nil h2
 obtain⟨xs,rfl,h3⟩:=hasW_list h1
 obtain⟨ns,rfl⟩:=items_int h3
 have hlen:ns.length<=n:=by
  unfold OpenLaw.pre at hc
  have h4:(WTm.not (.lt (.lit (.int (n:Int))) (.len (.arg 0)))).holds [] { args:=[.list (ns.map .int)] }=true:=by
   have h4:=(holds_andW hc).1
   rw[hn]at h4
   exact h4
  have h5:=condW_of h4 (w_not (w_lt w_lit (w_len_list (w_arg rfl))))
  rw[List.length_map]at h5
  refine Nat.le_of_not_lt fun q=>?_
  have q':(n:Int)<((ns.length:Nat):Int):=by omega
  first
   | (rw[decide_eq_true q']at h5;exact absurd h5 (by decide))
   | (simp at h5;omega)
 cases hwl with
 | cons w1 w2 =>
  cases w2
  cases w1 with
  | list ho hall=>exact⟨_,_,ns,rfl,rfl,ho,ζk2 ns _ hall,hlen⟩
theorem ζM6(l:OpenLaw)(args:List WData):l.row.toRowW.claim.post args (.bool true) args=true :=
 postW_of (r:=l.row.toRowW) (X:=(true == true))
  (show WShape.has [] (.bool true) .bool=true by first | rfl | decide | simp[WShape.has,WShape.arms,WShape.armsAll])
  (show(WTm.eq .res (.lit (.bool true))).value [] { args:=args,res:=some (.bool true),after:=args }=some (.bool (true == true)) from w_eq_bool (w_res rfl) w_lit) rfl
theorem attach_call{l:OpenLaw}{n:Nat}{q:Program}{loose:List Str}{XP:(Str->Option Value)->Heap->Prop}{YP:World->Heap->Prop}{d:DefRec}
  (hn:l.most=some n) (hdf:d.params.defaults=[])
  (call:∀(w:World) (s₀ s₁:Shared) (mg mb:Str->Option Value) (fa:Addr) (o:Obj) (pm cd doc:Value) (a:Addr) (vs:List Value) (ns:List Int),
   Ground q loose [] XP w s₀ mg mb s₁.heap->YP w s₁.heap ->
   s₁.heap.get? fa=some o->o.data=.func (docDef d.name d.params d.body d.scope pm cd doc)->s₁.heap.CodeRec cd d.name->mg d.name=some (.ref fa) ->
   s₁.heap.get? a=some { cls:=.type "list",data:=.seq vs.toArray }->IntsAre vs ns->ns.length<=n->s₁.gens=#[] ->
   codeAny (model l.prog w) callerA (.call (.ref fa) ⟨[.ref a],[]⟩) (fun r s'=>r=.ok (.ret (.bool true))/\OldK s₁.heap s'.heap/\s'.os=s₁.os/\AllBare s'.gens) s₁) :
  WalkO q loose XP YP l.row.toRowW d [] (fun f vs=>PySem.call f vs):=by
 intro w s₀ s₁ mg mb G Y fa o pm cd doc dV kV ho hd hcd hD hmg hg args vals as hpre hlay hrd hwl hlo
 obtain rfl:dV=.none:=Dflts.none hD hdf
 obtain rfl:kV=.none:=Dflts.noKw hD
 obtain⟨a,vs,ns,rfl,rfl,hobj,hints,hlen⟩:=ζG6 hn hpre hwl
 refine enter_call (codeAny_mono (call w s₀ s₁ mg mb fa o pm cd doc a vs ns G Y ho (fd_plain hd) hcd hmg hobj hints hlen hg) fun r s' hq=>?_)
 obtain⟨rfl,h2,h3,h4⟩:=hq
 exact⟨.inl ⟨.bool true,.bool true,[],rfl,fun _=>rfl,.bool true,ζM6 l _,fun _=>⟨List.Pairwise.nil,fun _ hm=>(nomatch hm)⟩⟩,h2,h3,h4⟩
section
variable{prog:Program}{w:World}{A:Around}{E:Value->Shared->Prop}{s:Shared}{K:Frag}
def ζh13(h:Heap)(L d:Addr):List (Addr × Obj):=(List.range h.objs.size).filterMap fun a=>if a=L\/a=d then none else (h.get? a).map fun o=>(a,o)
end
end Att
namespace L2
open PySem PySem.Spec PyProof.Rows
theorem ζW3:∀ {vs:List Value} {ns:List Int},IntsAre vs ns->Vals (ns.map V.int) vs
 | _,_,.nil=>.nil
 | _,_,.cons n t h=>.cons ⟨t,rfl⟩ (ζW3 h)
def Only(H:Hp):Prop:=∀ b,H b=none\/∃ o xs,H b=some (.frz o (.lst xs))
theorem ζ99{P:Program}{w:World}{K:PySem.W.Frag}{mg mb:Str->Option Value}{CX:CXT}{k:Nat}{fa a:Addr}{fd:FuncData}{x:Str}{sp:Sp}{s₁:Shared}{vs:List Value}{ns:List Int}
  (KX:K.In s₁.heap) (hns:s₁.heap.Ns mainGlobals mg) (hb:s₁.heap.Ns builtinsNs mb) (hbb:∀ x:Str,x≠"__name__"->mb x=bootBuiltins x) (hlim:s₁.heap.NoLimit) (hg:s₁.gens=#[])
  (ha:s₁.heap.get? a=some { cls:=.type "list",data:=.seq vs.toArray }) (hi:IntsAre vs ns) (hl:ns.length<=sizeLine) (hr:Room k callerA)
  (F:∀ base:Heap,K.In base->base.Ns mainGlobals mg->FnOk P w K mg base CX k fa fd [x] sp) (hbind:∀(s:Shared) (u:Value),BindsTo s fd ⟨[u],[]⟩ [(x,u)])
  (hsp:∀ H:Hp,Only H->SqL K H a (ns.map V.int)->sp [.ref a] H (fun v _=>v=.bl true) fun _ _ _=>False)
  (hCX:∀ H e s',CX [] H s₁ (fun _ _ _=>False) e s'->False) :
  codeAny (model P w) callerA (.call (.ref fa) ⟨[.ref a],[]⟩) (fun r s'=>r=.ok (.ret (.bool true))/\OldK s₁.heap s'.heap/\s'.os=s₁.os/\AllBare s'.gens) s₁:=by
 have rv:=ζW3 hi
 have lenV:=hi.length
 have core:∀ H:Hp,Only H->SqL K H a (ns.map V.int)->HOk P w H s₁.heap->(∀ b,H b≠none->b=a)->(H a≠none->K.lookup a=none) ->
   codeAny (model P w) callerA (.call (.ref fa) ⟨[.ref a],[]⟩) (fun r s'=>r=.ok (.ret (.bool true))/\OldK s₁.heap s'.heap/\s'.os=s₁.os/\AllBare s'.gens) s₁:=by
  intro H hO hS hok hA hK
  have base_of:∀ {b:Addr} {o:Obj},s₁.heap.get? b=some o->H b=none->(hidT s₁.heap H).get? b=some o:=fun e n=>ζj9 e n
  have noA:∀ {b:Addr} {o:Obj} {es:Array DictEntry} {ep:Nat},s₁.heap.get? b=some o->o.data=.dict es ep->H b=none:=fun {b o es ep} e d=>by
   cases q:H b with
   | none=>rfl
   | some u =>
    have e':b=a:=hA b (by rw[q];simp)
    subst e'
    rw[ha]at e;cases e
    have d':Data.seq vs.toArray _=Data.dict es ep:=d
    cases d'
  have nsK:∀ {b:Addr} {m:Str->Option Value},s₁.heap.Ns b m->(hidT s₁.heap H).Ns b m:=fun {b m} ⟨o,es,ep,e,d,r⟩=>⟨o,es,ep,base_of e (noA e d),d,r⟩
  have hKb:K.In (hidT s₁.heap H):=fun b o e=>base_of (KX b o e) (by
   cases q:H b with
   | none=>rfl
   | some u =>
    have e':b=a:=hA b (by rw[q];simp)
    subst e'
    rw[hK (by rw[q];simp)]at e;cases e)
  have hM:Mod K mg (hidT s₁.heap H):=⟨hKb,nsK hns,⟨mb,nsK hb,hbb⟩,let ⟨mc,h1,h2⟩:=hlim;⟨mc,nsK h1,h2⟩⟩
  have e0:Env0 P w K mg (hidT s₁.heap H) callerA [] s₁ H:=⟨rfl,hM,fun b o e=>ζA10 e,Nat.le_of_eq (ζ97 _ _),trivial,fun b hb=>absurd (show b∈([]:List Addr) from hb) (by simp),hok,.of_eq hg⟩
  refine codeAny_mono ((F _ hKb (nsK hns)).run callerA [] s₁ H ⟨[.ref a],[]⟩ [.ref a] [.ref a] _ _ hr e0 (hbind s₁ (.ref a)) (.cons rfl .nil) (hsp H hO hS)) fun r s' h=>?_
  cases r with
  | error e=>exact(hCX H e s' h).elim
  | ok fl =>
   cases fl with
   | next=>exact False.elim h
   | brk=>exact False.elim h
   | cont=>exact False.elim h
   | ret u =>
    obtain⟨v,H',os,bare,un,hok',r',q⟩:=h
    have q':v=.bl true:=q
    subst q'
    obtain rfl:u=Value.bool true:=r'
    refine⟨rfl,OldK.of_keep fun b o e=>?_,os,bare⟩
    cases q:H b with
    | none=>exact un.keep b o e q (by intro z;exact absurd (show b∈([]:List Addr) from z) (by simp)) (by simp)
    | some u =>
     rcases hO b with z | ⟨ob,xs,z⟩
     ·rw[q]at z;cases z
     ·have z2:=un.frzs b ob _ z
      obtain⟨e1,_⟩:=hok b _ z
      obtain⟨e2,_⟩:=hok' b _ z2
      rw[e]at e1;cases e1
      exact e2
 cases hk:K.lookup a with
 | some o =>
  have e:=KX a o hk
  rw[ha]at e
  cases e
  refine core (fun _=>none) (fun _=>.inl rfl) (.inr ⟨_,vs.toArray,_,hk,rfl,rfl,rfl,by rw[List.size_toArray,lenV];exact hl,by simpa using rv⟩) (fun b u z=>by have z':(none:Option HO)=some u:=z;cases z') (fun b z=>absurd rfl z) fun z=>absurd rfl z
 | none =>
  refine core (fun b=>if b=a then some (.frz { cls:=.type "list",data:=.seq vs.toArray } (.lst (ns.map V.int))) else none) (fun b=>?_) (.inl (.inr ⟨{ cls:=.type "list",data:=.seq vs.toArray },if_pos rfl⟩)) (fun b u z=>?_) (fun b z=>?_) fun _=>hk
  ·by_cases hb:b=a
   ·exact .inr ⟨_,_,if_pos hb⟩
   ·exact .inl (if_neg hb)
  ·by_cases hb:b=a
   ·have z':=(if_pos hb).symm.trans z
    cases z'
    subst hb
    exact⟨ha,by rw[List.length_map];exact hl,vs,_,rv,ha⟩
   ·have z':=(if_neg hb).symm.trans z
    cases z'
  ·by_cases hb:b=a
   ·exact hb
   ·exact absurd (if_neg hb) z
abbrev KOf{K:PySem.W.Frag}{h:Heap}(_:K.In h):PySem.W.Frag:=K
theorem ζV9{l:PySem.W.OpenLaw}{n k:Nat}{q:Program}{loose:List Str}{XP:(Str->Option Value)->Heap->Prop}{YP:World->Heap->Prop}{d:DefRec}{K:Params->PySem.W.Frag}{CX:World->CXT}{sp:World->Sp}{x:Str}
  (hn:l.most=some n) (hn2:n<=sizeLine) (hdf:d.params.defaults=[]) (hr:Room k callerA)
  (hY:∀(w:World) (h:Heap),YP w h->(K w.params).In h)
  (F:∀(w:World) (mg:Str->Option Value) (fa:Addr) (h:Heap),(K w.params).In h->h.Ns mainGlobals mg->mg d.name=some (.ref fa) ->
   ∃ fd:FuncData,(∀(s:Shared) (u:Value),BindsTo s fd ⟨[u],[]⟩ [(x,u)]) /\
    ∀ base:Heap,(K w.params).In base->base.Ns mainGlobals mg->FnOk l.prog w (K w.params) mg base (CX w) k fa fd [x] (sp w))
  (hsp:∀(w:World) (H:Hp) (a:Addr) (ns:List Int),ns.length<=n->Only H->SqL (K w.params) H a (ns.map V.int)->sp w [.ref a] H (fun v _=>v=.bl true) fun _ _ _=>False)
  (hCX:∀(w:World) (H:Hp) (s:Shared) (e:Value) (s':Shared),CX w [] H s (fun _ _ _=>False) e s'->False) :
  PySem.W.WalkO q loose XP YP l.row.toRowW d [] (fun f vs=>PySem.call f vs):=by
 refine Att.attach_call hn hdf fun w s₀ s₁ mg mb fa o pm cd doc a vs ns G Y ho hd hcd hmg hobj hints hlen hg=>?_
 have KX:=hY w _ Y
 obtain⟨fd,hb,hF⟩:=F w mg fa _ KX G.T.g hmg
 exact ζ99 KX G.T.g G.T.b G.T.builtins G.T.nolimit hg hobj hints (Nat.le_trans hlen hn2) hr hF hb (fun H hO hS=>hsp w H a ns hlen hO hS) fun H e s'=>hCX w H s₁ e s'
theorem walk_ofK{l:PySem.W.OpenLaw}{n k:Nat}{q:Program}{loose:List Str}{XP:(Str->Option Value)->Heap->Prop}{YP:World->Heap->Prop}{d:DefRec}{K:Params->PySem.W.Frag}{CX:CXT}{sp:PySem.W.Frag->Sp}{x:Str}
  (hn:l.most=some n) (hn2:n<=sizeLine) (hdf:d.params.defaults=[]) (hr:Room k callerA)
  (hY:∀(w:World) (h:Heap),YP w h->(K w.params).In h)
  (F:∀(w:World) (mg:Str->Option Value) (fa:Addr) (h:Heap),(K w.params).In h->h.Ns mainGlobals mg->mg d.name=some (.ref fa) ->
   ∃ fd:FuncData,(∀(s:Shared) (u:Value),BindsTo s fd ⟨[u],[]⟩ [(x,u)]) /\
    ∀ base:Heap,(K w.params).In base->base.Ns mainGlobals mg->FnOk l.prog w (K w.params) mg base CX k fa fd [x] (sp (K w.params)))
  (hsp:∀(K:PySem.W.Frag) (H:Hp) (a:Addr) (ns:List Int),ns.length<=n->Only H->SqL K H a (ns.map V.int)->sp K [.ref a] H (fun v _=>v=.bl true) fun _ _ _=>False)
  (hCX:∀(H:Hp) (s:Shared) (e:Value) (s':Shared),CX [] H s (fun _ _ _=>False) e s'->False) :
  PySem.W.WalkO q loose XP YP l.row.toRowW d [] (fun f vs=>PySem.call f vs) :=
 ζV9 (K:=K) (CX:=fun _=>CX) (sp:=fun w=>sp (K w.params)) hn hn2 hdf hr hY F (fun w H a ns h1 h2 h3=>hsp (K w.params) H a ns h1 h2 h3) fun _ H s e s'=>hCX H s e s'
def ζV10(s:Stmt)(j:Nat):Stmt:=match s with
 | .ClassDef _ _ _ body _ _ _ _ _ _ _=>body.getD j (.Pass ⟨0,0,0,0⟩)
 | _=>.Pass ⟨0,0,0,0⟩
def ζp2(s:Stmt):Arguments:=match s with
 | .FunctionDef _ a _ _ _ _ _ _ _ _=>a
 | _=>{ posonlyargs:=[],args:=[],vararg:=none,kwonlyargs:=[],kw_defaults:=[],kwarg:=none,defaults:=[] }
def ζb2(s:Stmt):List Stmt:=match s with
 | .FunctionDef _ _ b _ _ _ _ _ _ _=>b
 | _=>[]
def ζ5(s:Stmt):Scope:=match s with
 | .FunctionDef _ _ _ _ _ _ sc _ _ _=>sc
 | _=>{ kind:=.function,names:=[],isGenerator:=false,isCoroutine:=false }
abbrev CX0:CXT:=fun _ _ _ _ _ _=>False
abbrev E0:XK:=fun _ _ _=>False
theorem ζt{X:Cx}:ζw6 CX0 X E0:=fun _ _ _ _ _ _ _ h=>h.elim
structure Fun (K:PySem.W.Frag) (x qual:Str) (st:Stmt) (f:Addr) (fd:FuncData):Prop where
 ex:∃(oc:Value) (od:Option Addr) (kV doc pm:Value) (an:Option Addr) (cdv ct:Value) (osl:Array (Option Value)),
  fd=PySem.W.fnOf x qual (ζp2 st) (ζb2 st) (ζ5 st) .none kV doc pm an cdv ct/\K.lookup f=some ⟨oc,od,.func fd,osl⟩/\PySem.W.codeIn K cdv qual=true
 kp:PySem.W.keepIn K (.ref f)=true
section
variable{P:Program}{w:World}{K:PySem.W.Frag}{mg:Str->Option Value}{base:Heap}
theorem Fun.ok{x qual:Str}{st:Stmt}{f:Addr}{fd:FuncData}{N ps:List Str}{k:Nat}{sp:Sp}(F:Fun K x qual st f fd)(S:FnScope N ps (ζ5 st))(len:∀ vs H Q E,sp vs H Q E->vs.length=ps.length)
  (hbody:∀(cdv:Value) (A:Around) (outer:List Env) (s:Shared) (H:Hp) (vs:List V) (Q:VK) (E:XK),Room k (A.deeper (envOfC qual (ζ5 st) s.heap.objs.size f cdv))->sp vs H Q E ->
   ∃ t,PSs (cxOf CX0 P w K mg base N qual (ζ5 st) f cdv A outer s H E).nox (ζb2 st) t/\t { nx:=fun _ H'=>Q .non H',rt:=Q } (start N vs) H):FnOk P w K mg base CX0 (k+1) f fd ps sp:=by
 obtain⟨oc,od,kV,doc,pm,an,cdv,ct,osl,rfl,lk,hcd⟩:=F.ex
 refine ζm13 lk hcd S len fun A outer s H vs Q E hr hsp=>?_
 obtain⟨t,h,q⟩:=hbody cdv A outer s H vs Q E hr hsp
 exact⟨t,h.nox,q⟩
theorem Fun.binds{x qual:Str}{st:Stmt}{f:Addr}{fd:FuncData}{ps:List Str}(F:Fun K x qual st f fd)
  (h:∀(kV doc pm:Value) (an:Option Addr) (cdv ct:Value) (us:List Value),us.length=ps.length->bindArgs (PySem.W.fnOf x qual (ζp2 st) (ζb2 st) (ζ5 st) .none kV doc pm an cdv ct) ⟨us,[]⟩=pure (ps.zip us)):Binds K fd ps []:=by
 obtain⟨oc,od,kV,doc,pm,an,cdv,ct,osl,rfl,lk,hcd⟩:=F.ex
 exact .all (h kV doc pm an cdv ct)
theorem ζ411{x qual:Str}{st:Stmt}{f:Addr}{oc:Value}{od an:Option Addr}{osl:Array (Option Value)}{kV doc pm cdv ct:Value}(l:K.lookup f=some ⟨oc,od,.func (PySem.W.fnOf x qual (ζp2 st) (ζb2 st) (ζ5 st) .none kV doc pm an cdv ct),osl⟩)
  (c:PySem.W.codeIn K cdv qual=true) (k:PySem.W.keepIn K (.ref f)=true):Fun K x qual st f (PySem.W.fnOf x qual (ζp2 st) (ζb2 st) (ζ5 st) .none kV doc pm an cdv ct):=⟨⟨oc,od,kV,doc,pm,an,cdv,ct,osl,rfl,l,c⟩,k⟩
end
section
variable{X:Cx}
theorem pv (i:Nat) {x:Str} {pos:Pos} (hN:X.N[i]?=some x:=by rfl) (hv:Vis X.env.scope x:=by first | exact Or.inl rfl | exact Or.inr (Or.inl rfl) | exact Or.inr (Or.inr rfl)) (hd:(x == ("__debug__":Str))=false:=by decide)
  (hcd:(x == ("__classdict__":Str))=false:=by decide):PE X (.Name x pos) (tVar i):=ζd12 hN hv hd hcd
end
theorem iteF{A B:Prop}(h:B):if false=true then A else B:=by
 rw[if_neg Bool.false_ne_true]
 exact h
theorem iteT{A B:Prop}(h:A):if true=true then A else B:=by
 rw[if_pos rfl]
 exact h
theorem ite2{c A B:Prop}[Decidable c](h1:c->A)(h2:¬ c->B):if c then A else B:=by
 by_cases h:c
 ·rw[if_pos h]
  exact h1 h
 ·rw[if_neg h]
  exact h2 h
def Same(H H':Hp):Prop:=∀ b o,H b=some o->H' b=some o
theorem Same.refl(H:Hp):Same H H:=fun _ _ h=>h
theorem Same.trans{H H1 H2:Hp}(a:Same H H1)(b:Same H1 H2):Same H H2:=fun c o h=>b c o (a c o h)
theorem Same.free{H H':Hp}(e:Same H H'){l:Addr}(h:H' l=Option.none):H l=Option.none:=by
 cases q:H l with
 | none=>rfl
 | some o =>
  rw[e l o q]at h
  cases h
theorem Same.seq{K:PySem.W.Frag}{H H':Hp}{a:Addr}{xs:List V}(e:Same H H')(h:SqL K H a xs):SqL K H' a xs:=by
 rcases h with (h | ⟨o,h⟩) | h
 ·exact .inl (.inl (e _ _ h))
 ·exact .inl (.inr ⟨o,e _ _ h⟩)
 ·exact .inr h
def PTs(X:Cx)(ifs:List Expr)(t:TT):Prop :=
 ∀(pins:List (Addr × Obj)) (s:Shared) (σ:St) (H:Hp) (Q:Bool->Hp->Prop),Inv X pins σ H s->t σ H Q ->
  wpAny (model X.prog X.w) X.A (forIn ifs true fun c r=>if r=true then do let ok <- isTrue c X.env (eval c X.env);pure (ForInStep.yield ok) else pure (ForInStep.yield r)) (TP X pins σ Q) X.xe s
def tYes:TT:=fun _ H Q=>Q true H
theorem ζB{X:Cx}:PTs X [] tYes:=fun _ _ _ H _ I h=>wpAny_tests_nil ⟨H,I,h⟩
theorem ζE7{X:Cx}{c:Expr}{t:TT}(hc:PT X c t):PTs X [c] t:=fun pins s σ H Q I h=>wpAny_tests_one (hc pins s σ H Q I h)
theorem ζM3{prog:Program}{w:World}{A:Around}{s:Shared}{R:Result->Shared->Prop}{elt target iter:Expr}{ifs:List Expr}{scope:Scope}{pos:Pos}{it acc:Value}{env:Env}(J:Nat->Shared->Prop)
  (turn:∀ n s,J n s->wpAny (model prog w) A (pyNext it) (fun r s1=>match r with
   | none=>R (.ok .next) s1
   | some v=>wpAny (model prog w) A (letOwnedTupleGo target it v) (fun _ s2=>wpAny (model prog w) A (assign target env v) (fun _ s3 =>
     wpAny (model prog w) A (forIn ifs true fun c r=>if r=true then do let ok <- isTrue c env (eval c env);pure (ForInStep.yield ok) else pure (ForInStep.yield r)) (fun ok s4 =>
      if ok=true then wpAny (model prog w) A (eval elt env) (fun x s5 =>
       wpAny (model prog w) A (call (.builtin "list.append") [acc,x]) (fun _ s6=>∃ m,m<n/\J m s6) (fun _ _=>False) s5) (fun _ _=>False) s4
      else ∃ m,m<n/\J m s4) (fun _ _=>False) s3) (fun _ _=>False) s2) (fun _ _=>False) s1) (fun _ _=>False) s)
  (n:Nat) (h:J n s):codeAny (model prog w) A (.compLoop (.ListComp elt [⟨target,iter,ifs,0⟩] scope pos) 0 it acc env) R s:=by
 refine codeAny_loop rfl J (fun n s hI=>?_) n h
 show wpAny _ A ((compTurn (.ListComp elt [⟨target,iter,ifs,0⟩] scope pos) 0 it acc env).onRaise (fun x=>do noteFrame x env;theTreesLotGoes x)) _ _ s
 refine wpAny_noted ?_
 rw[compTurn_list]
 refine wpAny_bind (wpAny_standAt (wpAny_bind (wpAny_mono (turn n s hI) (fun r s1 h1=>?_) fun _ _ z=>z.elim)))
 cases r with
 | none=>exact wpAny_pure h1
 | some v =>
  refine wpAny_bind (wpAny_mono h1 (fun _ s2 h2=>?_) fun _ _ z=>z.elim)
  refine wpAny_bind (wpAny_mono h2 (fun _ s3 h3=>wpAny_bind (wpAny_mono h3 (fun ok s4 h4=>?_) fun _ _ z=>z.elim)) fun _ _ z=>z.elim)
  cases ok with
  | false=>exact wpAny_pure ⟨rfl,h4⟩
  | true =>
   exact wpAny_bind (wpAny_bind (wpAny_mono h4 (fun x s5 h5=>wpAny_bind (wpAny_mono h5 (fun _ s6 h6=>wpAny_pure (wpAny_pure ⟨rfl,h6⟩)) fun _ _ z=>z.elim)) fun _ _ z=>z.elim))
def ζw4(cells:List (Str × Addr)):List (Str × NameKind)->List (Str × Addr)->List (Str × Addr)
 | [],acc=>acc
 | (n,k) :: r,acc=>if k == .free then ζw4 cells r ((n,(cells.lookup n).getD 0) :: acc) else ζw4 cells r acc
theorem ζc3{env:Env}:∀(names:List (Str × NameKind)) (acc:List (Str × Addr)),(∀ y∈names,y.2=.free->∃ c,env.cells.lookup y.1=some c) ->
  (forIn names acc fun(x:Str × NameKind) (cs:List (Str × Addr))=>(if (x.2 == .free)=true then do let a <- cellOf env x.1;pure (ForInStep.yield ((x.1,a) :: cs)) else pure (ForInStep.yield cs):Sem (ForInStep (List (Str × Addr)))))=pure (ζw4 env.cells names acc)
 | [],acc,_=>rfl
 | (n,k) :: r,acc,h=>by
  have ih:=fun acc=>ζc3 r acc fun y hy=>h y (List.mem_cons_of_mem _ hy)
  rw[List.forIn_cons]
  unfold ζw4
  by_cases hk:(k == NameKind.free)=true
  ·obtain⟨c,hc⟩:=h (n,k) List.mem_cons_self (by simpa using hk)
   have e:cellOf env n=pure c:=by
    unfold cellOf
    rw[show env.cells.lookup n=some c from hc]
   simp only [hk,if_true,e,pure_bind]
   rw[ih,show env.cells.lookup n=some c from hc]
   rfl
  ·simp only [hk,Bool.false_eq_true,if_false,pure_bind]
   exact ih acc
theorem ζo6{env:Env}{scope:Scope}(h:∀ y∈scope.names,y.2=.free->∃ c,env.cells.lookup y.1=some c):closureFor scope env=pure (ζw4 env.cells scope.names []):=by
 have e:=ζc3 scope.names [] h
 unfold closureFor
 simp only [bind_pure]at e ⊢
 exact e
theorem ζM2{env:Env}:∀(names:List (Str × NameKind)) (acc:List (Str × Addr)),(∀ y∈names,y.2=.free->∃ c,env.cells.lookup y.1=some c)->(∀ x c,acc.lookup x=some c->env.cells.lookup x=some c) ->
  ∀ x c,(ζw4 env.cells names acc).lookup x=some c->env.cells.lookup x=some c
 | [],acc,_,ha,x,c,e=>ha x c e
 | (n,k) :: r,acc,h,ha,x,c,e=>by
  unfold ζw4 at e
  by_cases hk:(k == NameKind.free)=true
  ·rw[if_pos hk]at e
   obtain⟨d,hd⟩:=h (n,k) List.mem_cons_self (by simpa using hk)
   refine ζM2 r _ (fun y hy=>h y (List.mem_cons_of_mem _ hy)) (fun y b q=>?_) x c e
   rw[List.lookup_cons]at q
   by_cases hy:(y == n)=true
   ·rw[hy]at q
    have hy':y=n:=by simpa using hy
    have hd':env.cells.lookup n=some d:=hd
    rw[hd']at q
    have q':d=b:=Option.some.inj q
    rw[hy',hd',q']
   ·have hy':(y == n)=false:=by simpa using hy
    rw[hy']at q
    exact ha y b q
  ·rw[if_neg hk]at e
   exact ζM2 r acc (fun y hy=>h y (List.mem_cons_of_mem _ hy)) ha x c e
theorem ζN2{cells:List (Str × Addr)}:∀(names:List (Str × NameKind)) (acc:List (Str × Addr)) (x:Str),(acc.lookup x).isSome=true->((ζw4 cells names acc).lookup x).isSome=true
 | [],_,_,h=>h
 | (n,k) :: r,acc,x,h=>by
  unfold ζw4
  by_cases hk:(k == NameKind.free)=true
  ·rw[if_pos hk]
   refine ζN2 r _ x ?_
   rw[List.lookup_cons]
   by_cases hx:(x == n)=true
   ·rw[hx];rfl
   ·have hx':(x == n)=false:=by simpa using hx
    rw[hx'];exact h
  ·rw[if_neg hk]
   exact ζN2 r acc x h
theorem ζV1{cells:List (Str × Addr)}:∀(names:List (Str × NameKind)) (acc:List (Str × Addr)) (x:Str),(x,NameKind.free)∈names->((ζw4 cells names acc).lookup x).isSome=true
 | [],_,_,h=>nomatch h
 | (n,k) :: r,acc,x,h=>by
  unfold ζw4
  rcases List.mem_cons.mp h with e | h
  ·cases e
   rw[if_pos (by rfl)]
   refine ζN2 r _ _ ?_
   rw[List.lookup_cons]
   simp
  ·by_cases hk:(k == NameKind.free)=true
   ·rw[if_pos hk];exact ζV1 r _ x h
   ·rw[if_neg hk];exact ζV1 r _ x h
theorem ζL{env:Env}:∀ {names:List (Str × NameKind)} {x:Str} {k:NameKind},(names.map fun(n,k)=>if (k == NameKind.free && env.scope.kind == .function && env.kindOf n == some .cell) then (n,NameKind.cell) else (n,k)).lookup x=some k ->
  (k=.cell\/k=.free)->(x,NameKind.free)∈names\/(x,NameKind.cell)∈names
 | [],_,_,h,_=>by simp at h
 | (n,q) :: r,x,k,h,hk=>by
  have h':List.lookup x ((if (q == NameKind.free && env.scope.kind == .function && env.kindOf n == some .cell)=true then (n,NameKind.cell) else (n,q)) :: r.map fun(n,k)=>if (k == NameKind.free && env.scope.kind == .function && env.kindOf n == some .cell) then (n,NameKind.cell) else (n,k))=some k:=h
  by_cases hc:(q == NameKind.free && env.scope.kind == .function && env.kindOf n == some .cell)=true
  ·rw[if_pos hc,List.lookup_cons]at h'
   have hq:q=.free:=by
    simp only [Bool.and_eq_true,beq_iff_eq]at hc
    exact hc.1.1
   by_cases hx:(x == n)=true
   ·have hx':x=n:=by simpa using hx
    subst hx';subst hq
    exact .inl List.mem_cons_self
   ·have hx':(x == n)=false:=by simpa using hx
    rw[hx']at h'
    rcases ζL (env:=env) h' hk with z | z
    ·exact .inl (List.mem_cons_of_mem _ z)
    ·exact .inr (List.mem_cons_of_mem _ z)
  ·rw[if_neg hc,List.lookup_cons]at h'
   by_cases hx:(x == n)=true
   ·rw[hx]at h'
    have hx':x=n:=by simpa using hx
    subst hx'
    have e:q=k:=Option.some.inj h'
    subst e
    rcases hk with rfl | rfl
    ·exact .inr List.mem_cons_self
    ·exact .inl List.mem_cons_self
   ·have hx':(x == n)=false:=by simpa using hx
    rw[hx']at h'
    rcases ζL (env:=env) h' hk with z | z
    ·exact .inl (List.mem_cons_of_mem _ z)
    ·exact .inr (List.mem_cons_of_mem _ z)
theorem ζp1{env:Env}:∀ {names:List (Str × NameKind)} {x:Str},names.lookup x=some .free ->
  (names.map fun(n,k)=>if (k == NameKind.free && env.scope.kind == .function && env.kindOf n == some .cell) then (n,NameKind.cell) else (n,k)).lookup x=some .cell \/
  (names.map fun(n,k)=>if (k == NameKind.free && env.scope.kind == .function && env.kindOf n == some .cell) then (n,NameKind.cell) else (n,k)).lookup x=some .free
 | [],_,h=>by simp at h
 | (n,q) :: r,x,h=>by
  show List.lookup x ((if (q == NameKind.free && env.scope.kind == .function && env.kindOf n == some .cell)=true then (n,NameKind.cell) else (n,q)) :: _)=_\/List.lookup x ((if (q == NameKind.free && env.scope.kind == .function && env.kindOf n == some .cell)=true then (n,NameKind.cell) else (n,q)) :: _)=_
  rw[List.lookup_cons]at h
  by_cases hc:(q == NameKind.free && env.scope.kind == .function && env.kindOf n == some .cell)=true
  ·rw[if_pos hc,List.lookup_cons]
   by_cases hx:(x == n)=true
   ·rw[hx];exact .inl rfl
   ·have hx':(x == n)=false:=by simpa using hx
    rw[hx']at h ⊢
    exact ζp1 h
  ·rw[if_neg hc,List.lookup_cons]
   by_cases hx:(x == n)=true
   ·rw[hx]at h ⊢;exact .inr h
   ·have hx':(x == n)=false:=by simpa using hx
    rw[hx']at h ⊢
    exact ζp1 h
def cxC(X:Cx)(N':List Str)(scope:Scope)(C:Addr)(s:Shared)(H:Hp)(fp:List Addr):Cx where
 prog:=X.prog
 w:=X.w
 K:=X.K
 mg:=X.mg
 base:=X.base
 A:=X.A
 N:=N'
 s₀:=s
 H₀:=H
 env:=compEnvC scope (ζw4 X.env.cells scope.names []) C X.env
 outer:=X.stack
 stack:=X.stack
 ex:=fp
 fn:=fun _=>false
 calm:=X.calm
 pn:=[]
 xe:=fun _ _=>False
def σC(o:Nat)(fr:List Nat)(σ:St):St:=List.replicate o none++fr.map fun j=>(σ[j]?).join
structure CompScope (sc0:Scope) (N N':List Str) (o:Nat) (fr:List Nat) (scope:Scope):Prop where
 kind:scope.kind=.function
 nocell:(scope.names.all fun y=>y.2 != .cell)=true
 loc:(scope.names.all fun y=>y.2 != .local || scope.names.lookup y.1 == some .local)=true
 free:(scope.names.all fun y=>y.2 != .free || sc0.names.lookup y.1 == some .cell || sc0.names.lookup y.1 == some .free)=true
 len:N'.length=o+fr.length
 sees:((List.range fr.length).all fun j=>match fr[j]? with
  | none=>false
  | some y=>match N[y]? with
   | none=>false
   | some x=>N'[o+j]? == some x && scope.names.lookup x == some .free)=true
def LcR(J:It)(g:TG)(tt:TT)(te:TE)(o:Nat)(fr:List Nat)(σ:St)(H1:Hp)(Q:VK):Prop:=∃ W:Nat->Nat->List V->Hp->Prop,(∃ m,W 0 m [] H1)/\∀ i m ys H,W i m ys H ->
 (J.stop i H/\ys.length<=sizeLine/\∀ p,H p=none->Q (.ref p) (upd H p (.lst ys))) \/
 (J.go i H/\ys.length<sizeLine/\∀ x H',J.yld i H x H'->g x (σC o fr σ) H' fun σ2 H2=>tt σ2 H2 fun b H3=>if b=true then te σ2 H3 fun y H4=>∃ m',m'<m/\W (i+1) m' (ys++[y]) H4 else ∃ m',m'<m/\W (i+1) m' ys H3)
def tLc(wi:TI)(g:TG)(tt:TT)(te:TE)(o:Nat)(fr:List Nat):TE:=fun σ H Q=>wi σ H fun J H1=>LcR J g tt te o fr σ H1 Q
def OwnG(o:Nat)(g:TG):Prop:=∀(x:V) (ow fr:St) (H:Hp) (Q:St->Hp->Prop),ow.length=o->g x (ow++fr) H Q->g x (ow++fr) H fun σ2 H2=>(∃ ow',ow'.length=o/\σ2=ow'++fr)/\Q σ2 H2
theorem ζu{o i:Nat}(h:i<o):OwnG o (ζ58 i):=fun x ow fr H Q hl q=>⟨⟨ow.set i (some x),by rw[List.length_set];exact hl,by rw[List.set_append_left _ _ (by omega)]⟩,q⟩
def ζJ11(o:Nat)(g:TGs):Prop:=∀(xs:List V) (ow fr:St) (H:Hp) (Q:St->Hp->Prop),ow.length=o->g xs (ow++fr) H Q->g xs (ow++fr) H fun σ2 H2=>(∃ ow',ow'.length=o/\σ2=ow'++fr)/\Q σ2 H2
theorem ζ64{o:Nat}:ζJ11 o gNil:=fun _ ow _ _ _ hl ⟨e,q⟩=>⟨e,⟨ow,hl,rfl⟩,q⟩
theorem ζb1{o i:Nat}{u:TGs}(h:i<o)(h2:ζJ11 o u):ζJ11 o (ζU12 (ζ58 i) u):=by
 rintro xs ow fr H Q hl ⟨v,r,rfl,q⟩
 refine⟨v,r,rfl,?_⟩
 have q':u r ((ow++fr).set i (some v)) H Q:=q
 show u r ((ow++fr).set i (some v)) H _
 rw[List.set_append_left _ _ (by omega)]at q' ⊢
 exact h2 r (ow.set i (some v)) fr H Q (by rw[List.length_set];exact hl) q'
theorem ζ54{K:PySem.W.Frag}{o n:Nat}{u:TGs}(h:ζJ11 o u):OwnG o (gTup K n u):=by
 rintro x ow fr H Q hl ⟨a,xs,rfl,hs,hn,q⟩
 exact⟨a,xs,rfl,hs,hn,h xs ow fr H Q hl q⟩
section
variable{X:Cx}{pins:List (Addr × Obj)}{σ:St}{H:Hp}{s:Shared}{N':List Str}{o:Nat}{fr:List Nat}{scope:Scope}{fp:List Addr}
abbrev ζ11 (us:List Value):Obj:={ cls:=.type "list",data:=.seq us.toArray us.length }
theorem CompScope.nocell'{sc0:Scope}{N:List Str}(S:CompScope sc0 N N' o fr scope):∀ y∈scope.names,y.2≠.cell:=fun y hy e=>by
 have q:=List.all_eq_true.mp S.nocell y hy
 rw[e]at q
 exact absurd q (by decide)
theorem CompScope.loc'{sc0:Scope}{N:List Str}(S:CompScope sc0 N N' o fr scope):∀ y∈scope.names,y.2=.local->scope.names.lookup y.1=some .local:=fun y hy e=>by
 have q:=List.all_eq_true.mp S.loc y hy
 rw[e]at q
 simpa using q
theorem CompScope.free'{sc0:Scope}{N:List Str}(S:CompScope sc0 N N' o fr scope)(hs:X.env.scope=sc0):∀ y∈scope.names,y.2=.free->X.env.kindOf y.1=some .cell\/X.env.kindOf y.1=some .free:=fun y hy e=>by
 have q:=List.all_eq_true.mp S.free y hy
 rw[e]at q
 show X.env.scope.names.lookup y.1=_\/X.env.scope.names.lookup y.1=_
 rw[hs]
 simpa using q
theorem CompScope.sees'{sc0:Scope}{N:List Str}(S:CompScope sc0 N N' o fr scope):∀ j y,fr[j]?=some y->∃ x,N[y]?=some x/\N'[o+j]?=some x/\scope.names.lookup x=some .free:=fun j y e=>by
 have hj:j<fr.length:=(List.getElem?_eq_some_iff.mp e).1
 have q:=List.all_eq_true.mp S.sees j (List.mem_range.mpr hj)
 rw[e]at q
 dsimp only at q
 cases ex:N[y]? with
 | none=>rw[ex]at q;cases q
 | some x =>
  rw[ex]at q
  dsimp only at q
  rw[Bool.and_eq_true,beq_iff_eq,beq_iff_eq]at q
  exact⟨x,rfl,q.1,q.2⟩
theorem CompScope.cells{sc0:Scope}{N0:List Str}(S:CompScope sc0 N0 N' o fr scope)(hs:X.env.scope=sc0)(I:Inv X pins σ H s):∀ y∈scope.names,y.2=.free->∃ c,X.env.cells.lookup y.1=some c:=fun y hy e=>I.ok.has y.1 (S.free' hs y hy e)
theorem CompScope.sub{sc0:Scope}{N0:List Str}(S:CompScope sc0 N0 N' o fr scope)(hs:X.env.scope=sc0)(I:Inv X pins σ H s):∀ x c,(ζw4 X.env.cells scope.names []).lookup x=some c->X.env.cells.lookup x=some c :=
 ζM2 (env:=X.env) scope.names [] (S.cells hs I) (fun _ _ z=>nomatch z)
theorem Inv.block{sc0:Scope}{N0:List Str}(S:CompScope sc0 N0 N' o fr scope)(hs:X.env.scope=sc0)(hN:X.N=N0)(I:Inv X pins σ H s)(hf:∀ b∈fp,FpOk X pins H b)(hfl:∀ b∈fp,b<s.heap.objs.size){h1:Heap}{C D:Addr}{m:Str->Option Value}{us:List Value}{t:Nat}
  (hC:s.heap.objs.size<=C) (hD:s.heap.objs.size<=D) (hDC:D≠C)
  (old:∀ b ob,s.heap.get? b=some ob->h1.get? b=some ob) (hn:h1.Ns C m) (ha:h1.get? D=some (ζ11 us)):Inv (cxC X N' scope C s H fp) [(D,ζ11 us)] (σC o fr σ) H { s with heap:=h1,toks:=t }:=by
 have sub:=S.sub hs I
 have frC:∀ b∈frs X.stack,b<s.heap.objs.size:=fun b hb=>by
  obtain⟨_,ob,ho,_⟩:=I.stack.mem hb
  exact Heap.lt_size ho
 refine⟨⟨I.ok.mod,S.kind,I.ok.glob,I.ok.blt,hC,fun x y c h1 h2=>I.ok.inj x y c (sub x c h1) (sub y c h2),fun x hx=>?_,fun x c hfx _=>(nomatch hfx),I.ok.hd,I.ok.frames,.inl rfl,fun b hb=>?_,I.bs,Nat.le_trans I.ok.bsz I.sz,fun b ob e hb=>?_,fun b hb hb'=>?_,I.stack,I.stkFree⟩,
  rfl,I.bare,Un.kept old,⟨m,hn,fun i x v e1 e2 e3=>?_⟩,fun x c e=>?_,I.hok.fresh hC,fun x c e=>I.freeC x c (sub x c e),fun p hp=>?_,I.hok.kept old,?_⟩
 ·have hx':(relabel scope X.env).names.lookup x=some .cell\/(relabel scope X.env).names.lookup x=some .free:=hx
  have key:(x,NameKind.free)∈scope.names:=by
   rcases hx' with z | z
   ·rcases ζL (env:=X.env) z (.inl rfl) with q | q
    ·exact q
    ·exact absurd rfl (S.nocell' _ q)
   ·rcases ζL (env:=X.env) z (.inr rfl) with q | q
    ·exact q
    ·exact absurd rfl (S.nocell' _ q)
  exact Option.isSome_iff_exists.mp (ζV1 (cells:=X.env.cells) scope.names [] x key)
 ·obtain⟨f0,f1,f2,f3,f4,f5⟩:=hf b hb
  exact⟨Nat.ne_of_lt (Nat.lt_of_lt_of_le (hfl b hb) hC),fun x c e=>f4 x c (sub x c e)⟩
 ·obtain⟨f0,f1,f2,f3,f4,f5⟩:=hf b hb
  rcases f3 with z | z
  ·exact I.ok.noex b ob e z
  ·exact absurd (Nat.lt_of_lt_of_le (Heap.lt_size e) (Nat.le_trans I.ok.bsz z)) (Nat.lt_irrefl _)
 ·obtain⟨f0,f1,f2,f3,f4,f5⟩:=hf b hb
  rcases List.mem_cons.mp (I.stkSub b hb') with z | z
  ·exact f1 z
  ·exact f2 z
 ·unfold σC at e2
  by_cases hi:i<o
  ·rw[List.getElem?_append_left (by rw[List.length_replicate];exact hi),List.getElem?_replicate,if_pos hi]at e2
   cases e2
  ·rw[List.getElem?_append_right (by rw[List.length_replicate];exact Nat.not_lt.mp hi),List.length_replicate,List.getElem?_map]at e2
   cases hy:fr[i - o]? with
   | none=>rw[hy]at e2;cases e2
   | some y =>
    rw[hy]at e2
    have e2':(σ[y]?).join=some v:=Option.some.inj e2
    have e3':σ[y]?=some (some v):=by
     cases q:σ[y]? with
     | none=>rw[q]at e2';cases e2'
     | some z=>rw[q]at e2';exact congrArg some e2'
    obtain⟨x',s2,s1,s3⟩:=S.sees' (i - o) y hy
    rw[<- hN]at s2
    rw[show o+(i - o)=i by omega]at s1
    have ex:x=x':=by
     have e1':N'[i]?=some x:=e1
     rw[e1']at s1
     exact Option.some.inj s1
    subst ex
    have hmem:=PySem.mem_of_lookup s3
    obtain⟨m0,_,hl⟩:=I.loc
    have hk:=S.free' hs (x,.free) hmem rfl
    obtain⟨u,ru,lk⟩:=hl y x v s2 e3' (by rcases hk with z | z;exact .inr (.inl z);exact .inr (.inr z))
    refine⟨u,ru,.inr ⟨ζp1 (env:=X.env) s3,?_⟩⟩
    obtain⟨c',hc'⟩:=Option.isSome_iff_exists.mp (ζV1 (cells:=X.env.cells) scope.names [] x hmem)
    refine⟨c',hc',?_⟩
    rcases lk with ⟨z,_⟩ | ⟨_,c,e,ob,ho,hd⟩
    ·rcases hk with z' | z'
     ·rw[z]at z';cases z'
     ·rw[z]at z';cases z'
    ·have ec:c=c':=by
      have:=sub x c' hc'
      rw[e]at this
      exact Option.some.inj this
     subst ec
     exact⟨ob,old _ _ ho,hd⟩
 ·obtain⟨v,ob,ho,hd⟩:=I.cell x c (sub x c e)
  exact⟨v,ob,old _ _ ho,hd⟩
 ·have e:p=(D,ζ11 us):=by simpa using (show p∈([]:List (Addr × Obj))++[(D,ζ11 us)] from hp)
  subst e
  refine⟨ha,I.hok.fresh hD,hDC,fun z=>absurd (Nat.lt_of_lt_of_le (frC D z) hD) (Nat.lt_irrefl _),fun v z=>nomatch z⟩
 ·show(σC o fr σ).length=N'.length
  unfold σC
  rw[List.length_append,List.length_replicate,List.length_map,S.len]
theorem Inv.unblock(I:Inv X pins σ H s)(hf:∀ b∈fp,FpOk X pins H b){C D:Addr}{us:List Value}{ys:List V}{σ':St}{H':Hp}{s':Shared}(hC:s.heap.objs.size<=C)(hD:s.heap.objs.size<=D)(hDC:D≠C)
  (I':Inv (cxC X N' scope C s H fp) [(D,ζ11 us)] σ' H' s') (r:Vals ys us) (hz:ys.length<=sizeLine):∃ oC m,s'.heap.get? C=some oC/\s'.heap.Ns C m/\Inv X (pins++[(C,oC)]) σ (upd H' D (.lst ys)) s':=by
 obtain⟨aD,nD,_,_,_⟩:=I'.pin (D,ζ11 us) (by simp)
 have aD:s'.heap.get? D=some (ζ11 us):=aD
 have nD:H' D=none:=nD
 have un:Un (frs X.stack) fp H H' s.heap s'.heap:=I'.base
 have lt:∀ b u,H b=some u->b≠D:=fun b u e=>Nat.ne_of_lt (Nat.lt_of_lt_of_le (I.hok.lt e) hD)
 have un2:Un (frs X.stack) fp H (upd H' D (.lst ys)) s.heap s'.heap:=by
  refine⟨un.keep,un.slot,fun b ob e n hx=>?_,un.there,fun b xs e=>?_,fun b ob u e=>?_,fun b ps e=>?_⟩
  ·rw[ζ9 (Nat.ne_of_lt (Nat.lt_of_lt_of_le (Heap.lt_size e) hD))]
   exact un.free b ob e n hx
  ·rw[ζ9 (lt b _ e)];exact un.tups b xs e
  ·rw[ζ9 (lt b _ e)];exact un.frzs b ob u e
  ·obtain⟨more,q⟩:=un.tbls b ps e
   exact⟨more,by rw[ζ9 (lt b _ e)];exact q⟩
 have hok:HOk X.prog X.w (upd H' D (.lst ys)) s'.heap:=fun b u e=>by
  by_cases hb:b=D
  ·subst hb
   rw[ζ1]at e
   cases e
   exact⟨hz,us,us.length,r,aD⟩
  ·rw[ζ9 hb]at e
   exact(I'.hok b u e).stay (fun c v _ q=>q) (fun c q=>by rw[ζ9 (ζf q nD)];exact q) fun c xs q=>by rw[ζ9 (ζf q nD)];exact q
 have os:s'.os=s.os:=I'.os
 have J:Inv X pins σ (upd H' D (.lst ys)) s':=I.call' (ch:=fp) os un2 hok I'.bare fun b hb=>by
  obtain⟨f0,f1,f2,f3,f4,f5⟩:=hf b hb
  exact⟨f3,f1,f4,f5⟩
 obtain⟨m,hn,_⟩:=I'.loc
 have hn:s'.heap.Ns C m:=hn
 obtain⟨oC,es,ep,hoC,hdC,_⟩:=id hn
 refine⟨oC,m,hoC,hn,J.pins_of fun p hp=>?_⟩
 rcases List.mem_append.mp hp with z | z
 ·exact J.pin p (List.mem_append_right _ z)
 ·have e:p=(C,oC):=by simpa using z
  subst e
  have nC:H' C=none:=I'.free
  refine⟨hoC,by rw[ζ9 (Ne.symm hDC)];exact nC,Nat.ne_of_gt (Nat.lt_of_lt_of_le I.lt hC),I.nofs hC,fun v z=>?_⟩
  have z':oC.data=.cell v:=z
  rw[hdC]at z'
  cases z'
end
section
variable{X:Cx}{N':List Str}{o:Nat}{fr:List Nat}{scope:Scope}{elt tg iter:Expr}{ifs:List Expr}{pos:Pos}{wi:TI}{g:TG}{tt:TT}{te:TE}
theorem ζL10(hc:X.calm=true){sc0:Scope}{N0:List Str}(S:CompScope sc0 N0 N' o fr scope)(hi:PI X tg iter wi)(ho:OwnG o g)
  (hg:∀(C:Addr) (s:Shared) (H:Hp) (fp:List Addr),PG (cxC X N' scope C s H fp) tg g)
  (ht:∀(C:Addr) (s:Shared) (H:Hp) (fp:List Addr),PTs (cxC X N' scope C s H fp) ifs tt)
  (he:∀(C:Addr) (s:Shared) (H:Hp) (fp:List Addr),PE (cxC X N' scope C s H fp) elt te)
  (hs:∀ x,foldedSetIterable iter X.env x=pure x) (hsc:X.env.scope=sc0) (hN0:X.N=N0) {pins:List (Addr × Obj)} {s:Shared} {σ:St} {H:Hp} {Qv:VK} (I:Inv X pins σ H s) (h:tLc wi g tt te o fr σ H Qv)
  {use:Option (Value->Sem Unit)} {Q:Value->Shared->Prop} {E:Value->Shared->Prop}
  (hE:∀ e s',X.xe e s'->E e s')
  (fin:∀(C oC D:_) (m:Str->Option Value) (H':Hp) (ys:List V) (s':Shared),Inv X (pins++[(C,oC)]) σ (upd H' D (.lst ys)) s'->Qv (.ref D) (upd H' D (.lst ys))->s'.heap.Ns C m->H' C=none->C≠D ->
   C≠X.env.locals->X.s₀.heap.objs.size<=C->(∀ x c,X.env.cells.lookup x=some c->c≠C)->(∀ p∈X.pn++pins,p.1≠C)->compPost (model X.prog X.w) X.A E use Q (.ref D) C (.ok .next) s') :
  wpAny (model X.prog X.w) X.A (comprehension (.ListComp elt [⟨tg,iter,ifs,0⟩] scope pos) scope X.env (firstIterPos [⟨tg,iter,ifs,0⟩] pos) (newList []) false (eval iter X.env) use) Q E s:=by
 refine wpAny_comprehension_free (use:=use) rfl hs (ζo6 (S.cells hsc I)) S.kind S.loc' (wpAny_mono (hi pins s σ H _ I h) (fun xv s1 h1=>wpAny_mono h1 (fun itv s2 h2=>?_) hE) hE)
 obtain⟨it,fp,tn,J,H2,rfl,I2,T,st2,f2,W,⟨m0,w0⟩,turn⟩:=h2
 have hfl:∀ b∈fp,b<s2.heap.objs.size:=fun b hb=>by
  obtain⟨ob,e,_⟩:=T.obj 0 _ st2 b hb
  exact Heap.lt_size e
 refine wpAny_newObj_type (wpAny_newFunctionEnv S.nocell' (by intro y hy;simp at hy) (fun h1 hns1 hsb1=>?_) S.kind)
 dsimp only at hns1 hsb1 ⊢
 generalize hH2:s2.heap.push { cls:=.type "list",dict:=none,data:=.seq ([]:List Value).toArray }=G at hns1 hsb1 ⊢
 have hCe:G.objs.size=s2.heap.objs.size+1:=by rw[<- hH2,Heap.size_push]
 have hC:s2.heap.objs.size<=G.objs.size:=by rw[hCe];exact Nat.le_succ _
 have hDC:s2.heap.objs.size≠G.objs.size:=by rw[hCe];exact Nat.ne_of_lt (Nat.lt_succ_self _)
 have old:∀ b ob,s2.heap.get? b=some ob->h1.get? b=some ob:=fun b ob e =>
  hsb1.extBut b ob (Nat.ne_of_lt (Nat.lt_of_lt_of_le (Heap.lt_size e) hC)) (Heap.get?_push_of_some _ (hH2 ▸ Heap.get?_push_of_some _ e))
 have hacc:h1.get? s2.heap.objs.size=some (ζ11 []):=hsb1.extBut _ _ hDC (Heap.get?_push_of_some _ (hH2 ▸ Heap.get?_push_size _ rfl))
 have st1:tn 0 h1:=T.keep _ _ _ st2 fun b _ ob e=>old b ob e
 have fpC:∀ {us:List Value} {H':Hp},(∀ b∈fp,H' b=none)->∀ b∈fp,FpOk (cxC X N' scope G.objs.size s2 H2 fp) [(s2.heap.objs.size,ζ11 us)] H' b:=fun {us H'} hn b hb=>by
  obtain⟨f0,f1,f3,f4,f5,f6⟩:=f2 b hb
  refine⟨hn b hb,Nat.ne_of_lt (Nat.lt_of_lt_of_le (hfl b hb) hC),fun z=>?_,.inl hb,fun x c e=>f5 x c (S.sub hsc I2 x c e),fun p hp=>?_⟩
  ·rcases List.mem_cons.mp (I2.stkSub b z) with q | q
   ·exact f1 q
   ·exact f3 q
  ·have e:p=(s2.heap.objs.size,ζ11 us):=by simpa using (show p∈([]:List (Addr × Obj))++[(s2.heap.objs.size,ζ11 us)] from hp)
   subst e
   exact Nat.ne_of_gt (hfl b hb)
 have loop:∀ s3:Shared,s3={ s2 with heap:=h1,toks:=s2.toks+([]:List (Str × Value)).length } ->
   codeAny (model X.prog X.w) X.A (.compLoop (.ListComp elt [⟨tg,iter,ifs,0⟩] scope pos) 0 (.ref it) (.ref s2.heap.objs.size) (compEnvC scope (ζw4 X.env.cells scope.names []) G.objs.size X.env))
    (compPost (model X.prog X.w) X.A E use Q (.ref s2.heap.objs.size) G.objs.size) s3:=by
  rintro s3 rfl
  refine ζM3 (fun n s'=>∃ i σ' H' ys us,Inv (cxC X N' scope G.objs.size s2 H2 fp) [(s2.heap.objs.size,ζ11 us)] σ' H' s'/\σ'=σC o fr σ/\Vals ys us/\tn i s'.heap/\(∀ b∈fp,H' b=none)/\W i n ys H') ?_ m0
   ⟨0,_,H2,[],[],I2.block S hsc hN0 f2 hfl hC (Nat.le_refl _) hDC old hns1 hacc,rfl,.nil,st1,fun b hb=>(f2 b hb).1,w0⟩
  rintro n s' ⟨i,σ',H',ys,us,I',rfl,rv,st',fr',w'⟩
  rcases turn i n ys H' w' with ⟨stop,hz,q⟩ | ⟨go,hz,step⟩
  ·refine thn (T.done (cxC X N' scope G.objs.size s2 H2 fp) rfl rfl rfl hc i _ s' _ H' _ I' (fpC fr') st' stop) fun r s4 ⟨hr,I4⟩=>?_
   subst hr
   obtain⟨oC,m,hoC,hn,J4⟩:=I2.unblock f2 hC (Nat.le_refl _) hDC I4 rv hz
   exact fin _ oC _ m H' ys s4 J4 (q _ (I4.pin (s2.heap.objs.size,ζ11 us) (by simp)).2.1) hn I4.free (Ne.symm hDC) (Nat.ne_of_gt (Nat.lt_of_lt_of_le I2.lt hC)) (Nat.le_trans I2.sz hC)
    (fun x c e=>by obtain⟨v,z⟩:=I2.cell x c e;exact Nat.ne_of_lt (Nat.lt_of_lt_of_le z.lt hC)) fun p hp=>Nat.ne_of_lt (Nat.lt_of_lt_of_le (Heap.lt_size (I2.pin p hp).1) hC)
  ·refine thn (T.item (cxC X N' scope G.objs.size s2 H2 fp) rfl rfl rfl hc i _ s' _ H' _ I' (fpC fr') st' go) fun r s4 ⟨u,hr,h4⟩=>?_
   subst hr
   refine thn h4 fun _ s5 ⟨x,H5,I5,r5,y5,st5,fr5⟩=>?_
   have hst:=step x H5 y5
   have hst':=ho x (List.replicate o none) (fr.map fun j=>(σ[j]?).join) H5 _ (List.length_replicate ..) hst
   have I5':=I5.pinned (fpC (us:=us) fr5) (T.obj _ _ st5)
   refine thn (hg _ _ _ _ _ s5 _ H5 x u _ I5' r5 hst') fun _ s6 ⟨σ6,H6,I6,⟨ow,hol,e6⟩,q6⟩=>?_
   subst e6
   refine thn (ht _ _ _ _ _ s6 _ H6 _ I6 q6) fun b s7 ⟨H7,I7,q7⟩=>?_
   have back:∀ {us':List Value} {σ8:St} {H8:Hp} {s8:Shared},Inv (cxC X N' scope G.objs.size s2 H2 fp) ([(s2.heap.objs.size,ζ11 us')]++ζz2 fp s5.heap) (ow++fr.map fun j=>(σ[j]?).join) H8 s8 ->
     Inv (cxC X N' scope G.objs.size s2 H2 fp) [(s2.heap.objs.size,ζ11 us')] (σC o fr σ) H8 s8/\tn (i+1) s8.heap/\∀ b∈fp,H8 b=none:=fun {us' σ8 H8 s8} I8=>by
    refine⟨I8.unpinned.weak ?_ fun j v e=>?_,T.keep _ _ _ st5 fun b hb ob e=>(I8.pin (b,ob) (List.mem_append_right _ (List.mem_append_right _ (ζC1 hb e)))).1,fun b hb=>?_⟩
    ·unfold σC
     rw[List.length_append,List.length_append,List.length_replicate,hol]
    ·unfold σC at e
     by_cases hj:j<o
     ·rw[List.getElem?_append_left (by rw[List.length_replicate];exact hj),List.getElem?_replicate,if_pos hj]at e
      cases e
     ·rw[List.getElem?_append_right (by rw[List.length_replicate];exact Nat.not_lt.mp hj),List.length_replicate]at e
      rw[List.getElem?_append_right (by rw[hol];exact Nat.not_lt.mp hj),hol]
      exact e
    ·obtain⟨ob,e,_⟩:=T.obj _ _ st5 b hb
     exact(I8.pin (b,ob) (List.mem_append_right _ (List.mem_append_right _ (ζC1 hb e)))).2.1
   cases b with
   | false =>
    rw[if_neg Bool.false_ne_true]at q7 ⊢
    obtain⟨m',hm,w7⟩:=q7
    obtain⟨I8,st8,fr8⟩:=back (us':=us) (σ8:=[]) I7
    exact⟨m',hm,i+1,_,H7,ys,us,I8,rfl,rv,st8,fr8,w7⟩
   | true =>
    rw[if_pos rfl]at q7 ⊢
    refine thn (he _ _ _ _ _ s7 _ H7 _ I7 q7) fun y s8 ⟨yv,H8,I8,r8,m',hm,w8⟩=>?_
    obtain⟨aD,nD,_,_,_⟩:=I8.pin (s2.heap.objs.size,ζ11 us) (by simp)
    have aD:s8.heap.get? s2.heap.objs.size=some (ζ11 us):=aD
    have nD:H8 s2.heap.objs.size=none:=nD
    have hul:us.length<=sizeLine:=by rw[<- rv.length];exact Nat.le_of_lt hz
    refine append_at (hsz:=by show us.toArray.size<=sizeLine;rw[List.size_toArray];exact hul) aD fun h9 hs9 hD9=>?_
    have hD9':h9.get? s2.heap.objs.size=some (ζ11 (us++[y])):=by
     rw[hD9]
     show some ({ cls:=.type "list",data:=.seq (us.toArray.push y) (us.length+1) }:Obj)=some { cls:=.type "list",data:=.seq (us++[y]).toArray (us++[y]).length }
     rw[List.length_append,List.length_singleton,List.push_toArray]
    have I9:Inv (cxC X N' scope G.objs.size s2 H2 fp) (ζz2 fp s5.heap) (ow++fr.map fun j=>(σ[j]?).join) H8 { s8 with heap:=h9 } :=
     (I8.pins_of (pins':=ζz2 fp s5.heap) fun p hp=>I8.pin p (List.mem_append_right _ (List.mem_append_right _ hp))).turned (t':=s8.toks) (it:=s2.heap.objs.size) (fun b ob hb e=>hs9.extBut b ob hb e) nD hDC (.inr (Nat.le_refl _))
      (fun x c e=>by
       obtain⟨v,z⟩:=I2.cell x c (S.sub hsc I2 x c e)
       exact Nat.ne_of_lt z.lt)
      fun p hp=>by
       obtain⟨hb,_⟩:=ζ84 (show p∈ζz2 fp s5.heap from by simpa [cxC] using hp)
       exact Nat.ne_of_lt (hfl p.1 hb)
    have I9':Inv (cxC X N' scope G.objs.size s2 H2 fp) ([(s2.heap.objs.size,ζ11 (us++[y]))]++ζz2 fp s5.heap) (ow++fr.map fun j=>(σ[j]?).join) H8 { s8 with heap:=h9 } :=
     I9.pins_of fun p hp=>by
      rcases List.mem_append.mp hp with z | z
      ·have e:p=(s2.heap.objs.size,ζ11 (us++[y])):=by simpa using z
       subst e
       refine⟨hD9',nD,hDC,fun z=>?_,fun v z=>nomatch z⟩
       obtain⟨_,ob,hob,_⟩:=I2.stack.mem z
       exact Nat.lt_irrefl _ (Heap.lt_size hob)
      ·exact I9.pin p (List.mem_append_right _ z)
    obtain⟨I10,st10,fr10⟩:=back (us':=us++[y]) (σ8:=[]) I9'
    exact⟨m',hm,i+1,_,H8,ys++[yv],us++[y],I10,rfl,Vals.append rv (.cons r8 .nil),st10,fr10,w8⟩
 exact codeAny_compStart_list (loop _ rfl) (T.self _ 0 _ _ _ st1 (loop _ rfl))
theorem ζN4(hc:X.calm=true){sc0:Scope}{N0:List Str}(S:CompScope sc0 N0 N' o fr scope)(hi:PI X tg iter wi)(ho:OwnG o g)
  (hg:∀(C:Addr) (s:Shared) (H:Hp) (fp:List Addr),PG (cxC X N' scope C s H fp) tg g)
  (ht:∀(C:Addr) (s:Shared) (H:Hp) (fp:List Addr),PTs (cxC X N' scope C s H fp) ifs tt)
  (he:∀(C:Addr) (s:Shared) (H:Hp) (fp:List Addr),PE (cxC X N' scope C s H fp) elt te)
  (hs:∀ x,foldedSetIterable iter X.env x=pure x:=by intro _;rfl) (hsc:X.env.scope=sc0:=by rfl) (hN0:X.N=N0:=by rfl):PE X (.ListComp elt [⟨tg,iter,ifs,0⟩] scope pos) (tLc wi g tt te o fr):=by
 intro pins s σ H Q I h
 rw[eval_ListComp]
 refine ζL10 hc S hi ho hg ht he hs hsc hN0 I h (use:=none) (fun _ _ z=>z) fun C oC D m H' ys s' J q hn nC hCD hCL hCs hCc hCp=>?_
 refine⟨m,hn,fun h' hs'=>⟨.ref D,upd H' D (.lst ys),?_,rfl,q⟩⟩
 refine J.unpinned.turned (t':=s'.toks) (it:=C) (fun b ob hb e=>hs'.extBut b ob hb e) (by rw[ζ9 hCD];exact nC) hCL (.inr hCs) hCc hCp
theorem ζL6{i:Nat}{x:Str}{px:Pos}{spos:Pos}(hc:X.calm=true)(hN:X.N.Nodup)(hx:X.N[i]?=some x)(hl:X.env.kindOf x=some .local){sc0:Scope}{N0:List Str}(S:CompScope sc0 N0 N' o fr scope)(hi:PI X tg iter wi)(ho:OwnG o g)
  (hg:∀(C:Addr) (s:Shared) (H:Hp) (fp:List Addr),PG (cxC X N' scope C s H fp) tg g)
  (ht:∀(C:Addr) (s:Shared) (H:Hp) (fp:List Addr),PTs (cxC X N' scope C s H fp) ifs tt)
  (he:∀(C:Addr) (s:Shared) (H:Hp) (fp:List Addr),PE (cxC X N' scope C s H fp) elt te)
  (hs:∀ x,foldedSetIterable iter X.env x=pure x:=by intro _;rfl) (hsc:X.env.scope=sc0:=by rfl) (hN0:X.N=N0:=by rfl)
  (hsw:swapsWith (.ListComp elt [⟨tg,iter,ifs,0⟩] scope pos) (some (.Name x px)) spos.line X.env=pure true:=by rfl) :
  PS X (.Assign [.Name x px] (.ListComp elt [⟨tg,iter,ifs,0⟩] scope pos) spos) (tAsg (tLc wi g tt te o fr) (ζ58 i)):=by
 intro pins s σ H D I h
 rw[exec_Assign_Name_used _ _ _ _ hsw]
 refine wpAny_bind (wpAny_standAt (wpAny_bind ?_))
 show wpAny _ X.A (do let _ <- comprehension (.ListComp elt [⟨tg,iter,ifs,0⟩] scope pos) scope X.env (firstIterPos [⟨tg,iter,ifs,0⟩] pos) (newList []) false (eval iter X.env) (some (assign (.Name x px) X.env))) _ _ s
 refine wpAny_bind (wpAny_mono (ζL10 (Q:=fun _ s'=>SP X pins D .next s') hc S hi ho hg ht he hs hsc hN0 I h (use:=some (assign (.Name x px) X.env)) (fun _ _ z=>z) fun C oC Dd m H' ys s' J q hn nC hCD hCL hCs hCc hCp=>?_) (fun _ s' hq=>wpAny_pure (wpAny_pure hq)) fun _ _ e=>e)
 show wpAny _ X.A (assign (.Name x px) X.env (.ref Dd)) _ _ _
 refine wpAny_assign_Name (ζp3 J hN hx (.inl hl) (v:=.ref Dd) rfl (fun s2 I2=>?_) (.inr hl))
 have g1:=(I2.pin (C,oC) (by simp)).1
 have g1:s2.heap.get? C=some oC:=g1
 have n2:s2.heap.Ns C m:=by
  obtain⟨oc,es,ep,e,r⟩:=hn
  have e0:=(J.pin (C,oC) (by simp)).1
  have e0:s'.heap.get? C=some oC:=e0
  rw[e]at e0
  cases e0
  exact⟨_,es,ep,g1,r⟩
 refine⟨m,n2,fun h' hs'=>⟨_,upd H' Dd (.lst ys),?_,q⟩⟩
 exact I2.unpinned.turned (t':=s2.toks) (it:=C) (fun b ob hb e=>hs'.extBut b ob hb e) (by rw[ζ9 hCD];exact nC) hCL (.inr hCs) hCc hCp
end
section
variable{X:Cx}
theorem ζm8:∀ {x y:V} {us:List Value},Vals [x,y] us->∃ u v,us=[u,v]/\RelV x u/\RelV y v
 | _,_,_,.cons r (.cons r' .nil)=>⟨_,_,rfl,r,r'⟩
theorem ζ41:∀ {ns:List Int} {us:List Value},Vals (ns.map V.int) us->IntsAre us ns
 | [],_,.nil=>.nil
 | n :: ns,_,.cons r t=>by
  obtain⟨tk,rfl⟩:=r
  exact .cons n tk (ζ41 t)
theorem ζy4:ζi2 X (.type "range") (fun xs H Q=>∃ j:Int,xs=[.int j]/\∀ p,H p=none->Q (.ref p) (upd H p (.rng 0 j))):=by
 intro pins s σ H xs us Q I r h
 obtain⟨j,rfl,q⟩:=h
 obtain⟨u,rfl,t,rfl⟩:=ζh3 r
 refine call_range_1 ?_
 exact⟨.ref s.heap.objs.size,_,I.laid (o:=.rng 0 j) (fun b u e=>Heap.get?_push_of_some _ e) (Nat.le_refl _) ⟨_,_,_,Heap.get?_push_size _ rfl⟩,rfl,q _ (I.hok.fresh (Nat.le_refl _))⟩
def rngI(lo hi:Int):List Int:=(List.range (hi - lo).toNat).map fun(i:Nat)=>lo+(i:Int)
theorem ζm2(lo hi:Int):(rngI lo hi).length=(hi - lo).toNat:=by unfold rngI;rw[List.length_map,List.length_range]
theorem ζ55{lo:Int}{n:Nat}:∀ {us:List Value},us.length=n->(∀(j:Nat) (v:Value),us[j]?=some v->∃ t,v=Value.int (lo+(j:Int)) t)->Vals (((List.range n).map fun(i:Nat)=>lo+(i:Int)).map V.int) us:=by
 induction n generalizing lo with
 | zero =>
  intro us h _
  rw[List.length_eq_zero_iff.mp h]
  exact .nil
 | succ n ih =>
  intro us h hv
  cases us with
  | nil=>cases h
  | cons u us =>
   rw[List.range_succ_eq_map,List.map_cons,List.map_cons]
   refine .cons ?_ ?_
   ·obtain⟨t,e⟩:=hv 0 u rfl
    exact⟨t,e⟩
   ·have q:=ih (lo:=lo+1) (us:=us) (Nat.succ.inj h) fun j v e=>by
     obtain⟨t,e'⟩:=hv (j+1) v (by simpa using e)
     refine⟨t,?_⟩
     rw[e']
     congr 1
     omega
    have e:(List.range n).map (fun(i:Nat)=>lo+1+(i:Int))=((List.range n).map Nat.succ).map (fun(i:Nat)=>lo+(i:Int)):=by
     rw[List.map_map]
     refine List.map_congr_left fun i _=>?_
     show lo+1+(i:Int)=lo+((i+1:Nat):Int)
     omega
    rw[e]at q
    exact q
theorem ζf3 (hc:X.calm=true):ζi2 X (.type "list") (fun xs H Q=>∃ p lo hi,xs=[.ref p]/\H p=some (.rng lo hi)/\(-(2 ^ 62)<=lo/\lo<2 ^ 62/\-(2 ^ 62)<=hi/\hi<2 ^ 62)/\(hi - lo).toNat<=16777216 /\
  ∀ l,H l=none->Q (.ref l) (upd H l (.lst ((rngI lo hi).map V.int)))):=by
 intro pins s σ H xs us Q I r h
 obtain⟨p,lo,hi,rfl,hp,⟨b1,b2,b3,b4⟩,hz,q⟩:=h
 obtain⟨u,rfl,ru⟩:=ζh3 r
 obtain rfl:u=Value.ref p:=ru
 obtain⟨t,u,v,e⟩:=(show ObjOk X.prog X.w H s.heap p (.rng lo hi) from I.hok p _ hp)
 have hn:Builtin.Range.rangeSize lo hi 1=(((hi - lo).toNat:Nat):Int):=by rw[rangeSize_one];split <;> omega
 refine call_list_range (I.ok.hd hc) (t:=t) (u:=u) (v:=v) e (small_one b1 b2 b3 b4) hn hz fun h' tk acc c' hk hS ha=>?_
 have hl:acc.toList.length=(hi - lo).toNat:=by rw[Array.length_toList];exact ha.1
 have rv:Vals ((rngI lo hi).map V.int) acc.toList:=ζ55 (lo:=lo) hl fun j w ew=>by
  obtain⟨t,e⟩:=ha.2 j w (by simpa using ew)
  exact⟨t,by rw[e,Int.mul_one]⟩
 refine⟨.ref s.heap.objs.size,_,I.laid (o:=.lst ((rngI lo hi).map V.int)) hk (Nat.le_refl _) ⟨?_,acc.toList,c',rv,?_⟩,rfl,q _ (I.hok.fresh (Nat.le_refl _))⟩
 ·rw[List.length_map,ζm2]
  have:sizeLine=16777216:=sizeLine_eq
  omega
 ·rw[hS]
theorem ζe3 (hc:X.calm=true):ζi2 X (.builtin "sum") (fun xs H Q=>∃(p:Addr) (ns:List Int),xs=[.ref p]/\SqL X.K H p (ns.map V.int)/\Q (.int ns.sum) H):=by
 intro pins s σ H xs us Q I r h
 obtain⟨p,ns,rfl,hq,q⟩:=h
 obtain⟨u,rfl,ru⟩:=ζh3 r
 obtain rfl:u=Value.ref p:=ru
 obtain⟨its,rv,pl,hz⟩:=I.list hq
 have hi:=ζ41 rv
 have hall:=hi.allInts
 obtain⟨xs,ex⟩:=hall.items
 have hl:=pl.isList
 rw[ex]at hl
 refine sum_intListG (I.ok.hd hc) hl fun h' tk t' hk=>?_
 have e1:preSum (numAt xs) xs.size=ns.sum:=by
  have e2:=hi.numsOf
  rw[show its=its.toArray.toList from rfl,ex,nums_intItems]at e2
  rw[preSum_eq,List.take_of_length_le (by simp),<- e2]
 exact⟨.int ns.sum,H,I.kept hk,⟨t',by rw[e1]⟩,q⟩
def seen(ns:List Int):List Int:=firstMet (fun i=>ns.getD i 0) ns.length
def Ite(K:PySem.W.Frag)(a:Addr):It :=
 ⟨fun i H=>∃ xs x,SqL K H a xs/\xs[i]?=some x,fun i H v H'=>∃ T x,H T=none/\v=.ref T/\H'=upd H T (.tup [.int i,x])/\∀ xs,SqL K H a xs->xs[i]?=some x,fun i H=>∃ xs,SqL K H a xs/\xs.length<=i⟩
def ζT12(K:PySem.W.Frag)(ta:TA):TI:=fun σ H R=>ta σ H fun vs H1=>∃ a,vs=[.ref a]/\(∃ xs,SqL K H1 a xs)/\R (Ite K a) H1
theorem ζA6{P:Program}{w:World}{K:PySem.W.Frag}{elts:List Expr}{x1:Nat}{pos:Pos}(a e it:Addr)(hne:e≠it):Turn P w K (.Tuple elts x1 pos) (Ite K a) [e,it] e (fun i h=>(∃ old,IsEnum h e it i old)/\h.IsListIter it a i) where
 mem:=by simp
 obj:=fun i h st b hb=>by
  obtain⟨⟨old,he⟩,o,eo,c,d⟩:=st
  rcases List.mem_cons.mp hb with z | hb
  ·subst z
   exact⟨_,he,fun v z=>by
    have z':Data.fields _=Data.cell v:=z
    cases z'⟩
  ·have z:b=it:=by simpa using hb
   subst z
   exact⟨o,eo,fun v z=>by rw[d]at z;cases z⟩
 keep:=fun i h h' st k=>by
  obtain⟨⟨old,he⟩,hit⟩:=st
  exact⟨⟨old,k e (by simp) _ he⟩,hit.at fun o x=>k it (by simp) o x⟩
 item:=by
  intro X hP hw hK hc i pins s σ H E I hf st hg
  subst hP hw hK
  obtain⟨xs,x,hq,hx⟩:=hg
  obtain⟨⟨old,he⟩,hit⟩:=st
  obtain⟨its,rv,p,hz⟩:=I.list hq
  obtain⟨u,hu,ru⟩:=rv.get hx
  obtain⟨f0,f1,f2,f3,f4,f5⟩:=hf e (by simp)
  obtain⟨g0,g1,g2,g3,g4,g5⟩:=hf it (by simp)
  have hT0:H s.heap.objs.size=none:=I.hok.fresh (Nat.le_refl _)
  refine wpAny_pyNext_enum_item he hit p.isList (x:=u) (by simpa using hu) hne fun h' ho hit' hT hsz hk=>?_
  have ltT:∀ b ob,s.heap.get? b=some ob->b≠s.heap.objs.size:=fun b ob z=>Nat.ne_of_lt (Heap.lt_size z)
  have ltH:∀ b ob,H b=some ob->b≠s.heap.objs.size:=fun b ob z=>Nat.ne_of_lt (I.hok.lt z)
  have nof:∀ b ob,H b=some ob->b≠e/\b≠it:=fun b ob z=>⟨fun q=>(by rw[q,f0]at z;cases z),fun q=>(by rw[q,g0]at z;cases z)⟩
  have I1:Inv X pins σ (upd H s.heap.objs.size (.tup [.int i,x])) { s with heap:=h',toks:=s.toks+1 }:=by
   refine I.step (g':=s.gens) (d':=s.drawn) (ch:=[e,it]) (fun b hb=>?_) (fun b o _ _ hcx z _=>hk b o (fun q=>hcx (by simp[q])) (fun q=>hcx (by simp[q])) z) (fun b o _ _ hcx z _=>⟨o.slots,hk b o (fun q=>hcx (by simp[q])) (fun q=>hcx (by simp[q])) z⟩)
    (fun b o _ z n=>by rw[ζ9 (ltT b o z)];exact n) (fun b o hcx z=>⟨o,hk b o (fun q=>hcx (by simp[q])) (fun q=>hcx (by simp[q])) z⟩) (fun b ys z=>by rw[ζ9 (ltH b _ z)];exact z) (fun b o v z=>by rw[ζ9 (ltH b _ z)];exact z)
    (fun b ps z=>⟨#[],by rw[ζ9 (ltH b _ z),z];simp⟩) (fun m hm=>?_) (fun b v z=>?_) I.bare
   ·rcases List.mem_cons.mp hb with q | hb
    ·rw[q];exact⟨f3,f1,f4,f5⟩
    ·have q:b=it:=by simpa using hb
     rw[q];exact⟨g3,g1,g4,g5⟩
   ·obtain⟨o,es,ep,ho',r⟩:=hm
    exact⟨o,es,ep,hk _ o (Ne.symm f1) (Ne.symm g1) ho',r⟩
   ·by_cases hb:b=s.heap.objs.size
    ·subst hb
     rw[ζ1]at z
     cases z
     exact⟨by show 2<=sizeLine;decide,[.int i s.toks,u],.cons ⟨_,rfl⟩ (.cons ru .nil),⟨_,hT,rfl,_,rfl⟩⟩
    ·rw[ζ9 hb]at z
     refine(I.hok b v z).stay (fun c w' hc' q=>?_) (fun c q=>by rw[ζ9 (ltH c _ q)];exact q) fun c ys q=>by rw[ζ9 (ltH c _ q)];exact q
     rcases hc' with rfl | hc'
     ·exact hk c w' (nof c _ z).1 (nof c _ z).2 q
     ·exact hk c w' (nof c _ hc').1 (nof c _ hc').2 q
  refine⟨_,rfl,wpAny_letOwnedTupleGo_enum ho fun h2 he2 hs2=>?_⟩
  have fT:e≠s.heap.objs.size:=ltT e _ he
  have I2:Inv X pins σ (upd H s.heap.objs.size (.tup [.int i,x])) { s with heap:=h2,toks:=s.toks+1 }:=Inv.turned (s:={ s with heap:=h',toks:=s.toks+1 }) (h':=h2) (t':=s.toks+1) (it:=e) I1 (fun b o hb z=>hs2.extBut b o hb z) (by rw[ζ9 fT];exact f0) f1 f3 f4 f5
  refine⟨.ref s.heap.objs.size,_,I2,rfl,⟨_,x,hT0,rfl,rfl,fun ys hy=>by rw[I.list_inj hy hq];exact hx⟩,⟨⟨u,by simpa using he2⟩,hit'.at fun o z=>hs2.extBut it o (Ne.symm hne) z⟩,fun b hb=>?_⟩
  rcases List.mem_cons.mp hb with q | hb
  ·rw[q,ζ9 fT];exact f0
  ·have q:b=it:=by simpa using hb
   obtain⟨o,eo,_⟩:=hit
   rw[q,ζ9 (ltT it o eo)];exact g0
 done:=by
  intro X hP hw hK hc i pins s σ H E I hf st hg
  subst hP hw hK
  obtain⟨xs,hq,hx⟩:=hg
  obtain⟨⟨old,he⟩,hit⟩:=st
  obtain⟨its,rv,p,hz⟩:=I.list hq
  obtain⟨g0,g1,g2,g3,g4,g5⟩:=hf it (by simp)
  have hl:=rv.length
  exact wpAny_pyNext_enum_end (I.ok.hd hc) he hit p.isList (by simp;omega) fun h' eb=>⟨rfl,I.turned (t':=s.toks) (it:=it) (fun b o hb z=>eb b o hb z) g0 g1 g3 g4 g5⟩
 self:=fun _ _ _ _ _ st h=>let ⟨⟨_,he⟩,_⟩:=st;wpAny_pyIter_enum he h
theorem ζs10 {elts:List Expr} {x1:Nat} {tpos:Pos} {a:Expr} {ta:TA} {p pos:Pos} (hg:Gl X "enumerate") (hm:X.mg "enumerate"=none) (ha:PA X [a] ta) (hs:starEach [a] X.env=[(false,eval a X.env)]:=by rfl) :
  PI X (.Tuple elts x1 tpos) (.Call (.Name "enumerate" p) [a] [] pos) (ζT12 X.K ta):=by
 intro pins s σ H R I h
 refine Call_ (ζ63 I hg hm Boot.«enumerate» (PyProof.Rows.callWith_type1 (thn (ha pos pins s σ H _ I h) fun us s1 ⟨vs,H1,I1,r1,q1⟩=>?_) hs rfl))
 obtain⟨b,e,⟨xs,hq⟩,q⟩:=q1
 subst e
 obtain⟨u,rfl,ru⟩:=ζh3 r1
 obtain rfl:u=Value.ref b:=ru
 obtain⟨its,rv,pl,hz⟩:=I1.list hq
 refine call_enumerate_list pl.isList fun h' he hit hsz hk=>?_
 have I2:Inv X pins σ H1 { s1 with heap:=h' }:=I1.kept (t':=s1.toks) hk
 refine wpAny_pyIter_enum he ?_
 have nn:∀ k,s1.heap.objs.size<=k->H1 k=none:=fun k hk=>I1.hok.fresh hk
 refine⟨s1.heap.objs.size+1,[s1.heap.objs.size+1,s1.heap.objs.size],_,_,H1,rfl,I2,ζA6 b _ _ (Nat.succ_ne_self _),⟨⟨_,he⟩,hit⟩,fun c hc=>?_,q⟩
 have hle:s1.heap.objs.size<=c:=by
  rcases List.mem_cons.mp hc with q | hc
  ·rw[q];exact Nat.le_succ _
  ·have q:c=s1.heap.objs.size:=by simpa using hc
   rw[q];exact Nat.le_refl _
 exact I1.fpOk hle (nn c hle)
end
section
variable{X:Cx}
theorem ζM10{k:Key}{y:V}{us:List Value}(r:Vals [kV k,y] us):∃ u v,us=[u,v]/\RelV (kV k) u/\RelV y v:=ζm8 r
def ζm10:V->List V->Hp->VK->Prop:=fun x vs H Q=>∃ d kvs k y,x=.ref d/\vs=[kV k,y]/\H d=some (.dK kvs)/\kvs.length<sizeLine/\(∀ v,valV kvs k=some v->Q v H)/\(valV kvs k=none->Q y (upd H d (.dK (kvs++[(k,y)]))))
theorem ζ53:MtM X "dict.setdefault" ζm10:=by
 intro pins s σ H x vs v us Q I rx rv h
 obtain⟨d,kvs,k,y,rfl,rfl,hH,hz,h1,h2⟩:=h
 cases rx
 obtain⟨uk,uy,rfl,rk,ry⟩:=ζM10 rv
 obtain⟨z,hd,ws,rel,dd⟩:=ζB12 I.hok hH
 refine call_meetsIn PySem.F.slot_dict_setdefault dd.typeIs PySem.F.entry_dict_setdefault (PySem.F.args_dict_setdefault_3 _ _ _) (kt_meets_setdefault (ζY X.prog X.w) d (ζi13 rk) hd uy)
  ⟨ws,dd,by rw[<- rel.length];exact z,fun v' hv'=>?_,fun hn h' dd' hs=>?_⟩
 ·cases e:valV kvs k with
  | none =>
   have q:=rel.val k
   rw[e,hv']at q
   exact False.elim q
  | some w' =>
   have q:=rel.val k
   rw[e,hv']at q
   exact⟨w',H,I.tok _,q,h1 w' e⟩
 ·have e:valV kvs k=none:=by
   cases e:valV kvs k with
   | none=>rfl
   | some w' =>
    have q:=rel.val k
    rw[e,hn]at q
    exact False.elim q
  have he:∃ q,h'.get? d=some q:=let ⟨q,_,_,hq,_⟩:=dd';⟨q,hq⟩
  refine⟨y,_,ζn11 (ob:=.dK (putK kvs k y)) I (by rw[hH];exact True.intro) hs he (ζC12 ?_ hd (rel.put k ry) dd'),ry,?_⟩
  ·have:=ζR4 kvs k y;omega
  ·rw[ζH8 y e];exact h2 e
def ζQ9(p d:Addr):HO:=.ext fun h=>h.IsValuesView p d
def ζk10:V->List V->Hp->VK->Prop:=fun x vs H Q=>∃ d kvs,x=.ref d/\vs=[]/\H d=some (.dK kvs)/\∀ p,H p=none->Q (.ref p) (upd H p (ζQ9 p d))
theorem ζW6:MtM X "dict.values" ζk10:=by
 intro pins s σ H x vs v us Q I rx rv h
 obtain⟨d,kvs,rfl,rfl,hH,q⟩:=h
 cases rx
 cases rv
 obtain⟨z,hd,ws,rel,dd⟩:=ζB12 I.hok hH
 refine call_meetsIn PySem.F.slot_dict_values dd.typeIs PySem.F.entry_dict_values (PySem.F.args_dict_values_1 _) (meets_dict_values (ζY X.prog X.w) d hd) ⟨⟨ws,dd⟩,?_⟩
 refine⟨.ref s.heap.objs.size,_,I.laid (o:=ζQ9 s.heap.objs.size d) (fun b u e=>Heap.get?_push_of_some _ e) (Nat.le_refl _) ?_,rfl,q _ (I.hok.fresh (Nat.le_refl _))⟩
 have e:=Heap.get?_push_size s.heap (o:={ cls:=.type "dict_values",data:=.fields #[.ref d] }) rfl
 exact⟨⟨_,e,rfl,rfl⟩,⟨_,e⟩,fun h1 h2 ⟨o,ho,r⟩ k=>⟨o,k o ho,r⟩⟩
theorem ζf7{P:Program}{w:World}{h:Heap}{d:Addr}{ws:List (Key × Value)}(dd:h.DictOf (ζY P w) d ws):∃ ep,h.DictAt (ζY P w) d ws ep:=by
 obtain⟨o,es,ep,r⟩:=dd
 exact⟨ep,o,es,r⟩
theorem ζ45{κ:Type}:∀ {kvs:List (κ × V)} {ws:List (κ × Value)},KV kvs ws->Vals (kvs.map (·.2)) (ws.map (·.2))
 | _,_,.nil=>.nil
 | _,_,.cons r t=>.cons r.2 (ζ45 t)
theorem ζQ2 (hc:X.calm=true):ζi2 X (.type "list") (fun xs H Q=>∃ p d kvs,xs=[.ref p]/\H p=some (ζQ9 p d)/\H d=some (.dK kvs)/\∀ l,H l=none->Q (.ref l) (upd H l (.lst (kvs.map (·.2))))):=by
 intro pins s σ H xs us Q I r h
 obtain⟨p,d,kvs,rfl,hp,hd,q⟩:=h
 obtain⟨u,rfl,ru⟩:=ζh3 r
 obtain rfl:u=Value.ref p:=ru
 obtain⟨hv,_,_⟩:=(show ObjOk X.prog X.w H s.heap p (ζQ9 p d) from I.hok p _ hp)
 obtain⟨z,hds,ws,rel,dd⟩:=ζB12 I.hok hd
 obtain⟨ep,da⟩:=ζf7 dd
 have hl:ws.length=kvs.length:=rel.length.symm
 refine PySem.W.kdl_call (PySem.W.kdl_values (knd:=ζY X.prog X.w) (kvs:=ws) (ep:=ep) (r:=p) (d:=d)) (I.ok.hd hc) ⟨hv,da⟩ (by omega) fun h' tk acc c' hk hS ha=>?_
 have ea:acc.toList=ws.map (·.2):=by
  refine List.ext_getElem? fun i=>?_
  cases e:acc.toList[i]? with
  | none =>
   have:ws.length<=i:=by
    have:=List.getElem?_eq_none_iff.mp e
    rw[Array.length_toList,ha.1]at this
    exact this
   rw[List.getElem?_eq_none_iff.mpr (by rw[List.length_map];exact this)]
  | some v =>
   obtain⟨k,ek⟩:=ha.2 i v (by simpa using e)
   rw[List.getElem?_map,ek]
   rfl
 refine⟨.ref s.heap.objs.size,_,I.laid (o:=.lst (kvs.map (·.2))) hk (Nat.le_refl _) ⟨by rw[List.length_map];exact z,acc.toList,c',?_,by rw[hS]⟩,rfl,q _ (I.hok.fresh (Nat.le_refl _))⟩
 rw[ea]
 exact ζ45 rel
end
inductive EqD (K:PySem.W.Frag) (H:Hp):Nat->V->V->Bool->Prop
 | flat {n:Nat} {x y:V} (fx:ζi3 x=true) (fy:ζi3 y=true):EqD K H n x y (eqV x y)
 | lsts {n:Nat} {a b:Addr} {xs ys:List V} {e:Nat->Bool} (ha:SqL K H a xs) (hb:SqL K H b ys) (hl:xs.length=ys.length) (h:∀ i x y,xs[i]?=some x->ys[i]?=some y->EqD K H n x y (e i)):EqD K H (n+1) (.ref a) (.ref b) ((List.range xs.length).all e)
 | lens {n:Nat} {a b:Addr} {xs ys:List V} (ha:SqL K H a xs) (hb:SqL K H b ys) (hl:xs.length≠ys.length):EqD K H (n+1) (.ref a) (.ref b) false
 | tups {n:Nat} {a b:Addr} {xs ys:List V} {e:Nat->Bool} (ha:SqT K H a xs) (hb:SqT K H b ys) (h:∀ i x y,xs[i]?=some x->ys[i]?=some y->EqD K H n x y (e i)) :
   EqD K H (n+1) (.ref a) (.ref b) ((List.range (min xs.length ys.length)).all e && xs.length == ys.length)
theorem ζv9{x:V}(h:ζi3 x=true):eqV x x=true:=by
 cases x <;> first | rfl | (simp[eqV];done) | exact absurd (show false=true from h) Bool.false_ne_true
section
variable{X:Cx}{pins:List (Addr × Obj)}{σ:St}{H:Hp}{s:Shared}
theorem Vals.at{xs:List V}{us:List Value}{j:Nat}(r:Vals xs us)(h:j<us.length):∃ x,xs[j]?=some x/\RelV x us[j]:=by
 have hl:=r.length
 have hx:xs[j]?=some (xs[j]'(by omega)):=List.getElem?_eq_getElem (by omega)
 obtain⟨u,e,ru⟩:=r.get hx
 rw[List.getElem?_eq_getElem h]at e
 cases e
 exact⟨_,hx,ru⟩
theorem EqD.self{n:Nat}{x y:V}{b:Bool}(q:EqD X.K H n x y b)(I:Inv X pins σ H s):x=y->b=true:=by
 induction q with
 | flat fx fy=>intro e;subst e;exact ζv9 fx
 | @lsts n a b xs ys e ha hb hl h ih =>
  intro z
  cases z
  have e1:xs=ys:=I.list_inj ha hb
  subst e1
  rw[List.all_eq_true]
  intro i hi
  have hx:xs[i]?=some (xs[i]'(List.mem_range.mp hi)):=List.getElem?_eq_getElem _
  exact ih i _ _ hx hx rfl
 | @lens n a b xs ys ha hb hl =>
  intro z
  cases z
  exact absurd (congrArg List.length (I.list_inj ha hb)) hl
 | @tups n a b xs ys e ha hb h ih =>
  intro z
  cases z
  have e1:xs=ys:=I.tuple_inj ha hb
  subst e1
  rw[Nat.min_self,Bool.and_eq_true,List.all_eq_true]
  refine⟨fun i hi=>?_,by simp⟩
  have hx:xs[i]?=some (xs[i]'(List.mem_range.mp hi)):=List.getElem?_eq_getElem _
  exact ih i _ _ hx hx rfl
theorem EqD.at{n:Nat}{x y:V}{b:Bool}(q:EqD X.K H n x y b)(I:Inv X pins σ H s):∀ {A:Around} {u v:Value},A.units+n<cLine->RelV x u->RelV y v->SeqAt.EqAt A s u v b:=by
 induction q with
 | flat fx fy=>intro A u v _ ru rv;exact ζd11 ru rv fx fy
 | @lsts n a b xs ys e ha hb hl h ih =>
  intro A u v hu ru rv
  obtain rfl:u=Value.ref a:=ru
  obtain rfl:v=Value.ref b:=rv
  by_cases hab:a=b
  ·have z:=EqD.self (EqD.lsts ha hb hl h) I (congrArg V.ref hab)
   rw[z,hab]
   exact SeqAt.EqAt.same _
  obtain⟨us,rx,px,_⟩:=I.list ha
  obtain⟨vs,ry,py,_⟩:=I.list hb
  have l1:=rx.length
  have l2:=ry.length
  have z:=SeqAt.RcAt.lists (A:=A) (s:=s) (e:=e) px.isList py.isList (by rw[List.size_toArray,List.size_toArray];omega) (by omega) fun j h1 h2=>by
   obtain⟨x,ex,rx'⟩:=rx.at (j:=j) (by simpa using h1)
   obtain⟨y,ey,ry'⟩:=ry.at (j:=j) (by simpa using h2)
   exact ih j x y ex ey (A:=A.in1) (by show A.units+1+n<cLine;omega) (by simpa using rx') (by simpa using ry')
  rw[List.size_toArray,<- l1]at z
  exact SeqAt.EqAt.of_refs hab z
 | @lens n a b xs ys ha hb hl =>
  intro A u v hu ru rv
  obtain rfl:u=Value.ref a:=ru
  obtain rfl:v=Value.ref b:=rv
  obtain⟨us,rx,px,_⟩:=I.list ha
  obtain⟨vs,ry,py,_⟩:=I.list hb
  have l1:=rx.length
  have l2:=ry.length
  have hab:a≠b:=fun z=>by
   subst z
   exact hl (congrArg List.length (I.list_inj ha hb))
  exact SeqAt.EqAt.of_refs hab (SeqAt.RcAt.lists_lengths px.isList py.isList (by rw[List.size_toArray,List.size_toArray];simp;omega) (by omega))
 | @tups n a b xs ys e ha hb h ih =>
  intro A u v hu ru rv
  obtain rfl:u=Value.ref a:=ru
  obtain rfl:v=Value.ref b:=rv
  by_cases hab:a=b
  ·have z:=EqD.self (EqD.tups ha hb h) I (congrArg V.ref hab)
   rw[z,hab]
   exact SeqAt.EqAt.same _
  obtain⟨us,rx,px,_⟩:=I.tuple ha
  obtain⟨vs,ry,py,_⟩:=I.tuple hb
  have l1:=rx.length
  have l2:=ry.length
  have z:=SeqAt.RcAt.tuples (A:=A) (s:=s) (e:=e) (show s.heap.IsTuple a us.toArray from px) (show s.heap.IsTuple b vs.toArray from py) (by omega) fun j h1 h2=>by
   obtain⟨x,ex,rx'⟩:=rx.at (j:=j) (by simpa using h1)
   obtain⟨y,ey,ry'⟩:=ry.at (j:=j) (by simpa using h2)
   exact ih j x y ex ey (A:=A.in1) (by show A.units+1+n<cLine;omega) (by simpa using rx') (by simpa using ry')
  rw[List.size_toArray,List.size_toArray,<- l1,<- l2]at z
  exact SeqAt.EqAt.of_refs hab z
end
section
variable{X:Cx}
def rEqD(K:PySem.W.Frag)(neg:Bool):R2:=fun x y H Q=>∃ n b p q,x=.ref p/\y=.ref q/\n<=6/\EqD K H n x y b/\Q (.bl (if neg then !b else b)) H
theorem ζm12(hu:X.A.units+8<cLine):OpR X (compareOp .Eq) (rEqD X.K false):=by
 intro pins s σ H x y u v Q I ru rv h
 obtain⟨n,b,p,q,rfl,rfl,hn,d,hq⟩:=h
 obtain rfl:u=Value.ref p:=ru
 obtain rfl:v=Value.ref q:=rv
 have fin:EP X pins σ Q (.bool b) s:=⟨.bl b,H,I,rfl,hq⟩
 cases d with
 | flat fx fy=>exact absurd (show false=true from fx) Bool.false_ne_true
 | @lsts n _ _ xs ys e ha hb hl h =>
  obtain⟨us,rx,px,_⟩:=I.list ha
  obtain⟨vs,ry,py,_⟩:=I.list hb
  have l1:=rx.length
  have l2:=ry.length
  refine SeqAt.eq_listAt (e:=e) px.isList py.isList (by rw[List.size_toArray,List.size_toArray];omega) (by omega) (fun j h1 h2=>?_) (by rw[List.size_toArray,<- l1];exact fin)
  obtain⟨x,ex,rx'⟩:=rx.at (j:=j) (by simpa using h1)
  obtain⟨y,ey,ry'⟩:=ry.at (j:=j) (by simpa using h2)
  exact(h j x y ex ey).at I (A:=X.A.in1) (by show X.A.units+1+n<cLine;omega) (by simpa using rx') (by simpa using ry')
 | @lens n _ _ xs ys ha hb hl =>
  obtain⟨us,rx,px,_⟩:=I.list ha
  obtain⟨vs,ry,py,_⟩:=I.list hb
  have l1:=rx.length
  have l2:=ry.length
  exact SeqAt.eq_list_lengthsAt px.isList py.isList (by rw[List.size_toArray,List.size_toArray];simp;omega) (by omega) fin
 | @tups n _ _ xs ys e ha hb h =>
  obtain⟨us,rx,px,_⟩:=I.tuple ha
  obtain⟨vs,ry,py,_⟩:=I.tuple hb
  have l1:=rx.length
  have l2:=ry.length
  refine SeqAt.eq_tupleAt (e:=e) (show s.heap.IsTuple p us.toArray from px) (show s.heap.IsTuple q vs.toArray from py) (by omega) (fun j h1 h2=>?_) (by rw[List.size_toArray,List.size_toArray,<- l1,<- l2];exact fin)
  obtain⟨x,ex,rx'⟩:=rx.at (j:=j) (by simpa using h1)
  obtain⟨y,ey,ry'⟩:=ry.at (j:=j) (by simpa using h2)
  exact(h j x y ex ey).at I (A:=X.A.in1) (by show X.A.units+1+n<cLine;omega) (by simpa using rx') (by simpa using ry')
end
end L2
namespace My
open PySem L2
abbrev IL(ns:List Int):List V:=ns.map V.int
theorem ζ7(ns:List Int):(IL ns).length=ns.length:=List.length_map ..
theorem ζ87(a b:List Int):IL (a++b)=IL a++IL b:=List.map_append ..
theorem ζl1(a:List Int)(r:Int):IL (a++[r])=IL a++[.int r]:=List.map_append ..
theorem ζW10(a:List Int)(n:Nat):IL (a.take n)=(IL a).take n:=List.map_take ..
theorem ζX10(a:List Int)(n:Nat):IL (a.drop n)=(IL a).drop n:=List.map_drop ..
theorem ζd9(a:List Int)(n:Nat)(z:Int):IL (a.set n z)=(IL a).set n (.int z):=List.map_set ..
theorem ζ05{ns:List Int}{i:Nat}{z:Int}(h:ns[i]?=some z):(IL ns)[i]?=some (.int z):=by rw[List.getElem?_map,h];rfl
theorem ζJ1{ns:List Int}{i:Nat}{x:V}(h:(IL ns)[i]?=some x):∃ z,x=.int z/\ns[i]?=some z:=by
 rw[List.getElem?_map]at h
 cases e:ns[i]? with
 | none=>rw[e]at h;cases h
 | some z=>rw[e]at h;exact⟨z,(Option.some.inj h).symm,rfl⟩
theorem ζs{H H2:Hp}{a:Addr}{o:HO}(hn:H a=none)(s:Same H H2):Same H (upd H2 a o):=fun b u e=>by rw[ζ9 (ζf e hn)];exact s b u e
theorem ζy{H H2:Hp}{p:Addr}{o:HO}(s:Same H H2)(hp:H2 p=none):Same H (upd H2 p o):=ζs (s.free hp) s
theorem same_at{H:Hp}{p:Addr}{o:HO}(hp:H p=none):Same H (upd H p o):=ζy (Same.refl H) hp
theorem ζM{K:PySem.W.Frag}{H H':Hp}{a:Addr}{xs:List V}(e:Same H H')(h:SqT K H a xs):SqT K H' a xs:=by
 rcases h with (h | ⟨o,h⟩) | h
 ·exact .inl (.inl (e _ _ h))
 ·exact .inl (.inr ⟨o,e _ _ h⟩)
 ·exact .inr h
theorem ζu1{n:Nat}(h:n<=1000000):n<=sizeLine:=Nat.le_trans h (by decide)
theorem ζm{n:Nat}(h:n<=1000000):n<sizeLine:=Nat.lt_of_le_of_lt h (by decide)
theorem hu8{A:Around}{k:Nat}(hr:Room k A):A.units+8<cLine:=Nat.lt_of_le_of_lt (Nat.add_le_add_left (by decide:8<=64) _) hr.units
theorem ζw{α:Type}{xs:List α}{i:Int}{n:Nat}{x:α}(hi:i=(n:Int))(h:xs[n]?=some x):atI xs i=some x:=by
 subst hi
 have hn:n<xs.length:=(List.getElem?_eq_some_iff.mp h).1
 unfold atI ixN
 rw[if_pos (Int.natCast_nonneg n),if_pos (by omega)]
 simpa using h
theorem itd{c A B:Prop}[Decidable c](hc:c)(h:A):if decide c=true then A else B:=by rw[if_pos (decide_eq_true hc)];exact h
theorem itdn{c A B:Prop}[Decidable c](hc:¬ c)(h:B):if decide c=true then A else B:=by rw[if_neg (by simp[hc])];exact h
theorem itn{c A B:Prop}[Decidable c](hc:c)(h:B):if (!decide c)=true then A else B:=by rw[if_neg (by simp[hc])];exact h
theorem itnn{c A B:Prop}[Decidable c](hc:¬ c)(h:A):if (!decide c)=true then A else B:=by rw[if_pos (by simp[hc])];exact h
theorem itd2{c A B:Prop}[Decidable c](h1:c->A)(h2:¬ c->B):if decide c=true then A else B:=by
 by_cases h:c
 ·exact itd h (h1 h)
 ·exact itdn h (h2 h)
theorem itn2{c A B:Prop}[Decidable c](h1:c->B)(h2:¬ c->A):if (!decide c)=true then A else B:=by
 by_cases h:c
 ·exact itn h (h1 h)
 ·exact itnn h (h2 h)
theorem itb{b:Bool}{A B:Prop}(h1:b=true->A)(h2:b=false->B):if b=true then A else B:=by
 cases b with
 | true=>exact iteT (h1 rfl)
 | false=>exact iteF (h2 rfl)
theorem itnb{b:Bool}{A B:Prop}(h1:b=true->B)(h2:b=false->A):if (!b)=true then A else B:=by
 cases b with
 | true=>exact iteF (h1 rfl)
 | false=>exact iteT (h2 rfl)
def SqK(k:Bool)(K:PySem.W.Frag)(H:Hp)(a:Addr)(xs:List V):Prop:=match k with
 | false=>SqL K H a xs
 | true=>SqT K H a xs
theorem SqK.same{k:Bool}{K:PySem.W.Frag}{H H':Hp}{a:Addr}{xs:List V}(e:Same H H')(h:SqK k K H a xs):SqK k K H' a xs:=by
 cases k with
 | false=>exact e.seq h
 | true=>exact ζM e h
theorem SqK.or{k:Bool}{K:PySem.W.Frag}{H:Hp}{a:Addr}{xs:List V}(h:SqK k K H a xs):SqL K H a xs\/SqT K H a xs:=by
 cases k with
 | false=>exact .inl h
 | true=>exact .inr h
def iSeq(K:PySem.W.Frag)(tl:TE):TI:=fun σ H R=>tl σ H fun x H1=>∃ a,x=.ref a/\(((∃ xs,SqL K H1 a xs)/\R (Itl K a) H1)\/((∃ xs,SqT K H1 a xs)/\R (Itt K a) H1))
theorem pi_seq{X:Cx}{tg:Expr}{l:Expr}{tl:TE}(hl:PE X l tl):PI X tg l (iSeq X.K tl):=by
 intro pins s σ H R I h
 refine thn (hl pins s σ H _ I h) fun v s1 ⟨x,H1,I1,r1,q1⟩=>?_
 obtain⟨a,e,q⟩:=q1
 subst e
 cases r1
 rcases q with ⟨⟨xs,hq⟩,q⟩ | ⟨⟨xs,hq⟩,q⟩
 ·obtain⟨its,rv,p,hz⟩:=I1.list hq
  refine wpAny_pyIter_list p.isList ?_
  refine⟨s1.heap.objs.size,[s1.heap.objs.size],_,_,H1,rfl,I1.kept (t':=s1.toks) fun b o e=>Heap.get?_push_of_some _ e,ζX3 a _,⟨_,Heap.get?_push_size _ rfl,rfl,rfl⟩,fun b hb=>?_,q⟩
  have e:b=s1.heap.objs.size:=by simpa using hb
  subst e
  exact I1.fpOk (Nat.le_refl _) (I1.hok.fresh (Nat.le_refl _))
 ·obtain⟨its,rv,p,hz⟩:=I1.tuple hq
  refine wpAny_pyIter_tuple (show s1.heap.IsTuple a its.toArray from p) ?_
  refine⟨s1.heap.objs.size,[s1.heap.objs.size],_,_,H1,rfl,I1.kept (t':=s1.toks) fun b o e=>Heap.get?_push_of_some _ e,ζW2 a _,⟨_,Heap.get?_push_size _ rfl,rfl,rfl⟩,fun b hb=>?_,q⟩
  have e:b=s1.heap.objs.size:=by simpa using hb
  subst e
  exact I1.fpOk (Nat.le_refl _) (I1.hok.fresh (Nat.le_refl _))
theorem ζg4{K:PySem.W.Frag}{k:Bool}{a:Addr}{xs:List V}{g:TG}{tb:TS}{D:Ends}{σ:St}{H:Hp}(Pv:Nat->St->Hp->Prop)(h0:Pv 0 σ H)(hl:∀ i σ H,i<=xs.length->Pv i σ H->SqK k K H a xs)
  (hs:∀ i x σ H,xs[i]?=some x->Pv i σ H->g x σ H fun σ2 H2=>tb { D with nx:=Pv (i+1),ct:=Pv (i+1),bk:=D.nx } σ2 H2) (hd:∀ σ H,Pv xs.length σ H->D.nx σ H) :
  (((∃ xs,SqL K H a xs)/\∃ W:Nat->Nat->St->Hp->Prop,(∃ m,W 0 m σ H)/\∀ i m σ H,W i m σ H ->
   ((Itl K a).stop i H/\D.nx σ H)\/((Itl K a).go i H/\∃ N:St->Hp->Prop,(∀ σ' H',N σ' H'->∃ m',m'<m/\W (i+1) m' σ' H')/\∀ x H',(Itl K a).yld i H x H'->g x σ H' fun σ2 H2=>tb { D with nx:=N,ct:=N,bk:=D.nx } σ2 H2)) \/
  ((∃ xs,SqT K H a xs)/\∃ W:Nat->Nat->St->Hp->Prop,(∃ m,W 0 m σ H)/\∀ i m σ H,W i m σ H ->
   ((Itt K a).stop i H/\D.nx σ H)\/((Itt K a).go i H/\∃ N:St->Hp->Prop,(∀ σ' H',N σ' H'->∃ m',m'<m/\W (i+1) m' σ' H')/\∀ x H',(Itt K a).yld i H x H'->g x σ H' fun σ2 H2=>tb { D with nx:=N,ct:=N,bk:=D.nx } σ2 H2))):=by
 cases k with
 | false=>exact .inl ⟨⟨xs,hl 0 σ H (Nat.zero_le _) h0⟩,ζo9 (K:=K) (a:=a) (xs:=xs) Pv h0 hl hs hd⟩
 | true=>exact .inr ⟨⟨xs,hl 0 σ H (Nat.zero_le _) h0⟩,ζ16 (K:=K) (a:=a) (xs:=xs) Pv h0 hl hs hd⟩
def PairV(H:Hp)(v:V)(p:Int × Int):Prop:=∃ t,v=.ref t/\H t=some (.tup [.int p.1,.int p.2])
def PairsV(H:Hp)(xs:List V)(ps:List (Int × Int)):Prop:=xs.length=ps.length/\∀(i:Nat) (p:Int × Int),ps[i]?=some p->∃ v,xs[i]?=some v/\PairV H v p
theorem PairV.same{H H':Hp}{v:V}{p:Int × Int}(s:Same H H')(h:PairV H v p):PairV H' v p:=let ⟨t,e,q⟩:=h;⟨t,e,s _ _ q⟩
theorem PairsV.same{H H':Hp}{xs:List V}{ps:List (Int × Int)}(s:Same H H')(h:PairsV H xs ps):PairsV H' xs ps:=⟨h.1,fun i p e=>let ⟨v,e1,q⟩:=h.2 i p e;⟨v,e1,q.same s⟩⟩
theorem PairsV.at{H:Hp}{xs:List V}{ps:List (Int × Int)}(h:PairsV H xs ps){i:Nat}{v:V}(e:xs[i]?=some v):∃ p,ps[i]?=some p/\PairV H v p:=by
 have hi:i<xs.length:=(List.getElem?_eq_some_iff.mp e).1
 have hp:i<ps.length:=by rw[<- h.1];exact hi
 obtain⟨v',e1,q⟩:=h.2 i ps[i] (List.getElem?_eq_getElem hp)
 rw[e]at e1
 cases e1
 exact⟨_,List.getElem?_eq_getElem hp,q⟩
theorem PairsV.nil{H:Hp}:PairsV H [] []:=⟨rfl,fun i p e=>by simp at e⟩
theorem PairsV.snoc{H:Hp}{xs:List V}{ps:List (Int × Int)}{v:V}{p:Int × Int}(h:PairsV H xs ps)(q:PairV H v p):PairsV H (xs++[v]) (ps++[p]):=by
 refine⟨by rw[List.length_append,List.length_append,h.1];rfl,fun i p' e=>?_⟩
 by_cases hi:i<ps.length
 ·rw[List.getElem?_append_left hi]at e
  rw[List.getElem?_append_left (by rw[h.1];exact hi)]
  exact h.2 i p' e
 ·have hl:i=ps.length:=by
   have:=(List.getElem?_eq_some_iff.mp e).1
   rw[List.length_append,List.length_singleton]at this
   omega
  subst hl
  rw[List.getElem?_append_right (Nat.le_refl _),Nat.sub_self]at e
  rw[List.getElem?_append_right (by rw[h.1];exact Nat.le_refl _),h.1,Nat.sub_self]
  have e':p=p':=Option.some.inj e
  subst e'
  exact⟨v,rfl,q⟩
theorem PairsV.drop{H:Hp}{xs:List V}{ps:List (Int × Int)}(h:PairsV H xs ps)(n:Nat):PairsV H (xs.drop n) (ps.drop n):=by
 refine⟨by rw[List.length_drop,List.length_drop,h.1],fun i p e=>?_⟩
 rw[List.getElem?_drop]at e ⊢
 exact h.2 _ p e
theorem PairsV.take{H:Hp}{xs:List V}{ps:List (Int × Int)}(h:PairsV H xs ps)(n:Nat):PairsV H (xs.take n) (ps.take n):=by
 refine⟨by rw[List.length_take,List.length_take,h.1],fun i p e=>?_⟩
 by_cases hi:i<n
 ·rw[List.getElem?_take_of_lt hi]at e ⊢
  exact h.2 _ p e
 ·rw[List.getElem?_take_eq_none (by omega)]at e
  cases e
theorem PairsV.app{H:Hp}{xs ys:List V}{ps qs:List (Int × Int)}(h:PairsV H xs ps)(h2:PairsV H ys qs):PairsV H (xs++ys) (ps++qs):=by
 refine⟨by rw[List.length_append,List.length_append,h.1,h2.1],fun i p e=>?_⟩
 by_cases hi:i<ps.length
 ·rw[List.getElem?_append_left hi]at e
  rw[List.getElem?_append_left (by rw[h.1];exact hi)]
  exact h.2 i p e
 ·rw[List.getElem?_append_right (by omega)]at e
  rw[List.getElem?_append_right (by rw[h.1];omega),h.1]
  exact h2.2 _ p e
theorem ζc13:¬ (("places":Str)="ties"):=by decide +kernel
def wf (n:Int) (tl:Addr):List (Str × V):=putF "ties" (.ref tl) (putF "places" (.int n) [])
theorem ζ31 (n:Int) (tl:Addr):(wf n tl).lookup ("places":Str)=some (.int n):=by
 unfold wf
 rw[ζZ,if_neg ζc13,ζZ,if_pos rfl]
theorem ζM1 (n:Int) (tl:Addr):(wf n tl).lookup ("ties":Str)=some (.ref tl):=by
 unfold wf
 rw[ζZ,if_pos rfl]
def WebAt(C:Addr)(H:Hp)(w:Addr)(n:Int)(ps:List (Int × Int)):Prop:=∃ dx tl xs,H w=some (.ins C dx (wf n tl))/\H tl=some (.lst xs)/\PairsV H xs ps
theorem WebAt.same{C:Addr}{H H':Hp}{w:Addr}{n:Int}{ps:List (Int × Int)}(s:Same H H')(h:WebAt C H w n ps):WebAt C H' w n ps:=let ⟨dx,tl,xs,a,b,c⟩:=h;⟨dx,tl,xs,s _ _ a,s _ _ b,c.same s⟩
def ζE(n:Int)(ps:List (Int × Int)):Prop:=1<=n/\n<=14/\ps.length<=30/\∀ p∈ps,0<=p.1/\p.1<n/\0<=p.2/\p.2<n
def FX(K:PySem.W.Frag)(mg:Str->Option Value)(x qual:Str)(st:Stmt):Prop:=∃(f:Addr) (fd:FuncData),mg x=some (.ref f)/\Fun K x qual st f fd
theorem fx_mk{K:PySem.W.Frag}{h:Heap}{mg:Str->Option Value}{x:Str}{st:Stmt}{f:Addr}{oc:Value}{od an:Option Addr}{osl:Array (Option Value)}{kV doc pm cdv ct:Value}(X:K.In h)(G:h.Ns mainGlobals mg)
  (a:PySem.W.nsIn K mainGlobals x=some (some (.ref f))) (l:K.lookup f=some ⟨oc,od,.func (PySem.W.fnOf x x (ζp2 st) (ζb2 st) (ζ5 st) .none kV doc pm an cdv ct),osl⟩) (c:PySem.W.codeIn K cdv x=true) (k:PySem.W.keepIn K (.ref f)=true):FX K mg x x st :=
 ⟨f,_,PySem.W.mg_of X G a,ζ411 l c k⟩
def CXF (K:PySem.W.Frag) (mg:Str->Option Value) (x qual:Str) (st:Stmt) (fs:List Str):Prop:=∃(C f:Addr) (fd:FuncData),mg x=some (.ref C)/\Fun K "__init__" qual st f fd/\Cls K C/\Mk K C f/\∀ a∈fs,NoAttr K C a
theorem cx_mk{K:PySem.W.Frag}{h:Heap}{mg:Str->Option Value}{x qual:Str}{fs:List Str}{st:Stmt}{C f:Addr}{oc:Value}{od an:Option Addr}{osl:Array (Option Value)}{kV doc pm cdv ct:Value}(X:K.In h)(G:h.Ns mainGlobals mg)
  (aC:PySem.W.nsIn K mainGlobals x=some (some (.ref C))) (a:PySem.W.findIn K (.ref C) "__init__"=some (some (.ref f))) (i:PySem.W.isFn K (.ref f)=true)
  (l:K.lookup f=some ⟨oc,od,.func (PySem.W.fnOf "__init__" qual (ζp2 st) (ζb2 st) (ζ5 st) .none kV doc pm an cdv ct),osl⟩) (c:PySem.W.codeIn K cdv qual=true) (k:PySem.W.keepIn K (.ref f)=true)
  (pg:PySem.W.plainGet K C Str.empty=true) (hd:PySem.W.hasDictIn K C=true) (po:PySem.W.plainOver K C=true) (sa:PySem.W.findIn K (.ref C) "__setattr__"=some (some (.builtin "object.__setattr__"))) (mk:PySem.W.makesIn K C=true) (kc:PySem.W.keepIn K (.ref C)=true)
  (na:∀ a∈fs,PySem.W.findIn K (.ref C) a=some none):CXF K mg x qual st fs :=
 ⟨C,f,_,PySem.W.mg_of X G aC,ζ411 l c k,⟨pg,hd,po,sa⟩,⟨mk,a,i,kc⟩,na⟩
theorem const_mk{K:PySem.W.Frag}{h:Heap}{mg:Str->Option Value}{x:Str}{z:Int}{v:Value}(X:K.In h)(G:h.Ns mainGlobals mg)(a:PySem.W.nsIn K mainGlobals x=some (some v))(e:∃ tk,v=.int z tk):∃ tk,mg x=some (.int z tk):=by
 obtain⟨tk,rfl⟩:=e
 exact⟨tk,PySem.W.mg_of X G a⟩
theorem nmY{i:Nat}{x:V}{σ:St}{H:Hp}{A B:St->Hp->Prop}(h:A (σ.set i (some x)) H):ζ58 i x σ H fun σ2 H2=>tYes σ2 H2 fun b H3=>if b=true then A σ2 H3 else B σ2 H3 :=
 (show if true=true then A (σ.set i (some x)) H else B (σ.set i (some x)) H from iteT h)
theorem nm{i:Nat}{x:V}{σ:St}{H:Hp}{Q:St->Hp->Prop}(h:Q (σ.set i (some x)) H):ζ58 i x σ H Q:=h
section
variable{K:PySem.W.Frag}{a:Addr}{xs:List V}{g:TG}{tt:TT}{te:TE}{o:Nat}{fr:List Nat}{σ:St}{H:Hp}{Q:VK}
abbrev ζT3(Pv:Nat->List V->Hp->Prop)(g:TG)(tt:TT)(te:TE)(o:Nat)(fr:List Nat)(σ:St)(i:Nat)(x:V)(ys:List V)(H:Hp):Prop :=
 ∀ S:Nat->List V->Hp->Prop,(∀ ys H,Pv (i+1) ys H->S (i+1) ys H)->g x (σC o fr σ) H fun σ2 H2=>tt σ2 H2 fun b H3=>if b=true then te σ2 H3 fun y H4=>S (i+1) (ys++[y]) H4 else S (i+1) ys H3
theorem ζc1(Pv:Nat->List V->Hp->Prop)(h0:Pv 0 [] H)(hz:xs.length<sizeLine)(hl:∀ i ys H,i<=xs.length->Pv i ys H->SqL K H a xs/\ys.length<=i)
  (hs:∀ i x ys H,xs[i]?=some x->Pv i ys H->ζT3 Pv g tt te o fr σ i x ys H) (hd:∀ ys H,Pv xs.length ys H->∀ p,H p=none->Q (.ref p) (upd H p (.lst ys))):LcR (Itl K a) g tt te o fr σ H Q:=by
 refine⟨fun i m ys H=>m=xs.length - i/\i<=xs.length/\Pv i ys H,⟨xs.length,by simp,Nat.zero_le _,h0⟩,?_⟩
 rintro i m ys H ⟨rfl,hi,p⟩
 obtain⟨q,hy⟩:=hl i ys H hi p
 by_cases hlt:i<xs.length
 ·refine .inr ⟨⟨xs,xs[i],q,by simp[hlt]⟩,by omega,fun x H' ⟨e,y⟩=>?_⟩
  subst e
  have hx:=y xs q
  exact hs i x ys _ hx p (fun j ys H=>∃ m',m'<xs.length - i/\m'=xs.length - j/\j<=xs.length/\Pv j ys H) fun ys H p'=>⟨xs.length - (i+1),by omega,rfl,hlt,p'⟩
 ·have e:i=xs.length:=by omega
  subst e
  exact .inl ⟨⟨xs,q,Nat.le_refl _⟩,by omega,hd ys H p⟩
theorem ζI10(Pv:Nat->List V->Hp->Prop)(h0:Pv 0 [] H)(hz:xs.length<sizeLine)(hl:∀ i ys H,i<=xs.length->Pv i ys H->SqT K H a xs/\ys.length<=i)
  (hs:∀ i x ys H,xs[i]?=some x->Pv i ys H->ζT3 Pv g tt te o fr σ i x ys H) (hd:∀ ys H,Pv xs.length ys H->∀ p,H p=none->Q (.ref p) (upd H p (.lst ys))):LcR (Itt K a) g tt te o fr σ H Q:=by
 refine⟨fun i m ys H=>m=xs.length - i/\i<=xs.length/\Pv i ys H,⟨xs.length,by simp,Nat.zero_le _,h0⟩,?_⟩
 rintro i m ys H ⟨rfl,hi,p⟩
 obtain⟨q,hy⟩:=hl i ys H hi p
 by_cases hlt:i<xs.length
 ·refine .inr ⟨⟨xs,xs[i],q,by simp[hlt]⟩,by omega,fun x H' ⟨e,y⟩=>?_⟩
  subst e
  have hx:=y xs q
  exact hs i x ys _ hx p (fun j ys H=>∃ m',m'<xs.length - i/\m'=xs.length - j/\j<=xs.length/\Pv j ys H) fun ys H p'=>⟨xs.length - (i+1),by omega,rfl,hlt,p'⟩
 ·have e:i=xs.length:=by omega
  subst e
  exact .inl ⟨⟨xs,q,Nat.le_refl _⟩,by omega,hd ys H p⟩
theorem ζK10{k:Bool}(Pv:Nat->List V->Hp->Prop)(h0:Pv 0 [] H)(hz:xs.length<sizeLine)(hl:∀ i ys H,i<=xs.length->Pv i ys H->SqK k K H a xs/\ys.length<=i)
  (hs:∀ i x ys H,xs[i]?=some x->Pv i ys H->ζT3 Pv g tt te o fr σ i x ys H) (hd:∀ ys H,Pv xs.length ys H->∀ p,H p=none->Q (.ref p) (upd H p (.lst ys))) :
  ((∃ xs,SqL K H a xs)/\LcR (Itl K a) g tt te o fr σ H Q)\/((∃ xs,SqT K H a xs)/\LcR (Itt K a) g tt te o fr σ H Q):=by
 cases k with
 | false=>exact .inl ⟨⟨xs,(hl 0 [] H (Nat.zero_le _) h0).1⟩,ζc1 Pv h0 hz hl hs hd⟩
 | true=>exact .inr ⟨⟨xs,(hl 0 [] H (Nat.zero_le _) h0).1⟩,ζI10 Pv h0 hz hl hs hd⟩
theorem ζD2{lo:Int}{n:Nat}(Pv:Nat->List V->Hp->Prop)(h0:Pv 0 [] H)(hz:n<sizeLine)(hl:∀ i ys H,i<=n->Pv i ys H->ys.length<=i)
  (hs:∀ i ys H,i<n->Pv i ys H->ζT3 Pv g tt te o fr σ i (.int (lo+i)) ys H) (hd:∀ ys H,Pv n ys H->∀ p,H p=none->Q (.ref p) (upd H p (.lst ys))):LcR (Itr lo n) g tt te o fr σ H Q:=by
 refine⟨fun i m ys H=>m=n - i/\i<=n/\Pv i ys H,⟨n,by simp,Nat.zero_le _,h0⟩,?_⟩
 rintro i m ys H ⟨rfl,hi,p⟩
 have hy:=hl i ys H hi p
 by_cases hlt:i<n
 ·refine .inr ⟨hlt,by omega,fun x H' ⟨e,y⟩=>?_⟩
  subst e
  subst y
  exact hs i ys _ hlt p (fun j ys H=>∃ m',m'<n - i/\m'=n - j/\j<=n/\Pv j ys H) fun ys H p'=>⟨n - (i+1),by omega,rfl,hlt,p'⟩
 ·have e:i=n:=by omega
  subst e
  exact .inl ⟨Nat.le_refl _,by omega,hd ys H p⟩
end
theorem ζf1{α:Type}{l:List α}(h:l.Nodup){i j:Nat}{x:α}(a:l[i]?=some x)(b:l[j]?=some x):i=j:=by
 obtain⟨h1,e1⟩:=List.getElem?_eq_some_iff.mp a
 obtain⟨h2,e2⟩:=List.getElem?_eq_some_iff.mp b
 exact(List.getElem_inj h).mp (e1.trans e2.symm)
theorem ζK{α:Type}{l:List α}{i:Nat}{x d:α}(h:l[i]?=some x):l.getD i d=x:=by rw[List.getD_eq_getElem?_getD,h];rfl
theorem ζa4{α:Type}{l:List α}{x:α}(h:l.Nodup)(hx:x∉l):(l++[x]).Nodup:=by
 rw[List.nodup_append]
 refine⟨h,by simp,fun a ha b hb=>?_⟩
 rw[List.mem_singleton]at hb
 subst hb
 rintro rfl
 exact hx ha
theorem ζ26{K:PySem.W.Frag}{a:Addr}{xs:List V}{g:TG}{tb:TS}{D:Ends}{σ:St}{H:Hp}(Pv:Nat->St->Hp->Prop)(h0:Pv 0 σ H)(hl:∀ i σ H,i<=xs.length->Pv i σ H->SqL K H a xs)
  (hs:∀(i:Nat) x σ H (p:Addr),H p=none->xs[i]?=some x->Pv i σ H->g (.ref p) σ (upd H p (.tup [.int i,x])) fun σ2 H2=>tb { D with nx:=Pv (i+1),ct:=Pv (i+1),bk:=D.nx } σ2 H2) (hd:∀ σ H,Pv xs.length σ H->D.nx σ H) :
  ∃ W:Nat->Nat->St->Hp->Prop,(∃ m,W 0 m σ H)/\∀ i m σ H,W i m σ H ->
   ((Ite K a).stop i H/\D.nx σ H)\/((Ite K a).go i H/\∃ N:St->Hp->Prop,(∀ σ' H',N σ' H'->∃ m',m'<m/\W (i+1) m' σ' H')/\∀ x H',(Ite K a).yld i H x H'->g x σ H' fun σ2 H2=>tb { D with nx:=N,ct:=N,bk:=D.nx } σ2 H2):=by
 refine⟨fun i m σ H=>m=xs.length - i/\i<=xs.length/\Pv i σ H,⟨xs.length,by simp,Nat.zero_le _,h0⟩,?_⟩
 rintro i m σ H ⟨rfl,hi,p⟩
 have q:=hl i σ H hi p
 by_cases hlt:i<xs.length
 ·refine .inr ⟨⟨xs,xs[i],q,by simp[hlt]⟩,Pv (i+1),fun σ' H' p'=>⟨xs.length - (i+1),by omega,rfl,hlt,p'⟩,fun x H' ⟨T,y,hT,ex,eH,hy⟩=>?_⟩
  subst ex eH
  exact hs i y σ H T hT (hy xs q) p
 ·have e:i=xs.length:=by omega
  subst e
  exact .inl ⟨⟨xs,q,Nat.le_refl _⟩,hd σ H p⟩
theorem ζL3{xs:List V}{i:Int}(h0:0<=i)(h1:i.toNat<=xs.length):cutV xs (some i) none=xs.drop i.toNat:=by
 have e:HT.sIx xs.length 0 (some i)=i.toNat:=by
  show(if i<0 then (i+(xs.length:Int)).toNat else min i.toNat xs.length)=i.toNat
  rw[if_neg (by omega)]
  omega
 unfold cutV
 rw[e,HT.sIx_none]
 exact List.take_of_length_le (by rw[List.length_drop];exact Nat.le_refl _)
theorem ζD12{xs:List V}{i:Int}(h0:0<=i)(h1:i.toNat<=xs.length):cutV xs none (some i)=xs.take i.toNat:=by
 have e:HT.sIx xs.length xs.length (some i)=i.toNat:=by
  show(if i<0 then (i+(xs.length:Int)).toNat else min i.toNat xs.length)=i.toNat
  rw[if_neg (by omega)]
  omega
 unfold cutV
 rw[e,HT.sIx_none,List.drop_zero,Nat.sub_zero]
end My
namespace L2
open PySem PySem.Spec PyProof.Rows
section
variable{X:Cx}{a b o e:Expr}{es:List Expr}{ta tb te to:TE}{t:TA}{pos:Pos}
theorem ζd(K:PySem.W.Frag)(h:X.K=K:=by rfl):IxR X (rIxL K):=h ▸ ζQ10
theorem ζj(K:PySem.W.Frag)(h:X.K=K:=by rfl):IxR X (rIxT K):=h ▸ ζx12
theorem ζN(K:PySem.W.Frag)(h:X.K=K:=by rfl):SlR X (rSlL K):=h ▸ ζb10
theorem ζl12(K:PySem.W.Frag)(h:X.K=K:=by rfl):OpR X (compareOp .In) (fun x y H Q=>∃ p xs,y=.ref p/\(SqL K H p xs\/SqT K H p xs)/\ζi3 x=true/\xs.all ζi3=true/\Q (.bl (inV x xs)) H):=h ▸ ζS6
theorem ζR6(K:PySem.W.Frag)(h:X.K=K:=by rfl):OpR X (compareOp .NotIn) (fun x y H Q=>∃ p xs,y=.ref p/\(SqL K H p xs\/SqT K H p xs)/\ζi3 x=true/\xs.all ζi3=true/\Q (.bl (!inV x xs)) H):=h ▸ ζy3
theorem ζv5(K:PySem.W.Frag)(hu:X.A.units+8<cLine)(h:X.K=K:=by rfl):OpR X (compareOp .Eq) (rEqD K false):=h ▸ ζm12 hu
theorem ζU8(K:PySem.W.Frag)(h:X.K=K:=by rfl):OpR X (binaryOp .Add) (ζQ12 K):=h ▸ ζy10
theorem ζP(K:PySem.W.Frag){f:Str}(he:PE X e ta)(hb:attributeBase e f X.env (eval e X.env)=eval e X.env)(h:X.K=K:=by rfl):PE X (.Attribute e f pos) (tFld K ta f):=h ▸ ζf12 he hb
theorem ζi (K:PySem.W.Frag) (h:X.K=K:=by rfl):ζi2 X (.builtin "len") (fun xs H Q=>∃ p ys,xs=[.ref p]/\(SqL K H p ys\/SqT K H p ys)/\Q (.int ys.length) H):=h ▸ ζR3
theorem ζ01 (K:PySem.W.Frag) (h:X.K=K:=by rfl):ζi2 X (.type "list") (fun xs H Q=>∃ p ys,xs=[.ref p]/\(SqL K H p ys\/SqT K H p ys)/\∀ l,H l=none->Q (.ref l) (upd H l (.lst ys))):=h ▸ ζP3
theorem ζL1 (K:PySem.W.Frag) (h:X.K=K:=by rfl):ζi2 X (.type "tuple") (fun xs H Q=>∃ p ys,xs=[.ref p]/\((SqL K H p ys/\∀ l,H l=none->Q (.ref l) (upd H l (.tup ys)))\/(SqT K H p ys/\Q (.ref p) H))):=h ▸ ζd3
theorem ζx4 (K:PySem.W.Frag) (hc:X.calm=true) (h:X.K=K:=by rfl):ζi2 X (.builtin "sum") (fun xs H Q=>∃(p:Addr) (ns:List Int),xs=[.ref p]/\SqL K H p (ns.map V.int)/\Q (.int ns.sum) H):=h ▸ ζe3 hc
theorem ζX(K:PySem.W.Frag){tg:Expr}{l:Expr}{tl:TE}(hl:PE X l tl)(h:X.K=K:=by rfl):PI X tg l (ζS12 K tl):=h ▸ ζr10 hl
theorem ζr5(K:PySem.W.Frag){tg:Expr}{l:Expr}{tl:TE}(hl:PE X l tl)(h:X.K=K:=by rfl):PI X tg l (iTup K tl):=h ▸ ζb12 hl
theorem ζn2(K:PySem.W.Frag){tg:Expr}{l:Expr}{tl:TE}(hl:PE X l tl)(h:X.K=K:=by rfl):PI X tg l (My.iSeq K tl):=h ▸ My.pi_seq hl
theorem ζA2 (K:PySem.W.Frag) {elts:List Expr} {x1:Nat} {tpos:Pos} {a:Expr} {ta:TA} {p pos:Pos} (hg:Gl X "enumerate") (hm:X.mg "enumerate"=none) (ha:PA X [a] ta) (hs:starEach [a] X.env=[(false,eval a X.env)]:=by rfl) (h:X.K=K:=by rfl) :
  PI X (.Tuple elts x1 tpos) (.Call (.Name "enumerate" p) [a] [] pos) (ζT12 K ta):=h ▸ ζs10 hg hm ha hs
theorem ζa1(K:PySem.W.Frag){es:List Expr}{k:Nat}{t:TGs}{n:Nat}(hc:X.calm=true)(ht:PGs X es t)
  (hn:(assignEach es X.env).length=n:=by rfl) (hst:(assignEach es X.env).findIdx? (·.1)=none:=by rfl) (h:X.K=K:=by rfl):PG X (.Tuple es k pos) (gTup K n t):=h ▸ ζc12 hc ht hn hst
theorem ζB1 (K:PySem.W.Frag) {name:Str} {apos cpos:Pos} {T id:String} {r:V->List V->Hp->VK->Prop} (pa:PlainAttrs T) (slot:Slot T name id) (hty:typeOf (.builtin id)=pure (.type "method_descriptor")) (hm:MtR X id r) (ho:PE X o to) (ha:PA X (e :: es) t)
  (hbase:attributeBase o name X.env (eval o X.env)=eval o X.env:=by rfl)
  (hfew:((backTo cpos (starEach (e :: es) X.env)).all (fun x=>!x.1) && (backToKw cpos (keywordEach [] X.env)).all (fun x=>x.1.isSome)
   && decide ((e :: es).length+([]:List Keyword).length+(if ([]:List Keyword).isEmpty then 0 else 1)<30))=true:=by rfl)
  (hline:(apos.endLine == cpos.line)=true:=by rfl) (hs:starEach (e :: es) X.env=(false,eval e X.env) :: starEach es X.env:=by rfl) (hplain:(backTo cpos (starEach es X.env)).any (·.1)=false:=by rfl) (h:X.K=K:=by rfl) :
  PE X (.Call (.Attribute o name apos) (e :: es) [] cpos) (tBM K T r to t):=h ▸ ζe13 pa slot hty hm ho ha hbase hfew hline hs hplain
theorem ζv10 (K:PySem.W.Frag) {name:Str} {apos cpos:Pos} {T id:String} {r:V->List V->Hp->VK->Prop} (pa:PlainAttrs T) (slot:Slot T name id) (hty:typeOf (.builtin id)=pure (.type "method_descriptor")) (hm:MtR X id r) (ho:PE X o to)
  (hbase:attributeBase o name X.env (eval o X.env)=eval o X.env:=by rfl) (hline:(apos.endLine == cpos.line)=true:=by rfl) (h:X.K=K:=by rfl):PE X (.Call (.Attribute o name apos) [] [] cpos) (tBM0 K T r to):=h ▸ ζg12 pa slot hty hm ho hbase hline
end
end L2
namespace My
abbrev mk(m:List Int)(i:Nat):Int:=m.getD i 0
def pm(m:List Int)(a b:Nat):List Int :=
 if min (mk m a) (mk m b)<max (mk m a) (mk m b) then m.map (fun k=>if k=max (mk m a) (mk m b) then min (mk m a) (mk m b) else k) else m
def lm(m:List Int)(a b:Nat):List Int :=
 if mk m a≠mk m b then m.map (fun k=>if k=mk m b then mk m a else k) else m
def SameP(m l:List Int):Prop:=m.length=l.length/\∀ i j,i<m.length->j<m.length->(mk m i=mk m j↔mk l i=mk l j)
theorem ζZ6(m:List Int)(f:Int->Int){i:Nat}(h:i<m.length):mk (m.map f) i=f (mk m i):=by
 simp[mk,List.getD_eq_getElem?_getD,List.getElem?_map,List.getElem?_eq_getElem h]
theorem ζz1(m:List Int)(a b:Nat):(pm m a b).length=m.length:=by unfold pm;split <;> simp
theorem ζR1(m:List Int)(a b:Nat):(lm m a b).length=m.length:=by unfold lm;split <;> simp
def Mrg(m:List Int)(a b i j:Nat):Prop:=mk m i=mk m j\/((mk m i=mk m a\/mk m i=mk m b)/\(mk m j=mk m a\/mk m j=mk m b))
theorem ζa12{m:List Int}{a b i j:Nat}(hi:i<m.length)(hj:j<m.length):mk (pm m a b) i=mk (pm m a b) j↔Mrg m a b i j:=by
 unfold pm Mrg
 split
 ·rename_i h
  rw[ζZ6 _ _ hi,ζZ6 _ _ hj]
  generalize mk m i=x at *
  generalize mk m j=y at *
  generalize mk m a=p at *
  generalize mk m b=q at *
  by_cases hpq:p<q
  ·rw[Int.min_eq_left (by omega),Int.max_eq_right (by omega)]
   split <;> split <;> omega
  ·rw[Int.min_eq_right (by omega),Int.max_eq_left (by omega)]at *
   split <;> split <;> omega
 ·rename_i h
  generalize mk m i=x at *
  generalize mk m j=y at *
  generalize mk m a=p at *
  generalize mk m b=q at *
  omega
theorem ζ27{m:List Int}{a b i j:Nat}(hi:i<m.length)(hj:j<m.length):mk (lm m a b) i=mk (lm m a b) j↔Mrg m a b i j:=by
 unfold lm Mrg
 split
 ·rename_i h
  rw[ζZ6 _ _ hi,ζZ6 _ _ hj]
  generalize mk m i=x at *
  generalize mk m j=y at *
  generalize mk m a=p at *
  generalize mk m b=q at *
  split <;> split <;> omega
 ·rename_i h
  generalize mk m i=x at *
  generalize mk m j=y at *
  generalize mk m a=p at *
  generalize mk m b=q at *
  omega
theorem SameP.step{m l:List Int}(s:SameP m l){a b:Nat}(ha:a<m.length)(hb:b<m.length):SameP (pm m a b) (lm l a b):=by
 obtain⟨hl,h⟩:=s
 refine⟨by rw[ζz1,ζR1,hl],fun i j hi hj=>?_⟩
 rw[ζz1]at hi hj
 rw[ζa12 hi hj,ζ27 (by omega) (by omega)]
 unfold Mrg
 rw[h i j hi hj,h i a hi ha,h i b hi hb,h j a hj ha,h j b hj hb]
def pms(n:Nat)(es:List (Nat × Nat)):List Int:=es.foldl (fun m e=>pm m e.1 e.2) ((List.range n).map fun(i:Nat)=>(i:Int))
def lms(n:Nat)(es:List (Nat × Nat)):List Int:=es.foldl (fun m e=>lm m e.1 e.2) ((List.range n).map fun(i:Nat)=>(i:Int))
theorem ζO(n:Nat)(es:List (Nat × Nat)):(pms n es).length=n:=by
 have:∀(es:List (Nat × Nat)) (m:List Int),(es.foldl (fun m e=>pm m e.1 e.2) m).length=m.length:=by
  intro es
  induction es with
  | nil=>intro m;rfl
  | cons e es ih=>intro m;rw[List.foldl_cons,ih,ζz1]
 unfold pms;rw[this];simp
theorem ζQ(n:Nat)(es:List (Nat × Nat)):(lms n es).length=n:=by
 have:∀(es:List (Nat × Nat)) (m:List Int),(es.foldl (fun m e=>lm m e.1 e.2) m).length=m.length:=by
  intro es
  induction es with
  | nil=>intro m;rfl
  | cons e es ih=>intro m;rw[List.foldl_cons,ih,ζR1]
 unfold lms;rw[this];simp
theorem ζs1(n:Nat)(es:List (Nat × Nat))(e:Nat × Nat):lms n (es++[e])=lm (lms n es) e.1 e.2:=by unfold lms;rw[List.foldl_append];rfl
theorem ζs3{n:Nat}:∀ {es:List (Nat × Nat)},(∀ e∈es,e.1<n/\e.2<n)->SameP (pms n es) (lms n es):=by
 intro es
 have key:∀(es:List (Nat × Nat)) (m l:List Int),SameP m l->m.length=n->(∀ e∈es,e.1<n/\e.2<n)->SameP (es.foldl (fun m e=>pm m e.1 e.2) m) (es.foldl (fun m e=>lm m e.1 e.2) l):=by
  intro es
  induction es with
  | nil=>intro m l s _ _;exact s
  | cons e es ih =>
   intro m l s hm he
   have h1:=he e List.mem_cons_self
   exact ih _ _ (s.step (by omega) (by omega)) (by rw[ζz1];exact hm) fun x hx=>he x (List.mem_cons_of_mem _ hx)
 exact key es _ _ ⟨rfl,fun i j _ _=>Iff.rfl⟩ (by simp)
def ζD3(g:List (Int × List Int))(place k:Int):List (Int × List Int) :=
 if k∈g.map (·.1) then g.map (fun kv=>if kv.1=k then (kv.1,kv.2++[place]) else kv) else g++[(k,[place])]
def grpA(M:List Int):Nat->List (Int × List Int)
 | 0=>[]
 | i+1=>ζD3 (grpA M i) (i:Int) (mk M i)
def grp(M:List Int):List (Int × List Int):=grpA M M.length
theorem ζE1(g:List (Int × List Int))(p k:Int):(ζD3 g p k).map (·.1)=if k∈g.map (·.1) then g.map (·.1) else g.map (·.1)++[k]:=by
 unfold ζD3
 split
 ·rw[List.map_map]
  refine List.map_congr_left fun kv _=>?_
  show(if kv.1=k then (kv.1,kv.2++[p]) else kv).1=kv.1
  split <;> rfl
 ·simp
theorem ζS4{g:List (Int × List Int)}{p k:Int}(h:(g.map (·.1)).Nodup):((ζD3 g p k).map (·.1)).Nodup:=by
 rw[ζE1]
 split
 ·exact h
 ·rename_i hk
  rw[List.nodup_append]
  refine⟨h,by simp,fun a ha b hb=>?_⟩
  rw[List.mem_singleton]at hb
  subst hb
  rintro rfl
  exact hk ha
theorem ζ72(M:List Int):∀ i,((grpA M i).map (·.1)).Nodup
 | 0=>by simp[grpA]
 | i+1=>ζS4 (ζ72 M i)
theorem grpA_mem(M:List Int):∀ i kv,kv∈grpA M i->∀ z:Int,z∈kv.2↔(0<=z/\z<(i:Int)/\mk M z.toNat=kv.1)
 | 0,kv,h,z=>by simp[grpA]at h
 | i+1,kv,h,z=>by
  unfold grpA ζD3 at h
  split at h
  ·rename_i hk
   obtain⟨kv0,h0,e⟩:=List.mem_map.mp h
   have ih:=grpA_mem M i kv0 h0 z
   by_cases hc:kv0.1=mk M i
   ·rw[if_pos hc]at e
    subst e
    rw[List.mem_append,ih,List.mem_singleton]
    constructor
    ·rintro(⟨a,b,c⟩ | rfl)
     ·exact⟨a,by omega,c⟩
     ·exact⟨by omega,by omega,by simpa using hc.symm⟩
    ·rintro⟨a,b,c⟩
     by_cases hz:z<(i:Int)
     ·exact .inl ⟨a,hz,c⟩
     ·exact .inr (by omega)
   ·rw[if_neg hc]at e
    subst e
    rw[ih]
    constructor
    ·rintro⟨a,b,c⟩;exact⟨a,by omega,c⟩
    ·rintro⟨a,b,c⟩
     refine⟨a,?_,c⟩
     by_cases hz:z<(i:Int)
     ·exact hz
     ·have e:z.toNat=i:=by omega
      rw[e]at c
      exact absurd c.symm hc
  ·rename_i hk
   rcases List.mem_append.mp h with h0 | h0
   ·have ih:=grpA_mem M i kv h0 z
    rw[ih]
    constructor
    ·rintro⟨a,b,c⟩;exact⟨a,by omega,c⟩
    ·rintro⟨a,b,c⟩
     refine⟨a,?_,c⟩
     by_cases hz:z<(i:Int)
     ·exact hz
     ·have e:z.toNat=i:=by omega
      rw[e]at c
      exact absurd (List.mem_map.mpr ⟨kv,h0,c.symm⟩) hk
   ·rw[List.mem_singleton]at h0
    subst h0
    simp only [List.mem_singleton]
    constructor
    ·rintro rfl;exact⟨by omega,by omega,by simp⟩
    ·rintro⟨a,b,c⟩
     by_cases hz:z<(i:Int)
     ·exfalso
      have key:=grpA_key M i z.toNat (by omega)
      rw[c]at key
      exact hk key
     ·omega
where
 grpA_key (M:List Int):∀ i j,j<i->mk M j∈(grpA M i).map (·.1)
  | 0,j,h=>absurd h (Nat.not_lt_zero j)
  | i+1,j,h=>by
   show mk M j∈(ζD3 (grpA M i) (i:Int) (mk M i)).map (·.1)
   rw[ζE1]
   by_cases hj:j<i
   ·have:=grpA_key M i j hj
    split
    ·exact this
    ·exact List.mem_append_left _ this
   ·have e:j=i:=by omega
    subst e
    split
    ·assumption
    ·simp
theorem grpA_key{M:List Int}{i j:Nat}(h:j<i):mk M j∈(grpA M i).map (·.1):=grpA_mem.grpA_key M i j h
theorem ζh1(M:List Int):∀ i k,k∈(grpA M i).map (·.1)->∃ j,j<i/\mk M j=k
 | 0,k,h=>by simp[grpA]at h
 | i+1,k,h=>by
  have h:k∈(ζD3 (grpA M i) (i:Int) (mk M i)).map (·.1):=h
  rw[ζE1]at h
  have old:k∈(grpA M i).map (·.1)->∃ j,j<i+1/\mk M j=k:=fun q=>by
   obtain⟨j,hj,e⟩:=ζh1 M i k q
   exact⟨j,by omega,e⟩
  split at h
  ·exact old h
  ·rcases List.mem_append.mp h with q | q
   ·exact old q
   ·rw[List.mem_singleton]at q
    exact⟨i,by omega,q.symm⟩
theorem ζ18{M:List Int}(hM:1<=M.length):(grp M).length=1↔∀ i j,i<M.length->j<M.length->mk M i=mk M j:=by
 unfold grp
 constructor
 ·intro h i j hi hj
  obtain⟨kv,e⟩:=List.length_eq_one_iff.mp h
  have h1:=grpA_key (M:=M) hi
  have h2:=grpA_key (M:=M) hj
  rw[e]at h1 h2
  rw[List.map_singleton,List.mem_singleton]at h1 h2
  rw[h1,h2]
 ·intro h
  have nd:=ζ72 M M.length
  have h0:=grpA_key (M:=M) (i:=M.length) (j:=0) (by omega)
  generalize hg:(grpA M M.length)=g at *
  match g,hg with
  | [],_=>simp at h0
  | [kv],_=>rfl
  | a :: b :: r,hg =>
   exfalso
   obtain⟨i,hi,e1⟩:=ζh1 M M.length a.1 (by rw[hg];simp)
   obtain⟨j,hj,e2⟩:=ζh1 M M.length b.1 (by rw[hg];simp)
   have e3:=h i j hi hj
   have:a.1=b.1:=by rw[<- e1,<- e2,e3]
   simp[this]at nd
theorem SameP.one{m l:List Int}(s:SameP m l):(∀ i j,i<m.length->j<m.length->mk m i=mk m j)↔(∀ i j,i<l.length->j<l.length->mk l i=mk l j):=by
 obtain⟨hl,h⟩:=s
 rw[<- hl]
 constructor
 ·intro q i j hi hj;exact(h i j hi hj).mp (q i j hi hj)
 ·intro q i j hi hj;exact(h i j hi hj).mpr (q i j hi hj)
theorem ζE3{M:List Int}:∀ {i:Nat} {kv:Int × List Int},kv∈grpA M i->kv.2.length<=i
 | 0,kv,h=>by simp[grpA]at h
 | i+1,kv,h=>by
  unfold grpA ζD3 at h
  split at h
  ·obtain⟨kv0,h0,e⟩:=List.mem_map.mp h
   have ih:=ζE3 h0
   by_cases hc:kv0.1=mk M i
   ·rw[if_pos hc]at e
    subst e
    rw[List.length_append,List.length_singleton]
    omega
   ·rw[if_neg hc]at e
    subst e
    omega
  ·rcases List.mem_append.mp h with h0 | h0
   ·have ih:=ζE3 h0
    omega
   ·rw[List.mem_singleton]at h0
    subst h0
    simp
end My
namespace My
open PySem L2 PyProof.Rows
theorem ζS5(z:Int)(l:List Int):inV (.int z) (IL l)=decide (z∈l):=by
 unfold inV
 rw[List.any_map]
 rw[Bool.eq_iff_iff,List.any_eq_true,decide_eq_true_iff]
 constructor
 ·rintro⟨y,hy,e⟩
  have e':y=z:=by simpa [eqV] using e
  rw[<- e'];exact hy
 ·intro h;exact⟨z,h,by simp[eqV]⟩
theorem ζi4(l:List Int):(IL l).all ζi3=true:=by
 rw[List.all_map,List.all_eq_true]
 intro x _
 rfl
theorem ζI{a b:Int}:decide (V.int a=V.int b)=decide (a=b):=by
 by_cases h:a=b
 ·subst h;simp
 ·have h':¬ V.int a=V.int b:=fun z=>h (V.int.inj z)
  rw[decide_eq_false h,decide_eq_false h']
theorem ζB9{a b:Bool}:decide (V.bl a=V.bl b)=decide (a=b):=by
 by_cases h:a=b
 ·subst h;simp
 ·have h':¬ V.bl a=V.bl b:=fun z=>h (V.bl.inj z)
  rw[decide_eq_false h,decide_eq_false h']
end My
namespace My
open PySem L2
def IsSet(m:Nat)(ns:List Int):Prop:=∀ i z,ns[i]?=some z->0<=z/\z<(m:Int)/\∀ y,i≠0->ns[i - 1]?=some y->y<z
def ζc(ps:List (Int × Int))(ns:List Int):List (Nat × Nat):=ns.map fun z=>((ps.getD z.toNat (0,0)).1.toNat,(ps.getD z.toNat (0,0)).2.toNat)
theorem ζT4{ps:List (Int × Int)}{ns:List Int}{i:Nat}{z:Int}(h:ns[i]?=some z):ζc ps (ns.take (i+1))=ζc ps (ns.take i)++[((ps.getD z.toNat (0,0)).1.toNat,(ps.getD z.toNat (0,0)).2.toNat)]:=by
 unfold ζc
 rw[List.take_succ,h]
 simp
theorem ζO7{m:List Int}{i:Nat}(h:i<m.length):m[i]?=some (mk m i):=by
 rw[List.getElem?_eq_getElem h]
 simp[mk,List.getD_eq_getElem?_getD,List.getElem?_eq_getElem h]
theorem ζI6(n:Int):rngI 0 n=(List.range n.toNat).map fun(i:Nat)=>(i:Int):=by
 unfold rngI
 rw[Int.sub_zero]
 refine List.map_congr_left fun i _=>?_
 omega
def gkv(g:List (Int × List Int))(as:List Addr):List (Key × V):=List.zipWith (fun kv a=>((Sum.inl kv.1:Key),V.ref a)) g as
theorem ζV5{g:List (Int × List Int)}{as:List Addr}(h:as.length=g.length):(gkv g as).length=g.length:=by unfold gkv;rw[List.length_zipWith];omega
theorem ζ38:∀ {g:List (Int × List Int)} {as:List Addr},as.length=g.length->(gkv g as).map (·.2)=as.map V.ref
 | [],[],_=>rfl
 | [],_ :: _,h=>by simp at h
 | _ :: _,[],h=>by simp at h
 | kv :: g,a :: as,h=>by
  show V.ref a :: (gkv g as).map (·.2)=V.ref a :: as.map V.ref
  rw[ζ38 (Nat.succ.inj h)]
theorem ζW5:∀ {g g':List (Int × List Int)} {as:List Addr},g.map (·.1)=g'.map (·.1)->gkv g as=gkv g' as
 | [],[],_,_=>rfl
 | [],_ :: _,_,h=>by simp at h
 | _ :: _,[],_,h=>by simp at h
 | kv :: g,kv' :: g',[],_=>rfl
 | kv :: g,kv' :: g',a :: as,h=>by
  rw[List.map_cons,List.map_cons,List.cons.injEq]at h
  show((Sum.inl kv.1:Key),V.ref a) :: gkv g as=((Sum.inl kv'.1:Key),V.ref a) :: gkv g' as
  rw[h.1,ζW5 h.2]
theorem ζU5:∀ {g:List (Int × List Int)} {as:List Addr} {kv:Int × List Int} {a:Addr},as.length=g.length->gkv (g++[kv]) (as++[a])=gkv g as++[((Sum.inl kv.1:Key),V.ref a)]
 | [],[],_,_,_=>rfl
 | [],_ :: _,_,_,h=>by simp at h
 | _ :: _,[],_,_,h=>by simp at h
 | x :: g,y :: as,kv,a,h=>by
  show _ :: gkv (g++[kv]) (as++[a])=_ :: (gkv g as++_)
  rw[ζU5 (Nat.succ.inj h)]
theorem ζT5:∀ {g:List (Int × List Int)} {as:List Addr} {k:Int},as.length=g.length ->
  (valV (gkv g as) (Sum.inl k:Key)=none/\k∉g.map (·.1))\/∃(j:Nat) (kv:Int × List Int) (a:Addr),g[j]?=some kv/\as[j]?=some a/\kv.1=k/\valV (gkv g as) (Sum.inl k:Key)=some (.ref a)
 | [],[],k,_=>.inl ⟨rfl,by simp⟩
 | [],_ :: _,_,h=>by simp at h
 | _ :: _,[],_,h=>by simp at h
 | kv :: g,a :: as,k,h=>by
  by_cases e:kv.1=k
  ·refine .inr ⟨0,kv,a,rfl,rfl,e,?_⟩
   show valV (((Sum.inl kv.1:Key),V.ref a) :: gkv g as) _=_
   rw[ζk3 (by rw[e])]
  ·have e':¬ ((Sum.inl kv.1:Key)=Sum.inl k):=fun z=>e (Sum.inl.inj z)
   have ev:valV (gkv (kv :: g) (a :: as)) (Sum.inl k:Key)=valV (gkv g as) (Sum.inl k:Key):=ζl3 (p:=((Sum.inl kv.1:Key),V.ref a)) e'
   rcases ζT5 (g:=g) (as:=as) (k:=k) (Nat.succ.inj h) with ⟨h1,h2⟩ | ⟨j,kv',a',h1,h2,h3,h4⟩
   ·refine .inl ⟨by rw[ev];exact h1,?_⟩
    rw[List.map_cons,List.mem_cons]
    rintro(z | z)
    ·exact e z.symm
    ·exact h2 z
   ·exact .inr ⟨j+1,kv',a',by simpa using h1,by simpa using h2,h3,by rw[ev];exact h4⟩
structure GrpAt (H0 H:Hp) (g:List (Int × List Int)) (as:List Addr):Prop where
 len:as.length=g.length
 nd:as.Nodup
 at_:∀(i:Nat) (kv:Int × List Int) (a:Addr),g[i]?=some kv->as[i]?=some a->H a=some (.lst (IL kv.2))
 new:∀ a∈as,H0 a=none
theorem GrpAt.same{H0 H H':Hp}{g:List (Int × List Int)}{as:List Addr}(s:Same H H')(h:GrpAt H0 H g as):GrpAt H0 H' g as:=⟨h.len,h.nd,fun i kv a e1 e2=>s _ _ (h.at_ i kv a e1 e2),h.new⟩
theorem GrpAt.mem{H0 H:Hp}{g:List (Int × List Int)}{as:List Addr}(h:GrpAt H0 H g as){a:Addr}(ha:a∈as):∃ l,H a=some (.lst l):=by
 obtain⟨i,hi,e⟩:=List.getElem_of_mem ha
 have hg:i<g.length:=by rw[<- h.len];exact hi
 exact⟨_,h.at_ i g[i] a (List.getElem?_eq_getElem hg) (by rw[List.getElem?_eq_getElem hi,e])⟩
theorem IsSet.all{m:Nat}{ns:List Int}(h:IsSet m ns):∀ z∈ns,0<=z/\z<(m:Int):=fun z hz=>by
 obtain⟨i,hi,e⟩:=List.getElem_of_mem hz
 obtain⟨a,b,_⟩:=h i z (by rw[List.getElem?_eq_getElem hi,e])
 exact⟨a,b⟩
theorem IsSet.nil(m:Nat):IsSet m []:=fun i z e=>by simp at e
theorem IsSet.up{m:Nat}{ns:List Int}(h:IsSet m ns):IsSet (m+1) ns:=fun i z e=>by
 obtain⟨a,b,c⟩:=h i z e
 exact⟨a,by omega,c⟩
theorem IsSet.snoc{m:Nat}{ns:List Int}(h:IsSet m ns):IsSet (m+1) (ns++[(m:Int)]):=fun i z e=>by
 by_cases hi:i<ns.length
 ·rw[List.getElem?_append_left hi]at e
  obtain⟨a,b,c⟩:=h i z e
  refine⟨a,by omega,fun y h0 ey=>?_⟩
  rw[List.getElem?_append_left (by omega)]at ey
  exact c y h0 ey
 ·have hl:i=ns.length:=by
   have:=(List.getElem?_eq_some_iff.mp e).1
   rw[List.length_append,List.length_singleton]at this
   omega
  subst hl
  rw[List.getElem?_append_right (Nat.le_refl _),Nat.sub_self]at e
  have e:(m:Int)=z:=Option.some.inj e
  subst e
  refine⟨by omega,by omega,fun y h0 ey=>?_⟩
  rw[List.getElem?_append_left (by omega)]at ey
  exact(h _ y ey).2.1
theorem IsSet.len{m:Nat}:∀ {ns:List Int},IsSet m ns->ns.length<=m:=fun {ns} h=>by
 have key:∀(i:Nat) (z:Int),ns[i]?=some z->(i:Int)<=z:=by
  intro i
  induction i with
  | zero=>intro z e;exact(h 0 z e).1
  | succ i ih =>
   intro z e
   have hi:i<ns.length:=by have:=(List.getElem?_eq_some_iff.mp e).1;omega
   have e2:ns[i]?=some ns[i]:=List.getElem?_eq_getElem hi
   have:=ih _ e2
   have:=(h (i+1) z e).2.2 ns[i] (by omega) (by rw[Nat.add_sub_cancel];exact e2)
   omega
 by_cases h0:ns.length=0
 ·omega
 ·have e:ns[ns.length - 1]?=some (ns[ns.length - 1]'(by omega)):=List.getElem?_eq_getElem _
  have a:=key _ _ e
  have b:=(h _ _ e).2.1
  omega
end My
namespace L2
open PySem PySem.Spec PyProof.Rows
section
variable{X:Cx}
def ζ812(K:PySem.W.Frag):V->List V->Hp->VK->Prop:=fun x vs H Q=>∃(p:Addr) (ns:List Int) (z:Int) (j:Nat),x=.ref p/\vs=[.int z]/\SqL K H p (ns.map V.int)/\ns[j]?=some z/\(∀ i,i<j->ns[i]?≠some z)/\Q (.int j) H
theorem ζY6 (K:PySem.W.Frag) (h:X.K=K:=by rfl):MtM X "list.index" (ζ812 K):=by
 subst h
 intro pins s σ H x vs v us Q I rx rv h
 obtain⟨p,ns,z,j,rfl,rfl,hq,hj,hno,q⟩:=h
 cases rx
 obtain⟨u,rfl,t,rfl⟩:=rv.one
 obtain⟨its,r,⟨o,n,e,hc,hd,hdat⟩,hz⟩:=I.list hq
 have hl:its.length=ns.length:=by rw[<- r.length,List.length_map]
 have hjl:j<ns.length:=(List.getElem?_eq_some_iff.mp hj).1
 have hsz:sizeLine=16777216:=sizeLine_eq
 rw[List.length_map]at hz
 obtain⟨oc,od,odat,osl⟩:=o
 have hc:oc=.type "list":=hc
 have hdat:odat=.seq its.toArray n:=hdat
 subst hc hdat
 have at_:∀(i:Nat) (hi:i<its.length),∃ tk,its[i]=.int (ns[i]'(by omega)) tk:=fun i hi=>by
  obtain⟨x,ex,rx⟩:=r.at hi
  rw[List.getElem?_map,List.getElem?_eq_getElem (by omega)]at ex
  have ex:V.int (ns[i]'(by omega))=x:=Option.some.inj ex
  subst ex
  exact rx
 refine call_meets F.slot_list_index ⟨_,e,rfl⟩ F.entry_list_index (F.args_list_index_2 _ _) (SeqAt.list_indexAt p its.toArray n od osl (.int z t) (fun y=>eqU (.int z) y) j (by rw[List.size_toArray];omega) (by omega) ?_ ?_) ⟨e,fun y hy=>?_,?_⟩
 ·obtain⟨tk,e1⟩:=at_ j (by omega)
  have e2:ns[j]'(by omega)=z:=by
   rw[List.getElem?_eq_getElem hjl]at hj
   exact Option.some.inj hj
  have e3:its.toArray[j]'(by rw[List.size_toArray];omega)=.int z tk:=by rw[<- e2];simpa using e1
  rw[e3]
  simp[eqU,eqV]
 ·intro m hm hmj
  have hm':m<its.length:=by rw[List.size_toArray]at hm;exact hm
  obtain⟨tk,e1⟩:=at_ m hm'
  have e3:its.toArray[m]'hm=.int (ns[m]'(by omega)) tk:=by simpa using e1
  rw[e3]
  have hne:=hno m hmj
  rw[List.getElem?_eq_getElem (by omega)]at hne
  have hne':ns[m]'(by omega)≠z:=fun w=>hne (congrArg some w)
  simp[eqU,eqV,hne']
 ·refine ζI1 (x:=.int z) ⟨t,rfl⟩ rfl r ?_ y (by simpa using hy)
  rw[List.all_map,List.all_eq_true]
  intro _ _
  rfl
 ·exact⟨.int j,H,I.tok _,⟨_,rfl⟩,q⟩
theorem ζK4{prog:Program}{w:World}{A:Around}{its:Array Value}{bs:List Bool}(h:∀(i:Nat) (v:Value),its[i]?=some v->∃ b,bs[i]?=some b/\v=.bool b):TruthOf prog w A (fun i v=>its[i]?=some v) (fun i=>bs.getD i false):=by
 intro i v s Q E hP hQ
 obtain⟨b,eb,rfl⟩:=h i v hP
 have hQ:Q (bs.getD i false) s:=hQ
 rw[List.getD_eq_getElem?_getD,eb]at hQ
 exact wpAny_truthy_bool hQ
theorem ζO9(bs:List Bool):(List.range bs.length).any (fun i=>bs.getD i false)=bs.any id:=by
 rw[Bool.eq_iff_iff,List.any_eq_true,List.any_eq_true]
 constructor
 ·rintro⟨i,hi,e⟩
  have hi:=List.mem_range.mp hi
  rw[List.getD_eq_getElem?_getD,List.getElem?_eq_getElem hi]at e
  exact⟨_,List.getElem_mem hi,e⟩
 ·rintro⟨b,hb,e⟩
  obtain⟨i,hi,ei⟩:=List.getElem_of_mem hb
  refine⟨i,List.mem_range.mpr hi,?_⟩
  rw[List.getD_eq_getElem?_getD,List.getElem?_eq_getElem hi,ei]
  exact e
theorem ζK9{bs:List Bool}{its:List Value}(r:Vals (bs.map V.bl) its):∀(i:Nat) (v:Value),its.toArray[i]?=some v->∃ b,bs[i]?=some b/\v=.bool b:=fun i v e=>by
 have e:its[i]?=some v:=by simpa using e
 have hi:i<its.length:=(List.getElem?_eq_some_iff.mp e).1
 obtain⟨x,ex,rx⟩:=r.at hi
 rw[List.getElem?_map]at ex
 cases eb:bs[i]? with
 | none=>rw[eb]at ex;cases ex
 | some b =>
  rw[eb]at ex
  have ex:V.bl b=x:=Option.some.inj ex
  subst ex
  rw[List.getElem?_eq_getElem hi]at e
  have e:its[i]=v:=Option.some.inj e
  rw[e]at rx
  exact⟨b,rfl,rx⟩
theorem ζz4 (K:PySem.W.Frag) (hc:X.calm=true) (h:X.K=K:=by rfl):ζi2 X (.builtin "any") (fun xs H Q=>∃(p:Addr) (bs:List Bool),xs=[.ref p]/\SqL K H p (bs.map V.bl)/\Q (.bl (bs.any id)) H):=by
 subst h
 intro pins s σ H xs us Q I r h
 obtain⟨p,bs,rfl,hq,q⟩:=h
 obtain⟨u,rfl,ru⟩:=ζh3 r
 obtain rfl:u=Value.ref p:=ru
 obtain⟨its,rv,pl,hz⟩:=I.list hq
 have hl:its.toArray.size=bs.length:=by rw[List.size_toArray,<- rv.length,List.length_map]
 have hne:p≠s.heap.objs.size:=Nat.ne_of_lt (let ⟨_,_,e,_⟩:=pl;Heap.lt_size e)
 refine call_any_walk (wpAny_pyIter_list pl.isList ⟨s.heap.objs.size,_,_,_,_,_,_,rfl,Walks.list (A:=X.A.in1) (I.ok.hd hc) s.heap.objs.size p hne its.toArray,⟨⟨_,Heap.get?_push_size _ rfl,rfl,rfl⟩,pl.isList.push _⟩,ζK4 (ζK9 rv),fun h' tk hk=>?_⟩)
 rw[hl,ζO9]
 refine⟨.bl (bs.any id),H,I.kept fun b o e=>hk b o ?_ (Heap.get?_push_of_some _ e),rfl,q⟩
 intro z
 rw[List.mem_singleton.mp z]at e
 exact absurd (Heap.lt_size e) (Nat.lt_irrefl _)
end
end L2
namespace My
open PySem L2
section
variable{K:PySem.W.Frag}{H:Hp}{α:Type}[DecidableEq α]
def Bears(R:V->α->Prop)(xs:List V)(l:List α):Prop:=xs.length=l.length/\∀(i:Nat) (a:α),l[i]?=some a->∃ x,xs[i]?=some x/\R x a
theorem Bears.at{R:V->α->Prop}{xs:List V}{l:List α}(h:Bears R xs l){i:Nat}{x:V}(e:xs[i]?=some x):∃ a,l[i]?=some a/\R x a:=by
 have hi:i<xs.length:=(List.getElem?_eq_some_iff.mp e).1
 have hl:i<l.length:=by rw[<- h.1];exact hi
 obtain⟨x',e1,q⟩:=h.2 i l[i] (List.getElem?_eq_getElem hl)
 rw[e]at e1
 cases e1
 exact⟨_,List.getElem?_eq_getElem hl,q⟩
theorem ζx11{l m:List α}(h:l.length=m.length):(List.range l.length).all (fun i=>decide (l[i]?=m[i]?))=decide (l=m):=by
 rw[Bool.eq_iff_iff,List.all_eq_true,decide_eq_true_iff]
 constructor
 ·intro q
  refine List.ext_getElem? fun i=>?_
  by_cases hi:i<l.length
  ·exact of_decide_eq_true (q i (List.mem_range.mpr hi))
  ·rw[List.getElem?_eq_none (by omega),List.getElem?_eq_none (by omega)]
 ·rintro rfl i _
  simp
theorem ζ46{R:V->α->Prop}{n:Nat}{p q:Addr}{xs ys:List V}{l m:List α}(hp:SqT K H p xs)(hq:SqT K H q ys)(h1:Bears R xs l)(h2:Bears R ys m)(hR:∀ x y a b,R x a->R y b->EqD K H n x y (decide (a=b))):EqD K H (n+1) (.ref p) (.ref q) (decide (l=m)):=by
 have key:=EqD.tups (e:=fun i=>decide (l[i]?=m[i]?)) hp hq fun i x y ex ey=>by
  obtain⟨a,ea,ra⟩:=h1.at ex
  obtain⟨b,eb,rb⟩:=h2.at ey
  rw[ea,eb,show decide (some a=some b)=decide (a=b) by simp]
  exact hR x y a b ra rb
 by_cases hl:xs.length=ys.length
 ·have e:=ζx11 (l:=l) (m:=m) (by rw[<- h1.1,<- h2.1,hl])
  rw[<- hl,Nat.min_self,h1.1,e,show(l.length == l.length)=true by simp,Bool.and_true]at key
  exact key
 ·have e:decide (l=m)=false:=decide_eq_false fun z=>hl (by rw[h1.1,h2.1,z])
  rw[show(xs.length == ys.length)=false by simpa using hl,Bool.and_false]at key
  rw[e]
  exact key
theorem ζt6(ns:List Int):Bears (fun x (z:Int)=>x=.int z) (IL ns) ns:=⟨ζ7 ns,fun i z e=>⟨_,ζ05 e,rfl⟩⟩
theorem ζb11{n:Nat}{x y:V}{a b:Int}(hx:x=.int a)(hy:y=.int b):EqD K H n x y (decide (a=b)):=by
 subst hx hy
 have e:decide (a=b)=eqV (.int a) (.int b):=by
  show decide (a=b)=(a == b)
  rw[Bool.beq_eq_decide_eq]
 rw[e]
 exact EqD.flat rfl rfl
theorem ζq2{xs:List V}{ps:List (Int × Int)}(h:PairsV H xs ps):Bears (PairV H) xs ps:=h
theorem ζG3{n:Nat}{x y:V}{a b:Int × Int}(hx:PairV H x a)(hy:PairV H y b):EqD K H (n+1) x y (decide (a=b)):=by
 obtain⟨t,rfl,ht⟩:=hx
 obtain⟨u,rfl,hu⟩:=hy
 have be:∀ c:Int × Int,Bears (fun x (z:Int)=>x=.int z) ([.int c.1,.int c.2]:List V) [c.1,c.2]:=fun c=>ζt6 [c.1,c.2]
 have k:=ζ46 (n:=n) (SqT.of ht) (SqT.of hu) (be a) (be b) fun _ _ _ _=>ζb11 (K:=K) (H:=H)
 have e:decide ([a.1,a.2]=[b.1,b.2])=decide (a=b):=by
  obtain⟨a1,a2⟩:=a
  obtain⟨b1,b2⟩:=b
  simp
 rw[e]at k
 exact k
def ζT2(H:Hp)(v:V)(l:List Int):Prop:=∃ a,v=.ref a/\H a=some (.lst (IL l))
end
end My
namespace My
def fstB(M:List Int)(p:Nat):Bool:=(List.range p).all fun i=>decide (mk M i≠mk M p)
def posA(M:List Int)(k:Int)(i:Nat):List Int:=((List.range i).filter fun j=>decide (mk M j=k)).map fun(j:Nat)=>(j:Int)
def fstA(M:List Int)(i:Nat):List Nat:=(List.range i).filter (fstB M)
theorem fstB_iff{M:List Int}{p:Nat}:fstB M p=true↔∀ i,i<p->mk M i≠mk M p:=by
 unfold fstB
 rw[List.all_eq_true]
 constructor
 ·intro h i hi;exact of_decide_eq_true (h i (List.mem_range.mpr hi))
 ·intro h i hi;exact decide_eq_true (h i (List.mem_range.mp hi))
theorem ζy2(M:List Int)(k:Int)(i:Nat):posA M k (i+1)=posA M k i++(if mk M i=k then [(i:Int)] else []):=by
 unfold posA
 rw[List.range_succ,List.filter_append,List.map_append]
 congr 1
 by_cases h:mk M i=k
 ·rw[if_pos h,List.filter_cons,if_pos (by simpa using h)];rfl
 ·rw[if_neg h,List.filter_cons,if_neg (by simpa using h)];rfl
theorem ζf4(M:List Int)(i:Nat):fstA M (i+1)=fstA M i++(if fstB M i=true then [i] else []):=by
 unfold fstA
 rw[List.range_succ,List.filter_append]
 congr 1
 by_cases h:fstB M i=true
 ·rw[if_pos h,List.filter_cons,if_pos h];rfl
 ·rw[if_neg h,List.filter_cons,if_neg h];rfl
theorem ζ28(M:List Int):∀ i,grpA M i=(fstA M i).map fun p=>(mk M p,posA M (mk M p) i)
 | 0=>rfl
 | i+1=>by
  have ih:=ζ28 M i
  show ζD3 (grpA M i) (i:Int) (mk M i)=_
  have hk:(mk M i∈(grpA M i).map (·.1))↔fstB M i≠true:=by
   constructor
   ·intro h q
    obtain⟨j,hj,e⟩:=ζh1 M i _ h
    exact fstB_iff.mp q j hj e
   ·intro h
    by_cases q:∃ j,j<i/\mk M j=mk M i
    ·obtain⟨j,hj,e⟩:=q
     rw[<- e]
     exact grpA_key hj
    ·exact absurd (fstB_iff.mpr fun j hj e=>q ⟨j,hj,e⟩) h
  unfold ζD3
  by_cases h:mk M i∈(grpA M i).map (·.1)
  ·have hf:=hk.mp h
   rw[if_pos h,ζf4,if_neg hf,List.append_nil,ih,List.map_map]
   refine List.map_congr_left fun p _=>?_
   show(if mk M p=mk M i then (mk M p,posA M (mk M p) i++[(i:Int)]) else (mk M p,posA M (mk M p) i))=(mk M p,posA M (mk M p) (i+1))
   rw[ζy2]
   by_cases e:mk M p=mk M i
   ·rw[if_pos e,if_pos e.symm]
   ·rw[if_neg e,if_neg (fun z=>e z.symm),List.append_nil]
  ·have hf:fstB M i=true:=by
    cases q:fstB M i with
    | true=>rfl
    | false=>exact absurd (hk.mpr (by rw[q];exact Bool.false_ne_true)) h
   rw[if_neg h,ζf4,if_pos hf,List.map_append,ih]
   congr 1
   ·refine List.map_congr_left fun p hp=>?_
    have hpi:p<i:=List.mem_range.mp (List.mem_filter.mp hp).1
    rw[ζy2,if_neg (fun z=>fstB_iff.mp hf p hpi z.symm),List.append_nil]
   ·show [(mk M i,[(i:Int)])]=[(mk M i,posA M (mk M i) (i+1))]
    rw[ζy2,if_pos rfl]
    have e0:posA M (mk M i) i=[]:=by
     unfold posA
     rw[List.filter_eq_nil_iff.mpr fun j hj=>by simpa using fstB_iff.mp hf j (List.mem_range.mp hj)]
     rfl
    rw[e0]
    rfl
end My
namespace My
open PySem L2
theorem Bears.snoc{α:Type}[DecidableEq α]{R:V->α->Prop}{xs:List V}{l:List α}{x:V}{a:α}(h:Bears R xs l)(hx:R x a):Bears R (xs++[x]) (l++[a]):=by
 refine⟨by rw[List.length_append,List.length_append,h.1];rfl,fun i b e=>?_⟩
 by_cases hi:i<l.length
 ·rw[List.getElem?_append_left hi]at e
  rw[List.getElem?_append_left (by rw[h.1];exact hi)]
  exact h.2 i b e
 ·have hl:i=l.length:=by
   have:=(List.getElem?_eq_some_iff.mp e).1
   rw[List.length_append,List.length_singleton]at this
   omega
  subst hl
  rw[List.getElem?_append_right (Nat.le_refl _),Nat.sub_self]at e
  rw[List.getElem?_append_right (by rw[h.1];exact Nat.le_refl _),h.1,Nat.sub_self]
  have e':a=b:=Option.some.inj e
  subst e'
  exact⟨x,rfl,hx⟩
theorem Bears.imp{α:Type}[DecidableEq α]{R R':V->α->Prop}{xs:List V}{l:List α}(h:Bears R xs l)(f:∀ x a,R x a->R' x a):Bears R' xs l:=⟨h.1,fun i a e=>let ⟨x,e1,r⟩:=h.2 i a e;⟨x,e1,f x a r⟩⟩
end My
namespace L2
open PySem PySem.Spec PyProof.Rows
theorem ObjOk.there{P:Program}{w:World}{H:Hp}{h:Heap}{a:Addr}{o:HO}(x:ObjOk P w H h a o):∃ u,h.get? a=some u:=by
 cases o with
 | lst xs=>obtain⟨_,_,_,_,e⟩:=x;exact⟨_,e⟩
 | tup xs=>obtain⟨_,_,_,o,e,_⟩:=x;exact⟨_,e⟩
 | dK kvs=>obtain⟨_,_,_,_,o,_,_,e,_⟩:=x;exact⟨_,e⟩
 | dT kvs=>obtain⟨_,_,_,_,o,_,_,e,_⟩:=x;exact⟨_,e⟩
 | set S n=>obtain⟨o,_,_,_,e,_⟩:=x;exact⟨_,e⟩
 | ins C dx fs=>obtain⟨_,_,_,e,_⟩:=x;exact⟨_,e⟩
 | own y=>exact x
 | xd fs=>obtain⟨_,⟨_,_,_,e,_⟩,_⟩:=x;exact⟨_,e⟩
 | rng lo hi=>obtain⟨_,_,_,e⟩:=x;exact⟨_,e⟩
 | frz ob u=>obtain⟨e,_⟩:=x;exact⟨_,e⟩
 | tbl ps=>exact⟨_,x⟩
 | met f y=>exact⟨_,x⟩
 | ext φ=>obtain⟨_,e,_⟩:=x;exact e
structure Fly (h0:Heap) (H:Hp) (e C:Addr) (h:Heap):Prop where
 ex:∃ oe vs T oT ts a0,h.get? e=some oe/\oe.cls=.ref C/\oe.data=.fields vs/\vs[0]?=some a0/\vs[1]?=some (.ref T)/\T≠e/\h.get? T=some oT/\oT.data=.fields ts/\ts[3]?=some .none/\h0.get? T=none/\H T=none
 new:h0.get? e=none
 free:H e=none
section
variable{X:Cx}{pins:List (Addr × Obj)}{σ:St}{H:Hp}{s:Shared}{e C:Addr}
end
section
variable{P:Program}{w:World}{K:PySem.W.Frag}{mg:Str->Option Value}{base:Heap}
end
structure XCls (K:PySem.W.Frag) (C:Addr):Prop where
 ex:PySem.W.excIn K C [.type "ValueError",.type "Exception",.type "BaseException",.type "object"] "ValueError.__new__"=true
 ga:PySem.W.findIn K (.ref C) "__getattribute__"=some (some (.builtin "BaseException.__getattribute__"))
 gh:PySem.W.findIn K (.ref C) "__getattr__"=some none
 cl:PySem.W.findIn K (.ref C) "__class__"=some (some (.builtin "object.__class__"))
 ob:PySem.W.mroIn K C (.type "object")=some true
 bx:PySem.W.mroIn K C (.type "BaseException")=some true
section
variable{X:Cx}{pins:List (Addr × Obj)}{σ:St}{H:Hp}{s:Shared}{e C:Addr}
end
section
variable{X:Cx}{pins pins':List (Addr × Obj)}{σ:St}{H:Hp}{s:Shared}{R:St->XK}{e C:Addr}{oe:Obj}
end
section
variable{X:Cx}{CX:CXT}{k:Nat}{f C:Addr}{fd:FuncData}{ps:List Str}{sp:Sp}{dvs:List V}{ds:List Value}{R:St->XK}{x m:Str}{p pos apos:Pos}{e o:Expr}{es:List Expr}{ta:TE}{t:TA}
end
end L2
namespace L2
open PySem PySem.Spec PyProof.Rows PySem.W PySem.Calls Builtin Builtin.ObjectAttr Builtin.Getset_descriptor
section
variable{prog:Program}{w:World}{A:Around}{E:Value->Shared->Prop}{K:PySem.W.Frag}{x C:Addr}{ox:Obj}
end
theorem XCls.isSome{K:PySem.W.Frag}{C:Addr}(c:XCls K C):(clsIn K C).isSome=true:=by
 have q:=c.ex
 unfold excIn at q
 unfold clsIn
 split at q
 ·rename_i dd cd sl ho
  rw[ho]
  rfl
 ·cases q
section
variable{X:Cx}
end
end L2
namespace L2
open PySem PySem.Spec PyProof.Rows
theorem ζ17{a:Int}(h1:-(10 ^ 70)<a)(h2:a<10 ^ 70):a.natAbs.log2<1920:=by
 have h:a.natAbs<10 ^ 70:=by omega
 by_cases h0:a.natAbs=0
 ·rw[h0];decide
 ·exact(Nat.log2_lt h0).mpr (Nat.lt_trans h (by decide))
section
variable{X:Cx}{es:List Expr}{e:Expr}{te:TE}{t:St->Hp->(Hp->Prop)->Prop}{pos:Pos}
end
end L2
namespace My
open PySem L2
end My
namespace L2
open PySem PySem.Spec PyProof.Rows
theorem ζm1:∀ {us:List Value} {ns:List Int},IntsAre us ns->Vals (ns.map V.int) us
 | [],[],_=>.nil
 | _ :: _,[],h=>by cases h
 | [],_ :: _,h=>by cases h
 | u :: us,n :: ns,h=>by
  cases h with
  | cons _ _ t=>exact .cons ⟨_,rfl⟩ (ζm1 t)
section
variable{X:Cx}
theorem ζe2 (K:PySem.W.Frag) (hk:X.K=K:=by rfl):ζi2 X (.builtin "sorted") (fun xs H Q=>∃(p:Addr) (ns:List Int),xs=[.ref p]/\SqL K H p (ns.map V.int)/\ns.length<64 /\
  ∀ ms:List Int,ms.Perm ns->ms.Pairwise (·<=·)->∀ l,H l=none->Q (.ref l) (upd H l (.lst (ms.map V.int)))):=by
 subst hk
 intro pins s σ H xs us Q I r h
 obtain⟨p,ns,rfl,hq,hn,q⟩:=h
 obtain⟨u,rfl,ru⟩:=ζh3 r
 obtain rfl:u=Value.ref p:=ru
 obtain⟨its,rv,pl,hz⟩:=I.list hq
 have hi:=ζ41 rv
 have hl:its.length=ns.length:=by rw[<- rv.length,List.length_map]
 refine sorted_ints pl.isList hi (by omega) fun out ms h1 h2 h3=>?_
 obtain⟨e,he⟩:=sortedAll_at s.heap its out
 have hml:ms.length=ns.length:=h2.length_eq
 refine⟨.ref (s.heap.objs.size+1),_,I.laid (t':=s.toks) (o:=.lst (ms.map V.int)) (fun b o g=>sortedAll_old g) (Nat.le_succ _) ⟨?_,out.toList,e,ζm1 h1,?_⟩,rfl,q ms h2 h3 _ (I.hok.fresh (Nat.le_succ _))⟩
 ·rw[List.length_map,hml]
  have:sizeLine=16777216:=sizeLine_eq
  omega
 ·exact he
section
variable{prog:Program}{w:World}{A:Around}{E:Value->Shared->Prop}{s:Shared}{it a:Addr}{items:Array Value}
end
end
section
variable{X:Cx}{p p2 pos pos2:Pos}{e:Expr}{t:TA}
end
end L2
namespace My
open PySem L2
theorem isSet_iff{m:Nat}{ns:List Int}:IsSet m ns↔(∀ z∈ns,0<=z/\z<(m:Int))/\ns.Pairwise (· < ·):=by
 constructor
 ·intro h
  refine⟨h.all,?_⟩
  rw[List.pairwise_iff_getElem]
  intro i j hi hj hij
  induction j with
  | zero=>exact absurd hij (Nat.not_lt_zero i)
  | succ j ih =>
   have hj':j<ns.length:=by omega
   have key:=(h (j+1) ns[j+1] (List.getElem?_eq_getElem hj)).2.2 ns[j] (by omega) (by rw[Nat.add_sub_cancel];exact List.getElem?_eq_getElem hj')
   by_cases e:i=j
   ·subst e;exact key
   ·have:=ih hj' (by omega)
    omega
 ·rintro⟨ha,hp⟩ i z hz
  obtain⟨hi,ei⟩:=List.getElem?_eq_some_iff.mp hz
  have hm:=ha z (List.mem_of_getElem? hz)
  refine⟨hm.1,hm.2,fun y h0 hy=>?_⟩
  obtain⟨hi',ei'⟩:=List.getElem?_eq_some_iff.mp hy
  have:=List.pairwise_iff_getElem.mp hp (i - 1) i hi' hi (by omega)
  rw[ei,ei']at this
  exact this
theorem ζr1{ns:List Int}(h:ns.Pairwise (· < ·)):ns.Nodup:=h.imp fun hab e=>by omega
theorem IsSet.nodup{m:Nat}{ns:List Int}(h:IsSet m ns):ns.Nodup:=ζr1 (isSet_iff.mp h).2
end My
namespace My
theorem ζn1{α:Type}{P:List α->Prop}(h0:P [])(h1:∀ l x,P l->P (l++[x])):∀ l,P l:=by
 intro l
 rw[<- List.reverse_reverse l]
 induction l.reverse with
 | nil=>exact h0
 | cons x r ih =>
  rw[List.reverse_cons]
  exact h1 _ _ ih
inductive Conn (es:List (Nat × Nat)):Nat->Nat->Prop
 | refl (i:Nat):Conn es i i
 | edge {a b:Nat} (h:(a,b)∈es):Conn es a b
 | symm {i j:Nat}:Conn es i j->Conn es j i
 | trans {i j k:Nat}:Conn es i j->Conn es j k->Conn es i k
theorem Conn.mono{es fs:List (Nat × Nat)}(h:∀ e∈es,e∈fs){i j:Nat}(c:Conn es i j):Conn fs i j:=by
 induction c with
 | refl i=>exact .refl i
 | edge q=>exact .edge (h _ q)
 | symm _ ih=>exact .symm ih
 | trans _ _ i1 i2=>exact .trans i1 i2
theorem ζB2{n i:Nat}(h:i<n):mk ((List.range n).map fun(i:Nat)=>(i:Int)) i=(i:Int):=by
 rw[mk_map' h]
where
 mk_map' {n i:Nat} (h:i<n):mk ((List.range n).map fun(i:Nat)=>(i:Int)) i=(i:Int):=by
  simp[mk,List.getD_eq_getElem?_getD,List.getElem?_map,List.getElem?_range h]
def InN(n:Nat)(es:List (Nat × Nat)):Prop:=∀ e∈es,e.1<n/\e.2<n
theorem InN.snoc{n:Nat}{es:List (Nat × Nat)}{e:Nat × Nat}(h:InN n (es++[e])):InN n es/\e.1<n/\e.2<n:=⟨fun x hx=>h x (List.mem_append_left _ hx),h e (by simp)⟩
theorem ζ59{n:Nat}:∀ es:List (Nat × Nat),InN n es->∀ e∈es,mk (lms n es) e.1=mk (lms n es) e.2:=by
 refine ζn1 (fun _ e h=>by cases h) fun es x ih hn e he=>?_
 obtain⟨h1,h2,h3⟩:=hn.snoc
 have hl:=ζQ n es
 have hx:=hn e he
 rw[ζs1]
 refine(ζ27 (by omega) (by omega)).mpr ?_
 rcases List.mem_append.mp he with q | q
 ·exact .inl (ih h1 e q)
 ·rw[List.mem_singleton.mp q]
  exact .inr ⟨.inl rfl,.inr rfl⟩
theorem ζ69{n:Nat}:∀ es:List (Nat × Nat),InN n es->∀ i j,i<n->j<n->mk (lms n es) i=mk (lms n es) j->Conn es i j:=by
 refine ζn1 (fun _ i j hi hj h=>?_) fun es x ih hn i j hi hj h=>?_
 ·have h:mk ((List.range n).map fun(i:Nat)=>(i:Int)) i=mk ((List.range n).map fun(i:Nat)=>(i:Int)) j:=h
  rw[ζB2 hi,ζB2 hj]at h
  have:i=j:=by omega
  subst this
  exact .refl i
 ·obtain⟨h1,h2,h3⟩:=hn.snoc
  have hl:=ζQ n es
  have up:∀ {i j:Nat},Conn es i j->Conn (es++[x]) i j:=fun c=>c.mono fun e he=>List.mem_append_left _ he
  have ex:Conn (es++[x]) x.1 x.2:=.edge (by simp)
  rw[ζs1]at h
  rcases(ζ27 (by omega) (by omega)).mp h with q | ⟨q1,q2⟩
  ·exact up (ih h1 i j hi hj q)
  ·have ci:Conn (es++[x]) i x.1:=by
    rcases q1 with q | q
    ·exact up (ih h1 i _ hi h2 q)
    ·exact(up (ih h1 i _ hi h3 q)).trans ex.symm
   have cj:Conn (es++[x]) j x.1:=by
    rcases q2 with q | q
    ·exact up (ih h1 j _ hj h2 q)
    ·exact(up (ih h1 j _ hj h3 q)).trans ex.symm
   exact ci.trans cj.symm
theorem ζD9{n:Nat}{es:List (Nat × Nat)}(hn:InN n es){i j:Nat}(c:Conn es i j):i=j\/(i<n/\j<n/\mk (lms n es) i=mk (lms n es) j):=by
 induction c with
 | refl i=>exact .inl rfl
 | edge q=>exact .inr ⟨(hn _ q).1,(hn _ q).2,ζ59 es hn _ q⟩
 | symm _ ih =>
  rcases ih with e | ⟨a,b,c⟩
  ·exact .inl e.symm
  ·exact .inr ⟨b,a,c.symm⟩
 | trans _ _ i1 i2 =>
  rcases i1 with e | ⟨a,b,c⟩
  ·rw[e];exact i2
  ·rcases i2 with e | ⟨a',b',c'⟩
   ·rw[<- e];exact .inr ⟨a,b,c⟩
   ·exact .inr ⟨a,b',c.trans c'⟩
theorem ζ52{n:Nat}{es:List (Nat × Nat)}(hn:InN n es){i j:Nat}(hi:i<n)(hj:j<n):mk (lms n es) i=mk (lms n es) j↔Conn es i j:=by
 constructor
 ·exact ζ69 es hn i j hi hj
 ·intro c
  rcases ζD9 hn c with e | ⟨_,_,e⟩
  ·rw[e]
  ·exact e
theorem ζp10{n:Nat}{es:List (Nat × Nat)}(hn:InN n es){i j:Nat}(hi:i<n)(hj:j<n):mk (pms n es) i=mk (pms n es) j↔Conn es i j:=by
 rw[<- ζ52 hn hi hj]
 have s:=ζs3 (n:=n) (es:=es) hn
 exact s.2 i j (by rw[ζO];exact hi) (by rw[ζO];exact hj)
def cnt(M:List Int):Nat:=(fstA M M.length).length
theorem ζb7(M:List Int){i:Nat}:∃ p,p<=i/\mk M p=mk M i/\fstB M p=true:=by
 induction i using Nat.strongRecOn with
 | ind i ih =>
  by_cases h:fstB M i=true
  ·exact⟨i,Nat.le_refl _,rfl,h⟩
  ·have:∃ j,j<i/\mk M j=mk M i:=by
    by_cases q:∃ j,j<i/\mk M j=mk M i
    ·exact q
    ·exact absurd (fstB_iff.mpr fun j hj e=>q ⟨j,hj,e⟩) h
   obtain⟨j,hj,e⟩:=this
   obtain⟨p,h1,h2,h3⟩:=ih j hj
   exact⟨p,by omega,h2.trans e,h3⟩
theorem ζj6{p q:Nat->Bool}{x n:Nat}(hx:x<n)(hpx:p x=true)(h:∀ y,y<n->q y=(p y && !decide (y=x))):((List.range n).filter q).length+1=((List.range n).filter p).length:=by
 induction n with
 | zero=>exact absurd hx (Nat.not_lt_zero x)
 | succ n ih =>
  rw[List.range_succ,List.filter_append,List.filter_append,List.length_append,List.length_append]
  by_cases e:x=n
  ·subst e
   have e1:(List.range x).filter q=(List.range x).filter p:=List.filter_congr fun y hy=>by
    have hy:=List.mem_range.mp hy
    rw[h y (by omega),show decide (y=x)=false from decide_eq_false (by omega)]
    simp
   have e2:q x=false:=by rw[h x (by omega)];simp
   rw[e1]
   simp[List.filter_cons,e2,hpx]
  ·have hq:q n=p n:=by rw[h n (by omega),show decide (n=x)=false from decide_eq_false (fun z=>e z.symm)];simp
   have:=ih (by omega) fun y hy=>h y (by omega)
   simp only [List.filter_cons,List.filter_nil,hq]
   omega
theorem ζI2{M:List Int}{p q:Nat}(hp:fstB M p=true)(hq:fstB M q=true)(e:mk M p=mk M q):p=q:=by
 rcases Nat.lt_trichotomy p q with h | h | h
 ·exact absurd e (fstB_iff.mp hq p h)
 ·exact h
 ·exact absurd e.symm (fstB_iff.mp hp q h)
theorem ζN3{m:List Int}{a b:Nat}(ha:a<m.length)(hb:b<m.length)(hne:mk m a≠mk m b):cnt (lm m a b)+1=cnt m:=by
 obtain⟨A,hA1,hA2,hA3⟩:=ζb7 m (i:=a)
 obtain⟨B,hB1,hB2,hB3⟩:=ζb7 m (i:=b)
 have hAB:A≠B:=fun e=>hne (by rw[<- hA2,<- hB2,e])
 unfold cnt fstA
 rw[ζR1]
 refine ζj6 (x:=max A B) (by omega) ?_ fun y hy=>?_
 ·rcases Nat.le_total A B with h | h
  ·rw[Nat.max_eq_right h];exact hB3
  ·rw[Nat.max_eq_left h];exact hA3
 ·rw[Bool.eq_iff_iff,Bool.and_eq_true,fstB_iff,fstB_iff]
  have key:∀ i,i<y->(mk (lm m a b) i=mk (lm m a b) y↔Mrg m a b i y):=fun i hi=>ζ27 (by omega) hy
  have nmax:(!decide (y=max A B))=true↔y≠max A B:=by simp
  rw[nmax]
  constructor
  ·intro q
   refine⟨fun i hi e=>q i hi ((key i hi).mpr (.inl e)),fun e=>?_⟩
   rcases Nat.lt_or_gt_of_ne hAB with h | h
   ·have ey:y=B:=by omega
    subst ey
    exact q A h ((key A h).mpr (.inr ⟨.inl hA2,.inr hB2⟩))
   ·have ey:y=A:=by omega
    subst ey
    exact q B h ((key B h).mpr (.inr ⟨.inr hB2,.inl hA2⟩))
  ·rintro⟨q1,q2⟩ i hi e
   rcases(key i hi).mp e with e | ⟨e1,e2⟩
   ·exact q1 i hi e
   ·have fy:fstB m y=true:=fstB_iff.mpr q1
    rcases e2 with e2 | e2
    ·have ey:y=A:=ζI2 fy hA3 (e2.trans hA2.symm)
     rcases e1 with e1 | e1
     ·exact q1 i hi (e1.trans e2.symm)
     ·obtain⟨p,p1,p2,p3⟩:=ζb7 m (i:=i)
      have:p=B:=ζI2 p3 hB3 (by rw[p2,e1,hB2])
      omega
    ·have ey:y=B:=ζI2 fy hB3 (e2.trans hB2.symm)
     rcases e1 with e1 | e1
     ·obtain⟨p,p1,p2,p3⟩:=ζb7 m (i:=i)
      have:p=A:=ζI2 p3 hA3 (by rw[p2,e1,hA2])
      omega
     ·exact q1 i hi (e1.trans e2.symm)
theorem ζt4(n:Nat):cnt ((List.range n).map fun(i:Nat)=>(i:Int))=n:=by
 unfold cnt fstA
 rw[List.length_map,List.length_range]
 have e:(List.range n).filter (fstB ((List.range n).map fun(i:Nat)=>(i:Int)))=List.range n:=by
  refine List.filter_eq_self.mpr fun p hp=>fstB_iff.mpr fun i hi e=>?_
  have hp:=List.mem_range.mp hp
  rw[ζB2 (by omega),ζB2 hp]at e
  omega
 rw[e,List.length_range]
theorem ζq11{M:List Int}(hM:1<=M.length):cnt M=1↔∀ i j,i<M.length->j<M.length->mk M i=mk M j:=by
 have e:cnt M=(grp M).length:=by
  unfold cnt grp
  rw[ζ28,List.length_map]
 rw[e]
 exact ζ18 hM
end My
namespace My
open PySem L2
theorem ζY11{i:Int}{n:Nat}(h0:0<=i)(h1:i<(n:Int)):seqIndex? i n=some i.toNat:=by
 have e:(if i<0 then i+(n:Int) else i)=i:=if_neg (by omega)
 unfold seqIndex?
 simp only [e]
 rw[if_pos (by simp;omega)]
def ζH(n:Int)(ps:List (Int × Int))(ns:List Int):Prop:=IsSet ps.length ns/\(ns.length:Int)=n - 1/\∀ i j,i<n.toNat->j<n.toNat->Conn (ζc ps ns) i j
theorem ζG1{n:Int}{ps:List (Int × Int)}{ns:List Int}(g:ζE n ps)(h:∀ z∈ns,0<=z/\z<(ps.length:Int)):InN n.toNat (ζc ps ns):=fun e he=>by
 obtain⟨z,hz,rfl⟩:=List.mem_map.mp he
 obtain⟨z0,z1⟩:=h z hz
 have hp:ps[z.toNat]?=some (ps[z.toNat]'(by omega)):=List.getElem?_eq_getElem _
 rw[ζK hp]
 obtain⟨b1,b2,b3,b4⟩:=g.2.2.2 _ (List.mem_of_getElem? hp)
 exact⟨by omega,by omega⟩
theorem ζJ2{ps:List (Int × Int)}{ns ms:List Int}(h:∀ z∈ns,z∈ms):∀ e∈ζc ps ns,e∈ζc ps ms:=fun e he=>by
 obtain⟨z,hz,rfl⟩:=List.mem_map.mp he
 exact List.mem_map.mpr ⟨z,h z hz,rfl⟩
theorem ζx5{n:Nat}{es:List (Nat × Nat)}(h:InN n es):(∀ i j,i<(lms n es).length->j<(lms n es).length->mk (lms n es) i=mk (lms n es) j)↔∀ i j,i<n->j<n->Conn es i j:=by
 rw[ζQ]
 constructor
 ·intro q i j hi hj;exact(ζ52 h hi hj).mp (q i j hi hj)
 ·intro q i j hi hj;exact(ζ52 h hi hj).mpr (q i j hi hj)
theorem ζl9{n:Nat}{es:List (Nat × Nat)}(hn:1<=n)(h:InN n es):(grp (pms n es)).length=1↔∀ i j,i<n->j<n->Conn es i j:=by
 rw[ζ18 (by rw[ζO];exact hn),(ζs3 h).one]
 exact ζx5 h
theorem ζH1{ps:List (Int × Int)}{ns ms:List Int}(h:∀ z,z∈ns↔z∈ms){i j:Nat}:Conn (ζc ps ns) i j↔Conn (ζc ps ms) i j :=
 ⟨fun c=>c.mono (ζJ2 fun z hz=>(h z).mp hz),fun c=>c.mono (ζJ2 fun z hz=>(h z).mpr hz)⟩
section
variable{K:PySem.W.Frag}{a:Addr}{xs:List V}{g:TG}{tt:TT}{te:TE}{o:Nat}{fr:List Nat}{σ:St}{H:Hp}{Q:VK}
theorem ζQ7(Pv:Nat->List V->Hp->Prop)(h0:Pv 0 [] H)(hz:xs.length<sizeLine)(hl:∀ i ys H,i<=xs.length->Pv i ys H->SqL K H a xs/\ys.length<=i)
  (hs:∀(i:Nat) x ys H (p:Addr),H p=none->xs[i]?=some x->Pv i ys H->ζT3 Pv g tt te o fr σ i (.ref p) ys (upd H p (.tup [.int i,x]))) (hd:∀ ys H,Pv xs.length ys H->∀ p,H p=none->Q (.ref p) (upd H p (.lst ys))):LcR (Ite K a) g tt te o fr σ H Q:=by
 refine⟨fun i m ys H=>m=xs.length - i/\i<=xs.length/\Pv i ys H,⟨xs.length,by simp,Nat.zero_le _,h0⟩,?_⟩
 rintro i m ys H ⟨rfl,hi,p⟩
 obtain⟨q,hy⟩:=hl i ys H hi p
 by_cases hlt:i<xs.length
 ·refine .inr ⟨⟨xs,xs[i],q,by simp[hlt]⟩,by omega,fun x H' ⟨T,y,hT,ex,eH,hyy⟩=>?_⟩
  subst ex eH
  exact hs i y ys H T hT (hyy xs q) p (fun j ys H=>∃ m',m'<xs.length - i/\m'=xs.length - j/\j<=xs.length/\Pv j ys H) fun ys H p'=>⟨xs.length - (i+1),by omega,rfl,hlt,p'⟩
 ·have e:i=xs.length:=by omega
  subst e
  exact .inl ⟨⟨xs,q,Nat.le_refl _⟩,by omega,hd ys H p⟩
end
def ζJ4(M:List Int)(ps:List (Int × Int))(i:Nat):List Int:=((List.range i).filter fun k=>decide (mk M (ps.getD k (0,0)).1.toNat≠mk M (ps.getD k (0,0)).2.toNat)).map fun(k:Nat)=>(k:Int)
def wo(ns:List Int)(z:Int):List Int:=ns.filter fun y=>decide (y≠z)
theorem wo_mem{ns:List Int}{z y:Int}:y∈wo ns z↔y∈ns/\y≠z:=by unfold wo;rw[List.mem_filter];simp
def ζN12(n:Int)(ps:List (Int × Int))(ns:List Int)(z:Int)(l:List Int):List Int:=l.filter fun y=>decide (z∈ζJ4 (lms n.toNat (ζc ps (wo ns y))) ps ps.length)
theorem ζ75{M:List Int}{ps:List (Int × Int)}{z:Int}(h0:0<=z)(h1:z<(ps.length:Int)):z∈ζJ4 M ps ps.length↔mk M (ps.getD z.toNat (0,0)).1.toNat≠mk M (ps.getD z.toNat (0,0)).2.toNat:=by
 unfold ζJ4
 rw[List.mem_map]
 constructor
 ·rintro⟨k,hk,rfl⟩
  have:=of_decide_eq_true (List.mem_filter.mp hk).2
  rw[Int.toNat_natCast]
  exact this
 ·intro h
  exact⟨z.toNat,List.mem_filter.mpr ⟨List.mem_range.mpr (by omega),decide_eq_true h⟩,by omega⟩
end My
namespace L2
open PySem PySem.Spec PyProof.Rows
section
variable{prog:Program}{w:World}{A:Around}{E:Value->Shared->Prop}{s:Shared}
end
section
variable{X:Cx}
end
section
variable{X:Cx}
def ζP12(K:PySem.W.Frag):R2:=fun x y H Q=>∃ a b xs ys,x=.ref a/\y=.ref b/\SqT K H a xs/\SqT K H b ys/\xs.length+ys.length<=sizeLine /\
 (xs=[]->Q (.ref b) H)/\(xs≠[]->ys=[]->Q (.ref a) H)/\(xs≠[]->ys≠[]->∀ p,H p=none->Q (.ref p) (upd H p (.tup (xs++ys))))
theorem ζJ7(K:PySem.W.Frag)(hk:X.K=K:=by rfl):OpR X (binaryOp .Add) (ζP12 K):=by
 intro pins s σ H x y v u Q I rx ry h
 obtain⟨a,b,xs,ys,e1,e2,ha,hb,hz,q0,q1,q2⟩:=id h
 by_cases hx:xs=[]
 ·subst hk e1 e2
  cases rx
  cases ry
  obtain⟨its,r1,p1,_⟩:=I.tuple ha
  obtain⟨its2,r2,p2,_⟩:=I.tuple hb
  have hi:its=[]:=r1.nil_iff.mpr hx
  obtain⟨⟨cls,dd,data,sl⟩,ho,hc,n,hd⟩:=id p1
  obtain⟨⟨cls2,dd2,data2,sl2⟩,ho2,hc2,n2,hd2⟩:=id p2
  simp only at hc hd hc2 hd2
  subst hc hd hc2 hd2
  exact concat_meets ⟨_,ho,rfl⟩ ⟨_,ho2,rfl⟩ noFill_tuple_add seq_tuple_add PySem.F.slot_tuple_add PySem.F.entry_tuple_add (PySem.F.args_tuple_add_2 _ _)
   (tuple_addW0 a b its.toArray its2.toArray n n2 dd dd2 sl sl2 (by simp[hi])) ⟨ho,ho2,⟨.ref b,H,I,rfl,q0 hx⟩⟩
 ·exact ζU8 K hk pins s σ H x y v u Q I rx ry ⟨a,b,xs,ys,e1,e2,ha,hb,hx,hz,q1 hx,q2 hx⟩
end
end L2
namespace My
open PySem L2
theorem ζR12{m:List Int}{a b:Nat}(h:mk m a=mk m b):lm m a b=m:=by unfold lm;rw[if_neg (fun z=>z h)]
theorem ζn6{m:List Int}{a b:Nat}(ha:a<m.length)(hb:b<m.length):cnt m<=cnt (lm m a b)+1:=by
 by_cases e:mk m a=mk m b
 ·rw[ζR12 e];omega
 ·have:=ζN3 ha hb e;omega
theorem ζu4{n:Nat}:∀ es:List (Nat × Nat),InN n es->n<=cnt (lms n es)+es.length:=by
 refine ζn1 (fun _=>?_) fun es x ih hn=>?_
 ·have:cnt (lms n [])=n:=ζt4 n
  omega
 ·obtain⟨h1,h2,h3⟩:=hn.snoc
  have hl:=ζQ n es
  have:=ζn6 (m:=lms n es) (a:=x.1) (b:=x.2) (by omega) (by omega)
  have:=ih h1
  rw[ζs1,List.length_append,List.length_cons,List.length_nil]
  omega
theorem ζf8{M:List Int}(h:1<=M.length):1<=cnt M:=by
 unfold cnt fstA
 refine List.length_pos_of_mem (a:=0) (List.mem_filter.mpr ⟨List.mem_range.mpr (by omega),fstB_iff.mpr fun i hi=>absurd hi (Nat.not_lt_zero i)⟩)
theorem ζK1{n:Nat}{es:List (Nat × Nat)}(hn:1<=n)(h:InN n es):cnt (lms n es)=1↔∀ i j,i<n->j<n->Conn es i j:=by
 rw[ζq11 (by rw[ζQ];exact hn)]
 exact ζx5 h
theorem ζs2{ts:List Int}{o:Int}(hn:ts.Nodup)(ho:o∈ts):(wo ts o).length+1=ts.length:=by
 induction ts with
 | nil=>cases ho
 | cons x r ih =>
  obtain⟨h1,h2⟩:=List.nodup_cons.mp hn
  unfold wo
  rw[List.filter_cons]
  by_cases e:x=o
  ·subst e
   rw[if_neg (by simp)]
   have:r.filter (fun y=>decide (y≠x))=r:=List.filter_eq_self.mpr fun y hy=>decide_eq_true fun e=>h1 (e ▸ hy)
   rw[this];rfl
  ·rw[if_pos (decide_eq_true e)]
   have:=ih h2 ((List.mem_cons.mp ho).resolve_left fun z=>e z.symm)
   unfold wo at this
   rw[List.length_cons,List.length_cons]
   omega
def ζ21(ps:List (Int × Int))(z:Int):Nat × Nat:=((ps.getD z.toNat (0,0)).1.toNat,(ps.getD z.toNat (0,0)).2.toNat)
theorem ζF1(ps:List (Int × Int))(ns:List Int)(z:Int):ζc ps (ns++[z])=ζc ps ns++[ζ21 ps z]:=by unfold ζc ζ21;rw[List.map_append];rfl
theorem ζU4{n:Int}{ps:List (Int × Int)}{z:Int}(g:ζE n ps)(z0:0<=z)(z1:z<(ps.length:Int)):(ζ21 ps z).1<n.toNat/\(ζ21 ps z).2<n.toNat:=by
 have:=ζG1 (ns:=[z]) g (fun y hy=>by rw[List.mem_singleton.mp hy];exact⟨z0,z1⟩)
 exact this (ζ21 ps z) (by unfold ζc ζ21;simp)
theorem ζT9{n:Int}{ps:List (Int × Int)}{ts:List Int}{o:Int}(hT:ζH n ps ts):∀ y∈wo ts o,0<=y/\y<(ps.length:Int):=fun y hy=>hT.1.all y (wo_mem.mp hy).1
theorem exch{n:Int}{ps:List (Int × Int)}{ts:List Int}{o z:Int}(g:ζE n ps)(hT:ζH n ps ts)(ho:o∈ts)(z0:0<=z)(z1:z<(ps.length:Int)) :
  (∀ i j,i<n.toNat->j<n.toNat->Conn (ζc ps (wo ts o++[z])) i j)↔¬ Conn (ζc ps (wo ts o)) (ζ21 ps z).1 (ζ21 ps z).2:=by
 have hn:1<=n.toNat:=by have:=g.1;omega
 have hw:=ζs2 hT.1.nodup ho
 have hl:(ts.length:Int)=n - 1:=hT.2.1
 have i0:InN n.toNat (ζc ps (wo ts o)):=ζG1 g (ζT9 hT)
 have hz:=ζU4 g z0 z1
 have ob:=hT.1.all o ho
 have hoe:=ζU4 g ob.1 ob.2
 have i1:InN n.toNat (ζc ps (wo ts o)++[ζ21 ps z]):=fun e he=>(List.mem_append.mp he).elim (i0 e) fun q=>by rw[List.mem_singleton.mp q];exact hz
 have i2:InN n.toNat (ζc ps (wo ts o)++[ζ21 ps o]):=fun e he=>(List.mem_append.mp he).elim (i0 e) fun q=>by rw[List.mem_singleton.mp q];exact hoe
 have hL:=ζQ n.toNat (ζc ps (wo ts o))
 have le:(ζc ps (wo ts o)).length=(wo ts o).length:=by unfold ζc;rw[List.length_map]
 rw[ζF1]
 constructor
 ·intro hc c
  have h1:cnt (lms n.toNat (ζc ps (wo ts o)++[ζ21 ps z]))=1:=(ζK1 hn i1).mpr hc
  rw[ζs1,ζR12 ((ζ52 i0 hz.1 hz.2).mpr c)]at h1
  have:=ζu4 _ i0
  omega
 ·intro hc
  have h2:cnt (lms n.toNat (ζc ps (wo ts o)++[ζ21 ps o]))=1:=by
   refine(ζK1 hn i2).mpr fun i j hi hj=>?_
   rw[<- ζF1]
   refine(ζH1 fun y=>?_).mp (hT.2.2 i j hi hj)
   rw[List.mem_append,wo_mem,List.mem_singleton]
   constructor
   ·intro hy
    by_cases e:y=o
    ·exact .inr e
    ·exact .inl ⟨hy,e⟩
   ·rintro(q | q)
    ·exact q.1
    ·rw[q];exact ho
  rw[ζs1]at h2
  have h3:=ζn6 (m:=lms n.toNat (ζc ps (wo ts o))) (a:=(ζ21 ps o).1) (b:=(ζ21 ps o).2) (by omega) (by omega)
  have h4:=ζN3 (m:=lms n.toNat (ζc ps (wo ts o))) (a:=(ζ21 ps z).1) (b:=(ζ21 ps z).2) (by omega) (by omega) (fun e=>hc ((ζ52 i0 hz.1 hz.2).mp e))
  have h5:=ζf8 (M:=lm (lms n.toNat (ζc ps (wo ts o))) (ζ21 ps z).1 (ζ21 ps z).2) (by rw[ζR1];omega)
  refine(ζK1 hn i1).mp ?_
  rw[ζs1]
  omega
def cutT(n:Int)(ps:List (Int × Int))(ts:List Int)(o:Int):List Int:=ζJ4 (lms n.toNat (ζc ps (wo ts o))) ps ps.length
theorem ζ85{M:List Int}{ps:List (Int × Int)}{i:Nat}{z:Int}(h:z∈ζJ4 M ps i):0<=z/\z<(i:Int):=by
 unfold ζJ4 at h
 obtain⟨k,hk,rfl⟩:=List.mem_map.mp h
 have:=List.mem_range.mp (List.mem_filter.mp hk).1
 omega
theorem ζc2{n:Int}{ps:List (Int × Int)}{ts:List Int}{o z:Int}(g:ζE n ps)(hT:ζH n ps ts)(z0:0<=z)(z1:z<(ps.length:Int)):z∈cutT n ps ts o↔¬ Conn (ζc ps (wo ts o)) (ζ21 ps z).1 (ζ21 ps z).2:=by
 have hz:=ζU4 g z0 z1
 unfold cutT
 rw[ζ75 z0 z1]
 exact not_congr (ζ52 (ζG1 g (ζT9 hT)) hz.1 hz.2)
def exg(n:Int)(ps:List (Int × Int))(ts:List Int)(o z:Int):Prop:=o∈ts/\z≠o/\z∈cutT n ps ts o
instance (n:Int) (ps:List (Int × Int)) (ts:List Int) (o z:Int):Decidable (exg n ps ts o z):=by unfold exg;infer_instance
theorem ζ911{n:Int}{ps:List (Int × Int)}{ts:List Int}{o z:Int}(g:ζE n ps)(hT:ζH n ps ts) :
  exg n ps ts o z↔o∈ts/\z∉ts/\0<=z/\z<(ps.length:Int)/\∀ i j,i<n.toNat->j<n.toNat->Conn (ζc ps (wo ts o++[z])) i j:=by
 constructor
 ·rintro⟨h1,h2,h3⟩
  obtain⟨z0,z1⟩:=ζ85 h3
  have hc:=(ζc2 g hT z0 z1).mp h3
  refine⟨h1,fun hz=>hc ?_,z0,z1,(exch g hT h1 z0 z1).mpr hc⟩
  refine .edge ?_
  exact List.mem_map.mpr ⟨z,wo_mem.mpr ⟨hz,h2⟩,rfl⟩
 ·rintro⟨h1,h2,z0,z1,hc⟩
  exact⟨h1,fun e=>h2 (e ▸ h1),(ζc2 g hT z0 z1).mpr ((exch g hT h1 z0 z1).mp hc)⟩
theorem PairsV.mut{H:Hp}{l:Addr}{ys zs xs:List V}{ps:List (Int × Int)}(hP:PairsV H xs ps)(hl:H l=some (.lst ys)):PairsV (upd H l (.lst zs)) xs ps:=by
 refine⟨hP.1,fun j p e=>?_⟩
 obtain⟨v,e1,tt,e2,e3⟩:=hP.2 j p e
 exact⟨v,e1,tt,e2,by rw[ζ9 (ζV6 e3 hl (fun z=>nomatch z))];exact e3⟩
end My
namespace L2
open PySem PySem.Spec PyProof.Rows
def IsRv (h:Heap) (r l:Addr) (i:Int):Prop:=∃ o,h.get? r=some o/\o.cls=.type "reversed"/\o.data=.fields #[.ref l,rawInt i]
theorem IsRv.keep{h h':Heap}{r l:Addr}{i:Int}(x:IsRv h r l i)(e:∀ o,h.get? r=some o->h'.get? r=some o):IsRv h' r l i:=let ⟨o,a,b⟩:=x;⟨o,e _ a,b⟩
section
variable{prog:Program}{w:World}{A:Around}{E:Value->Shared->Prop}{s:Shared}
end
section
variable{prog:Program}{w:World}{A:Around}{E:Value->Shared->Prop}{s:Shared}{it a:Addr}{items:Array Value}
end
section
variable{X:Cx}{p p2 pos pos2:Pos}{e:Expr}{t:TA}
end
section
variable{prog:Program}{w:World}{A:Around}{E:Value->Shared->Prop}{s:Shared}
theorem ζB6{t sl:Addr}{items:Array Value}{vl vu:Value}{lo hi:Option Int}{Q:Value->Shared->Prop}(ht:IsTup s.heap t items)(hs:s.heap.IsSliceOf sl vl vu .none)(pl:IsPart vl lo)(pu:IsPart vu hi)
  (h0:HT.sIx items.size 0 lo=0) (h1:HT.sIx items.size items.size hi=items.size) (h:Q (.ref t) s):wpAny (model prog w) A (getItem (.ref t) (.ref sl)) Q E s:=by
 have hTs:s.TypeIs (.ref sl) "slice":=let ⟨o,a,b,_⟩:=hs;⟨o,a,b⟩
 unfold getItem
 try with_reducible refine wpAny_holding ?_
 first | refine wpAny_bind (wpAny_pure ?_) | skip
 refine wpAny_bind (wpAny_sequenceKey ht.typeIs (by decide) ?_)
 refine wpAny_bind (wpAny_callSpecial?_slot (name:=Str.ofString "__getitem__") ht.typeIs PyProof.Rows.slot_tuple_getitem (wpAny_call_entry PyProof.Rows.slot_tuple_getitem ht.typeIs entry_tuple_getitem ?_ (args_tuple_getitem _ _)))
 show wpAny _ _ (Builtin.Tuple.tupleItemsOf (.ref t) >>= _) _ _ s
 refine wpAny_bind (tupleItemsOf_ ht (wpAny_bind (wpAny_typeOf hTs ?_)))
 rw[if_pos (by decide)]
 refine wpAny_bind (HT.sliceApplied_gen hs pl pu ?_)
 rw[h0,h1]
 show wpAny _ _ (if (((0:Nat):Int) == 0 && (1:Int) == 1 && (items.size - 0) == items.size)=true then _ else _) _ _ s
 rw[if_pos (by simp)]
 have ex:∀ {Q:Bool->Shared->Prop} {E:Value->Shared->Prop},Q true s->wpAny (model prog w) A.in1 (Builtin.Tuple.tupleIsExact (.ref t)) Q E s:=fun q=>wpAny_bind (wpAny_typeOf ht.typeIs (wpAny_pure (by rw [show(Value.type "tuple" == Value.type "tuple")=true by decide];exact q)))
 refine wpAny_bind (ex ?_)
 rw[if_pos rfl]
 exact wpAny_bind (wpAny_rule (wpAny_pure ⟨_,rfl,wpAny_pure h⟩))
end
section
variable{X:Cx}
def rSlU(K:PySem.W.Frag):V->Option Int->Option Int->Hp->VK->Prop:=fun x lo hi H Q=>∃ a xs,x=.ref a/\SqT K H a xs /\
 (HT.sIx xs.length 0 lo=0/\HT.sIx xs.length xs.length hi=xs.length->Q (.ref a) H)/\(¬ (HT.sIx xs.length 0 lo=0/\HT.sIx xs.length xs.length hi=xs.length)->∀ p,H p=none->Q (.ref p) (upd H p (.tup (cutV xs lo hi))))
theorem ζ910(K:PySem.W.Frag)(hk:X.K=K:=by rfl):SlR X (rSlU K):=by
 subst hk
 intro pins s σ H x v vl vu lo hi sl Q I rx hs pl pu h
 obtain⟨a,xs,e1,hx,q1,q2⟩:=id h
 by_cases hw:HT.sIx xs.length 0 lo=0/\HT.sIx xs.length xs.length hi=xs.length
 ·subst e1
  cases rx
  obtain⟨its,r,ht,hz⟩:=I.tuple hx
  have hlen:its.toArray.size=xs.length:=by rw[List.size_toArray];exact r.length.symm
  refine⟨"tuple",_,PyProof.Rows.slot_tuple_getitem.lookup,ht.typeIs,?_⟩
  exact ζB6 ht hs pl pu (by rw[hlen];exact hw.1) (by rw[hlen];exact hw.2) ⟨.ref a,H,I,rfl,q1 hw⟩
 ·exact ζT11 pins s σ H x v vl vu lo hi sl Q I rx hs pl pu ⟨a,xs,e1,hx,hw,q2 hw⟩
end
end L2
namespace My
open PySem L2
end My
namespace L2
open PySem PySem.Spec PyProof.Rows
section
variable{X:Cx}
end
end L2
namespace My
open PySem L2
theorem ζo11{n:Int}{ps:List (Int × Int)}{ts:List Int}{o y:Int}(g:ζE n ps)(hT:ζH n ps ts)(ho:o∈ts)(hy:y∈ts):y∈cutT n ps ts o↔y=o:=by
 have yb:=hT.1.all y hy
 rw[ζc2 g hT yb.1 yb.2]
 constructor
 ·intro h
  by_cases e:y=o
  ·exact e
  ·exact absurd (.edge (List.mem_map.mpr ⟨y,wo_mem.mpr ⟨hy,e⟩,rfl⟩)) h
 ·rintro rfl
  refine(exch g hT hy yb.1 yb.2).mp fun i j hi hj=>(ζH1 fun z=>?_).mp (hT.2.2 i j hi hj)
  rw[List.mem_append,wo_mem,List.mem_singleton]
  constructor
  ·intro hz
   by_cases e:z=y
   ·exact .inr e
   ·exact .inl ⟨hz,e⟩
  ·rintro(q | q)
   ·exact q.1
   ·rw[q];exact hy
theorem ζu9{n:Int}{ps:List (Int × Int)}{ts ms:List Int}{o z:Int}(g:ζE n ps)(hT:ζH n ps ts)(hx:exg n ps ts o z)(hpm:ms.Perm (wo ts o++[z]))(hpw:ms.Pairwise (·<=·)):ζH n ps ms:=by
 obtain⟨ho,hz,z0,z1,hc⟩:=(ζ911 g hT).mp hx
 have nd:(wo ts o++[z]).Nodup:=ζa4 (hT.1.nodup.sublist List.filter_sublist) fun h=>hz (wo_mem.mp h).1
 have ndm:ms.Nodup:=hpm.nodup_iff.mpr nd
 have hl:=ζs2 hT.1.nodup ho
 have hl2:=hpm.length_eq
 rw[List.length_append,List.length_singleton]at hl2
 refine⟨isSet_iff.mpr ⟨fun y hy=>?_,(List.pairwise_and_iff.mpr ⟨hpw,ndm⟩).imp fun {x y} h=>by have:=h.1;have:=h.2;omega⟩,by rw[hl2,hl];exact hT.2.1,fun i j hi hj=>(ζH1 fun y=>hpm.mem_iff).mpr (hc i j hi hj)⟩
 rcases List.mem_append.mp (hpm.mem_iff.mp hy) with h | h
 ·exact hT.1.all y (wo_mem.mp h).1
 ·rw[List.mem_singleton.mp h];exact⟨z0,z1⟩
section
variable{n:Int}{ps:List (Int × Int)}{ts ms:List Int}{o z:Int}(g:ζE n ps)(hT:ζH n ps ts)(hx:exg n ps ts o z)(hpm:ms.Perm (wo ts o++[z]))(hpw:ms.Pairwise (·<=·))
include g hT hx hpm hpw
end
end My
namespace L2
open PySem PySem.Spec PyProof.Rows
section
variable{prog:Program}{w:World}{A:Around}{I S:Addr}{fp wr:List Addr}{n:Nat}{P:Nat->Value->Prop}{St:Nat->Heap->Prop}{R:Result->Shared->Prop}
def TupsAt(S:Addr)(wr:List Addr)(P:Nat->Value->Prop)(L:Nat->List Int)(h:Heap):Prop:=∀ i v,P i v->∃ a vs,v=.ref a/\a≠S/\a∉wr/\IsTup h a vs/\IntsAre vs.toList (L i)
theorem TupsAt.keep{L:Nat->List Int}{h h':Heap}(x:TupsAt S wr P L h)(k:∀ b o,b≠S->b∉wr->h.get? b=some o->h'.get? b=some o):TupsAt S wr P L h':=fun i v p=>by
 obtain⟨a,vs,e,n1,n2,⟨o,ho,z⟩,hi⟩:=x i v p
 exact⟨a,vs,e,n1,n2,⟨o,k a o n1 n2 ho,z⟩,hi⟩
end
section
variable{X:Cx}
end
end L2
namespace My
open PySem L2
def TupV(H:Hp)(v:V)(l:List Int):Prop:=∃ a,v=.ref a/\H a=some (.tup (IL l))
def TupsV(H:Hp)(xs:List V)(L:List (List Int)):Prop:=xs.length=L.length/\∀(i:Nat) (l:List Int),L[i]?=some l->∃ v,xs[i]?=some v/\TupV H v l
theorem TupsV.at{H:Hp}{xs:List V}{L:List (List Int)}(h:TupsV H xs L){i:Nat}{v:V}(e:xs[i]?=some v):∃ l,L[i]?=some l/\TupV H v l:=by
 have hi:i<xs.length:=(List.getElem?_eq_some_iff.mp e).1
 have hp:i<L.length:=by rw[<- h.1];exact hi
 obtain⟨v',e1,q⟩:=h.2 i L[i] (List.getElem?_eq_getElem hp)
 rw[e]at e1
 cases e1
 exact⟨_,List.getElem?_eq_getElem hp,q⟩
theorem TupsV.nil{H:Hp}:TupsV H [] []:=⟨rfl,fun i p e=>by simp at e⟩
theorem TupsV.app{H:Hp}{xs ys:List V}{L M:List (List Int)}(h:TupsV H xs L)(h2:TupsV H ys M):TupsV H (xs++ys) (L++M):=by
 refine⟨by rw[List.length_append,List.length_append,h.1,h2.1],fun i l e=>?_⟩
 by_cases hi:i<L.length
 ·rw[List.getElem?_append_left hi]at e
  obtain⟨v,e1,q⟩:=h.2 i l e
  exact⟨v,by rw[List.getElem?_append_left (by rw[h.1];exact hi)];exact e1,q⟩
 ·rw[List.getElem?_append_right (by omega)]at e
  obtain⟨v,e1,q⟩:=h2.2 _ l e
  exact⟨v,by rw[List.getElem?_append_right (by rw[h.1];omega),h.1];exact e1,q⟩
theorem TupsV.one{H:Hp}{v:V}{l:List Int}(q:TupV H v l):TupsV H [v] [l]:=⟨rfl,fun i m e=>by
 cases i with
 | zero=>have e:l=m:=(by simpa using e);exact⟨v,rfl,e ▸ q⟩
 | succ i=>simp at e⟩
theorem TupsV.snoc{H:Hp}{xs:List V}{L:List (List Int)}{v:V}{l:List Int}(h:TupsV H xs L)(q:TupV H v l):TupsV H (xs++[v]) (L++[l]):=h.app (.one q)
theorem TupsV.mut{H:Hp}{d:Addr}{ys zs xs:List V}{L:List (List Int)}(hP:TupsV H xs L)(hl:H d=some (.lst ys)):TupsV (upd H d (.lst zs)) xs L:=by
 refine⟨hP.1,fun j p e=>?_⟩
 obtain⟨v,e1,tt,e2,e3⟩:=hP.2 j p e
 exact⟨v,e1,tt,e2,by rw[ζ9 (ζV6 e3 hl (fun z=>nomatch z))];exact e3⟩
def nxt(s:List Int):Int:=match s.getLast? with | none=>0 | some x=>x+1
def ext1(m:Int)(s:List Int):List (List Int):=(List.range (m - nxt s).toNat).map fun(i:Nat)=>s++[nxt s+(i:Int)]
def cmb(m:Int):Nat->List (List Int)
 | 0=>[[]]
 | k+1=>(cmb m k).flatMap (ext1 m)
theorem ζW8(s:List Int)(x:Int):nxt (s++[x])=x+1:=by unfold nxt;rw[List.getLast?_append];rfl
theorem ext1_mem{m:Int}{s l:List Int}:l∈ext1 m s↔∃ t,nxt s<=t/\t<m/\l=s++[t]:=by
 unfold ext1
 rw[List.mem_map]
 constructor
 ·rintro⟨i,hi,rfl⟩
  have:=List.mem_range.mp hi
  exact⟨_,by omega,by omega,rfl⟩
 ·rintro⟨t,h1,h2,rfl⟩
  exact⟨(t - nxt s).toNat,List.mem_range.mpr (by omega),by rw[show nxt s+(((t - nxt s).toNat:Nat):Int)=t by omega]⟩
theorem asc_snoc{m:Nat}{s:List Int}{t:Int}:IsSet m (s++[t])↔IsSet m s/\nxt s<=t/\0<=t/\t<(m:Int):=by
 rw[isSet_iff,isSet_iff,List.pairwise_append]
 have last:(∀ a∈s,∀ b∈[t],a<b)/\s.Pairwise (· < ·)->nxt s<=t\/t<0:=by
  rintro⟨h,_⟩
  unfold nxt
  cases e:s.getLast? with
  | none=>by_cases h0:0<=t;exact .inl h0;exact .inr (by omega)
  | some x=>have:=h x (List.mem_of_getLast? e) t (by simp);exact .inl (by show x+1<=t;omega)
 constructor
 ·rintro⟨h1,h2,_,h3⟩
  have ht:=h1 t (by simp)
  refine⟨⟨fun z hz=>h1 z (List.mem_append_left _ hz),h2⟩,?_,ht⟩
  rcases last ⟨h3,h2⟩ with h | h
  ·exact h
  ·omega
 ·rintro⟨⟨h1,h2⟩,h3,h4,h5⟩
  refine⟨fun z hz=>?_,h2,List.pairwise_singleton ..,fun a ha b hb=>?_⟩
  ·rcases List.mem_append.mp hz with h | h
   ·exact h1 z h
   ·rw[List.mem_singleton.mp h];exact⟨h4,h5⟩
  ·rw[List.mem_singleton.mp hb]
   have key:∀ {s:List Int} {a:Int},s.Pairwise (· < ·)->a∈s->a<nxt s:=by
    refine fun {s}=>ζn1 (P:=fun s=>∀ {a:Int},s.Pairwise (· < ·)->a∈s->a<nxt s) (fun {a} _ h=>by cases h) (fun l x ih {a} hp h=>?_) s
    rw[ζW8]
    rw[List.pairwise_append]at hp
    rcases List.mem_append.mp h with h | h
    ·have:=hp.2.2 a h x (by simp);omega
    ·rw[List.mem_singleton.mp h];omega
   have:=key h2 ha
   omega
theorem cmb_mem{m:Nat}:∀ {k:Nat} {l:List Int},l∈cmb (m:Int) k↔l.length=k/\IsSet m l
 | 0,l=>by
  show l∈[[]]↔_
  rw[List.mem_singleton]
  constructor
  ·rintro rfl;exact⟨rfl,fun i z e=>by simp at e⟩
  ·rintro⟨h,_⟩;exact List.length_eq_zero_iff.mp h
 | k+1,l=>by
  show l∈(cmb (m:Int) k).flatMap (ext1 m)↔_
  rw[List.mem_flatMap]
  constructor
  ·rintro⟨s,hs,hl⟩
   obtain⟨t,h1,h2,rfl⟩:=ext1_mem.mp hl
   obtain⟨e,hI⟩:=cmb_mem.mp hs
   have n0:0<=nxt s:=by
    unfold nxt
    cases q:s.getLast? with
    | none=>exact Int.le_refl 0
    | some x=>have:=(hI.all x (List.mem_of_getLast? q)).1;show 0<=x+1;omega
   exact⟨by rw[List.length_append,e];rfl,asc_snoc.mpr ⟨hI,h1,by omega,h2⟩⟩
  ·rintro⟨e,hI⟩
   have hne:l≠[]:=fun z=>by rw[z]at e;simp at e
   obtain⟨s,t,rfl⟩:∃ s t,l=s++[t]:=⟨l.dropLast,l.getLast hne,(List.dropLast_concat_getLast hne).symm⟩
   obtain⟨h1,h2,h3,h4⟩:=asc_snoc.mp hI
   exact⟨s,cmb_mem.mpr ⟨by rw[List.length_append]at e;simpa using e,h1⟩,ext1_mem.mpr ⟨t,h2,h4,rfl⟩⟩
theorem ζt9{m:Nat}{s:List Int}(h:IsSet m s):(ext1 (m:Int) s).length<=m:=by
 unfold ext1
 rw[List.length_map,List.length_range]
 have n0:0<=nxt s:=by
  unfold nxt
  cases q:s.getLast? with
  | none=>exact Int.le_refl 0
  | some x=>have:=(h.all x (List.mem_of_getLast? q)).1;show 0<=x+1;omega
 omega
theorem ζ36{m:Nat}:∀ L:List (List Int),(∀ s∈L,IsSet m s)->(L.flatMap (ext1 (m:Int))).length<=m * L.length
 | [],_=>Nat.zero_le _
 | s :: L,h=>by
  have:=ζ36 L fun x hx=>h x (List.mem_cons_of_mem _ hx)
  have:=ζt9 (h s List.mem_cons_self)
  rw[List.flatMap_cons,List.length_append,List.length_cons,Nat.mul_succ]
  omega
theorem ζr2:∀ {w t:List Int},t.Pairwise (· < ·)->w.Pairwise (· < ·)->(∀ z∈t,z∈w)->t.Sublist w
 | [],[],_,_,_=>List.Sublist.slnil
 | [],x :: t,_,_,h=>absurd (h x List.mem_cons_self) (by simp)
 | y :: w,[],_,_,_=>List.nil_sublist _
 | y :: w,x :: t,ht,hw,h=>by
  obtain⟨h1,h2⟩:=List.pairwise_cons.mp ht
  obtain⟨h3,h4⟩:=List.pairwise_cons.mp hw
  by_cases e:x=y
  ·subst e
   refine List.Sublist.cons₂ _ (ζr2 h2 h4 fun z hz=>?_)
   rcases List.mem_cons.mp (h z (List.mem_cons_of_mem _ hz)) with q | q
   ·have:=h1 z hz;omega
   ·exact q
  ·have hx:x∈w:=(List.mem_cons.mp (h x List.mem_cons_self)).resolve_left e
   refine List.Sublist.cons _ (ζr2 ht h4 fun z hz=>?_)
   rcases List.mem_cons.mp (h z hz) with q | q
   ·have:=h3 x hx
    rcases List.mem_cons.mp hz with q2 | q2
    ·rw[q2];exact hx
    ·have:=h1 z q2;omega
   ·exact q
theorem ζr13{n:Int}{ps:List (Int × Int)}{T W:List Int}{o:Int}(g:ζE n ps)(hT:ζH n ps T)(hW:ζH n ps W)(ho:o∈T):∃ z∈W,z∈cutT n ps T o:=by
 refine Classical.byContradiction fun hno=>?_
 have all:∀ i j,Conn (ζc ps W) i j->Conn (ζc ps (wo T o)) i j:=fun i j c=>by
  induction c with
  | refl i=>exact .refl i
  | symm _ ih=>exact .symm ih
  | trans _ _ i1 i2=>exact .trans i1 i2
  | @edge a b h =>
   obtain⟨z,hz,e⟩:=List.mem_map.mp h
   obtain⟨z0,z1⟩:=hW.1.all z hz
   have c:Conn (ζc ps (wo T o)) (ζ21 ps z).1 (ζ21 ps z).2:=Classical.byContradiction fun hc=>hno ⟨z,hz,(ζc2 g hT z0 z1).mpr hc⟩
   have ea:a=(ζ21 ps z).1:=(congrArg Prod.fst e).symm
   have eb:b=(ζ21 ps z).2:=(congrArg Prod.snd e).symm
   rw[ea,eb]
   exact c
 have ob:=hT.1.all o ho
 have he:=ζU4 g ob.1 ob.2
 exact(ζc2 g hT ob.1 ob.2).mp ((ζo11 g hT ho ho).mpr rfl) (all _ _ (hW.2.2 _ _ he.1 he.2))
theorem ζO12{n:Int}{ps:List (Int × Int)}{W:List Int}(g:ζE n ps)(hW:ζH n ps W)(R:List Int->Prop)
  (close:∀ T o z ms,R T->ζH n ps T->exg n ps T o z->ms.Perm (wo T o++[z])->ms.Pairwise (·<=·)->R ms):∀(k:Nat) (T:List Int),R T->ζH n ps T->(T.filter fun y=>decide (y∉W)).length=k->R W
 | 0,T,hR,hT,h=>by
  have hsub:∀ z∈T,z∈W:=fun z hz=>Classical.byContradiction fun hn=>by
   have:z∈T.filter fun y=>decide (y∉W):=List.mem_filter.mpr ⟨hz,decide_eq_true hn⟩
   rw[List.length_eq_zero_iff.mp h]at this
   cases this
  have:=(ζr2 (isSet_iff.mp hT.1).2 (isSet_iff.mp hW.1).2 hsub).eq_of_length (by have:=hT.2.1;have:=hW.2.1;omega)
  exact this ▸ hR
 | k+1,T,hR,hT,h=>by
  obtain⟨o,hof⟩:∃ o,o∈T.filter fun y=>decide (y∉W):=List.exists_mem_of_length_pos (by omega)
  have ho:=(List.mem_filter.mp hof).1
  have hoW:o∉W:=of_decide_eq_true (List.mem_filter.mp hof).2
  obtain⟨z,hzW,hzc⟩:=ζr13 g hT hW ho
  have hzo:z≠o:=fun e=>hoW (e ▸ hzW)
  have hx:exg n ps T o z:=⟨ho,hzo,hzc⟩
  have hpm:((wo T o++[z]).mergeSort fun a b=>decide (a<=b)).Perm (wo T o++[z]):=List.mergeSort_perm ..
  have hpw:((wo T o++[z]).mergeSort fun a b=>decide (a<=b)).Pairwise (·<=·):=by
   have:=List.pairwise_mergeSort (le:=fun(a b:Int)=>decide (a<=b)) (fun a b c h1 h2=>by simp only [decide_eq_true_eq]at *;omega) (fun a b=>by simp only [Bool.or_eq_true,decide_eq_true_eq];omega) (wo T o++[z])
   exact this.imp fun h=>by simpa using h
  refine ζO12 g hW R close k _ (close T o z _ hR hT hx hpm hpw) (ζu9 g hT hx hpm hpw) ?_
  rw[(hpm.filter _).length_eq,List.filter_append]
  have e1:[z].filter (fun y=>decide (y∉W))=[]:=by rw[List.filter_cons,if_neg (by simpa using hzW)];rfl
  rw[e1,List.append_nil]
  have e2:(wo T o).filter (fun y=>decide (y∉W))=wo (T.filter fun y=>decide (y∉W)) o:=by
   unfold wo
   rw[List.filter_filter,List.filter_filter]
   refine List.filter_congr fun y _=>Bool.and_comm ..
  rw[e2]
  have:=ζs2 (hT.1.nodup.sublist List.filter_sublist) hof
  omega
def pmf(M:List Int)(es:List (Nat × Nat)):List Int:=es.foldl (fun m e=>pm m e.1 e.2) M
theorem ζK8(M:List Int)(es:List (Nat × Nat))(e:Nat × Nat):pmf M (es++[e])=pm (pmf M es) e.1 e.2:=by unfold pmf;rw[List.foldl_append];rfl
theorem ζp5(M:List Int):∀ es:List (Nat × Nat),(pmf M es).length=M.length:=by
 intro es
 unfold pmf
 induction es generalizing M with
 | nil=>rfl
 | cons e l ih=>rw[List.foldl_cons,ih,ζz1]
theorem ζK3{xs:List V}{i:Int}(h0:0<=i):cutV xs none (some i)=xs.take i.toNat:=by
 have e:HT.sIx xs.length xs.length (some i)=min i.toNat xs.length:=by
  show(if i<0 then (i+(xs.length:Int)).toNat else min i.toNat xs.length)=_
  rw[if_neg (by omega)]
 unfold cutV
 rw[e,HT.sIx_none,List.drop_zero,Nat.sub_zero]
 by_cases h:i.toNat<=xs.length
 ·rw[Nat.min_eq_left h]
 ·rw[Nat.min_eq_right (by omega),List.take_of_length_le (Nat.le_refl _),List.take_of_length_le (by omega)]
def rgL(m:Nat):List Int:=(List.range m).map fun(i:Nat)=>(i:Int)
theorem rgL_mem{m:Nat}{z:Int}:z∈rgL m↔0<=z/\z<(m:Int):=by
 unfold rgL
 rw[List.mem_map]
 constructor
 ·rintro⟨i,hi,rfl⟩
  have:=List.mem_range.mp hi
  omega
 ·intro h
  exact⟨z.toNat,List.mem_range.mpr (by omega),by omega⟩
theorem ζ23(m:Nat):(rgL m).length=m:=by unfold rgL;simp
theorem ζD7(m:Nat):(rgL m).Pairwise (· < ·):=by
 unfold rgL
 rw[List.pairwise_map]
 exact List.pairwise_lt_range.imp fun h=>by omega
theorem ζy1(m:Nat):IsSet m (rgL m):=isSet_iff.mpr ⟨fun z hz=>rgL_mem.mp hz,ζD7 m⟩
theorem ζD8(m:Nat):rngI 0 (m:Int)=rgL m:=by
 unfold rngI rgL
 rw[Int.sub_zero,Int.toNat_natCast]
 exact List.map_congr_left fun i _=>by omega
def ζk1(n:Int)(ps:List (Int × Int)):Prop:=∀ i j,i<n.toNat->j<n.toNat->Conn (ζc ps (rgL ps.length)) i j
end My
namespace L2
open PySem PySem.Spec PyProof.Rows
section
variable{prog:Program}{w:World}{A:Around}{E:Value->Shared->Prop}{s:Shared}
theorem ζX4{r:Addr}{a b c:Int}{t u v:Tok}{n:Nat}{Q:List Value->Shared->Prop}(hh:A.handled=none)(hr:IsRange s.heap r a b c t u v)(hm:Builtin.Range.small a b c=true)(hn:Builtin.Range.rangeSize a b c=n)(hl:n<=2 ^ 24)
  (k:∀(h':Heap) (tk:Nat) (acc:Array Value),(∀ b o,s.heap.get? b=some o->h'.get? b=some o)->ItemsOf (fun i v=>∃ t,v=.int (a+i * c) t) acc n->Q acc.toList { s with heap:=h',toks:=tk }):wpAny (model prog w) A (collect (.ref r)) Q E s:=by
 have hL1:(s.heap.push (seqObj "list" #[] 0)).get? s.heap.objs.size=some (seqObj "list" #[] 0):=Heap.get?_push_size _ rfl
 unfold collect
 refine wpAny_bind (wpAny_runValue (codeAny_builtin entry_proto_collect' ?_))
 show wpAny _ A.in1 (do again (.builtin "list.__iadd__" ⟨[<- newList [],.ref r],[]⟩)) _ _ s
 refine wpAny_bind (wpAny_newList (wpAny_pure ⟨Code.quiet_builtin _ (by decide +kernel),codeAny_builtin entry_list_iadd' ?_⟩))
 show wpAny _ A.in1 (Builtin.List.listExtendWith (.ref s.heap.objs.size) (.ref r) (.ref s.heap.objs.size)) _ _ { s with heap:=s.heap.push (seqObj "list" #[] 0) }
 refine wpAny_mono (wpAny_extend_range (A:=A) (R:=fun x s'=>∃(h':Heap) (tk:Nat) (acc:Array Value) (c':Nat),x=.ok (.ret (.ref s.heap.objs.size))/\s'={ s with heap:=h',toks:=tk }/\(∀ b o,s.heap.get? b=some o->h'.get? b=some o) /\
   h'.get? s.heap.objs.size=some { cls:=.type "list",dict:=none,data:=.seq acc c',slots:=#[] }/\ItemsOf (fun i v=>∃ t,v=.int (a+i * c) t) acc n)
  (s:={ s with heap:=s.heap.push (seqObj "list" #[] 0) }) hh (Heap.get?_push_of_some _ hr) hm hn hl _ _ 0 hL1 fun h' tk acc c' k1 k2 k3=>⟨h',tk,acc,c',rfl,rfl,fun b o e=>k1 b o (Nat.ne_of_lt (Heap.lt_size e)) (Heap.get?_push_of_some _ e),k2,k3⟩) (fun fin s' z=>?_) (fun e s' z=>?_)
 ·cases fin with
  | done f =>
   obtain⟨h',tk,acc,c',e,rfl,k1,k2,k3⟩:=z
   cases e
   refine wpAny_bind (wpAny_load k2 ?_)
   exact wpAny_pure (k h' tk acc k1 k3)
  | again c' =>
   refine⟨z.1,codeAny_mono z.2 fun x s2 z=>?_⟩
   obtain⟨h',tk,acc,c',rfl,rfl,k1,k2,k3⟩:=z
   refine wpAny_bind (wpAny_load k2 ?_)
   exact wpAny_pure (k h' tk acc k1 k3)
 ·obtain⟨h',tk,acc,c',e,_⟩:=z
  cases e
theorem ζ33{r:Addr}{a b c:Int}{t u v:Tok}{n:Nat}(hm:Builtin.Range.small a b c=true)(hn:Builtin.Range.rangeSize a b c=n)(hl:n<=2 ^ 24) :
  Meets (Builtin.«tuple.__new__» ⟨[.type "tuple",.ref r],[]⟩) (fun A R s=>A.handled=none/\IsRange s.heap r a b c t u v/\∀(h':Heap) (tk:Nat) (acc:Array Value),(∀ b o,s.heap.get? b=some o->h'.get? b=some o)->ItemsOf (fun i v=>∃ t,v=.int (a+i * c) t) acc n ->
   R (.ok (.ret (.ref h'.objs.size))) { s with heap:=h'.push (seqObj "tuple" acc 0),toks:=tk }) :=
 .of_wp fun prog w A R s h=>by
  obtain⟨hh,hr,h⟩:=h
  have e1:=sub_tuple_self
  have e2:=init_tuple_lookup
  have e3:=madeHere_tuple
  have hT:s.TypeIs (.ref r) "range":=⟨_,hr,rfl⟩
  have hh1:A.in1.handled=none:=hh
  wp_walk using wpAny_typeOf hT,ζX4 hh1 hr hm hn hl
  intro h' tk acc hk hacc
  show wpAny _ _ (Builtin.Tuple.tupleExact acc.toList.toArray >>= ret) _ _ _
  unfold Builtin.Tuple.tupleExact
  have e:acc.toList.toArray=acc:=by simp
  rw[e]
  refine wpAny_bind (wpAny_newObj_type ?_ (by show acc.size<=sizeLine;rw[hacc.1,sizeLine_eq];exact hl))
  exact wpAny_pure ⟨_,rfl,h h' tk acc hk hacc⟩
theorem ζd2{r:Addr}{a b c:Int}{t u v:Tok}{n:Nat}{Q:Value->Shared->Prop}(hh:A.handled=none)(hr:IsRange s.heap r a b c t u v)(hm:Builtin.Range.small a b c=true)(hn:Builtin.Range.rangeSize a b c=n)(hl:n<=2 ^ 24)
  (k:∀(h':Heap) (tk:Nat) (acc:Array Value),(∀ b o,s.heap.get? b=some o->h'.get? b=some o)->ItemsOf (fun i v=>∃ t,v=.int (a+i * c) t) acc n->Q (.ref h'.objs.size) { s with heap:=h'.push (seqObj "tuple" acc 0),toks:=tk }):wpAny (model prog w) A (call (.type "tuple") [.ref r]) Q E s :=
 callType_new F.called_tuple (by decide) (F.typeCall_tuple_1 _) (F.newCall_tuple_1 _) (fun o=>F.args_object_init_2 o _) F.entry_tuple_new (ζ33 (t:=t) (u:=u) (v:=v) hm hn hl)
  ⟨hh,hr,fun h' tk acc hk hacc=>⟨⟨_,Heap.get?_push_size _ rfl,rfl⟩,k h' tk acc hk hacc⟩⟩
end
section
variable{X:Cx}
theorem ζO2 (hc:X.calm=true):ζi2 X (.type "tuple") (fun xs H Q=>∃ p lo hi,xs=[.ref p]/\H p=some (.rng lo hi)/\(-(2 ^ 62)<=lo/\lo<2 ^ 62/\-(2 ^ 62)<=hi/\hi<2 ^ 62)/\(hi - lo).toNat<=16777216 /\
  ∀ l,H l=none->Q (.ref l) (upd H l (.tup ((rngI lo hi).map V.int)))):=by
 intro pins s σ H xs us Q I r h
 obtain⟨p,lo,hi,rfl,hp,⟨b1,b2,b3,b4⟩,hz,q⟩:=h
 obtain⟨u,rfl,ru⟩:=ζh3 r
 obtain rfl:u=Value.ref p:=ru
 obtain⟨t,u,v,e⟩:=(show ObjOk X.prog X.w H s.heap p (.rng lo hi) from I.hok p _ hp)
 have hn:Builtin.Range.rangeSize lo hi 1=(((hi - lo).toNat:Nat):Int):=by rw[rangeSize_one];split <;> omega
 refine ζd2 (I.ok.hd hc) (t:=t) (u:=u) (v:=v) e (small_one b1 b2 b3 b4) hn hz fun h' tk acc hk ha=>?_
 have hl:acc.toList.length=(hi - lo).toNat:=by rw[Array.length_toList];exact ha.1
 have rv:Vals ((rngI lo hi).map V.int) acc.toList:=ζ55 (lo:=lo) hl fun j w ew=>by
  obtain⟨t,e⟩:=ha.2 j w (by simpa using ew)
  exact⟨t,by rw[e,Int.mul_one]⟩
 have I1:Inv X pins σ H { s with heap:=h',toks:=tk }:=I.kept (t':=tk) hk
 have hz2:((rngI lo hi).map V.int).length<=sizeLine:=by
  rw[List.length_map,ζm2]
  have:sizeLine=16777216:=sizeLine_eq
  omega
 have I2:Inv X pins σ (upd H h'.objs.size (.tup ((rngI lo hi).map V.int))) { s with heap:=h'.push (seqObj "tuple" acc.toList.toArray 0),toks:=tk } :=
  I1.laid (t':=tk) (fun b o e=>Heap.get?_push_of_some _ e) (Nat.le_refl _) (show ObjOk X.prog X.w _ _ _ (.tup ((rngI lo hi).map V.int)) from⟨hz2,acc.toList,rv,IsTup.new _ _⟩)
 have ea:acc.toList.toArray=acc:=by simp
 rw[ea]at I2
 exact⟨.ref h'.objs.size,_,I2,rfl,q _ (I1.hok.fresh (Nat.le_refl _))⟩
end
end L2
namespace My
open PySem L2
def gst(n:Nat)(ps:List (Int × Int))(G:List Int)(z:Int):List Int:=if mk (lms n (ζc ps G)) (ζ21 ps z).1=mk (lms n (ζc ps G)) (ζ21 ps z).2 then G else G++[z]
def grw(n:Nat)(ps:List (Int × Int))(zs:List Int):List Int:=zs.foldl (gst n ps) []
theorem ζG2(n:Nat)(ps:List (Int × Int))(zs:List Int)(z:Int):grw n ps (zs++[z])=gst n ps (grw n ps zs) z:=by unfold grw;rw[List.foldl_append];rfl
theorem ζ111(n:Nat)(ps:List (Int × Int))(zs:List Int):∀ ys,∃ us,grw n ps (zs++ys)=grw n ps zs++us/\us.Sublist ys:=by
 refine ζn1 ⟨[],by simp⟩ fun ys y ih=>?_
 obtain⟨us,e,s⟩:=ih
 rw[<- List.append_assoc,ζG2,e]
 unfold gst
 split
 ·exact⟨us,rfl,s.trans (List.sublist_append_left _ _)⟩
 ·exact⟨us++[y],by rw[List.append_assoc],s.append (List.Sublist.refl _)⟩
theorem ζ08(n:Nat)(ps:List (Int × Int))(zs:List Int):(grw n ps zs).Sublist zs:=by
 obtain⟨us,e,s⟩:=ζ111 n ps [] zs
 rw[List.nil_append]at e
 rw[e]
 exact s
theorem ζ211{n:Nat}{ps:List (Int × Int)}{zs:List Int}(h:∀ z∈zs,0<=z/\z<(ps.length:Int)):∀ z∈grw n ps zs,0<=z/\z<(ps.length:Int):=fun z hz=>h z ((ζ08 n ps zs).subset hz)
theorem ζZ10{n:Int}{ps:List (Int × Int)}(g:ζE n ps){zs:List Int}(h:∀ z∈zs,0<=z/\z<(ps.length:Int)):InN n.toNat (ζc ps (grw n.toNat ps zs)):=ζG1 g (ζ211 h)
theorem ζ011{n:Int}{ps:List (Int × Int)}(g:ζE n ps):∀ zs:List Int,(∀ z∈zs,0<=z/\z<(ps.length:Int))->cnt (lms n.toNat (ζc ps (grw n.toNat ps zs)))+(grw n.toNat ps zs).length=n.toNat:=by
 refine ζn1 (fun _=>ζt4 n.toNat) fun zs z ih h=>?_
 have h1:∀ z∈zs,0<=z/\z<(ps.length:Int):=fun y hy=>h y (List.mem_append_left _ hy)
 have ih:=ih h1
 obtain⟨z0,z1⟩:=h z (List.mem_append_right _ (List.mem_singleton.mpr rfl))
 have he:=ζU4 (z:=z) g z0 z1
 have hl:=ζQ n.toNat (ζc ps (grw n.toNat ps zs))
 rw[ζG2]
 unfold gst
 split
 ·exact ih
 ·rename_i h
  rw[ζF1,ζs1,List.length_append,List.length_singleton]
  have:=ζN3 (m:=lms n.toNat (ζc ps (grw n.toNat ps zs))) (by omega) (by omega) h
  omega
theorem ζk9{n:Int}{ps:List (Int × Int)}(g:ζE n ps):∀ zs:List Int,(∀ z∈zs,0<=z/\z<(ps.length:Int))->∀ {i j:Nat},Conn (ζc ps zs) i j->Conn (ζc ps (grw n.toNat ps zs)) i j:=by
 refine ζn1 (fun _ _ _ c=>c) fun zs z IH h i j c=>?_
 have h1:∀ z∈zs,0<=z/\z<(ps.length:Int):=fun y hy=>h y (List.mem_append_left _ hy)
 obtain⟨z0,z1⟩:=h z (List.mem_append_right _ (List.mem_singleton.mpr rfl))
 have he:=ζU4 (z:=z) g z0 z1
 have up:∀ {a b:Nat},Conn (ζc ps (grw n.toNat ps zs)) a b->Conn (ζc ps (grw n.toNat ps (zs++[z]))) a b:=fun c=>by
  rw[ζG2]
  unfold gst
  split
  ·exact c
  ·exact c.mono (ζJ2 fun y hy=>List.mem_append_left _ hy)
 have own:Conn (ζc ps (grw n.toNat ps (zs++[z]))) (ζ21 ps z).1 (ζ21 ps z).2:=by
  rw[ζG2]
  unfold gst
  split
  ·rename_i e
   exact(ζ52 (ζZ10 g h1) he.1 he.2).mp e
  ·rw[ζF1]
   exact .edge (List.mem_append_right _ (List.mem_singleton.mpr rfl))
 induction c with
 | refl i=>exact .refl i
 | symm _ ih=>exact .symm ih
 | trans _ _ i1 i2=>exact .trans i1 i2
 | @edge a b e =>
  rw[ζF1]at e
  rcases List.mem_append.mp e with e | e
  ·exact up (IH h1 (.edge e))
  ·have e:=List.mem_singleton.mp e
   have ea:a=(ζ21 ps z).1:=congrArg Prod.fst e
   have eb:b=(ζ21 ps z).2:=congrArg Prod.snd e
   rw[ea,eb]
   exact own
end My
namespace PyProof.Rows
open PySem
abbrev dK:Keyed:=(Value.none,Value.none)
section
variable{M:Model}{A:Around}{E:Value->Shared->Prop}{s:Shared}{O:KeyOrd}{key:Keyed->O.α}{kd:SortKind}{S:Keyed->Prop}
end
section
variable{M:Model}{A:Around}{E:Value->Shared->Prop}{s:Shared}{O:KeyOrd}{key:Keyed->O.α}{kd:SortKind}{S:Keyed->Prop}
def RK(O:KeyOrd)(key:Keyed->O.α)(x y:Keyed):Prop:=O.kle (key x) (key y)
structure MI (O:KeyOrd) (key:Keyed->O.α) (la lb:List Keyed) (out:Array Keyed) (ia ib:Nat):Prop where
 so:out.toList.Pairwise (RK O key)
 oa:∀ x∈out.toList,∀ y∈la.drop ia,RK O key x y
 ob:∀ x∈out.toList,∀ y∈lb.drop ib,RK O key x y
 pm:(out.toList++la.drop ia++lb.drop ib).Perm (la++lb)
abbrev LoS:=Option (Array Keyed) × Array Keyed × Nat × Nat × Nat × Nat × Nat
section
variable{a b out:Array Keyed}{ia ib:Nat}{st:SortSt}{R:ForInStep LoS->SortSt->Prop}
end
section
variable{a b:Array Keyed}{st:SortSt}
end
end
section
variable{M:Model}{A:Around}{E:Value->Shared->Prop}{s:Shared}{O:KeyOrd}{key:Keyed->O.α}{kd:SortKind}{S:Keyed->Prop}
structure MH (O:KeyOrd) (key:Keyed->O.α) (la lb:List Keyed) (out:Array Keyed) (na nb:Nat):Prop where
 so:out.toList.Pairwise fun x y=>RK O key y x
 oa:∀ x∈la.take na,∀ y∈out.toList,RK O key x y
 ob:∀ x∈lb.take nb,∀ y∈out.toList,RK O key x y
 pm:(la.take na++lb.take nb++out.toList).Perm (la++lb)
abbrev HiS:=Option (Array Keyed) × Nat × Nat × Array Keyed × Nat × Nat × Nat
section
variable{a b out:Array Keyed}{na nb:Nat}{st:SortSt}{R:ForInStep HiS->SortSt->Prop}
end
section
variable{a b:Array Keyed}{st:SortSt}
end
end
section
variable{M:Model}{A:Around}{E:Value->Shared->Prop}{s:Shared}{O:KeyOrd}{key:Keyed->O.α}{kd:SortKind}{S:Keyed->Prop}
end
section
variable{M:Model}{A:Around}{E:Value->Shared->Prop}{s:Shared}{O:KeyOrd}{key:Keyed->O.α}{kd:SortKind}{S:Keyed->Prop}
def Stp(lo:Nat)(st st':SortSt):Prop:=kindOf st'=kindOf st/\failedOf st'=failedOf st/\pendingOf st'=pendingOf st/\(arrOf st').Perm (arrOf st)/\∀ i,i<lo->(arrOf st')[i]?=(arrOf st)[i]?
theorem Stp.refl(lo:Nat)(st:SortSt):Stp lo st st:=⟨rfl,rfl,rfl,Array.Perm.refl _,fun _ _=>rfl⟩
theorem Stp.trans{lo:Nat}{a b c:SortSt}(h:Stp lo a b)(k:Stp lo b c):Stp lo a c:=⟨k.1.trans h.1,k.2.1.trans h.2.1,k.2.2.1.trans h.2.2.1,k.2.2.2.1.trans h.2.2.2.1,fun i hi=>(k.2.2.2.2 i hi).trans (h.2.2.2.2 i hi)⟩
theorem Stp.size{lo:Nat}{a b:SortSt}(h:Stp lo a b):(arrOf b).size=(arrOf a).size:=h.2.2.2.1.size_eq
theorem Stp.all{lo:Nat}{a b:SortSt}(h:Stp lo a b)(hS:∀ x∈(arrOf a).toList,S x):∀ x∈(arrOf b).toList,S x:=fun x hx=>hS x ((Array.perm_iff_toList_perm.mp h.2.2.2.1).mem_iff.mp hx)
end
section
variable{M:Model}{A:Around}{E:Value->Shared->Prop}{s:Shared}{O:KeyOrd}{key:Keyed->O.α}{kd:SortKind}{S:Keyed->Prop}
def offs:List (List Keyed)->Nat->List (Nat × Nat)
 | [],_=>[]
 | g :: gs,o=>(o,g.length) :: offs gs (o+g.length)
structure PI (O:KeyOrd) (key:Keyed->O.α) (kd:SortKind) (a₀:Array Keyed) (st:SortSt) (segs:List (List Keyed)) (rest:List Keyed):Prop where
 kind:kindOf st=kd
 fail:failedOf st=none
 perm:(arrOf st).Perm a₀
 arr:(arrOf st).toList=segs.flatten++rest
 srt:∀ g∈segs,1<=g.length/\g.Pairwise (RK O key)
 pend:(pendingOf st).toList.map (fun p=>(p.1,p.2.1))=offs segs 0
theorem PI.size{a₀:Array Keyed}{st:SortSt}{segs:List (List Keyed)}{rest:List Keyed}(h:PI O key kd a₀ st segs rest):a₀.size=segs.flatten.length+rest.length:=by
 rw[<- h.perm.size_eq,<- Array.length_toList,h.arr,List.length_append]
end
end PyProof.Rows
namespace L2
open PySem PySem.Spec PyProof.Rows
section
variable{prog:Program}{w:World}{A:Around}{E:Value->Shared->Prop}{s:Shared}
def sameBut(a:Addr)(h h':Heap):Prop:=∀ b o,b≠a->h.get? b=some o->h'.get? b=some o
end
end L2
namespace L2
open PySem PySem.Spec PyProof.Rows My
section
variable{X:Cx}
end
end L2
namespace L2
open PySem PySem.Spec PyProof.Rows
section
variable{X:Cx}
end
end L2
namespace My
open PySem L2
end My
namespace L2
open PySem PySem.Spec PyProof.Rows
section
variable{X:Cx}
end
end L2
namespace L2
open PySem PySem.Spec PyProof.Rows
open PySem.SeqAt
open PySem.AutoSeq1 (wpAny_loadPart')
open PySem.MeetsSeq PySem.MeetsSeq2 PySem.MeetsSeq3
end L2
namespace L2
open PySem PySem.Spec PyProof.Rows My
section
variable{prog:Program}{w:World}{A:Around}{E:Value->Shared->Prop}{s:Shared}
end
section
variable{X:Cx}
end
end L2
namespace L2
open PySem PySem.Spec PyProof.Rows
section
variable{X:Cx}
end
end L2
namespace My
open PySem L2
end My
namespace L2
open PySem PySem.Spec PyProof.Rows
section
variable{X:Cx}
end
end L2
namespace My
open PySem L2
inductive WP (n:Int) (ps:List (Int × Int)) (W:List Int) (T0:List Int):List Int->List (Int × Int)->List Int->Prop
 | nil:WP n ps W T0 [] [] T0
 | skip {l:List Int} {ws:List (Int × Int)} {T:List Int} {z:Int}:WP n ps W T0 l ws T->z∈T->WP n ps W T0 (l++[z]) ws T
 | step {l:List Int} {ws:List (Int × Int)} {T T':List Int} {z o:Int}:WP n ps W T0 l ws T->z∉T->o∈ζN12 n ps T z T->o∉W->(∀ y∈ζN12 n ps T z T,y∉W->o<=y)->T'.Perm (wo T o++[z])->T'.Pairwise (·<=·)->WP n ps W T0 (l++[z]) (ws++[(o,z)]) T'
def Leads(n:Int)(ps:List (Int × Int)):List Int->List (Int × Int)->List Int->Prop
 | T,[],U=>T=U
 | T,(o,z) :: ws,U=>o∈T/\z∉T/\∃ T',T'.Perm (wo T o++[z])/\T'.Pairwise (·<=·)/\ζH n ps T'/\Leads n ps T' ws U
theorem Leads.snoc{n:Int}{ps:List (Int × Int)}{U V:List Int}{o z:Int}:∀ {ws:List (Int × Int)} {T:List Int},Leads n ps T ws U->o∈U->z∉U->V.Perm (wo U o++[z])->V.Pairwise (·<=·)->ζH n ps V->Leads n ps T (ws++[(o,z)]) V
 | [],T,h,h1,h2,h3,h4,h5=>by
  have h:T=U:=h
  subst h
  exact⟨h1,h2,V,h3,h4,h5,rfl⟩
 | (o',z') :: ws,T,⟨a1,a2,T',a3,a4,a5,a6⟩,h1,h2,h3,h4,h5=>⟨a1,a2,T',a3,a4,a5,Leads.snoc a6 h1 h2 h3 h4 h5⟩
theorem ζI4{a b:List Int}(ha:a.Pairwise (· < ·))(hb:b.Pairwise (· < ·))(h:∀ z,z∈a↔z∈b):a=b :=
 (ζr2 ha hb fun z hz=>(h z).mp hz).eq_of_length (Nat.le_antisymm (ζr2 ha hb fun z hz=>(h z).mp hz).length_le (ζr2 hb ha fun z hz=>(h z).mpr hz).length_le)
end My
namespace L2
open PySem PySem.Spec PyProof.Rows
section
variable{prog:Program}{w:World}{A:Around}{E:Value->Shared->Prop}{s:Shared}{l:Addr}{xs:Array (Int × Tok)}
end
section
variable{X:Cx}
end
end L2
namespace My
open PySem L2
theorem ζU1{xs:List V}{i:Int}(h0:0<=i):cutV xs (some i) none=xs.drop i.toNat:=by
 have e:HT.sIx xs.length 0 (some i)=min i.toNat xs.length:=by
  show(if i<0 then (i+(xs.length:Int)).toNat else min i.toNat xs.length)=_
  rw[if_neg (by omega)]
 unfold cutV
 rw[e,HT.sIx_none,List.take_of_length_le (by rw[List.length_drop];exact Nat.le_refl _)]
 by_cases h:i.toNat<=xs.length
 ·rw[Nat.min_eq_left h]
 ·rw[Nat.min_eq_right (by omega),List.drop_eq_nil_of_le (Nat.le_refl _),List.drop_eq_nil_of_le (by omega)]
def cutz{α:Type}(l:List α)(z:Int):List α:=l.take z.toNat++l.drop (z.toNat+1)
theorem ζq13{xs:List V}{z:Int}(h0:0<=z):cutV xs none (some z)++cutV xs (some (z+1)) none=cutz xs z:=by
 rw[ζK3 h0,ζU1 (by omega),show(z+1).toNat=z.toNat+1 by omega]
 rfl
theorem ζC9{α:Type}(l:List α)(z:Int):(cutz l z).length<=l.length:=by
 unfold cutz
 rw[List.length_append,List.length_take,List.length_drop]
 omega
def dn(lo hi i:Int):Int:=if i=hi then lo else if i<hi then i else i - 1
theorem ζj5(i:Nat):rgL (i+1)=rgL i++[(i:Int)]:=by unfold rgL;rw[List.range_succ,List.map_append];rfl
end My
namespace L2
open PySem PySem.Spec PyProof.Rows
section
variable{X:Cx}
end
theorem ζT6{N a b:St->Hp->Prop}{r:VK}{σ:St}{H:Hp}(h:N σ H):Ends.nx { nx:=N,rt:=r,bk:=a,ct:=b } σ H:=h
end L2
namespace My
theorem len1{α:Type}{l:List α}(h:l.length=1):∃ a,l=[a]:=by
 cases l with
 | nil=>cases h
 | cons a l=>cases l with
  | nil=>exact⟨a,rfl⟩
  | cons b l=>simp at h
theorem len2{α:Type}{l:List α}(h:l.length=2):∃ a b,l=[a,b]:=by
 cases l with
 | nil=>cases h
 | cons a l =>
  obtain⟨b,rfl⟩:=len1 (Nat.succ.inj h)
  exact⟨a,b,rfl⟩
theorem len3{α:Type}{l:List α}(h:l.length=3):∃ a b c,l=[a,b,c]:=by
 cases l with
 | nil=>cases h
 | cons a l =>
  obtain⟨b,c,rfl⟩:=len2 (Nat.succ.inj h)
  exact⟨a,b,c,rfl⟩
theorem len4{α:Type}{l:List α}(h:l.length=4):∃ a b c d,l=[a,b,c,d]:=by
 cases l with
 | nil=>cases h
 | cons a l =>
  obtain⟨b,c,d,rfl⟩:=len3 (Nat.succ.inj h)
  exact⟨a,b,c,d,rfl⟩
end My
namespace L2
open PySem PySem.Spec PyProof.Rows
section
variable{X:Cx}
end
end L2
namespace Att
open PySem PySem.W PySem.Calls PyProof.Rows
end Att
namespace L2
open PySem PySem.Spec PyProof.Rows
end L2
namespace My
open PySem L2
end My
namespace L2
open PySem PySem.Spec PyProof.Rows
section
variable{X:Cx}
end
end L2
namespace My
open PySem L2
end My
namespace L2
open PySem PySem.Spec PyProof.Rows
section
variable{prog:Program}{w:World}{A:Around}{E:Value->Shared->Prop}{s:Shared}{it a:Addr}{items:Array Value}
end
section
variable{X:Cx}{p p2 pos pos2:Pos}{e:Expr}{t:TA}
end
section
variable{X:Cx}
def ζa13:R2:=fun x y H Q=>∃ a b xs ys,x=.ref a/\y=.ref b/\H a=some (.tup xs)/\H b=some (.tup ys)/\xs.length+ys.length<=sizeLine/\∀(r:Addr) (H':Hp),Same H H'->H' r=some (.tup (xs++ys))->Q (.ref r) H'
theorem ζK7(K:PySem.W.Frag)(hk:X.K=K:=by rfl):OpR X (binaryOp .Add) ζa13:=by
 intro pins s σ H x y v u Q I rx ry h
 obtain⟨a,b,xs,ys,e1,e2,ha,hb,hz,q⟩:=h
 refine ζJ7 K hk pins s σ H x y v u Q I rx ry ⟨a,b,xs,ys,e1,e2,SqT.of ha,SqT.of hb,hz,fun hx=>?_,fun _ hy=>?_,fun _ _ p hp=>q p _ (My.same_at hp) ζ1⟩
 ·subst hx
  exact q b H (Same.refl H) hb
 ·subst hy
  exact q a H (Same.refl H) (by rw[List.append_nil];exact ha)
def rSlQ:V->Option Int->Option Int->Hp->VK->Prop:=fun x lo hi H Q=>∃ a xs,x=.ref a/\H a=some (.tup xs)/\∀(r:Addr) (H':Hp),Same H H'->H' r=some (.tup (cutV xs lo hi))->Q (.ref r) H'
theorem ζj7{xs:List V}{lo hi:Option Int}(h0:HT.sIx xs.length 0 lo=0)(h1:HT.sIx xs.length xs.length hi=xs.length):cutV xs lo hi=xs:=by
 unfold cutV
 rw[h0,h1]
 simp
theorem ζ612{K:PySem.W.Frag}{x:V}{lo hi:Option Int}{H:Hp}{Q:VK}(h:rSlQ x lo hi H Q):rSlU K x lo hi H Q:=by
 obtain⟨a,xs,e,ha,q⟩:=h
 exact⟨a,xs,e,SqT.of ha,fun hw=>q a H (Same.refl H) (by rw[ζj7 hw.1 hw.2];exact ha),fun _ p hp=>q p _ (My.same_at hp) ζ1⟩
theorem ζy7(K:PySem.W.Frag)(hk:X.K=K:=by rfl):SlR X rSlQ:=fun pins s σ H x v vl vu lo hi sl Q I rx hs pl pu h=>ζ910 K hk pins s σ H x v vl vu lo hi sl Q I rx hs pl pu (ζ612 h)
end
end L2
namespace My
open PySem L2
theorem Conn.lift{es fs:List (Nat × Nat)}(h:∀ e∈es,Conn fs e.1 e.2){i j:Nat}(c:Conn es i j):Conn fs i j:=by
 induction c with
 | refl i=>exact .refl i
 | edge e=>exact h _ e
 | symm _ ih=>exact ih.symm
 | trans _ _ ih1 ih2=>exact ih1.trans ih2
theorem ζa5{n:Int}{ps:List (Int × Int)}{D:List Int}(g:ζE n ps)(hD:IsSet ps.length D)(hc:∀ i j,i<n.toNat->j<n.toNat->Conn (ζc ps D) i j):∃ T,ζH n ps T/\∀ y∈T,y∈D:=by
 have hs:=ζ08 n.toNat ps D
 have hall:=hD.all
 have hG:=ζZ10 g hall
 have hcc:∀ i j,i<n.toNat->j<n.toNat->Conn (ζc ps (grw n.toNat ps D)) i j:=fun i j hi hj=>ζk9 g D hall (hc i j hi hj)
 have h1:=(ζK1 (by have:=g.1;omega) hG).mpr hcc
 have h2:=ζ011 g D hall
 refine⟨grw n.toNat ps D,⟨isSet_iff.mpr ⟨fun z hz=>hall z (hs.subset hz),(isSet_iff.mp hD).2.sublist hs⟩,by have:=g.1;omega,hcc⟩,fun y hy=>hs.subset hy⟩
end My
namespace L2
open PySem PySem.Spec PyProof.Rows
section
variable{X:Cx}
end
end L2
namespace My
open PySem L2
inductive Wk (n:Int) (ps:List (Int × Int)) (T0:List Int):List (Int × Int)->List Int->Prop
 | nil:Wk n ps T0 [] T0
 | step {ws:List (Int × Int)} {T T':List Int} {o z:Int}:Wk n ps T0 ws T->exg n ps T o z->T'.Perm (wo T o++[z])->T'.Pairwise (·<=·)->Wk n ps T0 (ws++[(o,z)]) T'
theorem ζG9{M N:List Int}(s:SameP M N):cnt M=cnt N:=by
 unfold cnt fstA
 rw[<- s.1]
 refine congrArg List.length (List.filter_congr fun p hp=>?_)
 have hp:=List.mem_range.mp hp
 rw[Bool.eq_iff_iff,fstB_iff,fstB_iff]
 constructor
 ·intro h i hi e
  exact h i hi ((s.2 i p (by omega) hp).mpr e)
 ·intro h i hi e
  exact h i hi ((s.2 i p (by omega) hp).mp e)
def Fr(n:Nat)(ps:List (Int × Int))(l:List Int):Bool:=decide (grw n ps l=l)
theorem Fr.nil(n:Nat)(ps:List (Int × Int)):Fr n ps []=true:=decide_eq_true rfl
def frs(n:Nat)(ps:List (Int × Int))(k:Nat):List (List Int):=(cmb (ps.length:Int) k).filter (Fr n ps)
theorem srt_strict{a:List Int}(h:a.Pairwise (·<=·))(hn:a.Nodup):a.Pairwise (· < ·):=(h.and hn).imp fun h=>by have:=h.1;have:=h.2;omega
theorem ζq7{p r:List Int}{x:Int}(h:(p++x :: r).Pairwise (· < ·)):(∀ z∈p,z<x)/\∀ z∈x :: r,x<=z:=by
 have a:=List.pairwise_append.mp h
 refine⟨fun z hz=>a.2.2 z hz x List.mem_cons_self,fun z hz=>?_⟩
 rcases List.mem_cons.mp hz with h | h
 ·rw[h];exact Int.le_refl _
 ·exact Int.le_of_lt ((List.pairwise_cons.mp a.2.1).1 z h)
end My
namespace L2
open PySem PySem.Spec PyProof.Rows
section
variable{X:Cx}
end
end L2
namespace My
open PySem L2
end My
namespace L2
open PySem PySem.Spec PyProof.Rows
def ζb13(K:PySem.W.Frag):R2:=fun x y H Q=>∃ l b xs zs,x=.ref l/\y=.ref b/\SqL K H l xs/\SqL K H b zs/\xs.length+zs.length<=sizeLine/\∀ p,H p=none->Q (.ref p) (upd H p (.lst (xs++zs)))
section
variable{X:Cx}
theorem ζL7(K:PySem.W.Frag)(hk:X.K=K:=by rfl):OpR X (binaryOp .Add) (ζb13 K):=by
 subst hk
 intro pins s σ H x y v u Q I rx ry h
 obtain⟨l,b,xs,zs,rfl,rfl,hH,hB,hz,q⟩:=h
 cases rx
 cases ry
 obtain⟨its,r,p,_⟩:=I.list hH
 obtain⟨its2,r2,p2,_⟩:=I.list hB
 have l1:=r.length
 have l2:=r2.length
 obtain⟨⟨cls,dd,data,sl⟩,ho,hc,n,hd⟩:=id p.isList
 obtain⟨⟨cls2,dd2,data2,sl2⟩,ho2,hc2,n2,hd2⟩:=id p2.isList
 simp only at hc hd hc2 hd2
 subst hc hd hc2 hd2
 have e:its.toArray++its2.toArray=(its++its2).toArray:=by simp
 refine concat_meets ⟨_,ho,rfl⟩ ⟨_,ho2,rfl⟩ noFill_list_add seq_list_add PySem.F.slot_list_add PySem.F.entry_list_add (PySem.F.args_list_add_2 _ _) (list_addW l b its.toArray its2.toArray n n2 dd dd2 sl sl2 (by rw[List.size_toArray,List.size_toArray];omega)) ⟨ho,ho2,?_⟩
 rw[e]
 exact⟨.ref _,_,I.lnew (t':=s.toks) (r.append r2) (by rw[List.length_append];omega),rfl,q _ I.fresh⟩
end
end L2
namespace My
open PySem L2
def TC(n:Int)(ps:List (Int × Int))(c:Nat):Prop:=∃ L:List (List Int),L.Nodup/\(∀ l,l∈L↔ζH n ps l)/\L.length=c
theorem TC.uniq{n:Int}{ps:List (Int × Int)}{c d:Nat}(h1:TC n ps c)(h2:TC n ps d):c=d:=by
 obtain⟨L,a1,a2,rfl⟩:=h1
 obtain⟨M,b1,b2,rfl⟩:=h2
 exact((List.perm_ext_iff_of_nodup a1 b1).mpr fun l=>by rw[a2,b2]).length_eq
theorem set_snoc{m:Nat}{T:List Int}:IsSet (m+1) (T++[(m:Int)])↔IsSet m T:=by
 constructor
 ·intro h
  have a:=isSet_iff.mp h
  have b:=List.pairwise_append.mp a.2
  refine isSet_iff.mpr ⟨fun z hz=>?_,b.1⟩
  have c:=a.1 z (List.mem_append_left _ hz)
  have d:=b.2.2 z hz m (List.mem_singleton.mpr rfl)
  omega
 ·exact fun h=>h.snoc
theorem ζr3{m:Nat}{T:List Int}(h:IsSet (m+1) T):IsSet m T\/∃ T',T=T'++[(m:Int)]/\IsSet m T':=by
 have a:=isSet_iff.mp h
 by_cases hm:(m:Int)∈T
 ·obtain⟨p,r,e⟩:=List.append_of_mem hm
  have b:=ζq7 (e ▸ a.2)
  cases r with
  | nil=>exact .inr ⟨p,e,set_snoc.mp (e ▸ h)⟩
  | cons y r =>
   have h1:=a.1 y (by rw[e];simp)
   have h2:=(List.pairwise_cons.mp (List.pairwise_append.mp (e ▸ a.2)).2.1).1 y List.mem_cons_self
   omega
 ·refine .inl (isSet_iff.mpr ⟨fun z hz=>?_,a.2⟩)
  have h1:=a.1 z hz
  have h2:z≠(m:Int):=fun e=>hm (e ▸ hz)
  omega
theorem ζr4{es:List (Nat × Nat)}{a b i j:Nat}(c:Conn (es++[(a,b)]) i j):Conn (es++[(b,a)]) i j:=c.lift fun e he=>by
 rcases List.mem_append.mp he with q | q
 ·exact .edge (List.mem_append_left _ q)
 ·rw[List.mem_singleton.mp q]
  exact .symm (.edge (by simp))
end My
namespace L2
open PySem PySem.Spec PyProof.Rows
section
variable{X:Cx}
end
end L2
namespace My
open PySem L2
def PhM(n:Nat)(ps:List (Int × Int))(d:Addr)(H:Hp)(x:V)(l:List Int):Prop:=∃ t p h,x=.ref t/\H t=some (.tup [.ref p,.ref h])/\H p=some (.tup (IL l))/\H h=some (.lst (IL (lms n (ζc ps l))))/\h≠d
theorem PhM.mut{n:Nat}{ps:List (Int × Int)}{H:Hp}{d:Addr}{ys zs:List V}{x:V}{l:List Int}(h:PhM n ps d H x l)(hd:H d=some (.lst ys)):PhM n ps d (upd H d (.lst zs)) x l:=by
 obtain⟨t,p,q,e,h1,h2,h3,h4⟩:=h
 exact⟨t,p,q,e,by rw[ζ9 (ζV6 h1 hd (fun z=>nomatch z))];exact h1,by rw[ζ9 (ζV6 h2 hd (fun z=>nomatch z))];exact h2,by rw[ζ9 h4];exact h3,h4⟩
theorem Bears.app{α:Type}[DecidableEq α]{R:V->α->Prop}{xs ys:List V}{l m:List α}(h:Bears R xs l)(h2:Bears R ys m):Bears R (xs++ys) (l++m):=by
 refine⟨by rw[List.length_append,List.length_append,h.1,h2.1],fun i a e=>?_⟩
 have hl:=h.1
 by_cases c:i<l.length
 ·rw[List.getElem?_append_left c]at e
  obtain⟨x,e1,r⟩:=h.2 i a e
  exact⟨x,by rw[List.getElem?_append_left (by omega)];exact e1,r⟩
 ·rw[List.getElem?_append_right (by omega)]at e
  obtain⟨x,e1,r⟩:=h2.2 _ a e
  exact⟨x,by rw[List.getElem?_append_right (by omega),hl];exact e1,r⟩
end My
namespace L2
open PySem PySem.Spec PyProof.Rows
def Itz(K:PySem.W.Frag)(a b:Addr):It :=
 ⟨fun i H=>∃ xs ys x y,SqL K H a xs/\SqL K H b ys/\xs[i]?=some x/\ys[i]?=some y,fun i H v H'=>∃ T x y,H T=none/\v=.ref T/\H'=upd H T (.tup [x,y])/\(∀ xs,SqL K H a xs->xs[i]?=some x)/\∀ ys,SqL K H b ys->ys[i]?=some y,
  fun i H=>∃ xs ys,SqL K H a xs/\SqL K H b ys/\(xs.length<=i\/ys.length<=i)⟩
theorem ζp8{P:Program}{w:World}{K:PySem.W.Frag}{elts:List Expr}{x1:Nat}{pos:Pos}(a b z TI TO i1 i2:Addr)(D:ZipApart z TI TO i1 i2 a b) :
  Turn P w K (.Tuple elts x1 pos) (Itz K a b) [z,TI,TO,i1,i2] z (fun i h=>IsZip h z TI TO .none/\IsPair h TI (.ref i1) (.ref i2)/\(∃ c d,IsPair h TO c d)/\h.IsListIter i1 a i/\h.IsListIter i2 b i) where
 mem:=by simp
 obj:=fun i h st c hc=>by
  obtain⟨hz,hTI,⟨u,v,hTO⟩,⟨o1,e1,_,d1⟩,⟨o2,e2,_,d2⟩⟩:=st
  have hc':c=z\/c=TI\/c=TO\/c=i1\/c=i2:=by simpa using hc
  rcases hc' with rfl | rfl | rfl | rfl | rfl
  ·exact⟨_,hz,fun v q=>by
    have q':Data.fields _=Data.cell v:=q
    cases q'⟩
  ·exact⟨_,hTI,fun v q=>by
    have q':Data.seq _ _=Data.cell v:=q
    cases q'⟩
  ·exact⟨_,hTO,fun v q=>by
    have q':Data.seq _ _=Data.cell v:=q
    cases q'⟩
  ·exact⟨o1,e1,fun v q=>by rw[d1]at q;cases q⟩
  ·exact⟨o2,e2,fun v q=>by rw[d2]at q;cases q⟩
 keep:=fun i h h' st k=>by
  obtain⟨hz,hTI,⟨u,v,hTO⟩,h1,h2⟩:=st
  exact⟨k z (by simp) _ hz,k TI (by simp) _ hTI,⟨u,v,k TO (by simp) _ hTO⟩,h1.at fun o e=>k i1 (by simp) o e,h2.at fun o e=>k i2 (by simp) o e⟩
 item:=by
  intro X hP hw hK hc i pins s σ H E I hf st hg
  subst hP hw hK
  obtain⟨xs,ys,x,y,hq,hq2,hx,hy⟩:=hg
  obtain⟨hz,hTI,⟨u0,v0,hTO⟩,h1,h2⟩:=st
  obtain⟨its,rv,p,_⟩:=I.list hq
  obtain⟨u,hu,ru⟩:=rv.get hx
  obtain⟨its2,rv2,p2,_⟩:=I.list hq2
  obtain⟨v,hv,rv'⟩:=rv2.get hy
  have fz:=hf z (by simp)
  have fTO:=hf TO (by simp)
  have fi1:=hf i1 (by simp)
  have fi2:=hf i2 (by simp)
  have hT0:H s.heap.objs.size=none:=I.hok.fresh (Nat.le_refl _)
  refine wpAny_pyNext_zip_item D hz hTI hTO h1 h2 p.isList p2.isList (x:=u) (y:=v) (by simpa using hu) (by simpa using hv) fun h' a1 a2 a3 a4 a5 hsz hk=>?_
  have ltT:∀ b ob,s.heap.get? b=some ob->b≠s.heap.objs.size:=fun b ob z=>Nat.ne_of_lt (Heap.lt_size z)
  have ltH:∀ b ob,H b=some ob->b≠s.heap.objs.size:=fun b ob z=>Nat.ne_of_lt (I.hok.lt z)
  have nof:∀ c ob,H c=some ob->c≠z/\c≠TO/\c≠i1/\c≠i2:=fun c ob q=>⟨fun e=>(by rw[e,fz.1]at q;cases q),fun e=>(by rw[e,fTO.1]at q;cases q),fun e=>(by rw[e,fi1.1]at q;cases q),fun e=>(by rw[e,fi2.1]at q;cases q)⟩
  have hkc:∀ c o,c∉[z,TO,i1,i2]->s.heap.get? c=some o->h'.get? c=some o:=fun c o hcx q=>hk c o (fun e=>hcx (by simp[e])) (fun e=>hcx (by simp[e])) (fun e=>hcx (by simp[e])) (fun e=>hcx (by simp[e])) q
  have I1:Inv X pins σ (upd H s.heap.objs.size (.tup [x,y])) { s with heap:=h' }:=by
   refine I.step (g':=s.gens) (d':=s.drawn) (t':=s.toks) (ch:=[z,TO,i1,i2]) (fun c hb=>?_) (fun c o _ _ hcx q _=>hkc c o hcx q) (fun c o _ _ hcx q _=>⟨o.slots,hkc c o hcx q⟩)
    (fun c o _ q n=>by rw[ζ9 (ltT c o q)];exact n) (fun c o hcx q=>⟨o,hkc c o hcx q⟩) (fun c ys q=>by rw[ζ9 (ltH c _ q)];exact q) (fun c o v q=>by rw[ζ9 (ltH c _ q)];exact q)
    (fun c ps q=>⟨#[],by rw[ζ9 (ltH c _ q),q];simp⟩) (fun m hm=>?_) (fun c v' q=>?_) I.bare
   ·have hc':c=z\/c=TO\/c=i1\/c=i2:=by simpa using hb
    rcases hc' with rfl | rfl | rfl | rfl
    ·exact⟨fz.2.2.2.1,fz.2.1,fz.2.2.2.2.1,fz.2.2.2.2.2⟩
    ·exact⟨fTO.2.2.2.1,fTO.2.1,fTO.2.2.2.2.1,fTO.2.2.2.2.2⟩
    ·exact⟨fi1.2.2.2.1,fi1.2.1,fi1.2.2.2.2.1,fi1.2.2.2.2.2⟩
    ·exact⟨fi2.2.2.2.1,fi2.2.1,fi2.2.2.2.2.1,fi2.2.2.2.2.2⟩
   ·obtain⟨o,es,ep,ho',r⟩:=hm
    exact⟨o,es,ep,hk _ o (Ne.symm fz.2.1) (Ne.symm fTO.2.1) (Ne.symm fi1.2.1) (Ne.symm fi2.2.1) ho',r⟩
   ·by_cases hb:c=s.heap.objs.size
    ·subst hb
     rw[ζ1]at q
     cases q
     exact⟨by show 2<=sizeLine;decide,[u,v],.cons ru (.cons rv' .nil),⟨_,a5,rfl,_,rfl⟩⟩
    ·rw[ζ9 hb]at q
     refine(I.hok c v' q).stay (fun e w' hc' q'=>?_) (fun e q=>by rw[ζ9 (ltH e _ q)];exact q) fun e ys q=>by rw[ζ9 (ltH e _ q)];exact q
     rcases hc' with rfl | hc'
     ·have:=nof e _ q
      exact hk e w' this.1 this.2.1 this.2.2.1 this.2.2.2 q'
     ·have:=nof e _ hc'
      exact hk e w' this.1 this.2.1 this.2.2.1 this.2.2.2 q'
  refine⟨_,rfl,wpAny_letOwnedTupleGo_zip a1 fun h2 hz2 hs2=>?_⟩
  have fT:z≠s.heap.objs.size:=ltT z _ hz
  have I2:Inv X pins σ (upd H s.heap.objs.size (.tup [x,y])) { s with heap:=h2 }:=Inv.turned (s:={ s with heap:=h' }) (h':=h2) (t':=s.toks) (it:=z) I1 (fun b o hb q=>hs2.extBut b o hb q) (by rw[ζ9 fT];exact fz.1) fz.2.1 fz.2.2.2.1 fz.2.2.2.2.1 fz.2.2.2.2.2
  refine⟨.ref s.heap.objs.size,_,I2,rfl,⟨_,x,y,hT0,rfl,rfl,fun ys hy'=>by rw[I.list_inj hy' hq];exact hx,fun ys hy'=>by rw[I.list_inj hy' hq2];exact hy⟩,
   ⟨hz2,hs2.extBut _ _ D.TIz (hkc _ _ (by have:=D.TIz;have:=D.TITO;have:=D.TIi1;have:=D.TIi2;simp;exact⟨D.TIz,D.TITO,D.TIi1,D.TIi2⟩) hTI),⟨u,v,hs2.extBut _ _ D.TOz a2⟩,a3.at fun o q=>hs2.extBut i1 o D.i1z q,a4.at fun o q=>hs2.extBut i2 o D.i2z q⟩,fun c hc=>?_⟩
  have hc':c=z\/c=TI\/c=TO\/c=i1\/c=i2:=by simpa using hc
  have hn:=(hf c hc).1
  rcases hc' with rfl | rfl | rfl | rfl | rfl
  ·rw[ζ9 fT];exact hn
  ·rw[ζ9 (ltT _ _ hTI)];exact hn
  ·rw[ζ9 (ltT _ _ hTO)];exact hn
  ·obtain⟨o,eo,_⟩:=h1
   rw[ζ9 (ltT _ o eo)];exact hn
  ·obtain⟨o,eo,_⟩:=h2
   rw[ζ9 (ltT _ o eo)];exact hn
 done:=by
  intro X hP hw hK hc i pins s σ H E I hf st hg
  subst hP hw hK
  obtain⟨xs,ys,hq,hq2,hend⟩:=hg
  obtain⟨hz,hTI,⟨u0,v0,hTO⟩,h1,h2⟩:=st
  obtain⟨its,rv,p,_⟩:=I.list hq
  obtain⟨its2,rv2,p2,_⟩:=I.list hq2
  have l1:=rv.length
  have l2:=rv2.length
  have fz:=hf z (by simp)
  have fTO:=hf TO (by simp)
  have fi1:=hf i1 (by simp)
  have fi2:=hf i2 (by simp)
  refine wpAny_pyNext_zip_end (I.ok.hd hc) D hz hTI hTO h1 h2 p.isList p2.isList (by
   rcases hend with e | e
   ·exact .inl (by simp;omega)
   ·exact .inr (by simp;omega)) fun h' hk=>⟨rfl,?_⟩
  have hkc:∀ c o,c∉[z,TO,i1,i2]->s.heap.get? c=some o->h'.get? c=some o:=fun c o hcx q=>hk c o (fun e=>hcx (by simp[e])) (fun e=>hcx (by simp[e])) (fun e=>hcx (by simp[e])) (fun e=>hcx (by simp[e])) q
  have nof:∀ c ob,H c=some ob->c≠z/\c≠TO/\c≠i1/\c≠i2:=fun c ob q=>⟨fun e=>(by rw[e,fz.1]at q;cases q),fun e=>(by rw[e,fTO.1]at q;cases q),fun e=>(by rw[e,fi1.1]at q;cases q),fun e=>(by rw[e,fi2.1]at q;cases q)⟩
  refine I.step (g':=s.gens) (d':=s.drawn) (t':=s.toks) (ch:=[z,TO,i1,i2]) (fun c hb=>?_) (fun c o _ _ hcx q _=>hkc c o hcx q) (fun c o _ _ hcx q _=>⟨o.slots,hkc c o hcx q⟩)
   (fun c o _ q n=>n) (fun c o hcx q=>⟨o,hkc c o hcx q⟩) (fun c ys q=>q) (fun c o v q=>q)
   (fun c ps q=>⟨#[],by rw[q];simp⟩) (fun m hm=>?_) (fun c v' q=>?_) I.bare
  ·have hc':c=z\/c=TO\/c=i1\/c=i2:=by simpa using hb
   rcases hc' with rfl | rfl | rfl | rfl
   ·exact⟨fz.2.2.2.1,fz.2.1,fz.2.2.2.2.1,fz.2.2.2.2.2⟩
   ·exact⟨fTO.2.2.2.1,fTO.2.1,fTO.2.2.2.2.1,fTO.2.2.2.2.2⟩
   ·exact⟨fi1.2.2.2.1,fi1.2.1,fi1.2.2.2.2.1,fi1.2.2.2.2.2⟩
   ·exact⟨fi2.2.2.2.1,fi2.2.1,fi2.2.2.2.2.1,fi2.2.2.2.2.2⟩
  ·obtain⟨o,es,ep,ho',r⟩:=hm
   exact⟨o,es,ep,hk _ o (Ne.symm fz.2.1) (Ne.symm fTO.2.1) (Ne.symm fi1.2.1) (Ne.symm fi2.2.1) ho',r⟩
  ·refine(I.hok c v' q).stay (fun e w' hc' q'=>?_) (fun e q=>q) fun e ys q=>q
   rcases hc' with rfl | hc'
   ·have:=nof e _ q
    exact hk e w' this.1 this.2.1 this.2.2.1 this.2.2.2 q'
   ·have:=nof e _ hc'
    exact hk e w' this.1 this.2.1 this.2.2.1 this.2.2.2 q'
 self:=fun _ _ _ _ _ st h=>wpAny_pyIter_zip st.1 h
def iZip(K:PySem.W.Frag)(ta:TA):TI:=fun σ H R=>ta σ H fun vs H1=>∃ a b,vs=[.ref a,.ref b]/\(∃ xs ys,SqL K H1 a xs/\SqL K H1 b ys)/\R (Itz K a b) H1
section
variable{X:Cx}
theorem ζM8 (K:PySem.W.Frag) {elts:List Expr} {x1:Nat} {tpos:Pos} {e f:Expr} {ta:TA} {p pos:Pos} (hg:Gl X "zip") (hm:X.mg "zip"=none) (ha:PA X [e,f] ta) (hs:starEach [e,f] X.env=(false,eval e X.env) :: starEach [f] X.env:=by rfl) (hpl:(backTo pos (starEach [f] X.env)).any (·.1)=false:=by rfl) (hk:X.K=K:=by rfl) :
  PI X (.Tuple elts x1 tpos) (.Call (.Name "zip" p) [e,f] [] pos) (iZip K ta):=by
 subst hk
 intro pins s σ H R I h
 refine Call_ (ζ63 I hg hm Boot.«zip» (PyProof.Rows.callWith_type1 (thn (ha pos pins s σ H _ I h) fun us s1 ⟨vs,H1,I1,r1,q1⟩=>?_) hs hpl))
 obtain⟨a,b,ev,⟨xs,ys,hq,hq2⟩,q⟩:=q1
 subst ev
 obtain⟨u,u',rfl,ru,ru'⟩:=ζK11 r1
 obtain rfl:u=Value.ref a:=ru
 obtain rfl:u'=Value.ref b:=ru'
 obtain⟨its,rv,pl,_⟩:=I1.list hq
 obtain⟨its2,rv2,pl2,_⟩:=I1.list hq2
 have lt1:a<s1.heap.objs.size:=let ⟨_,_,e,_⟩:=pl;Heap.lt_size e
 have lt2:b<s1.heap.objs.size:=let ⟨_,_,e,_⟩:=pl2;Heap.lt_size e
 have D:ZipApart (s1.heap.objs.size+4) (s1.heap.objs.size+2) (s1.heap.objs.size+3) s1.heap.objs.size (s1.heap.objs.size+1) a b:=by
  have key:∀ n x y:Nat,x<n->y<n->ZipApart (n+4) (n+2) (n+3) n (n+1) x y:=fun n x y h1 h2=>by constructor <;> (intro q;have q':(_:Nat)=_:=q;omega)
  exact key _ _ _ lt1 lt2
 refine call_zip_2 pl.isList pl2.isList fun h' hz hTI hTO hi1 hi2 hsz hk=>?_
 refine wpAny_pyIter_zip (s:={ s1 with heap:=h' }) hz ?_
 refine⟨s1.heap.objs.size+4,[s1.heap.objs.size+4,s1.heap.objs.size+2,s1.heap.objs.size+3,s1.heap.objs.size,s1.heap.objs.size+1],_,_,H1,rfl,I1.kept (t':=s1.toks) hk,ζp8 a b _ _ _ _ _ D,⟨hz,hTI,⟨_,_,hTO⟩,hi1,hi2⟩,fun c hc=>?_,q⟩
 have hle:s1.heap.objs.size<=c:=by
  have hc':c=s1.heap.objs.size+4\/c=s1.heap.objs.size+2\/c=s1.heap.objs.size+3\/c=s1.heap.objs.size\/c=s1.heap.objs.size+1:=by simpa using hc
  rcases hc' with e | e | e | e | e <;> rw[e] <;> first | exact Nat.le_refl _ | exact Nat.le_add_right _ _
 exact I1.fpOk hle (I1.hok.fresh hle)
end
end L2
namespace My
open PySem L2
section
variable{K:PySem.W.Frag}{a b:Addr}{xs ys:List V}{g:TG}{tt:TT}{te:TE}{o:Nat}{fr:List Nat}{σ:St}{H:Hp}{Q:VK}
theorem ζH10(Pv:Nat->List V->Hp->Prop)(h0:Pv 0 [] H)(hxy:xs.length=ys.length)(hz:xs.length<sizeLine)(hl:∀ i zs H,i<=xs.length->Pv i zs H->SqL K H a xs/\SqL K H b ys/\zs.length<=i)
  (hs:∀(i:Nat) x y zs H (p:Addr),H p=none->xs[i]?=some x->ys[i]?=some y->Pv i zs H->ζT3 Pv g tt te o fr σ i (.ref p) zs (upd H p (.tup [x,y]))) (hd:∀ zs H,Pv xs.length zs H->∀ p,H p=none->Q (.ref p) (upd H p (.lst zs))):LcR (Itz K a b) g tt te o fr σ H Q:=by
 refine⟨fun i m zs H=>m=xs.length - i/\i<=xs.length/\Pv i zs H,⟨xs.length,by simp,Nat.zero_le _,h0⟩,?_⟩
 rintro i m zs H ⟨rfl,hi,p⟩
 obtain⟨q,q2,hy⟩:=hl i zs H hi p
 by_cases hlt:i<xs.length
 ·refine .inr ⟨⟨xs,ys,xs[i],ys[i]'(by omega),q,q2,by simp[hlt],List.getElem?_eq_getElem (by omega)⟩,by omega,fun x H' ⟨T,u,v,hT,ex,eH,hu,hv⟩=>?_⟩
  subst ex eH
  exact hs i u v zs H T hT (hu xs q) (hv ys q2) p (fun j zs H=>∃ m',m'<xs.length - i/\m'=xs.length - j/\j<=xs.length/\Pv j zs H) fun zs H p'=>⟨xs.length - (i+1),by omega,rfl,hlt,p'⟩
 ·have e:i=xs.length:=by omega
  subst e
  exact .inl ⟨⟨xs,ys,q,q2,.inl (Nat.le_refl _)⟩,by omega,hd zs H p⟩
end
end My
namespace My
abbrev Mx:=Nat->Nat->Int
def sm:Nat->(Nat->Int)->Int
 | 0,_=>0
 | n+1,f=>sm n f+f n
theorem ζg{f g:Nat->Int}:∀ {n:Nat},(∀ i,i<n->f i=g i)->sm n f=sm n g
 | 0,_=>rfl
 | n+1,h=>by
  show sm n f+f n=sm n g+g n
  rw[ζg fun i hi=>h i (by omega),h n (by omega)]
theorem ζw1{f g:Nat->Int}:∀ {n:Nat},sm n (fun i=>f i+g i)=sm n f+sm n g
 | 0=>rfl
 | n+1=>by
  show sm n (fun i=>f i+g i)+(f n+g n)=sm n f+f n+(sm n g+g n)
  rw[ζw1]
  omega
theorem sm_mul{c:Int}{f:Nat->Int}:∀ {n:Nat},sm n (fun i=>c * f i)=c * sm n f
 | 0=>(Int.mul_zero c).symm
 | n+1=>by
  show sm n (fun i=>c * f i)+c * f n=c * (sm n f+f n)
  rw[sm_mul,Int.mul_add]
theorem sm_zero:∀ {n:Nat},sm n (fun _=>0)=0
 | 0=>rfl
 | n+1=>by
  show sm n (fun _=>0)+0=0
  rw[sm_zero]
  rfl
theorem ζv1{f:Nat->Int}{n:Nat}(h:∀ i,i<n->f i=0):sm n f=0:=by rw[ζg h];exact sm_zero
theorem ζW{f:Nat->Int}:∀ {n:Nat},sm (n+1) f=f 0+sm n (fun i=>f (i+1))
 | 0=>by show 0+f 0=f 0+0;omega
 | n+1=>by
  show sm (n+1) f+f (n+1)=f 0+(sm n (fun i=>f (i+1))+f (n+1))
  rw[ζW]
  omega
theorem ζY3{f:Nat->Nat->Int}{m:Nat}:∀ {n:Nat},sm n (fun i=>sm m (f i))=sm m (fun j=>sm n (fun i=>f i j))
 | 0=>sm_zero.symm
 | n+1=>by
  show sm n (fun i=>sm m (f i))+sm m (f n)=sm m (fun j=>sm n (fun i=>f i j)+f n j)
  rw[ζY3,ζw1]
def sk(j k:Nat):Nat:=if k<j then k else k+1
def mn(A:Mx)(j:Nat):Mx:=fun i k=>A (i+1) (sk j k)
def sg(j:Nat):Int:=if j % 2=0 then 1 else -1
theorem ζZ3(j:Nat):sg (j+1)=- sg j:=by
 unfold sg
 by_cases h:j % 2=0
 ·rw[if_pos h,if_neg (by omega)]
 ·rw[if_neg h,if_pos (by omega)];rfl
def det:Nat->Mx->Int
 | 0,_=>1
 | n+1,A=>sm (n+1) fun j=>sg j * A 0 j * det n (mn A j)
theorem ζg5{j k n:Nat}(h:k<n):sk j k<n+1:=by unfold sk;split <;> omega
theorem ζa:∀ {n:Nat} {A B:Mx},(∀ i j,i<n->j<n->A i j=B i j)->det n A=det n B
 | 0,_,_,_=>rfl
 | n+1,A,B,h=>ζg fun j hj=>by
  rw[h 0 j (by omega) hj,ζa (A:=mn A j) (B:=mn B j) fun i k hi hk=>h (i+1) (sk j k) (by omega) (ζg5 hk)]
theorem ζ92:∀ {n:Nat} {A B C:Mx} {c:Int} {i:Nat},i<n->(∀ r j,r<n->j<n->r≠i->A r j=B r j/\A r j=C r j)->(∀ j,j<n->A i j=c * B i j+C i j)->det n A=c * det n B+det n C
 | 0,_,_,_,_,_,hi,_,_=>absurd hi (Nat.not_lt_zero _)
 | n+1,A,B,C,c,i,hi,h1,h2=>by
  show sm (n+1) (fun j=>sg j * A 0 j * det n (mn A j))=c * sm (n+1) (fun j=>sg j * B 0 j * det n (mn B j))+sm (n+1) (fun j=>sg j * C 0 j * det n (mn C j))
  rw[<- sm_mul,<- ζw1]
  refine ζg fun j hj=>?_
  cases i with
  | zero =>
   have e1:det n (mn B j)=det n (mn A j):=ζa fun r k hr hk=>(h1 (r+1) (sk j k) (by omega) (ζg5 hk) (by omega)).1.symm
   have e2:det n (mn C j)=det n (mn A j):=ζa fun r k hr hk=>(h1 (r+1) (sk j k) (by omega) (ζg5 hk) (by omega)).2.symm
   rw[e1,e2,h2 j hj]
   generalize det n (mn A j)=d
   generalize sg j=s
   rw[Int.mul_add,Int.add_mul,<- Int.mul_assoc s c,Int.mul_comm s c,Int.mul_assoc c s,Int.mul_assoc c]
  | succ i =>
   have e:=ζ92 (n:=n) (A:=mn A j) (B:=mn B j) (C:=mn C j) (c:=c) (i:=i) (by omega) (fun r k hr hk hne=>h1 (r+1) (sk j k) (by omega) (ζg5 hk) (by omega)) (fun k hk=>h2 (sk j k) (ζg5 hk))
   have e0:=h1 0 j (by omega) hj (by omega)
   rw[e,<- e0.1,<- e0.2]
   generalize det n (mn B j)=d
   generalize det n (mn C j)=d'
   generalize sg j * A 0 j=s
   rw[Int.mul_add,<- Int.mul_assoc,<- Int.mul_assoc,Int.mul_comm s c]
theorem ζg13{A:Mx}{j k i l:Nat}(h:j<=k):mn (mn A j) k i l=mn (mn A (k+1)) j i l:=by
 show A (i+1+1) (sk j (sk k l))=A (i+1+1) (sk (k+1) (sk j l))
 refine congrArg _ ?_
 unfold sk
 by_cases h1:l<j
 ·rw[if_pos (show l<k by omega),if_pos h1,if_pos (show l<k+1 by omega)]
 ·rw[if_neg h1]
  by_cases h2:l<k
  ·rw[if_pos h2,if_neg h1,if_pos (show l+1<k+1 by omega)]
  ·rw[if_neg h2,if_neg (show ¬ l+1<j by omega),if_neg (show ¬ l+1<k+1 by omega)]
theorem ζI3:∀ {n:Nat} {A:Mx} {i:Nat},i+1<n->(∀ j,j<n->A i j=A (i+1) j)->det n A=0
 | 0,_,_,hi,_=>absurd hi (Nat.not_lt_zero _)
 | n+1,A,i+1,hi,h=>ζv1 fun j hj=>by
  rw[ζI3 (A:=mn A j) (i:=i) (by omega) fun k hk=>h (sk j k) (ζg5 hk),Int.mul_zero]
 | 1,_,0,hi,_=>absurd hi (by omega)
 | n+2,A,0,_,h=>by
  obtain⟨t,ht⟩:∃ t:Nat->Nat->Int,t=fun j k=>sg j * A 0 j * (sg k * A 1 (sk j k) * det n (mn (mn A j) k)):=⟨_,rfl⟩
  have e1:det (n+2) A=sm (n+2) fun j=>sm (n+1) (t j):=ζg fun j hj=>by
   rw[ht,sm_mul]
   rfl
  have e2:∀ j k,j<=k->k<n+1->t (k+1) j=- t j k:=fun j k hjk hk=>by
   rw[ht]
   show sg (k+1) * A 0 (k+1) * (sg j * A 1 (sk (k+1) j) * det n (mn (mn A (k+1)) j))=- (sg j * A 0 j * (sg k * A 1 (sk j k) * det n (mn (mn A j) k)))
   have f1:sk (k+1) j=j:=by unfold sk;rw[if_pos (by omega)]
   have f2:sk j k=k+1:=by unfold sk;rw[if_neg (by omega)]
   have f3:det n (mn (mn A (k+1)) j)=det n (mn (mn A j) k):=ζa fun i l _ _=>(ζg13 hjk).symm
   rw[f1,f2,f3,ζZ3,<- h j (by omega),<- h (k+1) (by omega)]
   generalize det n (mn (mn A j) k)=d
   generalize A 0 j=x
   generalize A 0 (k+1)=y
   generalize sg j=s
   generalize sg k=u
   simp only [Int.neg_mul,Int.neg_inj]
   simp only [Int.mul_comm,Int.mul_left_comm,Int.mul_assoc]
  have e3:sm (n+2) (fun j=>sm (n+1) (t j))=sm (n+2) (fun j=>sm (n+1) fun k=>if k<j then t j k else 0)+sm (n+2) (fun j=>sm (n+1) fun k=>if k<j then 0 else t j k):=by
   rw[<- ζw1]
   refine ζg fun j _=>?_
   rw[<- ζw1]
   refine ζg fun k _=>?_
   split <;> omega
  have e4:sm (n+2) (fun j=>sm (n+1) fun k=>if k<j then t j k else 0)=sm (n+1) (fun k=>sm (n+1) fun j=>if k<=j then t (j+1) k else 0):=by
   rw[ζY3]
   refine ζg fun k _=>?_
   rw[ζW,if_neg (by omega),Int.zero_add]
   refine ζg fun j _=>?_
   by_cases c:k<=j
   ·rw[if_pos c,if_pos (by omega)]
   ·rw[if_neg c,if_neg (by omega)]
  have e5:sm (n+2) (fun j=>sm (n+1) fun k=>if k<j then 0 else t j k)=sm (n+1) (fun j=>sm (n+1) fun k=>if j<=k then t j k else 0):=by
   show sm (n+1) (fun j=>sm (n+1) fun k=>if k<j then 0 else t j k)+sm (n+1) (fun k=>if k<n+1 then 0 else t (n+1) k)=_
   rw[ζv1 (f:=fun k=>if k<n+1 then 0 else t (n+1) k) fun k hk=>if_pos hk,Int.add_zero]
   refine ζg fun j _=>ζg fun k _=>?_
   by_cases c:j<=k
   ·rw[if_pos c,if_neg (by omega)]
   ·rw[if_neg c,if_pos (by omega)]
  rw[e1,e3,e4,e5,<- ζw1]
  refine ζv1 fun j hj=>?_
  rw[<- ζw1]
  refine ζv1 fun k hk=>?_
  by_cases c:j<=k
  ·rw[if_pos c,if_pos c,e2 j k c hk]
   omega
  ·rw[if_neg c,if_neg c]
   rfl
def put2(A:Mx)(i:Nat)(x y:Nat->Int):Mx:=fun r=>if r=i then x else if r=i+1 then y else A r
theorem ζA9{n:Nat}{A:Mx}{i:Nat}{x x' y:Nat->Int}(hi:i+1<n):det n (put2 A i (fun j=>x j+x' j) y)=det n (put2 A i x y)+det n (put2 A i x' y):=by
 have:=ζ92 (n:=n) (A:=put2 A i (fun j=>x j+x' j) y) (B:=put2 A i x y) (C:=put2 A i x' y) (c:=1) (i:=i) (by omega) (fun r j _ _ hne=>by unfold put2;rw[if_neg hne,if_neg hne,if_neg hne];exact⟨rfl,rfl⟩) (fun j _=>by unfold put2;rw[if_pos rfl,if_pos rfl,if_pos rfl,Int.one_mul])
 rw[this,Int.one_mul]
theorem ζl4{n:Nat}{A:Mx}{i:Nat}{x y y':Nat->Int}(hi:i+1<n):det n (put2 A i x (fun j=>y j+y' j))=det n (put2 A i x y)+det n (put2 A i x y'):=by
 have ne:¬ i+1=i:=by omega
 have:=ζ92 (n:=n) (A:=put2 A i x (fun j=>y j+y' j)) (B:=put2 A i x y) (C:=put2 A i x y') (c:=1) (i:=i+1) (by omega) (fun r j _ _ hne=>by unfold put2;rw[if_neg hne,if_neg hne,if_neg hne];exact⟨rfl,rfl⟩) (fun j _=>by unfold put2;rw[if_neg ne,if_neg ne,if_neg ne,if_pos rfl,if_pos rfl,if_pos rfl,Int.one_mul])
 rw[this,Int.one_mul]
theorem ζH3{n:Nat}{A:Mx}{i:Nat}{x:Nat->Int}(hi:i+1<n):det n (put2 A i x x)=0:=ζI3 hi fun j _=>by
 unfold put2
 rw[if_pos rfl,if_neg (by omega),if_pos rfl]
theorem ζy9{n:Nat}{A:Mx}{i:Nat}{x y:Nat->Int}(hi:i+1<n):det n (put2 A i y x)=- det n (put2 A i x y):=by
 have h:=ζH3 (A:=A) (x:=fun j=>x j+y j) hi
 rw[ζA9 hi,ζl4 hi,ζl4 hi,ζH3 hi,ζH3 hi]at h
 omega
theorem ζI8{A:Mx}{i:Nat}:put2 A i (A i) (A (i+1))=A:=by
 funext r
 unfold put2
 by_cases h:r=i
 ·rw[if_pos h,h]
 ·rw[if_neg h]
  by_cases h2:r=i+1
  ·rw[if_pos h2,h2]
  ·rw[if_neg h2]
theorem ζa6{n:Nat}{A:Mx}{i:Nat}(hi:i+1<n):det n (put2 A i (A (i+1)) (A i))=- det n A:=by
 have:=ζy9 (A:=A) (x:=A i) (y:=A (i+1)) hi
 rw[ζI8]at this
 exact this
theorem ζT1{n:Nat}{a:Nat}:∀ {d:Nat} {A:Mx},a+d+1<n->(∀ j,j<n->A a j=A (a+d+1) j)->det n A=0
 | 0,A,hn,h=>ζI3 hn h
 | d+1,A,hn,h=>by
  have e:=ζa6 (n:=n) (A:=A) (i:=a+d+1) (by omega)
  have z:det n (put2 A (a+d+1) (A (a+d+1+1)) (A (a+d+1)))=0:=by
   refine ζT1 (a:=a) (d:=d) (by omega) fun j hj=>?_
   unfold put2
   rw[if_neg (by omega),if_neg (by omega),if_pos rfl]
   exact h j hj
  omega
def rotN(k t i:Nat):Nat:=if i<k then i else if i=k then k+t else if i<=k+t then i - 1 else i
theorem ζH6(k i:Nat):rotN k 0 i=i:=by
 unfold rotN
 by_cases h:i<k
 ·rw[if_pos h]
 ·rw[if_neg h]
  by_cases h2:i=k
  ·rw[if_pos h2,h2];rfl
  ·rw[if_neg h2,if_neg (by omega)]
theorem ζk4{n k:Nat}:∀ {t:Nat} {A:Mx},k+t<n->det n (fun i=>A (rotN k t i))=sg t * det n A
 | 0,A,_=>by
  rw[show sg 0=1 from rfl,Int.one_mul]
  exact ζa fun i j _ _=>by rw[ζH6]
 | t+1,A,h=>by
  have e:=ζk4 (n:=n) (k:=k) (t:=t) (A:=put2 A (k+t) (A (k+t+1)) (A (k+t))) (by omega)
  rw[ζa6 (by omega)]at e
  have f:det n (fun i=>A (rotN k (t+1) i))=det n (fun i=>put2 A (k+t) (A (k+t+1)) (A (k+t)) (rotN k t i)):=ζa fun i j _ _=>by
   refine congrFun ?_ j
   have r1:rotN k (t+1) i=if i<k then i else if i=k then k+(t+1) else if i<=k+(t+1) then i - 1 else i:=rfl
   have r2:rotN k t i=if i<k then i else if i=k then k+t else if i<=k+t then i - 1 else i:=rfl
   unfold put2
   by_cases h1:i<k
   ·rw[if_pos h1]at r1 r2
    rw[r1,r2,if_neg (by omega),if_neg (by omega)]
   ·rw[if_neg h1]at r1 r2
    by_cases h2:i=k
    ·rw[if_pos h2]at r1 r2
     rw[r1,r2,if_pos rfl]
     rfl
    ·rw[if_neg h2]at r1 r2
     by_cases h3:i<=k+t
     ·rw[if_pos (by omega)]at r1
      rw[if_pos h3]at r2
      rw[r1,r2,if_neg (by omega),if_neg (by omega)]
     ·rw[if_neg h3]at r2
      by_cases h4:i=k+t+1
      ·rw[if_pos (by omega)]at r1
       rw[r1,r2,if_neg (by omega),if_pos h4]
       exact congrArg A (by omega)
      ·rw[if_neg (by omega)]at r1
       rw[r1,r2,if_neg (by omega),if_neg h4]
  rw[f,e,ζZ3,Int.mul_neg,Int.neg_mul]
theorem ζJ3:∀ {n:Nat} {A:Mx},(∀ i,i<n+1->A i 0=0)->det (n+1) A=0
 | 0,A,h=>by
  show 0+sg 0 * A 0 0 * 1=0
  rw[h 0 (by omega),Int.mul_zero]
  rfl
 | n+1,A,h=>ζv1 fun j hj=>by
  cases j with
  | zero=>rw[h 0 (by omega),Int.mul_zero,Int.zero_mul]
  | succ j =>
   rw[ζJ3 (A:=mn A (j+1)) fun i hi=>?_,Int.mul_zero]
   show A (i+1) (sk (j+1) 0)=0
   rw[show sk (j+1) 0=0 from rfl]
   exact h (i+1) (by omega)
theorem ζi7{n:Nat}{A:Mx}(h:∀ i,i<n->A (i+1) 0=0):det (n+1) A=A 0 0 * det n (fun i j=>A (i+1) (j+1)):=by
 show sm (n+1) (fun j=>sg j * A 0 j * det n (mn A j))=_
 rw[ζW,ζv1 fun j hj=>?_]
 ·rw[Int.add_zero,show sg 0=1 from rfl,Int.one_mul]
  refine congrArg (A 0 0 * ·) (ζa fun i j _ _=>?_)
  rfl
 ·cases n with
  | zero=>exact absurd hj (Nat.not_lt_zero _)
  | succ n =>
   rw[ζJ3 (A:=mn A (j+1)) fun i hi=>?_,Int.mul_zero]
   exact h i hi
theorem ζb6{n:Nat}{A:Mx}{i:Nat}(hi:i<n)(h:∀ j,j<n->A i j=0):det n A=0:=by
 have:=ζ92 (A:=A) (B:=A) (C:=A) (c:=1) hi (fun r j _ _ _=>⟨rfl,rfl⟩) (fun j hj=>by rw[h j hj];rfl)
 omega
theorem ζj4{c:Int}:∀ {n:Nat} {A:Mx},det n (fun i j=>c * A i j)=c ^ n * det n A
 | 0,_=>by show(1:Int)=c ^ 0 * 1;rw[Int.pow_zero];rfl
 | n+1,A=>by
  show sm (n+1) (fun j=>sg j * (c * A 0 j) * det n (mn (fun i j=>c * A i j) j))=c ^ (n+1) * sm (n+1) (fun j=>sg j * A 0 j * det n (mn A j))
  rw[<- sm_mul]
  refine ζg fun j _=>?_
  have e:det n (mn (fun i j=>c * A i j) j)=c ^ n * det n (mn A j):=ζj4 (A:=mn A j)
  rw[e,Int.pow_succ]
  generalize det n (mn A j)=d
  generalize c ^ n=p
  generalize sg j=s
  generalize A 0 j=x
  simp only [Int.mul_comm,Int.mul_left_comm,Int.mul_assoc]
def offN(R:Mx):Mx:=fun i j=>R 0 0 * R (i+1) (j+1) - R (i+1) 0 * R 0 (j+1)
def offB(R:Mx)(k:Nat):Mx:=fun r j=>if r=0 then R 0 j else if r<=k then R 0 0 * R r j - R r 0 * R 0 j else R r j
theorem ζe6{m:Nat}{R:Mx}:∀ {k:Nat},k<m+1->det (m+1) (offB R k)=R 0 0 ^ k * det (m+1) R
 | 0,_=>by
  rw[Int.pow_zero,Int.one_mul]
  refine ζa fun i j _ _=>?_
  unfold offB
  by_cases h:i=0
  ·rw[if_pos h,h]
  ·rw[if_neg h,if_neg (by omega)]
 | k+1,hk=>by
  have ih:=ζe6 (m:=m) (R:=R) (k:=k) (by omega)
  obtain⟨C,hC⟩:∃ C:Mx,C=fun r j=>if r=k+1 then - R (k+1) 0 * R 0 j else offB R k r j:=⟨_,rfl⟩
  obtain⟨B,hB⟩:∃ B:Mx,B=fun r j=>if r=k+1 then R 0 j else offB R k r j:=⟨_,rfl⟩
  obtain⟨Z,hZ⟩:∃ Z:Mx,Z=fun r j=>if r=k+1 then 0 else offB R k r j:=⟨_,rfl⟩
  have hBz:det (m+1) B=0:=ζT1 (n:=m+1) (a:=0) (d:=k) (by omega) fun j hj=>by
   rw[hB]
   show(if 0=k+1 then _ else offB R k 0 j)=if 0+k+1=k+1 then _ else _
   rw[if_neg (by omega),if_pos (by omega)]
   rfl
  have hZz:det (m+1) Z=0:=ζb6 (i:=k+1) hk fun j hj=>by rw[hZ];exact if_pos rfl
  have hCz:det (m+1) C=0:=by
   have:=ζ92 (A:=C) (B:=B) (C:=Z) (c:=- R (k+1) 0) hk (fun r j _ _ hne=>by
    rw[hC,hB,hZ]
    show(if r=k+1 then _ else offB R k r j)=(if r=k+1 then _ else offB R k r j)/\(if r=k+1 then _ else offB R k r j)=(if r=k+1 then _ else offB R k r j)
    rw[if_neg hne,if_neg hne,if_neg hne]
    exact⟨rfl,rfl⟩) (fun j _=>by
    rw[hC,hB,hZ]
    show(if k+1=k+1 then _ else _)=_ * (if k+1=k+1 then _ else _)+(if k+1=k+1 then _ else _)
    rw[if_pos rfl,if_pos rfl,if_pos rfl,Int.add_zero])
   rw[this,hBz,hZz,Int.mul_zero]
   rfl
  have:=ζ92 (A:=offB R (k+1)) (B:=offB R k) (C:=C) (c:=R 0 0) hk (fun r j _ _ hne=>by
   have e1:offB R (k+1) r j=offB R k r j:=by
    unfold offB
    by_cases h0:r=0
    ·rw[if_pos h0,if_pos h0]
    ·rw[if_neg h0,if_neg h0]
     by_cases h1:r<=k
     ·rw[if_pos h1,if_pos (by omega)]
     ·rw[if_neg h1,if_neg (by omega)]
   refine⟨e1,?_⟩
   rw[hC,e1]
   show _=if r=k+1 then _ else _
   rw[if_neg hne]) (fun j _=>by
   have e1:offB R (k+1) (k+1) j=R 0 0 * R (k+1) j - R (k+1) 0 * R 0 j:=by
    unfold offB
    rw[if_neg (by omega),if_pos (by omega)]
   have e2:offB R k (k+1) j=R (k+1) j:=by
    unfold offB
    rw[if_neg (by omega),if_neg (by omega)]
   rw[e1,e2,hC]
   show _=_+(if k+1=k+1 then - R (k+1) 0 * R 0 j else _)
   rw[if_pos rfl,Int.neg_mul]
   rfl)
  rw[this,hCz,ih,Int.add_zero,Int.pow_succ]
  rw[<- Int.mul_assoc,Int.mul_comm (R 0 0)]
theorem ζl11{m:Nat}{R:Mx}:R 0 0 * det m (offN R)=R 0 0 ^ m * det (m+1) R:=by
 rw[<- ζe6 (k:=m) (by omega),ζi7 fun i hi=>?_]
 ·have e0:offB R m 0 0=R 0 0:=if_pos rfl
  rw[e0]
  refine congrArg (R 0 0 * ·) (ζa fun i j hi hj=>?_)
  unfold offB offN
  rw[if_neg (by omega),if_pos (by omega)]
 ·unfold offB
  rw[if_neg (by omega),if_pos (by omega),Int.mul_comm]
  omega
def ex(k:Nat)(r:Nat->Nat)(i:Nat):Nat:=if i<k then i else k+r (i - k)
def Bar(A:Mx)(k M:Nat)(R:Mx)(last:Int):Prop:=last≠0/\∀(m:Nat) (r c:Nat->Nat),(∀ i,i<m+1->r i<M/\c i<M) ->
 det (m+1) (fun i j=>R (r i) (c j))=det (k+m+1) (fun i j=>A (ex k r i) (ex k c j)) * last ^ m
theorem ζn7(A:Mx)(n:Nat):Bar A 0 n A 1:=⟨by decide,fun m r c _=>by
 rw[Int.one_pow,Int.mul_one,Nat.zero_add]
 refine ζa fun i j _ _=>?_
 unfold ex
 rw[if_neg (Nat.not_lt_zero _),if_neg (Nat.not_lt_zero _),Nat.zero_add,Nat.zero_add,Nat.sub_zero,Nat.sub_zero]⟩
theorem ζJ8{p:Int}(h:p≠0):∀ n:Nat,p ^ n≠0
 | 0=>by rw[Int.pow_zero];decide
 | n+1=>by rw[Int.pow_succ];exact Int.mul_ne_zero (ζJ8 h n) h
def bef(r:Nat->Nat):Nat->Nat
 | 0=>0
 | i+1=>r i+1
theorem ζa11(k:Nat)(r:Nat->Nat)(i:Nat):ex k (bef r) i=ex (k+1) r i:=by
 unfold ex
 by_cases h:i<k
 ·rw[if_pos h,if_pos (by omega)]
 ·rw[if_neg h]
  by_cases h2:i=k
  ·rw[if_pos (by omega),h2,Nat.sub_self]
   rfl
  ·rw[if_neg (by omega)]
   obtain⟨d,rfl⟩:∃ d,i=k+d+1:=⟨i - k - 1,by omega⟩
   rw[show k+d+1 - k=d+1 by omega,show k+d+1 - (k+1)=d by omega]
   show k+(r d+1)=k+1+r d
   omega
theorem ζh8{A:Mx}{k M:Nat}{R:Mx}{last:Int}(h:Bar A k (M+1) R last)(hp:R 0 0≠0){m:Nat}{r c:Nat->Nat}(hb:∀ i,i<m+1->r i<M/\c i<M) :
  det (m+1) (fun i j=>offN R (r i) (c j))=R 0 0 ^ m * (last ^ (m+1) * det (k+1+m+1) (fun i j=>A (ex (k+1) r i) (ex (k+1) c j))):=by
 have e1:=ζl11 (m:=m+1) (R:=fun i j=>R (bef r i) (bef c j))
 have e2:=h.2 (m+1) (bef r) (bef c) fun i hi=>by
  cases i with
  | zero=>exact⟨Nat.succ_pos _,Nat.succ_pos _⟩
  | succ i=>have:=hb i (by omega);exact⟨Nat.succ_lt_succ this.1,Nat.succ_lt_succ this.2⟩
 have e3:det (m+1) (offN fun i j=>R (bef r i) (bef c j))=det (m+1) (fun i j=>offN R (r i) (c j)):=rfl
 have e4:det (k+(m+1)+1) (fun i j=>A (ex k (bef r) i) (ex k (bef c) j))=det (k+1+m+1) (fun i j=>A (ex (k+1) r i) (ex (k+1) c j)):=by
  rw[show k+(m+1)+1=k+1+m+1 by omega]
  exact ζa fun i j _ _=>by rw[ζa11,ζa11]
 rw[e3]at e1
 rw[e4]at e2
 have e5:R (bef r 0) (bef c 0)=R 0 0:=rfl
 rw[e5,e2]at e1
 generalize det (m+1) (fun i j=>offN R (r i) (c j))=x at *
 generalize det (k+1+m+1) (fun i j=>A (ex (k+1) r i) (ex (k+1) c j))=y at *
 rw[Int.pow_succ]at e1
 refine Int.eq_of_mul_eq_mul_left hp ?_
 rw[e1,Int.mul_comm y,Int.mul_comm (R 0 0 ^ m),Int.mul_assoc]
theorem ζd6(A:Mx):det 1 A=A 0 0:=by
 show 0+sg 0 * A 0 0 * 1=A 0 0
 rw[show sg 0=1 from rfl]
 omega
theorem ζt11{A:Mx}{k M:Nat}{R:Mx}{last:Int}(h:Bar A k (M+1) R last)(hp:R 0 0≠0){i j:Nat}(hi:i<M)(hj:j<M) :
  offN R i j=last * det (k+2) (fun a b=>A (ex (k+1) (fun _=>i) a) (ex (k+1) (fun _=>j) b)):=by
 have:=ζh8 h hp (m:=0) (r:=fun _=>i) (c:=fun _=>j) fun _ _=>⟨hi,hj⟩
 rw[ζd6,Int.pow_zero,Int.one_mul,Int.pow_succ,Int.pow_zero,Int.one_mul]at this
 exact this
theorem ζM9{A:Mx}{k M:Nat}{R R':Mx}{last:Int}(h:Bar A k (M+1) R last)(hp:R 0 0≠0)(hR:∀ i j,i<M->j<M->R' i j=(offN R i j).fdiv last):Bar A (k+1) M R' (R 0 0):=by
 refine⟨hp,fun m r c hb=>?_⟩
 have ex1:∀ i j,i<M->j<M->offN R i j=last * R' i j:=fun i j hi hj=>by
  rw[hR i j hi hj,ζt11 h hp hi hj,Int.mul_fdiv_cancel_left _ h.1]
 have e1:=ζh8 h hp hb
 have e2:det (m+1) (fun i j=>offN R (r i) (c j))=last ^ (m+1) * det (m+1) (fun i j=>R' (r i) (c j)):=by
  rw[<- ζj4]
  exact ζa fun i j hi hj=>ex1 _ _ (hb i hi).1 (hb j hj).2
 rw[e2]at e1
 refine Int.eq_of_mul_eq_mul_left (ζJ8 h.1 (m+1)) ?_
 rw[e1]
 generalize det (k+1+m+1) (fun i j=>A (ex (k+1) r i) (ex (k+1) c j))=y
 rw[Int.mul_left_comm,Int.mul_comm y]
theorem ζs11{A:Mx}{k M t:Nat}{R:Mx}{last:Int}(h:Bar A k M R last)(ht:t<M):Bar (fun i=>A (rotN k t i)) k M (fun i=>R (rotN 0 t i)) last:=by
 refine⟨h.1,fun m r c hb=>?_⟩
 have e:=h.2 m (fun i=>rotN 0 t (r i)) c fun i hi=>⟨by
  have:=(hb i hi).1
  unfold rotN
  rw[if_neg (by omega)]
  split
  ·omega
  ·split <;> omega,(hb i hi).2⟩
 rw[e]
 refine congrArg (· * last ^ m) (ζa fun i j _ _=>?_)
 refine congrArg (fun a=>A a (ex k c j)) ?_
 unfold ex
 by_cases hi:i<k
 ·rw[if_pos hi,if_pos hi]
  unfold rotN
  rw[if_pos hi]
 ·rw[if_neg hi,if_neg hi]
  show k+rotN 0 t (r (i - k))=rotN k t (k+r (i - k))
  generalize r (i - k)=a
  have r1:rotN 0 t a=if a<0 then a else if a=0 then 0+t else if a<=0+t then a - 1 else a:=rfl
  have r2:rotN k t (k+a)=if k+a<k then k+a else if k+a=k then k+t else if k+a<=k+t then k+a - 1 else k+a:=rfl
  rw[if_neg (by omega)]at r1 r2
  by_cases h1:a=0
  ·rw[if_pos h1]at r1
   rw[if_pos (by omega)]at r2
   rw[r1,r2]
   omega
  ·rw[if_neg h1]at r1
   rw[if_neg (by omega)]at r2
   by_cases h2:a<=t
   ·rw[if_pos (by omega)]at r1
    rw[if_pos (by omega)]at r2
    rw[r1,r2]
    omega
   ·rw[if_neg (by omega)]at r1
    rw[if_neg (by omega)]at r2
    rw[r1,r2]
theorem ζD11(k i:Nat):ex k (fun i=>i) i=i:=by
 unfold ex
 by_cases h:i<k
 ·rw[if_pos h]
 ·rw[if_neg h]
  show k+(i - k)=i
  omega
theorem ζN9{A:Mx}{k M:Nat}{R:Mx}{last:Int}(h:Bar A k (M+1) R last)(h0:∀ i,i<M+1->R i 0=0):det (k+M+1) A=0:=by
 have e:=h.2 M (fun i=>i) (fun i=>i) fun i hi=>⟨hi,hi⟩
 rw[ζJ3 (A:=fun i j=>R i j) h0]at e
 have e2:det (k+M+1) (fun i j=>A (ex k (fun i=>i) i) (ex k (fun i=>i) j))=det (k+M+1) A:=ζa fun i j _ _=>by rw[ζD11,ζD11]
 rw[e2]at e
 rcases Int.mul_eq_zero.mp e.symm with z | z
 ·exact z
 ·exact absurd z (ζJ8 h.1 M)
theorem ζu11{A:Mx}{k:Nat}{R:Mx}{last:Int}(h:Bar A k 1 R last):R 0 0=det (k+1) A:=by
 have e:=h.2 0 (fun i=>i) (fun i=>i) fun i hi=>⟨by omega,by omega⟩
 rw[ζd6,Int.pow_zero,Int.mul_one]at e
 have e2:det (k+0+1) (fun i j=>A (ex k (fun i=>i) i) (ex k (fun i=>i) j))=det (k+1) A:=ζa fun i j _ _=>by rw[ζD11,ζD11]
 rw[e2]at e
 exact e
end My
namespace L2
open PySem PySem.Spec PyProof.Rows
def ζs13(i j:Int):Prop:=i.natAbs<2 ^ 9000/\j.natAbs<2 ^ 9000
def ζK12(i j:Int):Prop:=j≠0/\j.natAbs<2 ^ 9000
theorem ζB4{a:Int}(h:a.natAbs<2 ^ 9000):Builtin.Int.intBits a<=9000:=PySem.intBits_le_iff.mpr h
section
variable{X:Cx}
theorem ζC:OpR X (binaryOp .Mult) (rI ζs13 fun i j=>.int (i * j)):=opI fun _ _ _ _ _ _ _ hc q=>mul_int q (.of_bits (Nat.le_trans (ζB4 hc.1) (by decide)) (Nat.le_trans (ζB4 hc.2) (by decide)))
theorem ζz3:OpR X (binaryOp .FloorDiv) (rI ζK12 fun i j=>.int (i.fdiv j)):=opI fun _ _ _ _ _ _ _ hc q=>floordiv_int hc.1 q (.inl (PyProof.noPylong_of_log2 ((Nat.log2_lt (by have:=hc.1;omega)).mpr hc.2)))
end
end L2
namespace My
def fnL(L:List (List Int)):Mx:=fun i j=>(L.getD i []).getD j 0
theorem ζO1{L:List (List Int)}{l:List Int}{i j:Nat}{x:Int}(h:L[i]?=some l)(h2:l[j]?=some x):fnL L i j=x:=by
 have e:L.getD i []=l:=by rw[List.getD_eq_getElem?_getD,h];rfl
 unfold fnL
 rw[e,List.getD_eq_getElem?_getD,h2]
 rfl
def bnd(B:Nat):Nat->Nat
 | 0=>1
 | n+1=>(n+1) * (B * bnd B n)
theorem ζ810{f:Nat->Int}{C:Nat}:∀ {n:Nat},(∀ i,i<n->(f i).natAbs<=C)->(sm n f).natAbs<=n * C
 | 0,_=>by show(0:Int).natAbs<=0 * C;rw[Nat.zero_mul];exact Nat.le_refl 0
 | n+1,h=>by
  have h1:=ζ810 (n:=n) fun i hi=>h i (by omega)
  have h2:=h n (by omega)
  have h3:(sm n f+f n).natAbs<=(sm n f).natAbs+(f n).natAbs:=Int.natAbs_add_le ..
  show(sm n f+f n).natAbs<=(n+1) * C
  rw[Nat.succ_mul]
  omega
theorem ζn4{B:Nat}:∀ {n:Nat} {A:Mx},(∀ i j,i<n->j<n->(A i j).natAbs<=B)->(det n A).natAbs<=bnd B n
 | 0,_,_=>Nat.le_refl 1
 | n+1,A,h=>by
  refine ζ810 fun j hj=>?_
  have e:(sg j).natAbs=1:=by
   unfold sg
   split <;> rfl
  rw[Int.natAbs_mul,Int.natAbs_mul,e,Nat.one_mul]
  exact Nat.mul_le_mul (h 0 j (by omega) hj) (ζn4 fun i k hi hk=>h (i+1) (sk j k) (by omega) (ζg5 hk))
theorem ζm7{b:Nat}:∀ {n:Nat},n<=16->bnd (2 ^ b) n<=2 ^ ((b+4) * n)
 | 0,_=>by show 1<=2 ^ ((b+4) * 0);rw[Nat.mul_zero];exact Nat.le_refl 1
 | n+1,h=>by
  have ih:=ζm7 (b:=b) (n:=n) (by omega)
  have e:2 ^ ((b+4) * (n+1))=16 * (2 ^ b * 2 ^ ((b+4) * n)):=by
   rw[Nat.mul_succ,Nat.pow_add,Nat.pow_add,Nat.mul_comm (2 ^ ((b+4) * n)),Nat.mul_comm (2 ^ b) (2 ^ 4),Nat.mul_assoc]
  rw[e]
  show(n+1) * (2 ^ b * bnd (2 ^ b) n)<=_
  exact Nat.mul_le_mul h (Nat.mul_le_mul (Nat.le_refl _) ih)
theorem ζh7{n:Nat}{A:Mx}(hn:n<=16)(h:∀ i j,i<n->j<n->(A i j).natAbs<=2 ^ 400):(det n A).natAbs<2 ^ 9000:=by
 have h1:=ζn4 h
 have h2:=ζm7 (b:=400) hn
 have h3:2 ^ ((400+4) * n)<=2 ^ (404 * 16):=Nat.pow_le_pow_right (by decide) (Nat.mul_le_mul (Nat.le_refl _) hn)
 have h4:2 ^ (404 * 16)<2 ^ 9000:=Nat.pow_lt_pow_right (by decide) (by decide)
 exact Nat.lt_of_le_of_lt (Nat.le_trans h1 (Nat.le_trans h2 h3)) h4
theorem ζH12{A:Mx}{k M:Nat}{R:Mx}{last:Int}(h:Bar A k M R last){i j:Nat}(hi:i<M)(hj:j<M):R i j=det (k+1) (fun a b=>A (ex k (fun _=>i) a) (ex k (fun _=>j) b)):=by
 have:=h.2 0 (fun _=>i) (fun _=>j) fun _ _=>⟨hi,hj⟩
 rw[ζd6,Int.pow_zero,Int.mul_one]at this
 exact this
theorem ζo7{A:Mx}{k M n:Nat}{R:Mx}{last:Int}(h:Bar A k M R last)(hn:k+M=n)(hn16:n<=16)(hA:∀ i j,i<n->j<n->(A i j).natAbs<=2 ^ 400){i j:Nat}(hi:i<M)(hj:j<M):(R i j).natAbs<2 ^ 9000:=by
 rw[ζH12 h hi hj]
 refine ζh7 (by omega) fun a b ha hb=>hA _ _ ?_ ?_
 ·have e:ex k (fun _=>i) a=if a<k then a else k+i:=rfl
  rw[e]
  split <;> omega
 ·have e:ex k (fun _=>j) b=if b<k then b else k+j:=rfl
  rw[e]
  split <;> omega
theorem ζg10{L:List (List Int)}{l:List Int}{t:Nat}(h:L[t]?=some l)(i:Nat):(l :: L.eraseIdx t)[i]?=L[rotN 0 t i]?:=by
 have ht:=(List.getElem?_eq_some_iff.mp h).1
 have r:rotN 0 t i=if i<0 then i else if i=0 then 0+t else if i<=0+t then i - 1 else i:=rfl
 rw[if_neg (by omega)]at r
 cases i with
 | zero =>
  rw[if_pos rfl,Nat.zero_add]at r
  rw[r,h]
  rfl
 | succ i =>
  rw[if_neg (by omega),Nat.zero_add]at r
  rw[r,List.getElem?_cons_succ,List.getElem?_eraseIdx]
  by_cases c:i+1<=t
  ·rw[if_pos c,if_pos (by omega)]
   rfl
  ·rw[if_neg c,if_neg (by omega)]
theorem ζh10{L:List (List Int)}{l:List Int}{t:Nat}(h:L[t]?=some l):fnL (l :: L.eraseIdx t)=fun i=>fnL L (rotN 0 t i):=by
 funext i j
 show((l :: L.eraseIdx t).getD i []).getD j 0=(L.getD (rotN 0 t i) []).getD j 0
 refine congrArg (fun r:List Int=>r.getD j 0) ?_
 rw[List.getD_eq_getElem?_getD,List.getD_eq_getElem?_getD,ζg10 h]
def tkn(y:Int)(p:List Int)(last:Int)(l:List Int):List Int:=List.zipWith (fun own other=>(y * own - l.headD 0 * other).fdiv last) l.tail p
theorem ζt7{y last:Int}{p l:List Int}(h:l.length=p.length+1):(tkn y p last l).length=p.length:=by
 unfold tkn
 rw[List.length_zipWith,List.length_tail]
 omega
theorem ζ210{y last:Int}{p:List Int}{L:List (List Int)}{M:Nat}(hp:p.length=M)(hL:L.length=M)(hl:∀ l∈L,l.length=M+1){i j:Nat}(hi:i<M)(hj:j<M) :
  fnL (L.map (tkn y p last)) i j=(offN (fnL ((y :: p) :: L)) i j).fdiv last:=by
 obtain⟨l,hli⟩:∃ l,L[i]?=some l:=⟨_,List.getElem?_eq_getElem (by omega)⟩
 have hll:=hl l (List.mem_of_getElem? hli)
 obtain⟨x,l',rfl⟩:∃ x l',l=x :: l':=by
  cases l with
  | nil=>cases hll
  | cons x l'=>exact⟨x,l',rfl⟩
 have hl':l'.length=M:=by rw[List.length_cons]at hll;omega
 obtain⟨u,hu⟩:∃ u,l'[j]?=some u:=⟨_,List.getElem?_eq_getElem (by omega)⟩
 obtain⟨v,hv⟩:∃ v,p[j]?=some v:=⟨_,List.getElem?_eq_getElem (by omega)⟩
 have e1:fnL (L.map (tkn y p last)) i j=(y * u - x * v).fdiv last:=ζO1 (l:=tkn y p last (x :: l')) (by rw[List.getElem?_map,hli];rfl) (by
  show(List.zipWith _ l' p)[j]?=_
  rw[List.getElem?_zipWith,hu,hv]
  rfl)
 have e2:fnL ((y :: p) :: L) 0 0=y:=rfl
 have e3:fnL ((y :: p) :: L) (i+1) (j+1)=u:=ζO1 (l:=x :: l') hli hu
 have e4:fnL ((y :: p) :: L) (i+1) 0=x:=ζO1 (l:=x :: l') hli rfl
 have e5:fnL ((y :: p) :: L) 0 (j+1)=v:=ζO1 (l:=y :: p) rfl hv
 rw[e1]
 unfold offN
 rw[e2,e3,e4,e5]
end My
namespace My
open PySem L2
def RowV(K:PySem.W.Frag)(H:Hp)(v:V)(l:List Int):Prop:=∃(r:Addr) (k:Bool),v=.ref r/\SqK k K H r (IL l)
def LiV(d:Addr)(H:Hp)(v:V)(l:List Int):Prop:=∃ r,v=.ref r/\H r=some (.lst (IL l))/\r≠d
theorem LiV.same{d:Addr}{H H':Hp}{v:V}{l:List Int}(s:Same H H')(h:LiV d H v l):LiV d H' v l:=by
 obtain⟨r,e,h,n⟩:=h
 exact⟨r,e,s _ _ h,n⟩
theorem LiV.mut{d:Addr}{H:Hp}{v:V}{l:List Int}{o:HO}(h:LiV d H v l):LiV d (upd H d o) v l:=by
 obtain⟨r,e,h,n⟩:=h
 exact⟨r,e,by rw[ζ9 n];exact h,n⟩
theorem LiV.list{d:Addr}{H:Hp}{v:V}{l:List Int}(h:LiV d H v l):ζT2 H v l:=by
 obtain⟨r,e,h,_⟩:=h
 exact⟨r,e,h⟩
theorem Bears.erase{α:Type}[DecidableEq α]{R:V->α->Prop}{xs:List V}{l:List α}(h:Bears R xs l)(t:Nat):Bears R (xs.eraseIdx t) (l.eraseIdx t):=by
 have hl:=h.1
 refine⟨by rw[List.length_eraseIdx,List.length_eraseIdx,hl],fun i a e=>?_⟩
 rw[List.getElem?_eraseIdx]at e
 rw[List.getElem?_eraseIdx]
 split at e
 ·next c=>rw[if_pos c];exact h.2 _ _ e
 ·next c=>rw[if_neg c];exact h.2 _ _ e
theorem ζi6(x:Int)(l:List Int):cutV (IL (x :: l)) (some 1) none=IL l:=by
 rw[ζU1 (by decide)]
 rfl
theorem ζ513(t:Nat):sg t * sg t=1:=by
 unfold sg
 split <;> rfl
end My
namespace My
theorem ζe5{f:Nat->Nat->Int}{n m:Nat}:sm n (fun i=>sm m (fun j=>f i j))=sm m (fun j=>sm n (fun i=>f i j)):=ζY3
theorem ζb8:∀ {n:Nat} {A:Mx},det (n+1) A=sm (n+1) fun i=>sg i * A i 0 * det n (fun r c=>A (sk i r) (c+1))
 | 0,A=>rfl
 | n+1,A=>by
  have e1:det (n+2) A=sg 0 * A 0 0 * det (n+1) (mn A 0)+sm (n+1) fun j=>sg (j+1) * A 0 (j+1) * det (n+1) (mn A (j+1)):=ζW
  have e2:sm (n+2) (fun i=>sg i * A i 0 * det (n+1) (fun r c=>A (sk i r) (c+1)))=sg 0 * A 0 0 * det (n+1) (fun r c=>A (sk 0 r) (c+1))+sm (n+1) fun i=>sg (i+1) * A (i+1) 0 * det (n+1) (fun r c=>A (sk (i+1) r) (c+1)):=ζW
  rw[e1,e2]
  have e3:det (n+1) (mn A 0)=det (n+1) (fun r c=>A (sk 0 r) (c+1)):=ζa fun r c _ _=>rfl
  rw[e3]
  refine congrArg (fun z:Int=>sg 0 * A 0 0 * det (n+1) (fun r c=>A (sk 0 r) (c+1))+z) ?_
  obtain⟨D,hD⟩:∃ D:Nat->Nat->Int,D=fun i j=>det n (fun r c=>A (sk i r+1) (sk (j+1) (c+1))):=⟨_,rfl⟩
  have e4:∀ j,j<n+1->det (n+1) (mn A (j+1))=sm (n+1) fun i=>sg i * A (i+1) 0 * D i j:=fun j _=>by
   rw[ζb8,hD]
   rfl
  have e5:∀ i,i<n+1->det (n+1) (fun r c=>A (sk (i+1) r) (c+1))=sm (n+1) fun j=>sg j * A 0 (j+1) * D i j:=fun i hi=>by
   show sm (n+1) (fun j=>sg j * A (sk (i+1) 0) (j+1) * det n (mn (fun r c=>A (sk (i+1) r) (c+1)) j))=_
   refine ζg fun j _=>?_
   rw[hD]
   show sg j * A (sk (i+1) 0) (j+1) * det n (mn (fun r c=>A (sk (i+1) r) (c+1)) j)=sg j * A 0 (j+1) * det n (fun r c=>A (sk i r+1) (sk (j+1) (c+1)))
   rw[show sk (i+1) 0=0 from rfl]
   refine congrArg (sg j * A 0 (j+1) * ·) (ζa fun r c _ _=>?_)
   show A (sk (i+1) (r+1)) (sk j c+1)=A (sk i r+1) (sk (j+1) (c+1))
   have f1:sk (i+1) (r+1)=sk i r+1:=by
    unfold sk
    by_cases h:r<i
    ·rw[if_pos h,if_pos (by omega)]
    ·rw[if_neg h,if_neg (by omega)]
   have f2:sk j c+1=sk (j+1) (c+1):=by
    unfold sk
    by_cases h:c<j
    ·rw[if_pos h,if_pos (by omega)]
    ·rw[if_neg h,if_neg (by omega)]
   rw[f1,f2]
  have e6:sm (n+1) (fun j=>sg (j+1) * A 0 (j+1) * det (n+1) (mn A (j+1)))=sm (n+1) fun j=>sm (n+1) fun i=>sg (j+1) * A 0 (j+1) * (sg i * A (i+1) 0 * D i j):=ζg fun j hj=>by rw[e4 j hj,sm_mul]
  have e7:sm (n+1) (fun i=>sg (i+1) * A (i+1) 0 * det (n+1) (fun r c=>A (sk (i+1) r) (c+1)))=sm (n+1) fun i=>sm (n+1) fun j=>sg (i+1) * A (i+1) 0 * (sg j * A 0 (j+1) * D i j):=ζg fun i hi=>by rw[e5 i hi,sm_mul]
  rw[e6,e7,ζe5]
  refine ζg fun i _=>ζg fun j _=>?_
  rw[ζZ3,ζZ3]
  generalize D i j=d
  generalize A 0 (j+1)=x
  generalize A (i+1) 0=y
  generalize sg i=s
  generalize sg j=u
  simp only [Int.neg_mul,Int.neg_inj]
  simp only [Int.mul_comm,Int.mul_left_comm,Int.mul_assoc]
theorem det_T:∀ {n:Nat} {A:Mx},det n (fun i j=>A j i)=det n A
 | 0,_=>rfl
 | n+1,A=>by
  rw[ζb8 (A:=A)]
  refine ζg fun j _=>?_
  show sg j * A j 0 * det n (fun i k=>A (sk j k) (i+1))=sg j * A j 0 * det n (fun r c=>A (sk j r) (c+1))
  rw[<- det_T (A:=fun r c=>A (sk j r) (c+1))]
theorem ζa8{n a b:Nat}{A:Mx}(ha:a<n)(hb:b<n)(hne:a≠b)(h:∀ j,j<n->A a j=A b j):det n A=0:=by
 rcases Nat.lt_or_gt_of_ne hne with c | c
 ·obtain⟨d,rfl⟩:∃ d,b=a+d+1:=⟨b - a - 1,by omega⟩
  exact ζT1 hb h
 ·obtain⟨d,rfl⟩:∃ d,a=b+d+1:=⟨a - b - 1,by omega⟩
  exact ζT1 ha fun j hj=>(h j hj).symm
def putr(A:Mx)(i:Nat)(x:Nat->Int):Mx:=fun r=>if r=i then x else A r
theorem ζc6{n i:Nat}{A:Mx}{c:Int}{x y:Nat->Int}(hi:i<n):det n (putr A i (fun j=>c * x j+y j))=c * det n (putr A i x)+det n (putr A i y) :=
 ζ92 hi (fun r j _ _ hne=>by unfold putr;rw[if_neg hne,if_neg hne,if_neg hne];exact⟨rfl,rfl⟩) (fun j _=>by unfold putr;rw[if_pos rfl,if_pos rfl,if_pos rfl])
theorem ζn5{A:Mx}{i:Nat}:putr A i (A i)=A:=by
 funext r
 unfold putr
 by_cases h:r=i
 ·rw[if_pos h,h]
 ·rw[if_neg h]
theorem ζf6{n a b:Nat}{A:Mx}{c:Int}(ha:a<n)(hb:b<n)(hne:a≠b):det n (putr A a (fun j=>A a j+c * A b j))=det n A:=by
 have e:(fun j=>A a j+c * A b j)=fun j=>c * A b j+A a j:=by funext j;omega
 rw[e,ζc6 ha,ζn5,ζa8 ha hb hne (A:=putr A a (A b)) fun j _=>?_,Int.mul_zero,Int.zero_add]
 unfold putr
 rw[if_pos rfl,if_neg (Ne.symm hne)]
theorem ζ312(a i:Nat):rotN 0 a (i+1)=sk a i:=by
 have r:rotN 0 a (i+1)=if i+1<0 then i+1 else if i+1=0 then 0+a else if i+1<=0+a then i+1 - 1 else i+1:=rfl
 rw[if_neg (by omega),if_neg (by omega)]at r
 rw[r]
 unfold sk
 by_cases h:i<a
 ·rw[if_pos h,if_pos (by omega)]
  omega
 ·rw[if_neg h,if_neg (by omega)]
theorem ζl2{f:Nat->Int}{a:Nat}:∀ {n:Nat},a<n->(∀ j,j<n->j≠a->f j=0)->sm n f=f a
 | 0,h,_=>absurd h (Nat.not_lt_zero _)
 | n+1,h,h0=>by
  show sm n f+f n=f a
  by_cases c:a=n
  ·rw[ζv1 fun i hi=>h0 i (by omega) (by omega),c,Int.zero_add]
  ·rw[ζl2 (n:=n) (by omega) fun j hj hne=>h0 j (by omega) hne,h0 n (by omega) (by omega),Int.add_zero]
theorem ζ96{n a:Nat}{A:Mx}(ha:a<n+1):det (n+1) (putr A a (fun j=>if j=a then 1 else 0))=det n (fun i j=>A (sk a i) (sk a j)):=by
 have e:=ζk4 (n:=n+1) (k:=0) (t:=a) (A:=putr A a (fun j=>if j=a then 1 else 0)) (by omega)
 have r0:rotN 0 a 0=a:=by
  show(if 0<0 then 0 else if 0=0 then 0+a else _)=a
  rw[if_neg (by omega),if_pos rfl,Nat.zero_add]
 have top:det (n+1) (fun i=>putr A a (fun j=>if j=a then 1 else 0) (rotN 0 a i))=sg a * det n (fun i j=>A (sk a i) (sk a j)):=by
  show sm (n+1) (fun j=>sg j * putr A a (fun j=>if j=a then 1 else 0) (rotN 0 a 0) j * det n (mn (fun i=>putr A a (fun j=>if j=a then 1 else 0) (rotN 0 a i)) j))=_
  rw[ζl2 ha fun j _ hne=>?_]
  ·rw[r0]
   have e1:putr A a (fun j=>if j=a then 1 else 0) a a=1:=by unfold putr;rw[if_pos rfl,if_pos rfl]
   rw[e1,Int.mul_one]
   refine congrArg (sg a * ·) (ζa fun i j _ _=>?_)
   show putr A a (fun j=>if j=a then 1 else 0) (rotN 0 a (i+1)) (sk a j)=A (sk a i) (sk a j)
   rw[ζ312]
   unfold putr
   rw[if_neg (by unfold sk;split <;> omega)]
  ·rw[r0]
   have e1:putr A a (fun j=>if j=a then 1 else 0) a j=0:=by unfold putr;rw[if_pos rfl,if_neg hne]
   rw[e1,Int.mul_zero,Int.zero_mul]
 rw[top]at e
 have h:=congrArg (sg a * ·) e
 simp only [<- Int.mul_assoc]at h
 rw[show sg a * sg a=1 by unfold sg;split <;> rfl,Int.one_mul,Int.one_mul]at h
 exact h.symm
theorem ζa2{n a:Nat}{A:Mx}{w:Int}(ha:a<n+1):det (n+1) (fun i j=>A i j+w * ((if i=a then 1 else 0) * (if j=a then 1 else 0)))=det (n+1) A+w * det n (fun i j=>A (sk a i) (sk a j)):=by
 have e:det (n+1) (fun i j=>A i j+w * ((if i=a then 1 else 0) * (if j=a then 1 else 0)))=det (n+1) (putr A a (fun j=>w * (fun j=>if j=a then 1 else 0) j+A a j)):=ζa fun i j _ _=>by
  unfold putr
  by_cases h:i=a
  ·subst h
   rw[if_pos rfl,if_pos rfl,Int.one_mul]
   show A i j+w * (if j=i then 1 else 0)=w * (if j=i then 1 else 0)+A i j
   exact Int.add_comm ..
  ·rw[if_neg h,if_neg h,Int.zero_mul,Int.mul_zero,Int.add_zero]
 rw[e,ζc6 ha,ζn5,ζ96 ha]
 omega
def ind(u v i:Nat):Int:=(if i=u then 1 else 0) - (if i=v then 1 else 0)
def ζ15(A:Mx)(a b:Nat):Mx:=fun i j=>(A i j+(if i=b then A a j else 0))+(if j=b then A i a+(if i=b then A a a else 0) else 0)
theorem ζm4{n a b:Nat}{A:Mx}(ha:a<n)(hb:b<n)(hne:a≠b):det n (ζ15 A a b)=det n A:=by
 have e1:det n A=det n (putr A b (fun j=>A b j+1 * A a j)):=(ζf6 hb ha (Ne.symm hne)).symm
 obtain⟨R,hR⟩:∃ R:Mx,R=putr A b (fun j=>A b j+1 * A a j):=⟨_,rfl⟩
 have e2:det n R=det n (putr (fun i j=>R j i) b (fun j=>(fun i j=>R j i) b j+1 * (fun i j=>R j i) a j)):=by
  rw[ζf6 (A:=fun i j=>R j i) hb ha (Ne.symm hne)]
  exact det_T.symm
 rw[e1,<- hR,e2,<- det_T (A:=putr (fun i j=>R j i) b (fun j=>(fun i j=>R j i) b j+1 * (fun i j=>R j i) a j))]
 refine ζa fun i j _ _=>?_
 have rv:∀ r c,R r c=A r c+(if r=b then A a c else 0):=fun r c=>by
  rw[hR]
  unfold putr
  by_cases h:r=b
  ·rw[if_pos h,if_pos h,h];omega
  ·rw[if_neg h,if_neg h];omega
 unfold ζ15
 show _=(putr (fun i j=>R j i) b (fun j=>R j b+1 * R j a)) j i
 unfold putr
 by_cases h:j=b
 ·rw[if_pos h,if_pos h,rv,rv,h]
  by_cases h2:i=b
  ·rw[if_pos h2,if_pos h2];omega
  ·rw[if_neg h2,if_neg h2];omega
 ·rw[if_neg h,if_neg h]
  show _=R i j
  rw[rv]
  omega
theorem ζk11{n a b:Nat}{A:Mx}{w:Int}(ha:a<n+1)(hb:b<n+1)(hne:a≠b):det (n+1) (fun i j=>A i j+w * (ind a b i * ind a b j))=det (n+1) A+w * det n (fun i j=>ζ15 A a b (sk a i) (sk a j)):=by
 have e1:=ζm4 (A:=fun i j=>A i j+w * (ind a b i * ind a b j)) ha hb hne
 have e2:det (n+1) (ζ15 (fun i j=>A i j+w * (ind a b i * ind a b j)) a b)=det (n+1) (fun i j=>ζ15 A a b i j+w * ((if i=a then 1 else 0) * (if j=a then 1 else 0))):=ζa fun i j _ _=>by
  have na:¬ a=b:=hne
  have nb:¬ b=a:=Ne.symm hne
  unfold ζ15 ind
  by_cases hi:i=b
  ·subst hi
   by_cases hj:j=i
   ·subst hj
    simp[na,nb]
    omega
   ·by_cases hj2:j=a
    ·subst hj2
     simp[na,nb,hj]
     omega
    ·simp[na,nb,hj,hj2]
  ·by_cases hi2:i=a
   ·subst hi2
    by_cases hj:j=b
    ·subst hj
     simp[na,nb]
     omega
    ·by_cases hj2:j=i
     ·subst hj2
      simp[na,nb]
     ·simp[na,nb,hj,hj2]
   ·by_cases hj:j=b
    ·subst hj
     simp[na,nb,hi,hi2]
    ·by_cases hj2:j=a
     ·subst hj2
      simp[na,nb,hi,hi2]
     ·simp[na,nb,hi,hi2,hj,hj2]
 rw[<- e1,e2,ζa2 ha,ζm4 ha hb hne]
end My
namespace My
open PySem L2
abbrev Ed:=Nat × Nat × Int
def lapE:List Ed->Mx
 | []=>fun _ _=>0
 | e :: E=>fun i j=>e.2.2 * (ind e.1 e.2.1 i * ind e.1 e.2.1 j)+lapE E i j
theorem ζD1(E:List Ed)(e:Ed)(i j:Nat):lapE (E++[e]) i j=lapE E i j+e.2.2 * (ind e.1 e.2.1 i * ind e.1 e.2.1 j):=by
 induction E with
 | nil=>show _+0=0+_;omega
 | cons f E ih =>
  show _+lapE (E++[e]) i j=_+lapE E i j+_
  rw[ih]
  omega
def edE(E:List Ed)(z:Int):Nat × Nat:=((E.getD z.toNat (0,0,0)).1,(E.getD z.toNat (0,0,0)).2.1)
def wtE(E:List Ed):List Int->Int
 | []=>1
 | z :: T=>(E.getD z.toNat (0,0,0)).2.2 * wtE E T
theorem ζr7(E:List Ed)(S T:List Int):wtE E (S++T)=wtE E S * wtE E T:=by
 induction S with
 | nil=>show _=1 * _;rw[Int.one_mul];rfl
 | cons z S ih=>show _ * wtE E (S++T)=_ * _ * _;rw[ih,Int.mul_assoc]
def IsT(k:Nat)(E:List Ed)(T:List Int):Prop:=IsSet E.length T/\T.length=k/\∀ i j,i<k+1->j<k+1->Conn (T.map (edE E)) i j
def TW(k:Nat)(E:List Ed)(s:Int):Prop:=∃ L:List (List Int),L.Nodup/\(∀ T,T∈L↔IsT k E T)/\(L.map (wtE E)).sum=s
theorem ζ48{E:List Ed}{e:Ed}{z:Int}(h0:0<=z)(h1:z<(E.length:Int)):(E++[e]).getD z.toNat (0,0,0)=E.getD z.toNat (0,0,0):=by
 rw[List.getD_eq_getElem?_getD,List.getD_eq_getElem?_getD,List.getElem?_append_left (by omega)]
theorem ζH2(E:List Ed)(e:Ed):(E++[e]).getD (E.length:Int).toNat (0,0,0)=e:=by
 rw[List.getD_eq_getElem?_getD,Int.toNat_natCast,List.getElem?_append_right (Nat.le_refl _),Nat.sub_self]
 rfl
theorem ζ39{E:List Ed}{e:Ed}{T:List Int}(h:IsSet E.length T):T.map (edE (E++[e]))=T.map (edE E):=List.map_congr_left fun z hz=>by
 have:=h.all z hz
 unfold edE
 rw[ζ48 this.1 this.2]
theorem ζB11{E:List Ed}{e:Ed}{T:List Int}(h:∀ z∈T,0<=z/\z<(E.length:Int)):wtE (E++[e]) T=wtE E T:=by
 induction T with
 | nil=>rfl
 | cons z T ih =>
  have hz:=h z List.mem_cons_self
  show _ * wtE (E++[e]) T=_ * wtE E T
  rw[ζ48 hz.1 hz.2,ih fun y hy=>h y (List.mem_cons_of_mem _ hy)]
theorem ζO5{k:Nat}{E:List Ed}{e:Ed}{T:List Int}(h:IsSet E.length T):IsT k (E++[e]) T↔IsT k E T:=by
 have h2:IsSet (E++[e]).length T:=by rw[List.length_append];exact h.up
 constructor
 ·rintro⟨_,a,b⟩
  exact⟨h,a,by rw[ζ39 h]at b;exact b⟩
 ·rintro⟨_,a,b⟩
  exact⟨h2,a,by rw[ζ39 h];exact b⟩
theorem ζ32{E:List Ed}{e:Ed}{T:List Int}(h:IsSet E.length T):(T++[(E.length:Int)]).map (edE (E++[e]))=T.map (edE E)++[(e.1,e.2.1)]:=by
 rw[List.map_append,ζ39 h]
 show _++[edE (E++[e]) (E.length:Int)]=_
 unfold edE
 rw[ζH2]
def sh(a x:Nat):Nat:=if x<a then x else x - 1
def dl(a b x:Nat):Nat:=if x=a then sh a b else sh a x
theorem ζC7(a y:Nat):sh a (sk a y)=y:=by
 unfold sk
 by_cases h:y<a
 ·rw[if_pos h]
  unfold sh
  rw[if_pos h]
 ·rw[if_neg h]
  unfold sh
  rw[if_neg (by omega)]
  omega
theorem ζR9(a y:Nat):sk a y≠a:=by
 unfold sk
 split <;> omega
theorem ζz7{a x:Nat}(h:x≠a):sk a (sh a x)=x:=by
 unfold sh
 by_cases c:x<a
 ·rw[if_pos c]
  unfold sk
  rw[if_pos c]
 ·rw[if_neg c]
  unfold sk
  rw[if_neg (by omega)]
  omega
theorem ζE11(a b y:Nat):dl a b (sk a y)=y:=by
 unfold dl
 rw[if_neg (ζR9 a y),ζC7]
theorem ζz8{a x y:Nat}(hx:x≠a)(hy:y≠a)(h:sh a x=sh a y):x=y:=by
 have:=congrArg (sk a) h
 rw[ζz7 hx,ζz7 hy]at this
 exact this
theorem ζn13{a b x y:Nat}(hne:b≠a)(h:dl a b x=dl a b y):x=y\/(x=a/\y=b)\/(x=b/\y=a):=by
 unfold dl at h
 by_cases hx:x=a
 ·rw[if_pos hx]at h
  by_cases hy:y=a
  ·exact .inl (hx.trans hy.symm)
  ·rw[if_neg hy]at h
   exact .inr (.inl ⟨hx,(ζz8 hne hy h).symm⟩)
 ·rw[if_neg hx]at h
  by_cases hy:y=a
  ·rw[if_pos hy]at h
   exact .inr (.inr ⟨ζz8 hx hne h,hy⟩)
  ·rw[if_neg hy]at h
   exact .inl (ζz8 hx hy h)
theorem ζo13(a b:Nat)(hne:b≠a):dl a b a=dl a b b:=by
 unfold dl
 rw[if_pos rfl,if_neg hne]
theorem ζJ9{a b:Nat}{es:List (Nat × Nat)}{i j:Nat}(hne:b≠a)(c:Conn (es++[(a,b)]) i j):Conn (es.map fun e=>(dl a b e.1,dl a b e.2)) (dl a b i) (dl a b j):=by
 induction c with
 | refl i=>exact .refl _
 | edge q =>
  rcases List.mem_append.mp q with q | q
  ·exact .edge (List.mem_map.mpr ⟨_,q,rfl⟩)
  ·have e:=List.mem_singleton.mp q
   injection e with e1 e2
   rw[e1,e2,ζo13 a b hne]
   exact .refl _
 | symm _ ih=>exact .symm ih
 | trans _ _ a b=>exact .trans a b
theorem ζI9{a b:Nat}{es:List (Nat × Nat)}{u v:Nat}(hne:b≠a)(c:Conn (es.map fun e=>(dl a b e.1,dl a b e.2)) u v):∀ i j,dl a b i=u->dl a b j=v->Conn (es++[(a,b)]) i j:=by
 have he:Conn (es++[(a,b)]) a b:=.edge (by simp)
 have same:∀ i j,dl a b i=dl a b j->Conn (es++[(a,b)]) i j:=fun i j e=>by
  rcases ζn13 hne e with e | ⟨e1,e2⟩ | ⟨e1,e2⟩
  ·rw[e];exact .refl _
  ·rw[e1,e2];exact he
  ·rw[e1,e2];exact he.symm
 induction c with
 | refl u=>exact fun i j e1 e2=>same i j (e1.trans e2.symm)
 | edge q =>
  intro i j e1 e2
  obtain⟨⟨x,y⟩,hxy,e⟩:=List.mem_map.mp q
  injection e with x1 x2
  exact(same i x (e1.trans x1.symm)).trans (.trans (.edge (List.mem_append_left _ hxy)) (same y j (x2.trans e2.symm)))
 | symm _ ih=>exact fun i j e1 e2=>(ih j i e2 e1).symm
 | @trans x y z _ _ ih1 ih2=>exact fun i j e1 e2=>(ih1 i (sk a y) e1 (ζE11 a b y)).trans (ih2 (sk a y) j (ζE11 a b y) e2)
theorem ζF11{a b x k:Nat}(ha:a<k+1)(hb:b<k+2)(hne:b≠a)(hx:x<k+2):dl a b x<k+1:=by
 unfold dl sh
 by_cases h:x=a
 ·rw[if_pos h]
  split <;> omega
 ·rw[if_neg h]
  split <;> omega
theorem cdl{a b k:Nat}{es:List (Nat × Nat)}(ha:a<k+1)(hb:b<k+2)(hne:b≠a):(∀ i j,i<k+2->j<k+2->Conn (es++[(a,b)]) i j)↔∀ i j,i<k+1->j<k+1->Conn (es.map fun e=>(dl a b e.1,dl a b e.2)) i j:=by
 constructor
 ·intro c i j h1 h2
  have:=ζJ9 hne (c (sk a i) (sk a j) (ζg5 h1) (ζg5 h2))
  rw[ζE11,ζE11]at this
  exact this
 ·exact fun c i j h1 h2=>ζI9 hne (c _ _ (ζF11 ha hb hne h1) (ζF11 ha hb hne h2)) i j rfl rfl
def drE(a b:Nat)(E:List Ed):List Ed:=E.map fun e=>(dl a b e.1,dl a b e.2.1,e.2.2)
theorem ζ98{a b:Nat}{E:List Ed}{z:Int}(h0:0<=z)(h1:z<(E.length:Int)):(drE a b E).getD z.toNat (0,0,0)=(dl a b (E.getD z.toNat (0,0,0)).1,dl a b (E.getD z.toNat (0,0,0)).2.1,(E.getD z.toNat (0,0,0)).2.2):=by
 unfold drE
 rw[List.getD_eq_getElem?_getD,List.getD_eq_getElem?_getD,List.getElem?_map,List.getElem?_eq_getElem (by omega)]
 rfl
theorem ζ88{a b:Nat}{E:List Ed}{T:List Int}(h:IsSet E.length T):T.map (edE (drE a b E))=(T.map (edE E)).map fun e=>(dl a b e.1,dl a b e.2):=by
 rw[List.map_map]
 refine List.map_congr_left fun z hz=>?_
 have:=h.all z hz
 unfold edE
 rw[ζ98 this.1 this.2]
 rfl
theorem ζA12{a b:Nat}{E:List Ed}{T:List Int}(h:∀ z∈T,0<=z/\z<(E.length:Int)):wtE (drE a b E) T=wtE E T:=by
 induction T with
 | nil=>rfl
 | cons z T ih =>
  have hz:=h z List.mem_cons_self
  show _ * wtE (drE a b E) T=_ * wtE E T
  rw[ζ98 hz.1 hz.2,ih fun y hy=>h y (List.mem_cons_of_mem _ hy)]
theorem ζR10{k a b:Nat}{E:List Ed}{e:Ed}{T:List Int}(ha:a<k+1)(hb:b<k+2)(hne:b≠a)(he:(e.1=a/\e.2.1=b)\/(e.1=b/\e.2.1=a))(h:IsSet E.length T):IsT (k+1) (E++[e]) (T++[(E.length:Int)])↔IsT k (drE a b E) T:=by
 have hl:(drE a b E).length=E.length:=List.length_map ..
 have hc:(∀ i j,i<k+2->j<k+2->Conn ((T++[(E.length:Int)]).map (edE (E++[e]))) i j)↔∀ i j,i<k+2->j<k+2->Conn (T.map (edE E)++[(a,b)]) i j:=by
  rw[ζ32 h]
  rcases he with ⟨e1,e2⟩ | ⟨e1,e2⟩
  ·rw[e1,e2]
  ·rw[e1,e2]
   exact⟨fun c i j x y=>ζr4 (c i j x y),fun c i j x y=>ζr4 (c i j x y)⟩
 have h2:IsSet (E++[e]).length (T++[(E.length:Int)]):=by rw[List.length_append];exact h.snoc
 constructor
 ·rintro⟨_,x,y⟩
  refine⟨hl ▸ h,?_,?_⟩
  ·rw[List.length_append,List.length_singleton]at x
   omega
  ·rw[ζ88 h]
   exact(cdl ha hb hne).mp (hc.mp y)
 ·rintro⟨_,x,y⟩
  rw[ζ88 h]at y
  refine⟨h2,by rw[List.length_append,List.length_singleton,x],hc.mpr ((cdl ha hb hne).mpr y)⟩
theorem ζb9{k:Nat}{E:List Ed}{e:Ed}{T:List Int}(hE:∀ f∈E,f.1<k+1/\f.2.1<k+1)(he:e.1=e.2.1)(h:IsSet E.length T):¬ IsT k (E++[e]) (T++[(E.length:Int)]):=by
 rintro⟨_,x,y⟩
 rw[ζ32 h]at y
 have hcov:∀ i j,i<k+1->j<k+1->Conn (T.map (edE E)) i j:=fun i j hi hj=>(y i j hi hj).lift fun f hf=>by
  rcases List.mem_append.mp hf with q | q
  ·exact .edge q
  ·rw[List.mem_singleton.mp q,he]
   exact .refl _
 have hin:InN (k+1) (T.map (edE E)):=fun f hf=>by
  obtain⟨z,hz,rfl⟩:=List.mem_map.mp hf
  have:=h.all z hz
  unfold edE
  rw[List.getD_eq_getElem?_getD,List.getElem?_eq_getElem (by omega)]
  exact hE _ (List.getElem_mem _)
 have h2:=(ζK1 (by omega) hin).mpr hcov
 have h3:=ζu4 _ hin
 rw[List.length_map]at h3
 rw[List.length_append,List.length_singleton]at x
 omega
theorem ζZ9{k:Nat}{E:List Ed}{e:Ed}{s:Int}(hE:∀ f∈E,f.1<k+1/\f.2.1<k+1)(he:e.1=e.2.1)(h:TW k E s):TW k (E++[e]) s:=by
 obtain⟨L,a1,a2,a3⟩:=h
 refine⟨L,a1,fun T=>?_,?_⟩
 ·rw[a2]
  constructor
  ·exact fun h=>(ζO5 h.1).mpr h
  ·intro h
   have hs:=h.1
   rw[List.length_append]at hs
   rcases ζr3 hs with c | ⟨T',c,c2⟩
   ·exact(ζO5 c).mp h
   ·exact absurd (c ▸ h) (ζb9 hE he c2)
 ·rw[<- a3]
  refine congrArg List.sum (List.map_congr_left fun T hT=>ζB11 ((a2 T).mp hT).1.all)
theorem ζ510(a b:List Int):(a++b).sum=a.sum+b.sum:=by
 induction a with
 | nil=>rw[List.nil_append,List.sum_nil,Int.zero_add]
 | cons x a ih=>rw[List.cons_append,List.sum_cons,List.sum_cons,ih];omega
theorem ζD6(w:Int)(l:List (List Int))(f:List Int->Int):(l.map fun T=>f T * w).sum=w * (l.map f).sum:=by
 induction l with
 | nil=>rw[List.map_nil,List.map_nil,List.sum_nil,Int.mul_zero]
 | cons x l ih=>rw[List.map_cons,List.map_cons,List.sum_cons,List.sum_cons,ih,Int.mul_add,Int.mul_comm]
theorem ζY9{k a b:Nat}{E:List Ed}{e:Ed}{s1 s2:Int}(ha:a<k+1)(hb:b<k+2)(hne:b≠a)(he:(e.1=a/\e.2.1=b)\/(e.1=b/\e.2.1=a))(h1:TW (k+1) E s1)(h2:TW k (drE a b E) s2):TW (k+1) (E++[e]) (s1+e.2.2 * s2):=by
 obtain⟨L,a1,a2,a3⟩:=h1
 obtain⟨M,b1,b2,b3⟩:=h2
 have hl:(drE a b E).length=E.length:=List.length_map ..
 refine⟨L++M.map (·++[(E.length:Int)]),List.nodup_append.mpr ⟨a1,?_,fun x hx y hy c=>?_⟩,fun T=>?_,?_⟩
 ·exact List.Pairwise.map _ (fun x y h c=>h (List.append_cancel_right c)) b1
 ·obtain⟨z,hz,c2⟩:=List.mem_map.mp hy
  have:=((a2 x).mp hx).1.all (E.length:Int) (by rw[c,<- c2];simp)
  omega
 ·rw[List.mem_append,a2,List.mem_map]
  constructor
  ·rintro(h | ⟨T',hT,rfl⟩)
   ·exact(ζO5 h.1).mpr h
   ·have:=(b2 T').mp hT
    exact(ζR10 ha hb hne he (hl ▸ this.1)).mpr this
  ·intro h
   have hs:=h.1
   rw[List.length_append]at hs
   rcases ζr3 hs with c | ⟨T',c,c2⟩
   ·exact .inl ((ζO5 c).mp h)
   ·exact .inr ⟨T',(b2 T').mpr ((ζR10 ha hb hne he c2).mp (c ▸ h)),c.symm⟩
 ·rw[List.map_append,ζ510,List.map_map]
  have e1:L.map (wtE (E++[e]))=L.map (wtE E):=List.map_congr_left fun T hT=>ζB11 ((a2 T).mp hT).1.all
  have e2:M.map (wtE (E++[e]) ∘ (·++[(E.length:Int)]))=M.map fun T=>wtE (drE a b E) T * e.2.2:=List.map_congr_left fun T hT=>by
   have hs:IsSet E.length T:=hl ▸ ((b2 T).mp hT).1
   show wtE (E++[e]) (T++[(E.length:Int)])=_
   rw[ζr7,ζB11 hs.all,ζA12 hs.all]
   show _ * (((E++[e]).getD (E.length:Int).toNat (0,0,0)).2.2 * 1)=_
   rw[ζH2,Int.mul_one]
  rw[e1,e2,a3,ζD6,b3]
theorem ζU10{a b u v i:Nat}(hne:b≠a):ind (dl a b u) (dl a b v) i=ind u v (sk a i)+(if sk a i=b then ind u v a else 0):=by
 have key:∀ x:Nat,((if i=dl a b x then 1 else 0:Int))=(if sk a i=x then 1 else 0)+(if sk a i=b then (if a=x then 1 else 0) else 0):=fun x=>by
  unfold dl
  by_cases hx:x=a
  ·rw[if_pos hx,if_neg (show ¬ sk a i=x from hx ▸ ζR9 a i),Int.zero_add]
   by_cases h:sk a i=b
   ·rw[if_pos h,if_pos hx.symm,if_pos]
    rw[<- h,ζC7]
   ·rw[if_neg h,if_neg]
    intro e
    exact h (by rw[e,ζz7 hne])
  ·rw[if_neg hx]
   have e2:(if sk a i=b then (if a=x then 1 else 0:Int) else 0)=0:=by
    rw[if_neg (Ne.symm hx)]
    split <;> rfl
   rw[e2,Int.add_zero]
   by_cases h:sk a i=x
   ·rw[if_pos h,if_pos]
    rw[<- h,ζC7]
   ·rw[if_neg h,if_neg]
    intro e
    exact h (by rw[e,ζz7 hx])
 unfold ind
 rw[key u,key v]
 by_cases h:sk a i=b
 ·rw[if_pos h,if_pos h,if_pos h]
  omega
 ·rw[if_neg h,if_neg h,if_neg h]
  omega
theorem ζT7{a b:Nat}(hne:b≠a)(i j:Nat):∀ E:List Ed,lapE (drE a b E) i j=ζ15 (lapE E) a b (sk a i) (sk a j)
 | []=>by
  show(0:Int)=_
  unfold ζ15 lapE
  by_cases h:sk a i=b
  ·by_cases h2:sk a j=b
   ·rw[if_pos h,if_pos h2];rfl
   ·rw[if_pos h,if_neg h2];rfl
  ·by_cases h2:sk a j=b
   ·rw[if_neg h,if_pos h2];rfl
   ·rw[if_neg h,if_neg h2];rfl
 | e :: E=>by
  have ih:=ζT7 hne i j E
  show e.2.2 * (ind (dl a b e.1) (dl a b e.2.1) i * ind (dl a b e.1) (dl a b e.2.1) j)+lapE (drE a b E) i j=_
  rw[ih,ζU10 hne,ζU10 hne]
  unfold ζ15
  show _=(e.2.2 * (ind e.1 e.2.1 (sk a i) * ind e.1 e.2.1 (sk a j))+lapE E (sk a i) (sk a j)+(if sk a i=b then e.2.2 * (ind e.1 e.2.1 a * ind e.1 e.2.1 (sk a j))+lapE E a (sk a j) else 0))+(if sk a j=b then (e.2.2 * (ind e.1 e.2.1 (sk a i) * ind e.1 e.2.1 a)+lapE E (sk a i) a)+(if sk a i=b then e.2.2 * (ind e.1 e.2.1 a * ind e.1 e.2.1 a)+lapE E a a else 0) else 0)
  generalize ind e.1 e.2.1 (sk a i)=x
  generalize ind e.1 e.2.1 (sk a j)=y
  generalize ind e.1 e.2.1 a=z
  generalize e.2.2=w
  by_cases h:sk a i=b
  ·by_cases h2:sk a j=b
   ·simp only [if_pos h,if_pos h2,Int.mul_add,Int.add_mul]
    omega
   ·simp only [if_pos h,if_neg h2,Int.mul_add,Int.add_mul,Int.add_zero,Int.mul_zero]
    omega
  ·by_cases h2:sk a j=b
   ·simp only [if_neg h,if_pos h2,Int.mul_add,Int.add_mul,Int.add_zero,Int.zero_mul]
    omega
   ·simp only [if_neg h,if_neg h2,Int.add_zero]
theorem ζQ5(u v i:Nat):ind v u i=- ind u v i:=by
 unfold ind
 omega
theorem ζm11{k a b:Nat}{E:List Ed}{e:Ed}(ha:a<k+1)(hb:b<k+2)(hne:b≠a)(he:(e.1=a/\e.2.1=b)\/(e.1=b/\e.2.1=a)):det (k+1) (lapE (E++[e]))=det (k+1) (lapE E)+e.2.2 * det k (lapE (drE a b E)):=by
 have e1:det (k+1) (lapE (E++[e]))=det (k+1) (fun i j=>lapE E i j+e.2.2 * (ind a b i * ind a b j)):=ζa fun i j _ _=>by
  rw[ζD1]
  rcases he with ⟨x,y⟩ | ⟨x,y⟩
  ·rw[x,y]
  ·rw[x,y,ζQ5 a b i,ζQ5 a b j,Int.neg_mul_neg]
 have e2:det k (lapE (drE a b E))=det k (fun i j=>ζ15 (lapE E) a b (sk a i) (sk a j)):=ζa fun i j _ _=>ζT7 hne i j E
 rw[e1,e2]
 by_cases hk:b<k+1
 ·exact ζk11 ha hk (Ne.symm hne)
 ·have e3:det (k+1) (fun i j=>lapE E i j+e.2.2 * (ind a b i * ind a b j))=det (k+1) (fun i j=>lapE E i j+e.2.2 * ((if i=a then 1 else 0) * (if j=a then 1 else 0))):=ζa fun i j hi hj=>by
   unfold ind
   rw[if_neg (show ¬ i=b by omega),if_neg (show ¬ j=b by omega),Int.sub_zero,Int.sub_zero]
  have e4:det k (fun i j=>ζ15 (lapE E) a b (sk a i) (sk a j))=det k (fun i j=>lapE E (sk a i) (sk a j)):=ζa fun i j hi hj=>by
   have h1:=ζg5 (j:=a) hi
   have h2:=ζg5 (j:=a) hj
   unfold ζ15
   rw[if_neg (show ¬ sk a i=b by omega),if_neg (show ¬ sk a j=b by omega),Int.add_zero,Int.add_zero]
  rw[e3,e4]
  exact ζa2 ha
theorem ζd4{E:List Ed}{e:Ed}(he:e.1=e.2.1):lapE (E++[e])=lapE E:=by
 funext i j
 rw[ζD1,he]
 unfold ind
 rw[Int.sub_self,Int.zero_mul,Int.mul_zero,Int.add_zero]
theorem ζD:∀(m k:Nat) (E:List Ed),E.length=m->(∀ e∈E,e.1<k+1/\e.2.1<k+1)->TW k E (det k (lapE E))
 | 0,k,E,hm,_=>by
  obtain rfl:=List.length_eq_zero_iff.mp hm
  cases k with
  | zero =>
   refine⟨[[]],by simp,fun T=>?_,rfl⟩
   rw[List.mem_singleton]
   constructor
   ·rintro rfl
    exact⟨IsSet.nil _,rfl,fun i j hi hj=>by
     have:i=j:=by omega
     rw[this]
     exact .refl j⟩
   ·intro h
    exact List.length_eq_zero_iff.mp h.2.1
  | succ k =>
   refine⟨[],.nil,fun T=>⟨fun h=>(by cases h),fun h=>?_⟩,?_⟩
   ·have h1:=h.1.len
    have h2:=h.2.1
    rw[List.length_nil]at h1
    omega
   ·exact(ζb6 (i:=0) (by omega) fun j _=>rfl).symm
 | m+1,k,E,hm,hE=>by
  obtain⟨E',e,rfl⟩:∃ E' e,E=E'++[e]:=⟨E.dropLast,E.getLast (fun h=>by rw[h]at hm;cases hm),(List.dropLast_concat_getLast _).symm⟩
  have hm':E'.length=m:=by rw[List.length_append]at hm;simpa using hm
  have hE':∀ f∈E',f.1<k+1/\f.2.1<k+1:=fun f hf=>hE f (List.mem_append_left _ hf)
  have he:=hE e (by simp)
  have ih:=ζD m k E' hm' hE'
  by_cases hl:e.1=e.2.1
  ·rw[ζd4 hl]
   exact ζZ9 hE' hl ih
  ·obtain⟨k',rfl⟩:∃ k',k=k'+1:=⟨k - 1,by omega⟩
   obtain⟨a,b,ha,hb,hne,hab⟩:∃ a b,a<k'+1/\b<k'+2/\b≠a/\((e.1=a/\e.2.1=b)\/(e.1=b/\e.2.1=a)):=by
    by_cases c:e.1<k'+1
    ·exact⟨e.1,e.2.1,c,he.2,fun h=>hl h.symm,.inl ⟨rfl,rfl⟩⟩
    ·exact⟨e.2.1,e.1,by omega,he.1,hl,.inr ⟨rfl,rfl⟩⟩
   have ih2:=ζD m k' (drE a b E') (by unfold drE;rw[List.length_map];exact hm') fun f hf=>by
    obtain⟨g,hg,rfl⟩:=List.mem_map.mp hf
    have:=hE' g hg
    exact⟨ζF11 ha hb hne this.1,ζF11 ha hb hne this.2⟩
   rw[ζm11 ha hb hne hab]
   exact ζY9 ha hb hne hab ih ih2
def ζ71(ps:List (Int × Int))(ws:List Int):List Ed:=List.zipWith (fun p w=>(p.1.toNat,p.2.toNat,w)) ps ws
theorem ζ83{n:Int}{ps:List (Int × Int)}{ws:List Int}{T:List Int}(h1:1<=n)(hw:ws.length=ps.length):IsT (n - 1).toNat (ζ71 ps ws) T↔ζH n ps T:=by
 have hl:(ζ71 ps ws).length=ps.length:=by unfold ζ71;rw[List.length_zipWith];omega
 have hm:IsSet ps.length T->T.map (edE (ζ71 ps ws))=ζc ps T:=fun hs=>List.map_congr_left fun z hz=>by
  have:=hs.all z hz
  unfold edE ζ71
  rw[List.getD_eq_getElem?_getD,List.getElem?_zipWith,List.getElem?_eq_getElem (by omega),List.getElem?_eq_getElem (show z.toNat<ws.length by omega),List.getD_eq_getElem?_getD,List.getElem?_eq_getElem (by omega)]
  rfl
 unfold IsT ζH
 rw[hl]
 constructor
 ·rintro⟨a,b,c⟩
  rw[hm a]at c
  exact⟨a,by omega,fun i j hi hj=>c i j (by omega) (by omega)⟩
 ·rintro⟨a,b,c⟩
  rw[hm a]
  exact⟨a,by omega,fun i j hi hj=>c i j (by omega) (by omega)⟩
theorem ζx6{E:List Ed}(h:∀ e∈E,e.2.2=1):∀ {T:List Int},(∀ z∈T,0<=z/\z<(E.length:Int))->wtE E T=1
 | [],_=>rfl
 | z :: T,hb=>by
  have hz:=hb z List.mem_cons_self
  show(E.getD z.toNat (0,0,0)).2.2 * wtE E T=1
  rw[ζx6 h fun y hy=>hb y (List.mem_cons_of_mem _ hy),Int.mul_one,List.getD_eq_getElem?_getD,List.getElem?_eq_getElem (by omega)]
  exact h _ (List.getElem_mem _)
theorem ζn3{l:List (List Int)}{f:List Int->Int}(h:∀ T∈l,f T=1):(l.map f).sum=(l.length:Int):=by
 induction l with
 | nil=>rfl
 | cons x l ih =>
  rw[List.map_cons,List.sum_cons,ih fun T hT=>h T (List.mem_cons_of_mem _ hT),h x List.mem_cons_self,List.length_cons]
  omega
theorem ζ66{n:Int}{ps:List (Int × Int)}(g:ζE n ps)(ws:List Int):∀ e∈ζ71 ps ws,e.1<(n - 1).toNat+1/\e.2.1<(n - 1).toNat+1:=fun e he=>by
 unfold ζ71 at he
 obtain⟨i,hi⟩:=List.getElem?_of_mem he
 rw[List.getElem?_zipWith]at hi
 have g1:=g.1
 cases h1:ps[i]? with
 | none=>rw[h1]at hi;cases hi
 | some p =>
  cases h2:ws[i]? with
  | none=>rw[h1,h2]at hi;cases hi
  | some w =>
   rw[h1,h2]at hi
   obtain rfl:=Option.some.inj hi
   obtain⟨a,b,c,d⟩:=g.2.2.2 p (List.mem_of_getElem? h1)
   exact⟨by show p.1.toNat<_;omega,by show p.2.toNat<_;omega⟩
theorem ζq8{n:Int}{ps:List (Int × Int)}(g:ζE n ps){L:List (List Int)}(hL:L.Nodup)(hm:∀ l,l∈L↔ζH n ps l):det (n - 1).toNat (lapE (ζ71 ps (List.replicate ps.length 1)))=(L.length:Int):=by
 have g1:=g.1
 have hw:(List.replicate ps.length (1:Int)).length=ps.length:=List.length_replicate
 obtain⟨M,a1,a2,a3⟩:=ζD _ (n - 1).toNat (ζ71 ps (List.replicate ps.length 1)) rfl (ζ66 g _)
 have hl:(ζ71 ps (List.replicate ps.length 1)).length=ps.length:=by unfold ζ71;rw[List.length_zipWith,hw];omega
 have w1:∀ e∈ζ71 ps (List.replicate ps.length (1:Int)),e.2.2=1:=fun e he=>by
  unfold ζ71 at he
  obtain⟨i,hi⟩:=List.getElem?_of_mem he
  rw[List.getElem?_zipWith]at hi
  cases h1:ps[i]? with
  | none=>rw[h1]at hi;cases hi
  | some p =>
   cases h2:(List.replicate ps.length (1:Int))[i]? with
   | none=>rw[h1,h2]at hi;cases hi
   | some w =>
    rw[h1,h2]at hi
    obtain rfl:=Option.some.inj hi
    exact List.eq_of_mem_replicate (List.mem_of_getElem? h2)
 rw[<- a3,ζn3 fun T hT=>ζx6 w1 ((a2 T).mp hT).1.all]
 have hp:M.Perm L:=(List.perm_ext_iff_of_nodup a1 hL).mpr fun l=>by rw[a2,hm,ζ83 g1 hw]
 rw[hp.length_eq]
end My
namespace L2
open PySem PySem.Spec PyProof.Rows
section
variable{X:Cx}
def ζ913(K:PySem.W.Frag):V->V->Hp->VK->Prop:=fun x y H Q=>∃ p xs i v,x=.ref p/\y=.int i/\SqL K H p xs/\0<=i/\xs[i.toNat]?=some v/\Q v H
theorem ζS1(K:PySem.W.Frag)(hk:X.K=K:=by rfl):PGet X (ζ913 K):=by
 subst hk
 intro pins s σ H o i ov iv Q I ro ri h
 obtain⟨p,xs,j,z,rfl,rfl,hq,h0,he,q⟩:=h
 cases ro
 obtain⟨t,rfl⟩:=ri
 obtain⟨its,r,pl,hz⟩:=I.list hq
 obtain⟨w,ew,rw'⟩:=r.get he
 have hl:=r.length
 have hn:=ζB3
 have hlt:=(List.getElem?_eq_some_iff.mp he).1
 exact wpAny_getItem_list pl.isList h0 (by omega) (by simpa using ew) ⟨z,H,I,rw',q⟩
end
end L2
namespace My
open PySem L2
theorem ζ511{K:PySem.W.Frag}{a b:Addr}{xs ys:List V}{g:TG}{tb:TS}{D:Ends}{σ:St}{H:Hp}(hxy:xs.length=ys.length)(Pv:Nat->St->Hp->Prop)(h0:Pv 0 σ H)(hl:∀ i σ H,i<=xs.length->Pv i σ H->SqL K H a xs/\SqL K H b ys)
  (hs:∀(i:Nat) x y σ H (p:Addr),H p=none->xs[i]?=some x->ys[i]?=some y->Pv i σ H->g (.ref p) σ (upd H p (.tup [x,y])) fun σ2 H2=>tb { D with nx:=Pv (i+1),ct:=Pv (i+1),bk:=D.nx } σ2 H2) (hd:∀ σ H,Pv xs.length σ H->D.nx σ H) :
  ∃ W:Nat->Nat->St->Hp->Prop,(∃ m,W 0 m σ H)/\∀ i m σ H,W i m σ H ->
   ((Itz K a b).stop i H/\D.nx σ H)\/((Itz K a b).go i H/\∃ N:St->Hp->Prop,(∀ σ' H',N σ' H'->∃ m',m'<m/\W (i+1) m' σ' H')/\∀ x H',(Itz K a b).yld i H x H'->g x σ H' fun σ2 H2=>tb { D with nx:=N,ct:=N,bk:=D.nx } σ2 H2):=by
 refine⟨fun i m σ H=>m=xs.length - i/\i<=xs.length/\Pv i σ H,⟨xs.length,by simp,Nat.zero_le _,h0⟩,?_⟩
 rintro i m σ H ⟨rfl,hi,p⟩
 obtain⟨q,q2⟩:=hl i σ H hi p
 by_cases hlt:i<xs.length
 ·refine .inr ⟨⟨xs,ys,xs[i],ys[i]'(by omega),q,q2,by simp[hlt],List.getElem?_eq_getElem (by omega)⟩,Pv (i+1),fun σ' H' p'=>⟨xs.length - (i+1),by omega,rfl,hlt,p'⟩,fun x H' ⟨T,u,v,hT,ex,eH,hu,hv⟩=>?_⟩
  subst ex eH
  exact hs i u v σ H T hT (hu xs q) (hv ys q2) p
 ·have e:i=xs.length:=by omega
  subst e
  exact .inl ⟨⟨xs,ys,q,q2,.inl (Nat.le_refl _)⟩,hd σ H p⟩
structure TabAt (H0:Hp) (r:Addr) (n:Nat) (H:Hp) (ys:List V) (L:List (List Int)):Prop where
 tab:H r=some (.lst ys)
 rows:Bears (LiV r H) ys L
 len:L.length=n
 all:∀ l∈L,l.length=n
 nd:ys.Nodup
 new:∀ A,V.ref A∈ys->H0 A=none
theorem TabAt.same{H0 H H':Hp}{r:Addr}{n:Nat}{ys:List V}{L:List (List Int)}(s:Same H H')(h:TabAt H0 r n H ys L):TabAt H0 r n H' ys L:=⟨s _ _ h.tab,h.rows.imp fun _ _ q=>q.same s,h.len,h.all,h.nd,h.new⟩
theorem TabAt.at{H0 H:Hp}{r:Addr}{n:Nat}{ys:List V}{L:List (List Int)}(h:TabAt H0 r n H ys L){i:Nat}(hi:i<n):∃(A:Addr) (l:List Int),ys[i]?=some (.ref A)/\L[i]?=some l/\H A=some (.lst (IL l))/\l.length=n/\H0 A=none/\A≠r:=by
 have hl:=h.len
 obtain⟨l,e⟩:∃ l,L[i]?=some l:=⟨_,List.getElem?_eq_getElem (by omega)⟩
 obtain⟨v,e1,A,rfl,e2,e3⟩:=h.rows.2 i l e
 exact⟨A,l,e1,e,e2,h.all l (List.mem_of_getElem? e),h.new A (List.mem_of_getElem? e1),e3⟩
theorem TabAt.put{H0 H:Hp}{r:Addr}{n:Nat}{ys:List V}{L:List (List Int)}(h:TabAt H0 r n H ys L){i:Nat}{A:Addr}{l l':List Int}(e1:ys[i]?=some (.ref A))(e2:L[i]?=some l)(e3:A≠r)(hl:l'.length=n):TabAt H0 r n (upd H A (.lst (IL l'))) ys (L.set i l'):=by
 have hi:=(List.getElem?_eq_some_iff.mp e2).1
 have hil:=(List.getElem?_eq_some_iff.mp e1).1
 refine⟨by rw[ζ9 (Ne.symm e3)];exact h.tab,⟨by rw[List.length_set];exact h.rows.1,fun j m em=>?_⟩,by rw[List.length_set];exact h.len,fun m hm=>?_,h.nd,h.new⟩
 ·rw[List.getElem?_set]at em
  by_cases c:i=j
  ·subst c
   rw[if_pos rfl,if_pos hi]at em
   obtain rfl:=Option.some.inj em
   exact⟨_,e1,A,rfl,ζ1,e3⟩
  ·rw[if_neg c]at em
   obtain⟨v,f1,B,rfl,f2,f3⟩:=h.rows.2 j m em
   refine⟨_,f1,B,rfl,?_,f3⟩
   rw[ζ9]
   ·exact f2
   ·intro e
    rw[e]at f1
    exact c (ζf1 h.nd e1 f1)
 ·rcases List.mem_or_eq_of_mem_set hm with e | e
  ·exact h.all m e
  ·rw[e];exact hl
theorem ζ611{L:List (List Int)}{l:List Int}{i j:Nat}{x:Int}(hi:L[i]?=some l)(hj:j<l.length)(a b:Nat):fnL (L.set i (l.set j x)) a b=if a=i/\b=j then x else fnL L a b:=by
 have hil:=(List.getElem?_eq_some_iff.mp hi).1
 unfold fnL
 by_cases ha:a=i
 ·subst ha
  have e1:(L.set a (l.set j x)).getD a []=l.set j x:=by rw[List.getD_eq_getElem?_getD,List.getElem?_set,if_pos rfl,if_pos hil];rfl
  have e2:L.getD a []=l:=by rw[List.getD_eq_getElem?_getD,hi];rfl
  rw[e1,e2]
  by_cases hb:b=j
  ·subst hb
   rw[if_pos ⟨rfl,rfl⟩,List.getD_eq_getElem?_getD,List.getElem?_set,if_pos rfl,if_pos hj]
   rfl
  ·rw[if_neg (fun h=>hb h.2),List.getD_eq_getElem?_getD,List.getElem?_set,if_neg (Ne.symm hb),<- List.getD_eq_getElem?_getD]
 ·have e1:(L.set i (l.set j x)).getD a []=L.getD a []:=by rw[List.getD_eq_getElem?_getD,List.getD_eq_getElem?_getD,List.getElem?_set,if_neg (Ne.symm ha)]
  rw[e1,if_neg (fun h=>ha h.1)]
theorem four{A:Mx}{u v:Nat}{w:Int}(hne:u≠v)(a b:Nat){B C D E:Mx}(h1:∀ a b,B a b=if a=u/\b=u then A u u+w else A a b)(h2:∀ a b,C a b=if a=v/\b=v then B v v+w else B a b)(h3:∀ a b,D a b=if a=u/\b=v then C u v - w else C a b)(h4:∀ a b,E a b=if a=v/\b=u then D v u - w else D a b):E a b=A a b+w * (ind u v a * ind u v b):=by
 have nv:¬ v=u:=Ne.symm hne
 unfold ind
 by_cases x1:a=u
 ·subst x1
  by_cases y1:b=a
  ·subst y1
   simp[h4,h3,h2,h1,hne,nv]
  ·by_cases y2:b=v
   ·subst y2
    simp[h4,h3,h2,h1,hne,nv]
    omega
   ·simp[h4,h3,h2,h1,hne,nv,y1,y2]
 ·by_cases x2:a=v
  ·subst x2
   by_cases y1:b=u
   ·subst y1
    simp[h4,h3,h2,h1,hne,nv]
    omega
   ·by_cases y2:b=a
    ·subst y2
     simp[h4,h3,h2,h1,hne,nv]
    ·simp[h4,h3,h2,h1,hne,nv,y1,y2]
  ·simp[h4,h3,h2,h1,hne,nv,x1,x2]
theorem ζw9{ps:List (Int × Int)}{ws:List Int}{i:Nat}{p:Int × Int}{w:Int}(hp:ps[i]?=some p)(hw:ws[i]?=some w):ζ71 (ps.take (i+1)) (ws.take (i+1))=ζ71 (ps.take i) (ws.take i)++[(p.1.toNat,p.2.toNat,w)]:=by
 have h1:=(List.getElem?_eq_some_iff.mp hp).1
 have h2:=(List.getElem?_eq_some_iff.mp hw).1
 unfold ζ71
 rw[List.take_succ,List.take_succ,hp,hw]
 rw[List.zipWith_append (by rw[List.length_take,List.length_take];omega)]
 rfl
theorem Conn.image{es fs:List (Nat × Nat)}{f:Nat->Nat}(h:∀ e∈es,Conn fs (f e.1) (f e.2)){i j:Nat}(c:Conn es i j):Conn fs (f i) (f j):=by
 induction c with
 | refl i=>exact .refl _
 | edge e=>exact h _ e
 | symm _ ih=>exact ih.symm
 | trans _ _ ih1 ih2=>exact ih1.trans ih2
theorem ζE9{n:Int}{ps:List (Int × Int)}{T:List Int}(g:ζE n ps)(h:IsSet ps.length T)(c:∀ i j,i<n.toNat->j<n.toNat->Conn (ζc ps T) i j):n - 1<=(T.length:Int):=by
 have g1:=g.1
 have hin:=ζG1 (ns:=T) g h.all
 have h2:=(ζK1 (by omega) hin).mpr c
 have h3:=ζu4 _ hin
 rw[show(ζc ps T).length=T.length from List.length_map ..]at h3
 omega
end My
namespace L2
open PySem
def Ris(t:SetTable):Prop:=t.place.toList.Pairwise (· < ·)
theorem ζH4{xs:Array Nat}(h:xs.toList.Pairwise (· < ·)){i k a b:Nat}(hik:i<k)(ha:xs[i]?=some a)(hb:xs[k]?=some b):a<b:=by
 rw[<- Array.getElem?_toList]at ha hb
 obtain⟨h1,e1⟩:=List.getElem?_eq_some_iff.mp ha
 obtain⟨h2,e2⟩:=List.getElem?_eq_some_iff.mp hb
 rw[<- e1,<- e2]
 exact List.pairwise_iff_getElem.mp h i k h1 h2 hik
theorem ζR2{xs:Array Nat}{j:Nat}(h:xs.toList.Pairwise (· < ·)):∀(f lo hi:Nat),hi - lo<=f->lo<=hi->hi<=xs.size->(∀ i v,xs[i]?=some v->i<lo->v<j)->(∀ i v,xs[i]?=some v->hi<=i->j<=v) ->
  SetTable.below.go xs j f lo hi<=xs.size/\∀ i v,xs[i]?=some v->(i<SetTable.below.go xs j f lo hi↔v<j)
 | 0,lo,hi,hf,hl,hs,a,b=>by
  have e:lo=hi:=by omega
  unfold SetTable.below.go
  refine⟨by omega,fun i v hv=>⟨a i v hv,fun hvj=>Nat.lt_of_not_le fun hc=>?_⟩⟩
  have:=b i v hv (by omega)
  omega
 | f+1,lo,hi,hf,hl,hs,a,b=>by
  unfold SetTable.below.go
  by_cases c:lo<hi
  ·rw[if_pos c]
   dsimp only
   obtain⟨m,hm⟩:∃ m,xs[(lo+hi) / 2]?=some m:=⟨_,Array.getElem?_eq_getElem (by omega)⟩
   have em:xs.getD ((lo+hi) / 2) j=m:=by rw[Array.getD_eq_getD_getElem?,hm];rfl
   rw[em]
   by_cases d:m<j
   ·rw[if_pos d]
    refine ζR2 h f _ hi (by omega) (by omega) hs (fun i v hv hi2=>?_) b
    by_cases e:i=(lo+hi) / 2
    ·rw[e,hm]at hv
     exact Option.some.inj hv ▸ d
    ·have:=ζH4 h (show i<(lo+hi) / 2 by omega) hv hm
     omega
   ·rw[if_neg d]
    refine ζR2 h f lo _ (by omega) (by omega) (by omega) a fun i v hv hi2=>?_
    by_cases e:i=(lo+hi) / 2
    ·rw[e,hm]at hv
     have:=Option.some.inj hv
     omega
    ·have:=ζH4 h (show(lo+hi) / 2<i by omega) hm hv
     omega
  ·rw[if_neg c]
   refine⟨by omega,fun i v hv=>⟨a i v hv,fun hvj=>Nat.lt_of_not_le fun hc=>?_⟩⟩
   have:=b i v hv (by omega)
   omega
theorem ζj1{xs:Array Nat}(h:xs.toList.Pairwise (· < ·))(j:Nat):SetTable.below xs j<=xs.size/\∀ i v,xs[i]?=some v->(i<SetTable.below xs j↔v<j) :=
 ζR2 h xs.size 0 xs.size (by omega) (Nat.zero_le _) (Nat.le_refl _) (fun i v _ h=>absurd h (Nat.not_lt_zero _)) fun i v hv hi=>by
  rw[Array.getElem?_eq_none hi]at hv
  cases hv
theorem ζL9{xs:Array Nat}(h:xs.toList.Pairwise (· < ·)){i v:Nat}(hv:xs[i]?=some v):SetTable.below xs v=i:=by
 obtain⟨h1,h2⟩:=ζj1 h v
 have a:¬ i<SetTable.below xs v:=fun q=>by have:=(h2 i v hv).mp q;omega
 refine Nat.le_antisymm (by omega) (Nat.le_of_not_lt fun q=>?_)
 have hlt:=(Array.getElem?_eq_some_iff.mp hv).1
 obtain⟨u,hu⟩:∃ u,xs[SetTable.below xs v]?=some u:=⟨_,Array.getElem?_eq_getElem (by omega)⟩
 have b:=ζH4 h q hu hv
 have:=(h2 _ u hu).mpr b
 omega
theorem ζs6{xs:Array Nat}(h:xs.toList.Pairwise (· < ·)){i v:Nat}(hv:xs[i]?=some v):SetTable.below xs (v+1)=i+1:=by
 obtain⟨h1,h2⟩:=ζj1 h (v+1)
 have a:=(h2 i v hv).mpr (Nat.lt_succ_self v)
 refine Nat.le_antisymm (Nat.le_of_not_lt fun q=>?_) a
 obtain⟨u,hu⟩:∃ u,xs[i+1]?=some u:=⟨_,Array.getElem?_eq_getElem (by omega)⟩
 have b:=(h2 _ u hu).mp q
 have:=ζH4 h (Nat.lt_succ_self i) hv hu
 omega
theorem ζr6{xs:Array Nat}(h:xs.toList.Pairwise (· < ·)):SetTable.below xs 0=0:=by
 obtain⟨h1,h2⟩:=ζj1 h 0
 refine Nat.le_zero.mp (Nat.le_of_not_lt fun q=>?_)
 obtain⟨u,hu⟩:∃ u,xs[0]?=some u:=⟨_,Array.getElem?_eq_getElem (by omega)⟩
 exact Nat.not_lt_zero _ ((h2 _ u hu).mp q)
def ζY4(t:SetTable)(j:Nat):Prop:=t.place[SetTable.below t.place j]?≠some j
theorem ζi10{t:SetTable}{j:Nat}(h:Ris t)(hn:ζY4 t j):Ris (t.put j).1:=by
 obtain⟨h1,h2⟩:=ζj1 h j
 have up:∀ i v,t.place[i]?=some v->SetTable.below t.place j<=i->j<v:=fun i v hv hi=>by
  have a:¬ v<j:=fun q=>by have:=(h2 i v hv).mpr q;omega
  have b:v≠j:=fun e=>hn (by rw[e]at hv;rw[ζL9 h hv];exact hv)
  omega
 show(SetTable.insertAt t.place (SetTable.below t.place j) j).toList.Pairwise (· < ·)
 rw[SetTable.toList_insertAt]
 have dn:∀ x∈t.place.toList.take (SetTable.below t.place j),x<j:=fun x hx=>by
  obtain⟨i,hi⟩:=List.getElem?_of_mem hx
  rw[List.getElem?_take]at hi
  split at hi
  ·rename_i q
   rw[Array.getElem?_toList]at hi
   exact(h2 i x hi).mp q
  ·cases hi
 have ub:∀ x∈t.place.toList.drop (SetTable.below t.place j),j<x:=fun x hx=>by
  obtain⟨i,hi⟩:=List.getElem?_of_mem hx
  rw[List.getElem?_drop,Array.getElem?_toList]at hi
  exact up _ x hi (Nat.le_add_right _ _)
 refine List.pairwise_append.mpr ⟨List.Pairwise.sublist (List.take_sublist _ _) h,List.pairwise_cons.mpr ⟨ub,List.Pairwise.sublist (List.drop_sublist _ _) h⟩,fun a ha b hb=>?_⟩
 rcases List.mem_cons.mp hb with e | e
 ·rw[e];exact dn a ha
 ·exact Nat.lt_trans (dn a ha) (ub b e)
theorem ζY2{t:SetTable}{j:Nat}(h:t.slot j=.empty\/t.slot j=.dummy):ζY4 t j:=fun e=>by
 have e2:t.slot j=.live (SetTable.below t.place j):=by
  unfold SetTable.slot
  dsimp only
  rw[if_pos (by rw[e];simp)]
 rw[e2]at h
 rcases h with h | h <;> cases h
theorem ζZ1{t:SetTable}{f:Nat->Int}{h:Int}:∀(n:Nat) (p:SetTable.Probe) (j:Nat) (d:Option Nat),(∀ e,p.dummy=some e->ζY4 t e)->SetTable.probe.go t f h n p=some (.empty j d)->ζY4 t j/\∀ e,d=some e->ζY4 t e
 | 0,p,j,d,_,h=>by cases h
 | n+1,p,j,d,hp,h=>by
  have adv:∀ q:SetTable.Probe,(t.advance q).dummy=q.dummy:=fun q=>by
   unfold SetTable.advance
   split <;> rfl
  unfold SetTable.probe.go at h
  split at h
  ·rename_i hs
   cases h
   exact⟨ζY2 (.inl hs),hp⟩
  ·rename_i hs
   exact ζZ1 n _ j d (fun e he=>by rw[adv]at he;cases he;exact ζY2 (.inr hs)) h
  ·split at h
   ·cases h
   ·exact ζZ1 n _ j d (fun e he=>hp e (by rw[adv]at he;exact he)) h
theorem ζc7{t:SetTable}{h:Int}{s:Nat}{b:Bool}(e:t.freeSlot h=some (s,b)):ζY4 t s:=by
 unfold SetTable.freeSlot at e
 split at e
 ·rename_i j d hp
  obtain⟨a1,a2⟩:=ζZ1 _ _ j d (fun e he=>by cases he) hp
  have e1:=congrArg Prod.fst (Option.some.inj e)
  dsimp only at e1
  rw[<- e1]
  cases d with
  | none=>exact a1
  | some x=>exact a2 x rfl
 ·cases e
theorem ζQ1(t:SetTable)(n:Nat):Ris (t.standIn n):=by
 show(Array.range n).toList.Pairwise (· < ·)
 rw[Array.toList_range]
 exact List.pairwise_lt_range
theorem ζj10{t:SetTable}(h:Ris t)(es:Array (Int × Value))(k:Int)(x:Value):Ris (layNew t es k x).2.1/\(layNew t es k x).2.1.led=t.led:=by
 unfold layNew
 split
 ·rename_i s b e
  dsimp only
  unfold SetTable.orStandIn
  split
  ·exact⟨ζi10 h (ζc7 e),rfl⟩
  ·exact⟨ζQ1 _ _,rfl⟩
 ·exact⟨ζQ1 _ _,rfl⟩
theorem ζJ6{t:SetTable}(h:Ris t)(es:Array (Int × Value))(n:Nat):Ris (relayAll t es n).2.1/\(relayAll t es n).2.1.led=t.led:=by
 unfold relayAll
 split
 ·rename_i t' order e
  dsimp only
  split
  ·unfold SetTable.relaid SetTable.laid at e
   cases ho:SetTable.layClean (SetTable.sizeAbove n - 1) (es.map (·.1)) with
   | none=>rw[ho]at e;cases e
   | some owner =>
    rw[ho]at e
    have e1:=congrArg Prod.fst (Option.some.inj e)
    dsimp only at e1
    rw[<- e1]
    refine⟨?_,rfl⟩
    show(List.map _ (List.filterMap _ _)).toArray.toList.Pairwise (· < ·)
    rw[List.toList_toArray,List.pairwise_map,List.pairwise_filterMap]
    refine List.pairwise_lt_range.imp fun {a b} hab x hx y hy=>?_
    have ex:x.1=a:=by
     cases q:owner.getD a none with
     | none=>rw[q]at hx;cases hx
     | some z=>rw[q]at hx;cases hx;rfl
    have ey:y.1=b:=by
     cases q:owner.getD b none with
     | none=>rw[q]at hy;cases hy
     | some z=>rw[q]at hy;cases hy;rfl
    rw[ex,ey]
    exact hab
  ·exact⟨ζQ1 _ _,rfl⟩
 ·exact⟨ζQ1 _ _,rfl⟩
end L2
namespace L2
open PySem PySem.Spec PyProof.Rows
def SetR(P:Program)(w:World)(h:Heap)(a:Addr)(led:Bool)(S:Int->Bool)(n:Nat):Prop :=
 ∃(o:Obj) (es:Array (Int × Value)) (ep:Nat) (t:SetTable),h.get? a=some o/\o.ExactSet/\o.data=.set es ep t/\ElemsOf (intKind P w) es.toList/\(∀ z,S z=true↔∃ y∈es.toList,(intKind P w).is z y.2=true)/\es.size<scanBound/\t.fits es.size=true/\es.size=n/\Ris t/\t.led=led
theorem SetR.at{P:Program}{w:World}{h h':Heap}{a:Addr}{led:Bool}{S:Int->Bool}{n:Nat}(q:SetR P w h a led S n)(k:∀ o,h.get? a=some o->h'.get? a=some o):SetR P w h' a led S n :=
 let ⟨o,es,ep,t,ho,r⟩:=q
 ⟨o,es,ep,t,k o ho,r⟩
section
variable{prog:Program}{w:World}{A:Around}{E:Value->Shared->Prop}{s:Shared}
theorem ζ13{h:Heap}{a:Addr}{o:Obj}{es:Array (Int × Value)}{ep:Nat}{t:SetTable}(ho:h.get? a=some o)(hx:o.ExactSet)(hd:o.data=.set es ep t)(fs:Array (Int × Value))(u:SetTable) :
  (h.update a (Obj.putSet fs u)).get? a=some { o with data:=.set fs (ep+1) u }/\({ o with data:=.set fs (ep+1) u }:Obj).ExactSet:=by
 have q:=Heap.get?_update_self (Obj.putSet fs u) ho (by rw[putSet_of fs u hd];rfl)
 rw[putSet_of fs u hd]at q
 exact⟨q,hx⟩
theorem ζP9{gv:Bool->Sem Unit}(hgv:∀(b:Bool) (s1:Shared) (R:Unit->Shared->Prop),R () s1->wpAny (model prog w) A (gv b) R E s1)
  {a:Addr} {o:Obj} {es fs:Array (Int × Value)} {ep:Nat} {t u:SetTable} (ho:s.heap.get? a=some o) (hx:o.ExactSet) (hd:o.data=.set es ep t)
  {S:Int->Bool} (he:ElemsOf (intKind prog w) fs.toList) (hm:∀ z,S z=true↔∃ y∈fs.toList,(intKind prog w).is z y.2=true) (hb:fs.size<scanBound) (hf:u.fits fs.size=true) (hr:Ris u) {dm:Bool} {R:Option Bool->Shared->Prop}
  (k:∀ h',Heap.SameBut a s.heap h'->SetR prog w h' a u.led S fs.size->R (some true) { s with heap:=h' }) :
  wpAny (model prog w) A (do
   storeSet a fs u
   if (!dm && u.tooFull)=true then do
    gv (relayAll u fs (SetTable.grown fs.size)).2.2
    storeSet a (relayAll u fs (SetTable.grown fs.size)).1 (relayAll u fs (SetTable.grown fs.size)).2.1
    pure (some true)
   else pure (some true)) R E s:=by
 obtain⟨h1,x1⟩:=ζ13 ho hx hd fs u
 have b1:=Heap.SameBut.update s.heap a (Obj.putSet fs u)
 refine wpAny_bind (wpAny_storeSet_of ho hd ?_ (fits_of_scanBound hb))
 by_cases c:(!dm && u.tooFull)=true
 ·rw[if_pos c]
  have p:=relayAll_perm u fs (SetTable.grown fs.size)
  have f:=relayAll_fits u fs (SetTable.grown fs.size)
  obtain⟨r,l⟩:=ζJ6 hr fs (SetTable.grown fs.size)
  generalize relayAll u fs (SetTable.grown fs.size)=Z at p f r l ⊢
  obtain⟨gs,v,gave⟩:=Z
  dsimp only at p f r l ⊢
  have ez:gs.size=fs.size:=by rw[<- Array.length_toList,p.length_eq,Array.length_toList]
  obtain⟨h2,x2⟩:=ζ13 h1 x1 rfl gs v
  refine wpAny_bind (hgv _ _ _ (wpAny_bind (wpAny_storeSet_of h1 rfl (wpAny_pure ?_) (fits_of_scanBound (by rw[ez];exact hb)))))
  exact k _ (b1.trans (Heap.SameBut.update _ a _)) ⟨_,gs,_,v,h2,x2,rfl,he.perm p,fun z=>(hm z).trans ⟨fun⟨y,hy,q⟩=>⟨y,p.mem_iff.mpr hy,q⟩,fun⟨y,hy,q⟩=>⟨y,p.mem_iff.mp hy,q⟩⟩,by rw[ez];exact hb,f,ez,r,l⟩
 ·rw[if_neg c]
  exact wpAny_pure (k _ b1 ⟨_,fs,_,u,h1,x1,rfl,he,hm,hb,hf,rfl,hr,rfl⟩)
theorem ζz11{a:Addr}{S:Int->Bool}{n:Nat}{z:Int}{x:Value}{led:Bool}{R:Bool->Shared->Prop}(hz:(intKind prog w).is z x=true)(hsc:x.scannable=true)(hS:SetR prog w s.heap a led S n)(room:n+1<scanBound)
  (k:∀ h',Heap.SameBut a s.heap h'->SetR prog w h' a led (fun y=>S y || decide (y=z)) (if S z then n else n+1)->R (!S z) { s with heap:=h' }) :
  wpAny (model prog w) A (setAddHashed a x ((intKind prog w).hash z)) R E s:=by
 obtain⟨o,es,ep,t,ho,hx,hd,he,hm,hb,hf,hn,hr,hl⟩:=hS
 unfold setAddHashed setAddHashedIn
 refine wpAny_holding (wpAny_bind (wpAny_setState_of ho hd hf ?_))
 dsimp only
 rw[if_pos (byScan_of hsc hb he)]
 unfold setAddByScan
 refine wpAny_bind (wpAny_bind (wpAny_rule (wpAny_bind (wpAny_setScan_of hz ho hd hf he ?_))))
 cases hw:List.findIdx? (fun y=>(intKind prog w).is z y.2) es.toList with
 | some j =>
  obtain⟨j1,j2,_⟩:=List.findIdx?_eq_some_iff_getElem.mp hw
  have yes:S z=true:=(hm z).mpr ⟨es.toList[j],List.getElem_mem j1,j2⟩
  have fin:=k s.heap (Heap.SameBut.refl a s.heap) ⟨o,es,ep,t,ho,hx,hd,he,fun y=>by
   rw[Bool.or_eq_true,decide_eq_true_eq,<- hm y]
   exact⟨fun q=>q.elim id fun q=>q ▸ yes,.inl⟩,hb,hf,by rw[yes];exact hn,hr,hl⟩
  rw[yes]at fin
  dsimp only
  exact wpAny_pure (wpAny_pure fin)
 | none =>
  have no:S z=false:=Bool.eq_false_iff.mpr fun q=>by
   obtain⟨y,hy,hp⟩:=(hm z).mp q
   have:=List.findIdx?_eq_none_iff.mp hw y hy
   rw[hp]at this
   cases this
  dsimp only
  have p:=layNew_perm t es ((intKind prog w).hash z) x
  have f:=layNew_fits t es ((intKind prog w).hash z) x
  obtain⟨r,l⟩:=ζj10 hr es ((intKind prog w).hash z) x
  generalize layNew t es ((intKind prog w).hash z) x=Z at p f r l ⊢
  obtain⟨fs,u,dm,gave⟩:=Z
  dsimp only at p f r l ⊢
  rw[Array.toList_push]at p
  have ez:fs.size=n+1:=by rw[<- Array.length_toList,p.length_eq,List.length_append,Array.length_toList,hn];rfl
  have gw:∀(b:Bool) {s1:Shared} {R':Unit->Shared->Prop},R' () s1->wpAny (model prog w) A (match b with | true=>rule "set.scan.the-table-gave-way" | false=>pure ()) R' E s1:=fun b s1 R' q=>by
   cases b
   ·exact wpAny_pure q
   ·exact wpAny_rule q
  have fin:∀ h',Heap.SameBut a s.heap h'->SetR prog w h' a led (fun y=>S y || decide (y=z)) fs.size->R true { s with heap:=h' }:=fun h' q1 q2=>by
   have q:=k h' q1
   rw[no]at q
   rw[ez]at q2
   exact q q2
  have he1:=(he.push hz hsc).perm p
  have hm1:∀ y,(S y || decide (y=z))=true↔∃ v∈fs.toList,(intKind prog w).is y v.2=true:=mem_push_iff hz hm p
  have hb1:fs.size<scanBound:=by omega
  refine wpAny_bind (gw _ ?_)
  have tail:∀ v:SetTable,v.fits fs.size=true->Ris v->v.led=led->wpAny (model prog w) A (do
    storeSet a fs v
    if (!dm && v.tooFull)=true then do
     (match (relayAll v fs (SetTable.grown fs.size)).2.2 with | true=>rule "set.scan.the-table-gave-way" | false=>pure ())
     storeSet a (relayAll v fs (SetTable.grown fs.size)).1 (relayAll v fs (SetTable.grown fs.size)).2.1
     pure (some true)
    else pure (some true)) (fun y s1=>wpAny (model prog w) A (match y with | some added=>pure added | none=>setAddHashedIn a x ((intKind prog w).hash z) 99999) R E s1) E s:=fun v a1 a2 a3 =>
   ζP9 (gv:=fun b=>match b with | true=>rule "set.scan.the-table-gave-way" | false=>pure ()) (fun b s1 R' q=>gw b q) ho hx hd he1 hm1 hb1 a1 a2 fun h' q1 q2=>wpAny_pure (fin h' q1 (a3 ▸ q2))
  split
  ·refine wpAny_bind ?_
   rw[hashByValue_scannable 8 hsc]
   refine wpAny_pure ?_
   split
   ·exact tail u f r (l.trans hl)
   ·exact tail _ (SetTable.fits_plain_off f) r (l.trans hl)
  ·refine wpAny_bind (wpAny_pure ?_)
   rw[if_pos rfl]
   exact tail u f r (l.trans hl)
end
section
variable{prog:Program}{w:World}{A:Around}{R:Result->Shared->Prop}{I:Addr}{fp wr:List Addr}{G:Array GenState->Array GenState->Prop}{n:Nat}{P:Nat->Value->Prop}{St:Nat->Shared->Prop}
theorem ζJ5(W:WalksS prog w A.in1 I fp wr G n P St)(b:Addr)(hbf:b∉fp){led:Bool}(val:Nat->Int)(hv:∀ i v,P i v->∃ t,v=.int (val i) t)(hn:n+1<scanBound) :
  ∀(k i:Nat) (s:Shared),n - i=k->i<=n->St i s->SetR prog w s.heap b led (fun z=>(firstMet val i).any (· == z)) (firstMet val i).length ->
   (∀ s',Moved (b :: wr) G s s'->SetR prog w s'.heap b led (fun z=>(firstMet val n).any (· == z)) (firstMet val n).length->R (.ok (.ret .none)) s') ->
   codeAny (model prog w) A (.builtin "set.update.loop" ⟨[.ref b,.ref I],[]⟩) R s
 | 0,i,s,hk,hi,st,hS,q=>by
  have e:i=n:=by omega
  subst e
  refine codeAny_builtin F.entry_set_update_loop ?_
  rw[Around.under_plainId F.plain_set_update_loop _]
  show wpAny _ A.in1 (pyNext (.ref I) >>= _) _ _ s
  refine wpAny_bind (W.done s _ _ st fun s1 m=>?_)
  show wpAny _ A.in1 (ret Value.none) _ _ s1
  exact wpAny_pure (q s1 (m.mono fun c hc=>.tail _ hc) (hS.at fun o ho=>m.heap b o (fun hc=>hbf (W.sub _ hc)) ho))
 | k+1,i,s,hk,hi,st,hS,q=>by
  have hlt:i<n:=by omega
  refine codeAny_builtin F.entry_set_update_loop ?_
  rw[Around.under_plainId F.plain_set_update_loop _]
  show wpAny _ A.in1 (pyNext (.ref I) >>= _) _ _ s
  refine wpAny_bind (W.item i s _ _ hlt st fun v s1 hP st1 m=>?_)
  obtain⟨t,rfl⟩:=hv i v hP
  have hS1:=hS.at (h':=s1.heap) fun o ho=>m.heap b o (fun hc=>hbf (W.sub _ hc)) ho
  show wpAny _ A.in1 (holding [Value.int (val i) t] (setAdd b (.int (val i) t)) >>= _) _ _ s1
  refine wpAny_bind (wpAny_holding ?_)
  unfold setAdd
  refine wpAny_holding (wpAny_bind ((intKind prog w).pyHash (k:=val i) (intKind_is _ _ _ _) ?_))
  have fm:=firstMet_length_le val i
  refine ζz11 (s:={ s1 with toks:=s1.toks+1 }) (intKind_is _ _ _ _) rfl hS1 (by omega) fun h2 sb hS2=>?_
  have hS3:SetR prog w h2 b led (fun z=>(firstMet val (i+1)).any (· == z)) (firstMet val (i+1)).length:=by
   have e1:(fun z=>(firstMet val (i+1)).any (· == z))=fun y=>((firstMet val i).any (· == y) || decide (y=val i)):=funext fun y=>by rw[firstMet_succ,step_any]
   rw[e1,firstMet_succ,step_length]
   exact hS2
  have kept:∀ c o,c≠b->s1.heap.get? c=some o->h2.get? c=some o:=fun c o hc e=>(sb.2 c hc).trans e
  refine wpAny_pure ⟨plainId_quiet F.plain_set_update_loop _,ζJ5 W b hbf val hv hn k (i+1) _ (by omega) hlt (W.frame _ s1 _ _ st1 (Nat.le_succ _) fun c hc o e=>kept c o (fun e'=>hbf (e' ▸ hc)) e) hS3 fun s2 m2 hS4=>?_⟩
  exact q s2 (Moved.trans W.gtrans ((m.mono fun c hc=>.tail _ hc).then_heap (Nat.le_succ _) fun c o hc e=>kept c o (fun e'=>hc (e' ▸ .head _)) e) m2) hS4
end
section
variable{prog:Program}{w:World}{A:Around}{E:Value->Shared->Prop}{s:Shared}
def ζa3 (w:World):Obj:={ cls:=.type "set",dict:=none,data:=.set #[] 0 (.fresh 0 0 (!w.params.followText "set-order")) }
theorem ζC10(a:Value){Q:Value->Shared->Prop}(k:Q (.ref s.heap.objs.size) { s with heap:=s.heap.push (ζa3 w) }) :
  codeAny (model prog w) A (.call (.builtin "set.__new__") ⟨[.type "set",a],[]⟩) (wants Q E) s:=by
 refine codeAny_of_tree ?_
 show wpAny _ A.in1 (checkBuiltinCall "set.__new__" ⟨[.type "set",a],[]⟩ >>= fun _=>again (.builtin "set.__new__" ⟨[.type "set",a],[]⟩)) _ _ s
 refine wpAny_bind (wpAny_of_eq (F.newCall_set_1 a) (wpAny_pure ⟨plainId_quiet F.plain_set_new _,codeAny_builtin F.entry_set_new ?_⟩))
 rw[Around.under_plainId F.plain_set_new _]
 have hsub:=sub_set_self
 unfold Builtin.«set.__new__» Builtin.Frozenset.newClass
 obtain⟨hp,g,d,tk,os⟩:=s
 dsimp only
 wp_walk
 refine wpAny_askSetting (wpAny_pure ?_)
 simp only [newObj]
 refine wpAny_bind (wpAny_alloc (wpAny_pure (wpAny_pure k)))
theorem ζK6 {h:Heap} {a:Addr} (e:h.get? a=some (ζa3 w)):SetR prog w h a (!w.params.followText "set-order") (fun z=>(firstMet (fun _=>0) 0).any (· == z)) 0:=by
 refine⟨_,#[],0,_,e,⟨rfl,rfl,rfl⟩,rfl,fun y hy=>(by cases hy),fun z=>⟨fun q=>(by cases q),fun⟨y,hy,_⟩=>(by cases hy)⟩,by decide,by simp[SetTable.fits,SetTable.fresh,SetTable.fill],rfl,.nil,rfl⟩
end
section
variable{prog:Program}{w:World}{A:Around}{E:Value->Shared->Prop}{s:Shared}
theorem ζE8{l:Addr}{items:Array Value}{ns:List Int}{h0:Heap}{b:Addr}{Q:Value->Shared->Prop}(hh:A.handled=none)(hb0:h0.get? b=some (ζa3 w))(hl:h0.IsList l items)(hne:l≠b)(hi:IntsAre items.toList ns)(hn:items.size+1<scanBound)
  (k:∀ h' tk,SetR prog w h' b (!w.params.followText "set-order") (fun z=>(firstMet (fun i=>ns.getD i 0) items.size).any (· == z)) (firstMet (fun i=>ns.getD i 0) items.size).length->(∀ c o,c≠b->h0.get? c=some o->h'.get? c=some o)->Q .none { s with heap:=h',toks:=tk }) :
  wpAny (model prog w) A.in1 (Builtin.«set.__init__» ⟨[.ref b,.ref l],[]⟩) (fun fin s'=>match fin with | .done f=>wants Q E (.ok f) s' | .again c'=>c'.quiet=true/\codeAny (model prog w) A c' (wants Q E) s') (fun e s'=>wants Q E (.error e) s') { s with heap:=h0 }:=by
 have hT:Shared.TypeIs { s with heap:=h0 } (.ref b) "set":=⟨_,hb0,rfl⟩
 have hl0:=hl
 obtain⟨⟨ocls,odict,odata,oslots⟩,hol,hcl,nl,hdl⟩:=hl
 simp only at hcl hdl
 subst hcl hdl
 have q1:=F.sub_list_set
 have q2:=F.sub_list_frozenset
 have q3:(Value.type "list" == Value.type "dict")=false:=by decide
 unfold ζa3 at hb0
 unfold Builtin.«set.__init__» noKeywords Builtin.Frozenset.updateFrom
 generalize hPI:pyIter=PI
 wp_walk
 subst hPI
 refine wpAny_pyIter_list hl0 ?_
 refine wpAny_bind (wpAny_runValue ?_)
 have ltl:l<h0.objs.size:=Heap.lt_size hol
 have ltb:b<h0.objs.size:=Heap.lt_size hb0
 have bf:b∉[h0.objs.size,l]:=fun q=>by
  rcases List.mem_cons.mp q with e | e
  ·exact Nat.ne_of_lt ltb e
  ·exact hne (List.mem_singleton.mp e).symm
 refine ζJ5 ((Walks.list (A:=A.in1.in1) (by simp [hh]) _ l (Nat.ne_of_lt ltl) items).toS) b bf (led:=!w.params.followText "set-order") (fun i=>ns.getD i 0) (fun i v hv=>IntsAre.int_at hi i v (by rw [Array.getElem?_toList];exact hv)) hn (items.size - 0) 0 _ (by omega) (Nat.zero_le _)
  ⟨⟨_,Heap.get?_push_size _ rfl,rfl,rfl⟩,hl0.push _⟩ ?_ ?_
 ·exact ζK6 (Heap.get?_push_of_some _ hb0)
 ·rintro⟨h',g',d',tk',os'⟩ m hS
  have e1:g'=s.gens:=m.gens
  have e2:d'=s.drawn:=m.drawn
  have e3:os'=s.os:=m.os
  subst e1 e2 e3
  show wpAny _ _ _ _ _ _
  refine wpAny_pure ?_
  show wpAny _ _ (ret Value.none) _ _ _
  refine wpAny_pure (k h' tk' hS fun c o hc e=>m.heap c o (fun q=>?_) (Heap.get?_push_of_some _ e))
  rcases List.mem_cons.mp q with e' | e'
  ·exact hc e'
  ·exact Nat.ne_of_lt (Heap.lt_size e) (List.mem_singleton.mp e')
set_option maxRecDepth 100000 in
set_option maxHeartbeats 3000000 in
theorem ζd10{l:Addr}{items:Array Value}{ns:List Int}{Q:Value->Shared->Prop}(hh:A.handled=none)(hl:s.heap.IsList l items)(hi:IntsAre items.toList ns)(hn:items.size+1<scanBound)
  (k:∀ h' tk,SetR prog w h' s.heap.objs.size (!w.params.followText "set-order") (fun z=>(firstMet (fun i=>ns.getD i 0) items.size).any (· == z)) (firstMet (fun i=>ns.getD i 0) items.size).length->(∀ c o,s.heap.get? c=some o->h'.get? c=some o)->Q (.ref s.heap.objs.size) { s with heap:=h',toks:=tk }) :
  wpAny (model prog w) A (call (.type "set") [.ref l]) Q E s:=by
 obtain⟨c,tl,hmro⟩:=F.called_set.mro
 have a1:=F.called_set.made
 have a2:=F.called_set.sub
 have a3:=F.called_set.notType
 have a4:=F.called_set.canCreate
 have a5:=F.typeCall_set_1 (.ref l)
 refine wpAny_call (codeAny_of_tree ?_)
 show wpAny _ _ (callAny (.type "set") _) _ _ _
 refine wpAny_pure ⟨Code.quiet_builtin _ (by decide +kernel),codeAny_builtin F.entry_type_call ?_⟩
 rw [Around.under_plain (weight_type_call_type "set" [.ref l] []) rfl]
 repeat any_goals first | assumption | wp_step
 refine codeAny_mono (ζC10 (.ref l) (E:=E) (Q:=fun ob s1=>ob=.ref s.heap.objs.size/\s1={ s with heap:=s.heap.push (ζa3 w) }) ⟨rfl,rfl⟩) fun r s1 hr=>?_
 match r,hr with
 | .error e,hr=>exact hr
 | .ok (.ret ob),hr =>
  obtain⟨rfl,rfl⟩:=hr
  have hb0:(s.heap.push (ζa3 w)).get? s.heap.objs.size=some (ζa3 w):=Heap.get?_push_size _ rfl
  have hT:Shared.TypeIs { s with heap:=s.heap.push (ζa3 w) } (.ref s.heap.objs.size) "set":=⟨_,hb0,rfl⟩
  have a6:=F.called_set.init.lookup
  have a7:=F.called_set.init.bind (.ref s.heap.objs.size)
  repeat any_goals first | assumption | wp_step
  have ltl:l<s.heap.objs.size:=let ⟨_,e,_⟩:=hl;Heap.lt_size e
  refine codeAny_mono (codeAny_call_builtin (R:=wants (fun r s2=>r=.none/\Q (.ref s.heap.objs.size) s2) E) F.called_set.init.plain F.entry_set_init (check_set_init_1 hT (ζE8 (A:=_) (s:=s) ?_ hb0 (hl.push _) (Nat.ne_of_lt ltl) hi hn fun h' tk hS kp=>⟨rfl,k h' tk hS fun c o e=>kp c o (Nat.ne_of_lt (Heap.lt_size e)) (Heap.get?_push_of_some _ e)⟩))) fun r2 s2 hr2=>?_
  ·simp[hh]
  ·match r2,hr2 with
   | .error e,hr2=>exact hr2
   | .ok (.ret v),hr2 =>
    obtain⟨rfl,q⟩:=hr2
    repeat any_goals first | assumption | wp_step
end
theorem ζh5:Manifest.owners.lookup (String.ofList ['r','o','t','a','r','e','t','i','_','t','e','s'].reverse)=some Manifest.sig_set_iterator:=by kernel_rfl
theorem si_next:PySem.Slot "set_iterator" "__next__" "set_iterator.__next__" :=
 .of (owner:="set_iterator") (n:="__next__") (by rw [typeLookup_type,builtinLookup_eq_fast];kernel_rfl) (by decide +kernel) (by decide +kernel) (by decide +kernel)
  (by first | exact .inl (by decide +kernel) | exact .inr (by decide +kernel)) (by rw[isSubtype_type];kernel_rfl)
theorem ζw2:entryFor table "set_iterator.__next__"=some Builtin.«set_iterator.__next__»:=entryFor_of_tree (by kernel_rfl)
theorem ζx2 (a:Value):argsOk "set_iterator.__next__" ⟨[a],[]⟩:=by
 unfold argsOk;rw [signature?_of (id:="set_iterator.__next__") (n:=['_','_','t','x','e','n','_','_']) (o:=['r','o','t','a','r','e','t','i','_','t','e','s']) (by kernel_rfl) ζh5];kernel_rfl
theorem ζB7:PySem.Slot "set_iterator" "__iter__" "set_iterator.__iter__" :=
 .of (owner:="set_iterator") (n:="__iter__") (by rw [typeLookup_type,builtinLookup_eq_fast];kernel_rfl) (by decide +kernel) (by decide +kernel) (by decide +kernel)
  (by first | exact .inl (by decide +kernel) | exact .inr (by decide +kernel)) (by rw[isSubtype_type];kernel_rfl)
theorem ζy8 (a:Value):argsOk "set_iterator.__iter__" ⟨[a],[]⟩:=by
 unfold argsOk;rw [signature?_of (id:="set_iterator.__iter__") (n:=['_','_','r','e','t','i','_','_']) (o:=['r','o','t','a','r','e','t','i','_','t','e','s']) (by kernel_rfl) ζh5];kernel_rfl
theorem ζx8:entryFor table "set_iterator.__iter__"=some Builtin.«dict_keyiterator.__iter__» :=
 entryFor_alias (id':="dict_keyiterator.__iter__") (by kernel_rfl) (by first | rfl | decide +kernel | (unfold String.splitOn;simp +decide [String.splitOnAux])) (by decide +kernel) (by kernel_rfl)
theorem ζs8:Manifest.owners.lookup (String.ofList ['t','e','s'].reverse)=some Manifest.sig_set:=by kernel_rfl
theorem ζv7:PySem.Slot "set" "__iter__" "set.__iter__" :=
 .of (owner:="set") (n:="__iter__") (by rw [typeLookup_type,builtinLookup_eq_fast];kernel_rfl) (by decide +kernel) (by decide +kernel) (by decide +kernel)
  (by first | exact .inl (by decide +kernel) | exact .inr (by decide +kernel)) (by rw[isSubtype_type];kernel_rfl)
theorem ζu8 (a:Value):argsOk "set.__iter__" ⟨[a],[]⟩:=by
 unfold argsOk;rw [signature?_of (id:="set.__iter__") (n:=['_','_','r','e','t','i','_','_']) (o:=['t','e','s']) (by kernel_rfl) ζs8];kernel_rfl
theorem ζt8:entryFor table "set.__iter__"=some Builtin.«frozenset.__iter__» :=
 entryFor_alias (id':="frozenset.__iter__") (by kernel_rfl) (by first | rfl | decide +kernel | (unfold String.splitOn;simp +decide [String.splitOnAux])) (by decide +kernel) (by kernel_rfl)
def IsSi (h:Heap) (I a:Addr) (f:Value) (i n ep:Nat):Prop:=∃ o,h.get? I=some o/\o.cls=.type "set_iterator"/\o.data=.fields #[f,rawInt (i:Int),.ref a,rawInt (n:Int),rawInt (ep:Int)]
theorem IsSi.ty {s:Shared} {I a:Addr} {f:Value} {i n ep:Nat} (x:IsSi s.heap I a f i n ep):s.TypeIs (.ref I) "set_iterator":=let ⟨o,p,q,_⟩:=x;⟨o,p,q⟩
theorem IsSi.keep{h h':Heap}{I a:Addr}{f:Value}{i n ep:Nat}(x:IsSi h I a f i n ep)(e:∀ o,h.get? I=some o->h'.get? I=some o):IsSi h' I a f i n ep:=let ⟨o,p,q⟩:=x;⟨o,e _ p,q⟩
def SetIs(h:Heap)(a:Addr)(es:Array (Int × Value))(ep:Nat)(t:SetTable):Prop:=∃ o,h.get? a=some o/\o.ExactSet/\o.data=.set es ep t
theorem SetIs.keep{h h':Heap}{a:Addr}{es:Array (Int × Value)}{ep:Nat}{t:SetTable}(x:SetIs h a es ep t)(e:∀ o,h.get? a=some o->h'.get? a=some o):SetIs h' a es ep t:=let ⟨o,p,q⟩:=x;⟨o,e _ p,q⟩
section
variable{prog:Program}{w:World}{A:Around}{E:Value->Shared->Prop}{s:Shared}
theorem ζp6{M:Model}{src:Source}{n:Nat}{Q:Nat->Shared->Prop}(hn:n≠0)(k:∀ i,i<n->∀ d,Q i { s with drawn:=d }):wpAny M A (choose src n) Q E s :=
 fun Γ p _=>⟨hn,k _ (Nat.mod_lt _ (Nat.pos_of_ne_zero hn)) _⟩
theorem ζ82{α:Type}:∀ {l:List α} {i:Nat} {y:α},l[i]?=some y->(y :: l.eraseIdx i).Perm l
 | [],_,_,h=>by simp at h
 | x :: l,0,y,h=>by
  obtain rfl:x=y:=Option.some.inj h
  exact .rfl
 | x :: l,i+1,y,h=>(List.Perm.swap x y (l.eraseIdx i)).trans ((ζ82 (l:=l) (i:=i) h).cons x)
theorem ζ86{M:Model}{α:Type}:∀(n:Nat) (xs:List α) (s:Shared) (Q:List α->Shared->Prop),n=xs.length->(∀ ys d,ys.Perm xs->Q ys { s with drawn:=d })->wpAny M A (drawOrder n xs) Q E s
 | 0,xs,s,Q,h,k=>by
  have e:xs=[]:=List.length_eq_zero_iff.mp h.symm
  subst e
  exact wpAny_pure (k [] s.drawn .rfl)
 | n+1,[],s,Q,h,k=>by cases h
 | n+1,x :: xs,s,Q,h,k=>by
  show wpAny M A (choose .order (x :: xs).length >>= _) Q E s
  refine wpAny_bind (ζp6 (by simp) fun i hi d=>?_)
  obtain⟨y,hy⟩:∃ y,(x :: xs)[i]?=some y:=⟨_,List.getElem?_eq_getElem hi⟩
  rw[hy]
  dsimp only
  refine wpAny_bind (ζ86 n ((x :: xs).eraseIdx i) _ _ (by rw[List.length_eraseIdx_of_lt hi];omega) fun ys d' hp=>wpAny_pure (k (y :: ys) d' ?_))
  exact(hp.cons y).trans (ζ82 hy)
theorem ζ34{α:Type}{f:Nat->Nat}:∀(n k:Nat) (l:List α) (out:Array α),n=l.length->(pickOrder.go f n k l out).toList.Perm (out.toList++l)
 | 0,k,l,out,h=>by
  rw[List.length_eq_zero_iff.mp h.symm,List.append_nil]
  exact .rfl
 | n+1,k,l,out,h=>by
  have hi:f k % l.length<l.length:=Nat.mod_lt _ (by omega)
  obtain⟨y,hy⟩:∃ y,l[f k % l.length]?=some y:=⟨_,List.getElem?_eq_getElem hi⟩
  unfold pickOrder.go
  rw[hy]
  dsimp only
  refine(ζ34 n (k+1) _ _ (by rw[List.length_eraseIdx_of_lt hi];omega)).trans ?_
  rw[Array.toList_push,List.append_assoc]
  refine List.Perm.append_left _ ?_
  exact ζ82 hy
theorem ζA7{I a:Addr}{f:Value}{i n ep:Nat}{Q:Value->Shared->Prop}(hr:IsSi s.heap I a f i n ep)(h:Q (.ref I) s):wpAny (model prog w) A (pyIter (.ref I)) Q E s:=by
 refine wpAny_pyIter_slot hr.ty ζB7 (wpAny_call_entry ζB7 hr.ty ζx8 ?_ (ζy8 _))
 show wpAny _ _ (ret (.ref I)) _ _ s
 exact wpAny_pure ⟨_,rfl,"set_iterator",_,hr.ty,si_next.lookup,h⟩
end
section
variable{prog:Program}{w:World}{A:Around}{E:Value->Shared->Prop}{s:Shared}
def ζZ4(prog:Program)(w:World)(a:Addr)(es:Array (Int × Value))(ep:Nat)(t:SetTable)(ord:List Value)(sl:Nat->Nat):Prop :=
 ∀(A:Around) (E:Value->Shared->Prop) (s:Shared) (i:Nat) (Q:Option (Value × Nat)->Shared->Prop),SetIs s.heap a es ep t->i<=ord.length->Q ((ord[i]?).map fun x=>(x,sl (i+1))) s->wpAny (model prog w) A (setNext a (sl i) i ep) Q E s
theorem ζc10{I a:Addr}{es:Array (Int × Value)}{ep:Nat}{t:SetTable}{ord:List Value}{sl:Nat->Nat}{i:Nat}{x:Value}{Q:Option Value->Shared->Prop}(hN:ζZ4 prog w a es ep t ord sl)(hS:SetIs s.heap a es ep t)(hf:t.fits es.size=true)(hi:IsSi s.heap I a (rawInt (sl i:Nat)) i es.size ep)(hx:ord[i]?=some x)
  (k:∀ h',IsSi h' I a (rawInt (sl (i+1):Nat)) (i+1) es.size ep->Heap.SameBut I s.heap h'->Q (some x) { s with heap:=h' }):wpAny (model prog w) A (pyNext (.ref I)) Q E s:=by
 obtain⟨o,ho,hc,hd⟩:=id hi
 obtain⟨oa,hoa,hxa,hda⟩:=id hS
 unfold pyNext
 refine wpAny_bind (wpAny_attempt (wpAny_callSpecial?_slot (name:=Str.ofString "__next__") hi.ty si_next (wpAny_call_entry si_next hi.ty ζw2 ?_ (ζx2 _))))
 unfold Builtin.«set_iterator.__next__»
 refine wpAny_bind (wpAny_of_eq (a:=(Value.ref I,[])) rfl ?_)
 dsimp only
 refine wpAny_bind (wpAny_fieldsOf ho hd ?_)
 dsimp only [rawInt]
 refine wpAny_bind (wpAny_setEntries_of hoa hda hf ?_)
 rw[if_neg (by simp)]
 rw[Int.toNat_natCast,Int.toNat_natCast,Int.toNat_natCast]
 refine wpAny_bind (hN _ _ s i _ hS (Nat.le_of_lt (List.getElem?_eq_some_iff.mp hx).1) ?_)
 rw[hx]
 dsimp only [Option.map_some]
 refine wpAny_bind (wpAny_setField ho hd (by simp) ?_)
 have ho2:=Heap.get?_update_self (Obj.mapFields (fun vs=>vs.setIfInBounds 0 (rawInt (sl (i+1):Nat)))) ho (Obj.isFreed_of_fields (Obj.data_mapFields hd _))
 refine wpAny_bind (wpAny_setField ho2 (Obj.data_mapFields hd _) (by simp) ?_)
 refine wpAny_pure ⟨x,rfl,wpAny_pure (k _ ⟨_,Heap.get?_update_self _ ho2 (Obj.isFreed_of_fields (Obj.data_mapFields (Obj.data_mapFields hd _) _)),?_,?_⟩ ((Heap.SameBut.update ..).trans (Heap.SameBut.update ..)))⟩
 ·rw[Obj.cls_mapFields,Obj.cls_mapFields];exact hc
 ·rw[Obj.data_mapFields (Obj.data_mapFields hd _)]
  simp
  rfl
theorem ζU11{I a:Addr}{es:Array (Int × Value)}{ep:Nat}{t:SetTable}{ord:List Value}{sl:Nat->Nat}{Q:Option Value->Shared->Prop}(hh:A.handled=none)(hN:ζZ4 prog w a es ep t ord sl)(hS:SetIs s.heap a es ep t)(hf:t.fits es.size=true)(hi:IsSi s.heap I a (rawInt (sl ord.length:Nat)) ord.length es.size ep)
  (k:∀ h',Heap.ExtBut I s.heap h'->Q none { s with heap:=h' }):wpAny (model prog w) A (pyNext (.ref I)) Q E s:=by
 obtain⟨o,ho,hc,hd⟩:=id hi
 obtain⟨oa,hoa,hxa,hda⟩:=id hS
 unfold pyNext
 refine wpAny_bind (wpAny_attempt (wpAny_callSpecial?_slot (name:=Str.ofString "__next__") hi.ty si_next (wpAny_call_entry si_next hi.ty ζw2 ?_ (ζx2 _))))
 unfold Builtin.«set_iterator.__next__»
 refine wpAny_bind (wpAny_of_eq (a:=(Value.ref I,[])) rfl ?_)
 dsimp only
 refine wpAny_bind (wpAny_fieldsOf ho hd ?_)
 dsimp only [rawInt]
 refine wpAny_bind (wpAny_setEntries_of hoa hda hf ?_)
 rw[if_neg (by simp)]
 rw[Int.toNat_natCast,Int.toNat_natCast,Int.toNat_natCast]
 refine wpAny_bind (hN _ _ s ord.length _ hS (Nat.le_refl _) ?_)
 rw[List.getElem?_eq_none (Nat.le_refl _)]
 dsimp only [Option.map_none]
 refine wpAny_bind (wpAny_setField ho hd (by simp) ?_)
 show wpAny _ _ (newExc (.type "StopIteration") [] >>= _) _ _ _
 refine wpAny_bind ?_
 simp only [newExc,newTuple]
 refine wpAny_bind (wpAny_newObj_type ?_ (by size_fits))
 refine wpAny_bind (m:=firstArgMember _ _) (wpAny_of_eq (a:=Value.none) (by first | rfl | (simp only [firstArgMember];rfl)) ?_)
 refine wpAny_newObj_type ?_ (by size_fits)
 simp only [raiseNew]
 refine wpAny_bind (wpAny_handled ?_)
 rw[show A.in1.handled=none from hh]
 refine wpAny_bind (wpAny_pure (wpAny_throw ?_))
 refine wpAny_bind (wpAny_isInstance (T:="StopIteration") (b:=true) ⟨_,Heap.get?_push_size _ rfl,rfl⟩ isSubtype_stop ?_)
 exact wpAny_pure (k _ ((((Heap.SameBut.update ..).extBut).push _).push _))
theorem ζw8{I a:Addr}{es:Array (Int × Value)}{ep:Nat}{t:SetTable}{ord:List Value}{sl:Nat->Nat}(hh:A.handled=none)(hN:ζZ4 prog w a es ep t ord sl)(hf:t.fits es.size=true)(hne:a≠I) :
  Walks prog w A I [I,a] [I] ord.length (fun i v=>ord[i]?=some v) (fun i h=>i<=ord.length/\IsSi h I a (rawInt (sl i:Nat)) i es.size ep/\SetIs h a es ep t) where
 sub:=fun b hb=>List.mem_cons.mpr (.inl (List.mem_singleton.mp hb))
 frame:=fun _ _ _ x hk=>⟨x.1,x.2.1.keep fun o e=>hk I (by simp) o e,x.2.2.keep fun o e=>hk a (by simp) o e⟩
 item:=fun i s Q E hi ⟨_,x1,x2⟩ hQ=>by
  have hx:ord[i]?=some (ord[i]'hi):=List.getElem?_eq_getElem hi
  exact ζc10 hN x2 hf x1 hx fun h' y hs=>hQ _ h' s.toks hx ⟨hi,y,x2.keep fun o e=>(hs.2 a hne).trans e⟩ fun b o hb eo=>hs.extBut b o (fun e=>hb (by simp[e])) eo
 done:=fun s Q E ⟨_,x1,x2⟩ hQ=>ζU11 hh hN x2 hf x1 fun h' he=>hQ h' s.toks fun b o hb eo=>he b o (fun e=>hb (by simp[e])) eo
 self:=fun _ _ _ _ x hQ=>ζA7 x.2.1 hQ
theorem ζY8 {a:Addr} {es:Array (Int × Value)} {ep:Nat} {t:SetTable} (hf:t.fits es.size=true) (hr:Ris t) (hb:w.params.followText "set-order"=false) (hl:t.led=true) (hd:(!t.plain && decide (es.size > 1))=false) :
  ζZ4 prog w a es ep t (es.toList.map (·.2)) (fun i=>if i=0 then 0 else (t.place.getD (i - 1) 0)+1):=by
 intro A E s i Q ⟨o,ho,hx,hda⟩ hi q
 have hps:t.place.size=es.size:=by
  unfold SetTable.fits at hf
  simp only [Bool.and_eq_true,beq_iff_eq]at hf
  exact hf.1
 rw[List.length_map,Array.length_toList]at hi
 unfold setNext
 refine wpAny_bind (wpAny_setState_of ho hda hf ?_)
 dsimp only
 refine wpAny_bind ?_
 unfold setsByText
 refine wpAny_bind (wpAny_askSetting (wpAny_pure ?_))
 show wpAny _ _ (if (w.params.followText "set-order")=true then _ else _) _ _ _
 rw[if_neg (by rw[hb];decide)]
 show wpAny _ _ (if (!t.plain && decide (es.size > 1))=true then _ else _) _ _ _
 rw[if_neg (by rw[hd];decide)]
 refine wpAny_bind ?_
 show wpAny _ _ (if (!t.led && !es.isEmpty)=true then _ else _) _ _ _
 rw[if_neg (by rw[hl];simp)]
 refine wpAny_pure ?_
 have eb:SetTable.below t.place (if i=0 then 0 else (t.place.getD (i - 1) 0)+1)=i:=by
  by_cases c:i=0
  ·rw[if_pos c,c]
   exact ζr6 hr
  ·rw[if_neg c]
   obtain⟨v,hv⟩:∃ v,t.place[i - 1]?=some v:=⟨_,Array.getElem?_eq_getElem (by omega)⟩
   have e:t.place.getD (i - 1) 0=v:=by rw[Array.getD_eq_getD_getElem?,hv];rfl
   rw[e,ζs6 hr hv]
   omega
 rw[eb]
 refine wpAny_pure ?_
 by_cases c:i<es.size
 ·obtain⟨v,hv⟩:∃ v,t.place[i]?=some v:=⟨_,Array.getElem?_eq_getElem (by omega)⟩
  obtain⟨y,hy⟩:∃ y,es[i]?=some y:=⟨_,Array.getElem?_eq_getElem c⟩
  have e:t.place.getD i 0=v:=by rw[Array.getD_eq_getD_getElem?,hv];rfl
  rw[List.getElem?_map,Array.getElem?_toList,hy]at q
  rw[hv,hy]
  simp only [Option.map_some,Nat.add_sub_cancel,e,if_neg (Nat.succ_ne_zero i)]at q
  exact q
 ·have e1:es[i]?=none:=Array.getElem?_eq_none (by omega)
  rw[List.getElem?_map,Array.getElem?_toList,e1]at q
  rw[e1]
  exact q
theorem ζU6 {a:Addr} {es:Array (Int × Value)} {ep:Nat} {t:SetTable} (hf:t.fits es.size=true) (hb:w.params.followText "set-order"=true) :
  ζZ4 prog w a es ep t ((pickOrder (w.params.setOrder a ep) es).toList.map (·.2)) (fun _=>0):=by
 intro A E s i Q ⟨o,ho,hx,hda⟩ hi q
 unfold setNext
 refine wpAny_bind (wpAny_setState_of ho hda hf ?_)
 dsimp only
 refine wpAny_bind ?_
 unfold setsByText
 refine wpAny_bind (wpAny_askSetting (wpAny_pure ?_))
 show wpAny _ _ (if (w.params.followText "set-order")=true then _ else _) _ _ _
 rw[if_pos hb,if_neg (by simp)]
 refine wpAny_bind ?_
 unfold setWalk
 refine wpAny_bind (wpAny_setState_of ho hda hf ?_)
 dsimp only
 refine wpAny_bind ?_
 unfold setsByText
 refine wpAny_bind (wpAny_askSetting (wpAny_pure ?_))
 show wpAny _ _ (if (w.params.followText "set-order")=true then _ else _) _ _ _
 rw[if_pos hb]
 refine wpAny_bind (wpAny_askSetting (wpAny_pure ?_))
 rw[List.getElem?_map,Array.getElem?_toList,Option.map_map]at q
 exact wpAny_pure q
end
section
variable{prog:Program}{w:World}{A:Around}{E:Value->Shared->Prop}{s:Shared}
def IsPl(h:Heap)(b:Addr)(pl:List Nat):Prop:=∃ o n,h.get? b=some o/\o.data=.seq (pl.map fun(i:Nat)=>rawInt (i:Int)).toArray n
theorem IsPl.keep{h h':Heap}{b:Addr}{pl:List Nat}(x:IsPl h b pl)(e:∀ o,h.get? b=some o->h'.get? b=some o):IsPl h' b pl:=let ⟨o,n,p,q⟩:=x;⟨o,n,e _ p,q⟩
theorem ζf10{I a b:Addr}{es:Array (Int × Value)}{ep:Nat}{t:SetTable}{pl:List Nat}{i j:Nat}{x:Int × Value}{Q:Option Value->Shared->Prop}(hS:SetIs s.heap a es ep t)(hf:t.fits es.size=true)(hi:IsSi s.heap I a (.ref b) i es.size ep)(hb:IsPl s.heap b pl)(hj:pl[i]?=some j)(hx:es[j]?=some x)
  (k:∀ h',IsSi h' I a (.ref b) (i+1) es.size ep->Heap.SameBut I s.heap h'->Q (some x.2) { s with heap:=h' }):wpAny (model prog w) A (pyNext (.ref I)) Q E s:=by
 obtain⟨o,ho,hc,hd⟩:=id hi
 obtain⟨oa,hoa,hxa,hda⟩:=id hS
 obtain⟨ob,nb,hob,hdb⟩:=hb
 unfold pyNext
 refine wpAny_bind (wpAny_attempt (wpAny_callSpecial?_slot (name:=Str.ofString "__next__") hi.ty si_next (wpAny_call_entry si_next hi.ty ζw2 ?_ (ζx2 _))))
 unfold Builtin.«set_iterator.__next__»
 refine wpAny_bind (wpAny_of_eq (a:=(Value.ref I,[])) rfl ?_)
 dsimp only
 refine wpAny_bind (wpAny_fieldsOf ho hd ?_)
 dsimp only [rawInt]
 refine wpAny_bind (wpAny_setEntries_of hoa hda hf ?_)
 rw[if_neg (by simp)]
 refine wpAny_bind (wpAny_seqItems hob hdb ?_)
 dsimp only
 have e:(pl.map fun(i:Nat)=>rawInt (i:Int)).toArray[(i:Int).toNat]?=some (.int (j:Int) 0):=by rw[Int.toNat_natCast,List.getElem?_toArray,List.getElem?_map,hj];rfl
 rw[e]
 dsimp only
 rw[Int.toNat_natCast,Int.toNat_natCast]
 refine wpAny_bind ?_
 unfold setNextDrawn
 refine wpAny_bind (wpAny_setState_of hoa hda hf ?_)
 dsimp only
 rw[if_neg (by simp),hx]
 refine wpAny_pure ?_
 refine wpAny_bind (wpAny_setField ho hd (by simp) ?_)
 refine wpAny_pure ⟨x.2,rfl,wpAny_pure (k _ ⟨_,Heap.get?_update_self _ ho (Obj.isFreed_of_fields (Obj.data_mapFields hd _)),?_,?_⟩ (Heap.SameBut.update ..))⟩
 ·rw[Obj.cls_mapFields];exact hc
 ·rw[Obj.data_mapFields hd]
  simp
  rfl
theorem ζZ11{I a b:Addr}{es:Array (Int × Value)}{ep:Nat}{t:SetTable}{pl:List Nat}{Q:Option Value->Shared->Prop}(hh:A.handled=none)(hS:SetIs s.heap a es ep t)(hf:t.fits es.size=true)(hi:IsSi s.heap I a (.ref b) pl.length es.size ep)(hb:IsPl s.heap b pl)
  (k:∀ h',Heap.ExtBut I s.heap h'->Q none { s with heap:=h' }):wpAny (model prog w) A (pyNext (.ref I)) Q E s:=by
 obtain⟨o,ho,hc,hd⟩:=id hi
 obtain⟨oa,hoa,hxa,hda⟩:=id hS
 obtain⟨ob,nb,hob,hdb⟩:=hb
 unfold pyNext
 refine wpAny_bind (wpAny_attempt (wpAny_callSpecial?_slot (name:=Str.ofString "__next__") hi.ty si_next (wpAny_call_entry si_next hi.ty ζw2 ?_ (ζx2 _))))
 unfold Builtin.«set_iterator.__next__»
 refine wpAny_bind (wpAny_of_eq (a:=(Value.ref I,[])) rfl ?_)
 dsimp only
 refine wpAny_bind (wpAny_fieldsOf ho hd ?_)
 dsimp only [rawInt]
 refine wpAny_bind (wpAny_setEntries_of hoa hda hf ?_)
 rw[if_neg (by simp)]
 refine wpAny_bind (wpAny_seqItems hob hdb ?_)
 dsimp only
 have e:(pl.map fun(i:Nat)=>rawInt (i:Int)).toArray[(pl.length:Int).toNat]?=none:=by rw[Int.toNat_natCast,List.getElem?_toArray];exact List.getElem?_eq_none (by simp)
 rw[e]
 dsimp only
 refine wpAny_bind (wpAny_setField ho hd (by simp) ?_)
 have ho2:=Heap.get?_update_self (Obj.mapFields (fun vs=>vs.setIfInBounds 0 (rawInt 0))) ho (Obj.isFreed_of_fields (Obj.data_mapFields hd _))
 refine wpAny_bind (wpAny_setField ho2 (Obj.data_mapFields hd _) (by simp) ?_)
 show wpAny _ _ (newExc (.type "StopIteration") [] >>= _) _ _ _
 refine wpAny_bind ?_
 simp only [newExc,newTuple]
 refine wpAny_bind (wpAny_newObj_type ?_ (by size_fits))
 refine wpAny_bind (m:=firstArgMember _ _) (wpAny_of_eq (a:=Value.none) (by first | rfl | (simp only [firstArgMember];rfl)) ?_)
 refine wpAny_newObj_type ?_ (by size_fits)
 simp only [raiseNew]
 refine wpAny_bind (wpAny_handled ?_)
 rw[show A.in1.handled=none from hh]
 refine wpAny_bind (wpAny_pure (wpAny_throw ?_))
 refine wpAny_bind (wpAny_isInstance (T:="StopIteration") (b:=true) ⟨_,Heap.get?_push_size _ rfl,rfl⟩ isSubtype_stop ?_)
 exact wpAny_pure (k _ (((((Heap.SameBut.update ..).trans (Heap.SameBut.update ..)).extBut).push _).push _))
theorem ζB8{I a b:Addr}{es:Array (Int × Value)}{ep:Nat}{t:SetTable}{pl:List Nat}(hh:A.handled=none)(hp:pl.Perm (List.range es.size))(hf:t.fits es.size=true)(hne:a≠I)(hnb:b≠I) :
  Walks prog w A I [I,a,b] [I] pl.length (fun i v=>(pl.filterMap fun j=>(es[j]?).map (·.2))[i]?=some v) (fun i h=>i<=pl.length/\IsSi h I a (.ref b) i es.size ep/\SetIs h a es ep t/\IsPl h b pl) where
 sub:=fun c hc=>List.mem_cons.mpr (.inl (List.mem_singleton.mp hc))
 frame:=fun _ _ _ x hk=>⟨x.1,x.2.1.keep fun o e=>hk I (by simp) o e,x.2.2.1.keep fun o e=>hk a (by simp) o e,x.2.2.2.keep fun o e=>hk b (by simp) o e⟩
 item:=fun i s Q E hi ⟨_,x1,x2,x3⟩ hQ=>by
  have hj:pl[i]?=some (pl[i]'hi):=List.getElem?_eq_getElem hi
  have hlt:=List.mem_range.mp (hp.mem_iff.mp (List.mem_of_getElem? hj))
  have hx:es[pl[i]'hi]?=some (es[pl[i]'hi]'hlt):=Array.getElem?_eq_getElem hlt
  have fm:∀(l:List Nat),(∀ j∈l,j<es.size)->l.filterMap (fun j=>(es[j]?).map (·.2))=l.map fun j=>(es.getD j (0,.none)).2:=fun l hl=>by
   induction l with
   | nil=>rfl
   | cons y l ih =>
    have hy:=hl y List.mem_cons_self
    rw[List.filterMap_cons,List.map_cons,ih fun j h=>hl j (List.mem_cons_of_mem _ h),Array.getElem?_eq_getElem hy,Array.getD_eq_getD_getElem?,Array.getElem?_eq_getElem hy]
    rfl
  have hv:(pl.filterMap fun j=>(es[j]?).map (·.2))[i]?=some (es[pl[i]'hi]'hlt).2:=by
   rw[fm pl fun j hj=>List.mem_range.mp (hp.mem_iff.mp hj),List.getElem?_map,hj,Option.map_some,Array.getD_eq_getD_getElem?,hx]
   rfl
  exact ζf10 x2 hf x1 x3 hj hx fun h' y hs=>hQ _ h' s.toks hv ⟨hi,y,x2.keep fun o e=>(hs.2 a hne).trans e,x3.keep fun o e=>(hs.2 b hnb).trans e⟩ fun c o hc eo=>hs.extBut c o (fun e=>hc (by simp[e])) eo
 done:=fun s Q E ⟨_,x1,x2,x3⟩ hQ=>ζZ11 hh x2 hf x1 x3 fun h' he=>hQ h' s.toks fun c o hc eo=>he c o (fun e=>hc (by simp[e])) eo
 self:=fun _ _ _ _ x hQ=>ζA7 x.2.1 hQ
end
section
variable{prog:Program}{w:World}{A B:Around}{E:Value->Shared->Prop}{s:Shared}
theorem SetIs.ty {a:Addr} {es:Array (Int × Value)} {ep:Nat} {t:SetTable} (x:SetIs s.heap a es ep t):s.TypeIs (.ref a) "set":=let ⟨o,p,q,_⟩:=x;⟨o,p,q.1⟩
theorem ζA8 {a:Addr} {es:Array (Int × Value)} {ep:Nat} {t:SetTable} {Q:Value->Shared->Prop} (hh:A.handled=none) (hS:SetIs s.heap a es ep t) (hf:t.fits es.size=true) (hr:Ris t) (hl:t.led=!w.params.followText "set-order") (hz:es.size<=sizeLine)
  (k:∀(I:Addr) (h':Heap) d (ord:List Value) (fp:List Addr) (St:Nat->Heap->Prop),ord.Perm (es.toList.map (·.2))->Walks prog w A I fp [I] ord.length (fun i v=>ord[i]?=some v) St->St 0 h'->(∀ b∈fp,b<h'.objs.size/\(b=a\/s.heap.objs.size<=b))->I∈fp->s.heap.objs.size<=I->(∀ c o,s.heap.get? c=some o->h'.get? c=some o)->Q (.ref I) { s with heap:=h',drawn:=d }) :
  wpAny (model prog w) B (pyIter (.ref a)) Q E s:=by
 obtain⟨o,ho,hx,hd⟩:=id hS
 have lta:a<s.heap.objs.size:=Heap.lt_size ho
 refine wpAny_pyIter_slot hS.ty ζv7 (wpAny_call_entry ζv7 hS.ty ζt8 ?_ (ζu8 _))
 unfold Builtin.«frozenset.__iter__»
 refine wpAny_bind (wpAny_of_eq (a:=a) rfl ?_)
 refine wpAny_bind ?_
 unfold Builtin.Frozenset.sizeOf
 refine wpAny_bind (wpAny_setEntries_of ho hd hf (wpAny_pure ?_))
 refine wpAny_bind ?_
 unfold setDrawn
 refine wpAny_bind (wpAny_setState_of ho hd hf ?_)
 dsimp only
 refine wpAny_bind ?_
 unfold setsByText
 refine wpAny_bind (wpAny_askSetting (wpAny_pure (wpAny_pure ?_)))
 have num:∀(ord:List Value) (sl:Nat->Nat),sl 0=0->ζZ4 prog w a es ep t ord sl->ord.Perm (es.toList.map (·.2))->wpAny (model prog w) B.in1 (pure (rawInt 0) >>= fun first=>setEpoch a >>= fun e=>newFields "set_iterator" [first,rawInt 0,.ref a,rawInt (es.size:Int),rawInt (e:Int)] >>= fun it=>ret it)
   (fun fin s'=>∃ v,fin=Fin.done (Flow.ret v)/\∃ T' r,s'.TypeIs v T'/\typeLookup (Value.type T') (Str.ofString "__next__")=pure (some r)/\Q v s') E s:=fun ord sl h0 hN hp=>by
  refine wpAny_bind (wpAny_pure (wpAny_bind (wpAny_setEpoch_of ho hd hf (wpAny_bind ?_))))
  unfold newFields
  refine wpAny_newObj_type ?_ (by size_fits)
  have hI:IsSi (s.heap.push { cls:=.type "set_iterator",data:=.fields [rawInt 0,rawInt 0,.ref a,rawInt (es.size:Int),rawInt (ep:Int)].toArray }) s.heap.objs.size a (rawInt (sl 0:Nat)) 0 es.size ep:=⟨_,Heap.get?_push_size _ rfl,rfl,by rw [h0];rfl⟩
  refine wpAny_pure ⟨_,rfl,"set_iterator",_,IsSi.ty (s:={ s with heap:=_ }) hI,si_next.lookup,?_⟩
  have ne:a≠s.heap.objs.size:=Nat.ne_of_lt lta
  refine k _ _ s.drawn ord _ _ hp (ζw8 hh hN hf ne) ⟨Nat.zero_le _,hI,hS.keep fun o e=>Heap.get?_push_of_some _ e⟩ (fun b hb=>?_) (by simp) (Nat.le_refl _) fun c o e=>Heap.get?_push_of_some _ e
  rw[Heap.size_push]
  rcases List.mem_cons.mp hb with e | e
  ·rw[e];exact⟨Nat.lt_succ_self _,.inr (Nat.le_refl _)⟩
  ·rw[List.mem_singleton.mp e];exact⟨Nat.lt_succ_of_lt lta,.inl rfl⟩
 by_cases hb:w.params.followText "set-order"=true
 ·rw [if_neg (by show ¬ (!w.params.followText "set-order" && _)=true;rw [hb];simp)]
  refine num _ (fun _=>0) rfl (ζU6 hf hb) ?_
  have:=ζ34 (f:=w.params.setOrder a ep) es.size 0 es.toList #[] (by rw[Array.length_toList])
  exact this.map _
 ·have hb':w.params.followText "set-order"=false:=by simpa using hb
  rw[hb']at hl
  by_cases c:(!t.plain && decide (es.size > 1))=true
  ·rw [if_pos (by show(!w.params.followText "set-order" && (!t.plain && decide (es.size > 1)))=true;rw [hb',c];rfl)]
   refine wpAny_bind (ζ86 es.size (List.range es.size) s _ (by rw[List.length_range]) fun pl d hp=>?_)
   have hpl:pl.length=es.size:=by rw[hp.length_eq,List.length_range]
   refine wpAny_bind (wpAny_newTuple ?_ (by rw[List.length_map,hpl];exact hz))
   have hoS:∀(h:Heap) o,h.get? a=some o->(h.push { cls:=.type "tuple",data:=.seq (List.map (fun i=>rawInt ((i:Nat):Int)) pl).toArray }).get? a=some o:=fun h o e=>Heap.get?_push_of_some _ e
   refine wpAny_bind (wpAny_setEpoch_of (hoS s.heap o ho) hd hf (wpAny_bind ?_))
   unfold newFields
   refine wpAny_newObj_type ?_ (by size_fits)
   have ne:a≠s.heap.objs.size:=Nat.ne_of_lt lta
   generalize hh1:s.heap.push { cls:=.type "tuple",data:=.seq (List.map (fun i=>rawInt ((i:Nat):Int)) pl).toArray }=h1
   have s1:h1.objs.size=s.heap.objs.size+1:=by rw[<- hh1];exact Heap.size_push ..
   have old1:∀ c o,s.heap.get? c=some o->h1.get? c=some o:=fun c o e=>by rw[<- hh1];exact Heap.get?_push_of_some _ e
   have hP1:IsPl h1 s.heap.objs.size pl:=by rw[<- hh1];exact⟨_,0,Heap.get?_push_size _ rfl,rfl⟩
   have hI:IsSi (h1.push { cls:=.type "set_iterator",data:=.fields [Value.ref s.heap.objs.size,rawInt 0,.ref a,rawInt (es.size:Int),rawInt (ep:Int)].toArray }) h1.objs.size a (.ref s.heap.objs.size) 0 es.size ep:=⟨_,Heap.get?_push_size _ rfl,rfl,rfl⟩
   refine wpAny_pure ⟨_,rfl,"set_iterator",_,IsSi.ty (s:={ s with heap:=_,drawn:=d }) hI,si_next.lookup,?_⟩
   have hord:(pl.filterMap fun j=>(es[j]?).map (·.2)).Perm (es.toList.map (·.2)):=by
    refine(hp.filterMap _).trans ?_
    rw[<- filterMap_getElem?_range es,List.map_filterMap]
   have hol:(pl.filterMap fun j=>(es[j]?).map (·.2)).length=pl.length:=by rw[hord.length_eq,List.length_map,Array.length_toList,hpl]
   have W:=ζB8 (prog:=prog) (w:=w) (A:=A) (I:=h1.objs.size) (a:=a) (b:=s.heap.objs.size) (es:=es) (ep:=ep) (t:=t) hh hp hf (by rw[s1];exact Nat.ne_of_lt (Nat.lt_succ_of_lt lta)) (by rw[s1];exact Nat.ne_of_lt (Nat.lt_succ_self _))
   rw[<- hol]at W
   refine k _ _ d _ _ _ hord W ⟨Nat.zero_le _,hI,hS.keep fun o e=>Heap.get?_push_of_some _ (old1 _ o e),hP1.keep fun o e=>Heap.get?_push_of_some _ e⟩ (fun b hb=>?_) (by simp) (by rw[s1];exact Nat.le_succ _) fun c o e=>Heap.get?_push_of_some _ (old1 c o e)
   rw[Heap.size_push,s1]
   rcases List.mem_cons.mp hb with e | e
   ·rw[e,s1];exact⟨Nat.lt_succ_self _,.inr (Nat.le_succ _)⟩
   ·rcases List.mem_cons.mp e with e | e
    ·rw[e];exact⟨Nat.lt_succ_of_lt (Nat.lt_succ_of_lt lta),.inl rfl⟩
    ·rw[List.mem_singleton.mp e];exact⟨Nat.lt_succ_of_lt (Nat.lt_succ_self _),.inr (Nat.le_refl _)⟩
  ·have c':(!t.plain && decide (es.size > 1))=false:=by simpa using c
   rw [if_neg (by show ¬ (!w.params.followText "set-order" && (!t.plain && decide (es.size > 1)))=true;rw [c'];simp)]
   exact num _ _ rfl (ζY8 hf hr hb' hl c') .rfl
end
theorem ζQ11:typeLookup (.type "set") "__len__"=pure (some (.builtin "set.__len__")):=by rw [typeLookup_type,builtinLookup_eq_fast];kernel_rfl
section
variable{prog:Program}{w:World}{A:Around}{E:Value->Shared->Prop}{s:Shared}
theorem ζ710 {r:Addr} {Q:Bool->Shared->Prop} (hT:s.TypeIs (.ref r) "set") (h:Q false s):wpAny (model prog w) A (Builtin.List.listLengthHint (.ref r)) Q E s:=by
 unfold Builtin.List.listLengthHint
 refine wpAny_bind (wpAny_specialOf hT ζQ11 ?_)
 generalize hid:("set.__len__":String)=id0
 wp_delta
 rw [show splitId id0=some ("set","__len__") from by subst hid;decide +kernel]
 subst hid
 refine wpAny_bind (wpAny_isInstance (T:="set") (b:=true) hT sub_set_self ?_)
 show wpAny _ A (typeOf (Value.ref r) >>= _) _ _ _
 exact wpAny_bind (wpAny_typeOf (T:="set") hT (wpAny_pure h))
theorem ζW4 {a:Addr} {es:Array (Int × Value)} {ep:Nat} {t:SetTable} {Q:List Value->Shared->Prop} (hh:A.handled=none) (hS:SetIs s.heap a es ep t) (hf:t.fits es.size=true) (hr:Ris t) (hl:t.led=!w.params.followText "set-order") (hz:es.size<=sizeLine)
  (k:∀(out:List Value) h' tk d,out.Perm (es.toList.map (·.2))->s.heap.objs.size<=h'.objs.size->(∀ c o,s.heap.get? c=some o->h'.get? c=some o)->Q out { s with heap:=h',toks:=tk,drawn:=d }):wpAny (model prog w) A (collect (.ref a)) Q E s:=by
 have hL1:(s.heap.push (seqObj "list" #[] 0)).get? s.heap.objs.size=some (seqObj "list" #[] 0):=Heap.get?_push_size _ rfl
 have hS1:SetIs (s.heap.push (seqObj "list" #[] 0)) a es ep t:=hS.keep fun o e=>Heap.get?_push_of_some _ e
 have lta:a<s.heap.objs.size:=let ⟨_,e,_⟩:=hS;Heap.lt_size e
 unfold collect
 refine wpAny_bind (wpAny_runValue (codeAny_builtin entry_proto_collect' ?_))
 show wpAny _ _ (newList [] >>= fun v=>again (.builtin "list.__iadd__" ⟨[v,.ref a],[]⟩)) _ _ s
 refine wpAny_bind (wpAny_newList (wpAny_pure ⟨Code.quiet_builtin _ (by decide +kernel),codeAny_builtin entry_list_iadd' ?_⟩))
 show wpAny _ _ (Builtin.List.listExtendWith (.ref s.heap.objs.size) (.ref a) (.ref s.heap.objs.size)) _ _ { s with heap:=s.heap.push (seqObj "list" #[] 0) }
 unfold Builtin.List.listExtendWith
 refine wpAny_bind (wpAny_typeOf (T:="set") (SetIs.ty (s:={ s with heap:=s.heap.push (seqObj "list" #[] 0) }) hS1) ?_)
 have e1:Builtin.List.listSameRef (.ref s.heap.objs.size) (.ref a)=false:=by
  show(s.heap.objs.size == a)=false
  exact beq_false_of_ne (Nat.ne_of_gt lta)
 rw[if_neg (by rw[e1];decide)]
 refine wpAny_bind (ζA8 (A:=A.in1) (by simp[hh]) hS1 hf hr hl hz fun I h' d ord fp St hord W st0 hfp hI hge kp=>?_)
 have hT':Shared.TypeIs { s with heap:=h',drawn:=d } (.ref a) "set":=SetIs.ty (s:={ s with heap:=h',drawn:=d }) (hS1.keep fun o e=>kp a o e)
 refine wpAny_bind (wpAny_holding (ζ710 hT' ?_))
 rw[if_pos (by decide +kernel)]
 have hL2:=kp _ _ hL1
 refine wpAny_bind (wpAny_rule (wpAny_bind ?_))
 unfold Builtin.List.listTouch
 refine wpAny_bind (listUpdate_at (xs:=#[]) (n:=0) hL2 rfl ?_ (Nat.zero_le _) (by show 1<=sizeLine+1;omega))
 have hL3:=Heap.get?_update_self (Obj.mapSeq (·.push Value.none)) hL2 rfl
 refine listUpdate_at (xs:=#[].push Value.none) (n:=1) hL3 rfl ?_ (by show 1<=sizeLine;decide) (by show 0<=sizeLine+1;omega)
 have hL4:=Heap.get?_update_self (Obj.mapSeq Array.pop) hL3 rfl
 have old:∀ c o,c≠s.heap.objs.size->h'.get? c=some o->((h'.update s.heap.objs.size (Obj.mapSeq (·.push Value.none))).update s.heap.objs.size (Obj.mapSeq Array.pop)).get? c=some o:=fun c o hc e=>by
  rw[Heap.get?_update_other _ _ (Ne.symm hc),Heap.get?_update_other _ _ (Ne.symm hc)]
  exact e
 generalize (h'.update s.heap.objs.size (Obj.mapSeq (·.push Value.none))).update s.heap.objs.size (Obj.mapSeq Array.pop)=h4 at *
 have hSf:s.heap.objs.size∉fp:=fun q=>by
  rcases(hfp _ q).2 with e | e
  ·exact Nat.ne_of_gt lta e
  ·rw [show({ s with heap:=s.heap.push (seqObj "list" #[] 0) }:Shared).heap.objs.size=s.heap.objs.size+1 from Heap.size_push ..] at e
   exact Nat.not_succ_le_self _ e
 have lenO:ord.length=es.size:=by rw[hord.length_eq,List.length_map,Array.length_toList]
 refine wpAny_pure ⟨plainId_quiet PySem.F.plain_extend_loop _,codeAny_extend_loopS W.toS (by rw[lenO];exact hz) s.heap.objs.size hSf _ ord.length 0 _ #[] _ rfl (Nat.zero_le _) (W.frame 0 _ _ st0 fun b hb o e=>old b o (fun q=>hSf (q ▸ hb)) e) hL4 (ItemsOf.nil _) fun s2 acc c m hL5 hacc=>?_⟩
 have eo:acc.toList=ord:=by
  refine List.ext_getElem? fun i=>?_
  rw[Array.getElem?_toList]
  by_cases hi:i<ord.length
  ·have q:acc[i]?=some (acc[i]'(by rw[hacc.1];exact hi)):=Array.getElem?_eq_getElem _
   rw[q,hacc.2 i _ q]
  ·rw[List.getElem?_eq_none (by omega),Array.getElem?_eq_none (by rw[hacc.1];omega)]
 show wpAny _ A (load s.heap.objs.size >>= _) Q E s2
 refine wpAny_bind (wpAny_load hL5 ?_)
 refine wpAny_pure ?_
 rw[eo,Moved.eq_with m]
 refine k ord s2.heap s2.toks d hord (Nat.le_of_lt (Heap.lt_size hL5)) fun c o e=>?_
 have lt:=Heap.lt_size e
 refine m.heap c o (fun q=>?_) (old c o (Nat.ne_of_lt lt) (kp c o (Heap.get?_push_of_some _ e)))
 rcases List.mem_cons.mp q with e' | e'
 ·exact Nat.ne_of_lt lt e'
 ·rw[List.mem_singleton.mp e']at lt
  have:=Nat.lt_of_lt_of_le lt (Nat.le_trans (Nat.le_succ _) (Heap.size_push .. ▸ hge))
  exact Nat.lt_irrefl _ this
end
theorem ζM4{m:List Int}:∀ {l:List Int},m.Nodup->l.length=m.length->(∀ x∈m,x∈l)->l.Perm m:=by
 induction m with
 | nil=>intro l _ h _;rw[List.length_eq_zero_iff.mp h]
 | cons x m ih =>
  intro l hn hl hs
  have hx:=hs x List.mem_cons_self
  have hn':=List.nodup_cons.mp hn
  refine(List.perm_cons_erase hx).trans ((ih hn'.2 (by rw[List.length_erase_of_mem hx,hl];rfl) fun y hy=>?_).cons x)
  have ne:y≠x:=fun e=>hn'.1 (by rw[<- e];exact hy)
  exact(List.mem_erase_of_ne ne).mpr (hs y (List.mem_cons_of_mem _ hy))
theorem ζ77{us vs:List Value}(p:us.Perm vs):∀ {ns:List Int},IntsAre vs ns->∃ ms,IntsAre us ms/\ms.Perm ns:=by
 induction p with
 | nil=>intro ns h;exact⟨ns,h,.rfl⟩
 | cons x _ ih =>
  intro ns h
  cases h with
  | cons n t h =>
   obtain⟨ms,h1,h2⟩:=ih h
   exact⟨n :: ms,.cons n t h1,h2.cons n⟩
 | swap x y l =>
  intro ns h
  cases h with
  | cons n t h =>
   cases h with
   | cons m u h=>exact⟨m :: n :: _,.cons m u (.cons n t h),.swap n m _⟩
 | trans _ _ ih1 ih2 =>
  intro ns h
  obtain⟨ms,h1,h2⟩:=ih2 h
  obtain⟨ls,h3,h4⟩:=ih1 h1
  exact⟨ls,h3,h4.trans h2⟩
theorem ζc9{vs:List Value}{ns:List Int}(h:IntsAre vs ns):vs.length=ns.length:=by
 induction h with
 | nil=>rfl
 | cons n t _ ih=>rw[List.length_cons,List.length_cons,ih]
theorem ζx1(val:Nat->Int):∀ i,(firstMet val i).Nodup
 | 0=>.nil
 | i+1=>by
  rw[firstMet_succ]
  unfold step_dedup
  split
  ·exact ζx1 val i
  ·rename_i h
   refine List.nodup_append.mpr ⟨ζx1 val i,by simp,fun a ha b hb e=>?_⟩
   rw[List.mem_singleton.mp hb]at e
   exact h (List.any_eq_true.mpr ⟨a,ha,by rw[e];simp⟩)
section
variable{prog:Program}{w:World}{A:Around}{E:Value->Shared->Prop}{s:Shared}
theorem ζ62:∀ {l:List (Int × Value)},ElemsOf (intKind prog w) l->∃ ms,IntsAre (l.map (·.2)) ms/\∀ z,z∈ms↔∃ y∈l,(intKind prog w).is z y.2=true
 | [],_=>⟨[],.nil,fun z=>⟨fun h=>(by cases h),fun⟨y,h,_⟩=>(by cases h)⟩⟩
 | y :: l,h=>by
  obtain⟨ms,h1,h2⟩:=ζ62 h.tail
  obtain⟨⟨z,hz,_⟩,_⟩:=h.head
  obtain⟨hy,v⟩:=y
  obtain⟨u,rfl⟩:=Value.isInt_shape (show Value.isInt z v=true from hz)
  refine⟨z :: ms,.cons z u h1,fun x=>?_⟩
  rw[List.mem_cons,h2]
  constructor
  ·rintro(e | ⟨y,hy,q⟩)
   ·exact⟨_,List.mem_cons_self,e ▸ hz⟩
   ·exact⟨y,List.mem_cons_of_mem _ hy,q⟩
  ·rintro⟨y,hy,q⟩
   rcases List.mem_cons.mp hy with e | e
   ·rw[e]at q
    exact .inl ((intKind prog w).inj _ _ _ q hz)
   ·exact .inr ⟨y,e,q⟩
theorem ζd5 {a:Addr} {led:Bool} {S:Int->Bool} {n:Nat} {Q:Value->Shared->Prop} (hh:A.handled=none) (hS:SetR prog w s.heap a (!w.params.followText "set-order") S n) (h64:n<64)
  (k:∀(ms:List Int) (out:List Value) r h' tk d c,IntsAre out ms->ms.Pairwise (·<=·)->ms.length=n->(∀ z,z∈ms↔S z=true)->s.heap.objs.size<=r->h'.get? r=some (seqObj "list" out.toArray c)->(∀ c o,s.heap.get? c=some o->h'.get? c=some o)->Q (.ref r) { s with heap:=h',toks:=tk,drawn:=d }) :
  wpAny (model prog w) A (call (.builtin "sorted") [.ref a]) Q E s:=by
 obtain⟨o,es,ep,t,ho,hx,hd,he,hm,hb,hf,hn,hr,hl⟩:=hS
 obtain⟨ns,hI,hmem⟩:=ζ62 he
 have hsl:sizeLine=16777216:=sizeLine_eq
 refine Calls.call_function_entry kind_sorted plain_sorted entry_sorted (args_sorted1 _) ?_
 unfold Builtin.«sorted»
 refine wpAny_bind (m:=checkCount "sorted" 1 1 _) (wpAny_pure ?_)
 refine wpAny_bind (ζW4 (A:=A.in1) (by simp[hh]) ⟨o,ho,hx,hd⟩ hf hr hl (by omega) fun out h1 tk d hp hge kp=>?_)
 obtain⟨ls,hI2,hp2⟩:=ζ77 hp hI
 have lo:=ζc9 hI2
 have ll:ls.length=n:=by rw[<- lo,hp.length_eq,List.length_map,Array.length_toList,hn]
 refine wpAny_bind (wpAny_newList ?_)
 have hL:(h1.push (seqObj "list" out.toArray 0)).get? h1.objs.size=some (seqObj "list" out.toArray 0):=Heap.get?_push_size _ rfl
 refine wpAny_bind (wpAny_holding (wpAny_call_entry slot_list_sort ⟨_,hL,rfl⟩ entry_list_sort (list_sort_tree hL hI2 (by omega) fun res ms b1 b2 b3=>⟨_,rfl,?_⟩) (args_list_sort _)))
 obtain⟨c,hc⟩:=sortedHeap_at (out:=res) hL
 refine wpAny_pure ⟨_,rfl,k ms res.toList h1.objs.size _ tk d c b1 b3 (by rw[b2.length_eq,ll]) (fun z=>by rw[b2.mem_iff,hp2.mem_iff,hmem,hm]) hge (by rw[Array.toArray_toList];exact hc) fun b ob e=>?_⟩
 have lt:=Heap.lt_size (kp b ob e)
 rw[sortedHeap_old (Nat.ne_of_lt lt) (by rw[size_push'];exact Nat.lt_succ_of_lt lt)]
 exact Heap.get?_push_of_some _ (kp b ob e)
end
section
variable{X:Cx}{p p2 pos pos2:Pos}{e:Expr}{t:TA}
theorem Inv.drew{X:Cx}{pins:List (Addr × Obj)}{σ:St}{H:Hp}{s:Shared}(I:Inv X pins σ H s)(d:Drawn):Inv X pins σ H { s with drawn:=d } :=
 I.step (g':=s.gens) (d':=d) (t':=s.toks) (h':=s.heap) (ch:=[]) (fun b hb=>(by cases hb)) (fun b o _ _ _ q _=>q) (fun b o _ _ _ q _=>⟨o.slots,q⟩) (fun b o _ _ n=>n) (fun b o _ q=>⟨o,q⟩) (fun b xs q=>q) (fun b o u q=>q) (fun b ps q=>⟨#[],by rw[q];simp⟩) (fun m hm=>hm) I.hok I.bare
def ζb5(K:PySem.W.Frag)(t:TA):TE:=fun σ H Q=>t σ H fun vs H1=>∃(a:Addr) (ns:List Int),vs=[.ref a]/\SqL K H1 a (ns.map V.int)/\ns.length<64/\∀ ms:List Int,ms.Pairwise (· < ·)->(∀ z,z∈ms↔z∈ns)->∀ l,H1 l=none->Q (.ref l) (upd H1 l (.lst (ms.map V.int)))
theorem ζv3 (K:PySem.W.Frag) (hc:X.calm=true) (g1:Gl X "sorted") (m1:X.mg "sorted"=none) (g2:Gl X "set") (m2:X.mg "set"=none) (ha:PA X [e] t) (hk:X.K=K:=by rfl)
  (he:starEach [e] X.env=[(false,eval e X.env)]:=by rfl)
  (he2:starEach [.Call (.Name "set" p2) [e] [] pos2] X.env=[(false,eval (.Call (.Name "set" p2) [e] [] pos2) X.env)]:=by rfl) :
  PE X (.Call (.Name "sorted" p) [.Call (.Name "set" p2) [e] [] pos2] [] pos) (ζb5 K t):=by
 subst hk
 intro pins s σ H Q I h
 refine wpAny_Call_Name_kw (ζ63 I g1 m1 Boot.«sorted» ?_)
 refine PyProof.Rows.callWith_builtin1 ?_ (by rw[he2];rfl) rfl
 rw[he2]
 show wpAny _ _ (spliced ((false,eval (.Call (.Name "set" p2) [e] [] pos2) X.env) :: backTo pos [])) _ _ s
 refine Calls.spliced_cons ?_
 refine wpAny_Call_Name_kw (ζ63 I g2 m2 Boot.«set» ?_)
 refine PyProof.Rows.callWith_type1 (thn (ha pos2 pins s σ H _ I h) fun us s1 ⟨vs,H1,I1,r1,q1⟩=>?_) (by rw[he];rfl) rfl
 obtain⟨a,ns,rfl,hq,hn,q⟩:=q1
 obtain⟨u,rfl,ru⟩:=ζh3 r1
 obtain rfl:u=Value.ref a:=ru
 obtain⟨its,rv,pl,hz⟩:=I1.list hq
 have hi:=ζ41 rv
 have el:its.toArray.size=ns.length:=by rw[List.size_toArray,<- rv.length,List.length_map]
 have sb:scanBound=4096:=rfl
 refine ζd10 (I.ok.hd hc) pl.isList (ns:=ns) (by simpa using hi) (by omega) fun h2 tk hS kp=>?_
 refine Calls.spliced_nil ?_
 have fl:=firstMet_length_le (fun i=>ns.getD i 0) its.toArray.size
 refine ζd5 (led:=true) (s:={ s1 with heap:=h2,toks:=tk }) (I.ok.hd hc) hS (by omega) fun ms out r h3 tk3 d c hI hs hl hmem hge hr kp3=>?_
 have em:∀ z,z∈ms↔z∈ns:=fun z=>by
  rw[hmem,firstMet_any,el]
  have e1:(List.range ns.length).map (fun i=>ns.getD i 0)=ns:=by
   refine List.ext_getElem? fun i=>?_
   rw[List.getElem?_map]
   by_cases c:i<ns.length
   ·rw[List.getElem?_range c,List.getElem?_eq_getElem c,Option.map_some,List.getD_eq_getElem?_getD,List.getElem?_eq_getElem c]
    rfl
   ·rw[List.getElem?_eq_none (by rw[List.length_range];omega),List.getElem?_eq_none (by omega)]
    rfl
  rw[e1]
  simp
 have hnd:ms.Nodup:=(ζM4 (ζx1 _ _) hl fun x hx=>(hmem x).mpr (List.any_eq_true.mpr ⟨x,hx,by simp⟩)).nodup_iff.mpr (ζx1 _ _)
 have hlt:s1.heap.objs.size<=h2.objs.size:=let ⟨_,_,_,_,e,_⟩:=hS;Nat.le_of_lt (Heap.lt_size e)
 have hge2:s1.heap.objs.size<=r:=Nat.le_trans hlt hge
 have hml:ms.length<=ns.length:=by rw[hl,<- el];exact fl
 have I2:=(I1.laid (o:=.lst (ms.map V.int)) (h':=h3) (t':=tk3) (fun b o e=>kp3 b o (kp b o e)) hge2 ⟨by rw[List.length_map];have:sizeLine=16777216:=sizeLine_eq;omega,out,c,ζm1 hI,hr⟩).drew d
 exact⟨.ref r,_,I2,rfl,q ms (My.srt_strict hs hnd) em r (I1.hok.fresh hge2)⟩
end
end L2
namespace My
open PySem L2
theorem ζk6{A B:List (Nat × Nat)}{f g:Nat->Nat}{N k:Nat}(hf:∀ i j,i<N->j<N->(f i=f j↔Conn A i j))(hk:∀ i,i<N->f i<k)(hg:∀ a,a<k->g a<N/\f (g a)=a)(hA:InN N A)(hB:InN N B) :
  (∀ i j,i<N->j<N->Conn (A++B) i j)↔∀ a b,a<k->b<k->Conn (B.map fun e=>(f e.1,f e.2)) a b:=by
 have gi:∀ i,i<N->Conn A (g (f i)) i:=fun i hi=>by
  obtain⟨h1,h2⟩:=hg (f i) (hk i hi)
  exact(hf _ _ h1 hi).mp h2
 constructor
 ·intro c a b ha hb
  obtain⟨a1,a2⟩:=hg a ha
  obtain⟨b1,b2⟩:=hg b hb
  have q:=(c (g a) (g b) a1 b1).image (f:=f) (fs:=B.map fun e=>(f e.1,f e.2)) fun e he=>by
   rcases List.mem_append.mp he with q | q
   ·obtain⟨e1,e2⟩:=hA e q
    rw[(hf _ _ e1 e2).mpr (.edge q)]
    exact .refl _
   ·exact .edge (List.mem_map.mpr ⟨e,q,rfl⟩)
  rw[a2,b2]at q
  exact q
 ·intro c i j hi hj
  have up:∀ {i j:Nat},Conn A i j->Conn (A++B) i j:=fun q=>q.mono fun e he=>List.mem_append_left _ he
  have q:=(c (f i) (f j) (hk i hi) (hk j hj)).image (f:=g) (fs:=A++B) fun e he=>by
   obtain⟨d,hd,rfl⟩:=List.mem_map.mp he
   obtain⟨d1,d2⟩:=hB d hd
   exact(up (gi _ d1)).trans ((Conn.edge (List.mem_append_right _ hd)).trans (up (gi _ d2)).symm)
  exact(up (gi i hi)).symm.trans (q.trans (up (gi j hj)))
def PC(n:Int)(ps:List (Int × Int))(I O:List Int)(c:Nat):Prop:=∃ L:List (List Int),L.Nodup/\(∀ l,l∈L↔ζH n ps l/\(∀ z∈I,z∈l)/\∀ z∈O,z∉l)/\L.length=c
theorem PC.uniq{n:Int}{ps:List (Int × Int)}{I O:List Int}{c d:Nat}(h1:PC n ps I O c)(h2:PC n ps I O d):c=d:=by
 obtain⟨L,a1,a2,a3⟩:=h1
 obtain⟨M,b1,b2,b3⟩:=h2
 have:L.Perm M:=(List.perm_ext_iff_of_nodup a1 b1).mpr fun l=>by rw[a2,b2]
 rw[<- a3,<- b3,this.length_eq]
def freT(m:Nat)(gone:List Int):List Int:=(rgL m).filter fun z=>decide (z∉gone)
theorem freT_mem{m:Nat}{gone:List Int}{z:Int}:z∈freT m gone↔(0<=z/\z<(m:Int))/\z∉gone:=by
 unfold freT
 rw[List.mem_filter,decide_eq_true_iff,rgL_mem]
theorem ζ06(m:Nat)(gone:List Int):(freT m gone).Pairwise (· < ·):=(isSet_iff.mp (ζy1 m)).2.filter _
def conW(f:Nat->Nat)(ps:List (Int × Int))(R:List Int):List (Int × Int):=R.map fun z=>((f (ζ21 ps z).1:Int),(f (ζ21 ps z).2:Int))
def upR(R:List Int)(S:List Int):List Int:=S.map fun t=>R.getD t.toNat 0
theorem ζW9{R S:List Int}(hR:R.Pairwise (· < ·))(hS:IsSet R.length S):(upR R S).Pairwise (· < ·):=by
 obtain⟨a1,a2⟩:=isSet_iff.mp hS
 refine List.pairwise_map.mpr (a2.imp_of_mem fun {a b} ha hb hab=>?_)
 have h1:=a1 a ha
 have h2:=a1 b hb
 rw[List.getD_eq_getElem?_getD,List.getD_eq_getElem?_getD,List.getElem?_eq_getElem (by omega),List.getElem?_eq_getElem (by omega)]
 exact List.pairwise_iff_getElem.mp hR a.toNat b.toNat (by omega) (by omega) (by omega)
theorem ζV2{R S:List Int}(hS:IsSet R.length S){z:Int}(h:z∈upR R S):z∈R:=by
 obtain⟨t,ht,rfl⟩:=List.mem_map.mp h
 have h1:=hS.all t ht
 rw[List.getD_eq_getElem?_getD,List.getElem?_eq_getElem (by omega)]
 exact List.getElem_mem _
theorem ζF9{f:Nat->Nat}{ps:List (Int × Int)}{R S:List Int}(hS:IsSet R.length S):ζc (conW f ps R) S=(ζc ps (upR R S)).map fun e=>(f e.1,f e.2):=by
 unfold ζc upR
 rw[List.map_map,List.map_map]
 refine List.map_congr_left fun t ht=>?_
 have h1:=hS.all t ht
 have e:(conW f ps R).getD t.toNat (0,0)=((f (ζ21 ps (R.getD t.toNat 0)).1:Int),(f (ζ21 ps (R.getD t.toNat 0)).2:Int)):=by
  unfold conW
  rw[List.getD_eq_getElem?_getD,List.getElem?_map,List.getD_eq_getElem?_getD,List.getElem?_eq_getElem (by omega)]
  rfl
 rw[e]
 rfl
def ζG4(m:Nat)(I R S:List Int):List Int:=(rgL m).filter fun z=>decide (z∈I\/z∈upR R S)
theorem ζS2(m:Nat)(I R S:List Int):(ζG4 m I R S).Pairwise (· < ·):=(isSet_iff.mp (ζy1 m)).2.filter _
theorem backT_mem{m:Nat}{I R S:List Int}{z:Int}:z∈ζG4 m I R S↔(0<=z/\z<(m:Int))/\(z∈I\/z∈upR R S):=by
 unfold ζG4
 rw[List.mem_filter,decide_eq_true_iff,rgL_mem]
section
variable{n:Int}{ps:List (Int × Int)}{I O S:List Int}{f g:Nat->Nat}{k:Nat}
theorem ζh2(hI:IsSet ps.length I)(hS:IsSet (freT ps.length (I++O)).length S):(ζG4 ps.length I (freT ps.length (I++O)) S).Perm (I++upR (freT ps.length (I++O)) S):=by
 have ua:=ζW9 (ζ06 ps.length (I++O)) hS
 refine(List.perm_ext_iff_of_nodup (ζr1 (ζS2 _ _ _ _)) (List.nodup_append.mpr ⟨hI.nodup,ζr1 ua,fun a ha b hb e=>?_⟩)).mpr fun z=>?_
 ·have:=(freT_mem.mp (ζV2 hS hb)).2
  exact this (List.mem_append_left _ (e ▸ ha))
 ·rw[backT_mem,List.mem_append]
  refine⟨fun h=>h.2,fun h=>⟨?_,h⟩⟩
  rcases h with q | q
  ·exact hI.all z q
  ·exact(freT_mem.mp (ζV2 hS q)).1
theorem ζl6(g0:ζE n ps)(hI:IsSet ps.length I)(hf:∀ i j,i<n.toNat->j<n.toNat->(f i=f j↔Conn (ζc ps I) i j))(hk:∀ i,i<n.toNat->f i<k)(hg:∀ a,a<k->g a<n.toNat/\f (g a)=a)(hS:IsSet (freT ps.length (I++O)).length S) :
  ((∀ i j,i<n.toNat->j<n.toNat->Conn (ζc ps (ζG4 ps.length I (freT ps.length (I++O)) S)) i j)↔∀ a b,a<k->b<k->Conn (ζc (conW f ps (freT ps.length (I++O))) S) a b):=by
 have hp:=ζh2 (O:=O) hI hS
 have hA:=ζG1 (ns:=I) g0 hI.all
 have hB:=ζG1 (ns:=upR (freT ps.length (I++O)) S) g0 fun z hz=>(freT_mem.mp (ζV2 hS hz)).1
 have e:ζc ps (I++upR (freT ps.length (I++O)) S)=ζc ps I++ζc ps (upR (freT ps.length (I++O)) S):=by unfold ζc;exact List.map_append
 rw[ζF9 hS,<- ζk6 hf hk hg hA hB,<- e]
 exact⟨fun c i j hi hj=>(ζH1 fun z=>hp.mem_iff).mp (c i j hi hj),fun c i j hi hj=>(ζH1 fun z=>hp.mem_iff).mpr (c i j hi hj)⟩
theorem ζW12{T:List Int}(hI:IsSet ps.length I)(hT:IsSet ps.length T)(h1:∀ z∈I,z∈T)(h2:∀ z∈O,z∉T):∃ S,IsSet (freT ps.length (I++O)).length S/\T=ζG4 ps.length I (freT ps.length (I++O)) S:=by
 refine⟨(rgL (freT ps.length (I++O)).length).filter fun t=>decide ((freT ps.length (I++O)).getD t.toNat 0∈T),isSet_iff.mpr ⟨fun t ht=>rgL_mem.mp (List.mem_filter.mp ht).1,(isSet_iff.mp (ζy1 _)).2.filter _⟩,ζI4 (isSet_iff.mp hT).2 (ζS2 _ _ _ _) fun z=>?_⟩
 rw[backT_mem]
 constructor
 ·intro hz
  refine⟨hT.all z hz,?_⟩
  by_cases c:z∈I
  ·exact .inl c
  ·right
   have hR:z∈freT ps.length (I++O):=freT_mem.mpr ⟨hT.all z hz,fun q=>by
    rcases List.mem_append.mp q with q | q
    ·exact c q
    ·exact h2 z q hz⟩
   obtain⟨t,ht⟩:=List.getElem?_of_mem hR
   have e:(freT ps.length (I++O)).getD ((t:Int)).toNat 0=z:=by rw[Int.toNat_natCast];exact ζK ht
   refine List.mem_map.mpr ⟨(t:Int),List.mem_filter.mpr ⟨rgL_mem.mpr ⟨by omega,by have:=(List.getElem?_eq_some_iff.mp ht).1;omega⟩,decide_eq_true (by rw[e];exact hz)⟩,e⟩
 ·rintro⟨_,q | q⟩
  ·exact h1 z q
  ·obtain⟨t,ht,rfl⟩:=List.mem_map.mp q
   exact of_decide_eq_true (List.mem_filter.mp ht).2
theorem ζp7{S':List Int}(hS:IsSet (freT ps.length (I++O)).length S)(hS':IsSet (freT ps.length (I++O)).length S')(e:ζG4 ps.length I (freT ps.length (I++O)) S=ζG4 ps.length I (freT ps.length (I++O)) S'):S=S':=by
 have key:∀ {A B:List Int},IsSet (freT ps.length (I++O)).length A->IsSet (freT ps.length (I++O)).length B->ζG4 ps.length I (freT ps.length (I++O)) A=ζG4 ps.length I (freT ps.length (I++O)) B->∀ t,t∈A->t∈B:=fun {A B} hA hB e t ht=>by
  have h1:=hA.all t ht
  have hm:(freT ps.length (I++O)).getD t.toNat 0∈upR (freT ps.length (I++O)) A:=List.mem_map.mpr ⟨t,ht,rfl⟩
  have hR:=freT_mem.mp (ζV2 hA hm)
  have h2:(freT ps.length (I++O)).getD t.toNat 0∈ζG4 ps.length I (freT ps.length (I++O)) B:=e ▸ backT_mem.mpr ⟨hR.1,.inr hm⟩
  rcases(backT_mem.mp h2).2 with q | q
  ·exact absurd (List.mem_append_left _ q) hR.2
  ·obtain⟨u,hu,e2⟩:=List.mem_map.mp q
   have h3:=hB.all u hu
   rw[List.getD_eq_getElem?_getD,List.getD_eq_getElem?_getD,List.getElem?_eq_getElem (by omega),List.getElem?_eq_getElem (by omega)]at e2
   have:=ζf1 (ζr1 (ζ06 ps.length (I++O))) (i:=u.toNat) (j:=t.toNat) (List.getElem?_eq_getElem (by omega)) (by rw[List.getElem?_eq_getElem (by omega)];exact congrArg some e2.symm)
   have e3:u=t:=by omega
   exact e3 ▸ hu
 exact ζI4 (isSet_iff.mp hS).2 (isSet_iff.mp hS').2 fun t=>⟨key hS hS' e t,key hS' hS e.symm t⟩
theorem ζs4(f:Nat->Nat)(ps:List (Int × Int))(R:List Int):(conW f ps R).length=R.length:=List.length_map ..
theorem ζf13(g0:ζE n ps)(hI:IsSet ps.length I)(hIO:∀ z∈I,z∉O)(hf:∀ i j,i<n.toNat->j<n.toNat->(f i=f j↔Conn (ζc ps I) i j))(hk:∀ i,i<n.toNat->f i<k)(hg:∀ a,a<k->g a<n.toNat/\f (g a)=a)(hn:(k:Int)+(I.length:Int)=n){c:Nat}(h:TC k (conW f ps (freT ps.length (I++O))) c):PC n ps I O c:=by
 obtain⟨L,h1,h2,h3⟩:=h
 have hs:∀ l∈L,IsSet (freT ps.length (I++O)).length l:=fun l hl=>ζs4 f ps _ ▸ ((h2 l).mp hl).1
 have len:∀ {S:List Int},IsSet (freT ps.length (I++O)).length S->(ζG4 ps.length I (freT ps.length (I++O)) S).length=I.length+S.length:=fun {S} hS=>by
  rw[(ζh2 hI hS).length_eq,List.length_append]
  unfold upR
  rw[List.length_map]
 have iff:∀ {S:List Int},IsSet (freT ps.length (I++O)).length S->(ζH n ps (ζG4 ps.length I (freT ps.length (I++O)) S)↔ζH k (conW f ps (freT ps.length (I++O))) S):=fun {S} hS=>by
  have l:=len hS
  have q:=ζl6 (O:=O) g0 hI hf hk hg hS
  constructor
  ·rintro⟨a1,a2,a3⟩
   exact⟨by rw[ζs4];exact hS,by omega,fun a b ha hb=>q.mp a3 a b (by omega) (by omega)⟩
  ·rintro⟨a1,a2,a3⟩
   exact⟨isSet_iff.mpr ⟨fun z hz=>(backT_mem.mp hz).1,ζS2 _ _ _ _⟩,by omega,q.mpr fun a b ha hb=>a3 a b (by omega) (by omega)⟩
 refine⟨L.map (ζG4 ps.length I (freT ps.length (I++O))),List.pairwise_map.mpr (h1.imp_of_mem fun {a b} ha hb hab e=>hab (ζp7 (hs a ha) (hs b hb) e)),fun T=>?_,by rw[List.length_map,h3]⟩
 rw[List.mem_map]
 constructor
 ·rintro⟨S,hS,rfl⟩
  refine⟨(iff (hs S hS)).mpr ((h2 S).mp hS),fun z hz=>backT_mem.mpr ⟨hI.all z hz,.inl hz⟩,fun z hz q=>?_⟩
  rcases(backT_mem.mp q).2 with q | q
  ·exact hIO z q hz
  ·exact(freT_mem.mp (ζV2 (hs S hS) q)).2 (List.mem_append_right _ hz)
 ·rintro⟨hT,q1,q2⟩
  obtain⟨S,hS,rfl⟩:=ζW12 hI hT.1 q1 q2
  exact⟨S,(h2 S).mpr ((iff hS).mp hT),rfl⟩
theorem ζm6(g0:ζE n ps)(gone:List Int)(hk:∀ i,i<n.toNat->f i<k)(k1:1<=k)(kn:k<=n.toNat):ζE k (conW f ps (freT ps.length gone)):=by
 obtain⟨g1,g2,g3,g4⟩:=g0
 refine⟨by omega,by omega,?_,fun p hp=>?_⟩
 ·rw[ζs4]
  have:(freT ps.length gone).length<=(rgL ps.length).length:=List.length_filter_le ..
  have:=(ζy1 ps.length).len
  omega
 ·obtain⟨z,hz,rfl⟩:=List.mem_map.mp hp
  have hz1:=(freT_mem.mp hz).1
  obtain⟨q,hq⟩:∃ q,ps[z.toNat]?=some q:=⟨_,List.getElem?_eq_getElem (by omega)⟩
  obtain⟨e1,e2,e3,e4⟩:=g4 q (List.mem_of_getElem? hq)
  have ee:ζ21 ps z=(q.1.toNat,q.2.toNat):=by unfold ζ21;rw[ζK hq]
  rw[ee]
  have a:=hk q.1.toNat (by omega)
  have b:=hk q.2.toNat (by omega)
  exact⟨by show(0:Int)<=(f q.1.toNat:Int);omega,by show(f q.1.toNat:Int)<(k:Int);omega,by show(0:Int)<=(f q.2.toNat:Int);omega,by show(f q.2.toNat:Int)<(k:Int);omega⟩
theorem ζw10(g0:ζE n ps)(hI:IsSet ps.length I)(hf:∀ i j,i<n.toNat->j<n.toNat->(f i=f j↔Conn (ζc ps I) i j))(hk:∀ i,i<n.toNat->f i<k)(hg:∀ a,a<k->g a<n.toNat/\f (g a)=a)(k1:1<=k)(kn:k<=n.toNat)(hn:n<(k:Int)+(I.length:Int)):PC n ps I O 0:=by
 refine⟨[],.nil,fun T=>⟨fun h=>(by cases h),fun⟨hT,q1,q2⟩=>?_⟩,rfl⟩
 obtain⟨S,hS,rfl⟩:=ζW12 hI hT.1 q1 q2
 have q:=(ζl6 (O:=O) g0 hI hf hk hg hS).mp hT.2.2
 have gg:=ζm6 (f:=f) g0 (I++O) hk k1 kn
 have l:=ζE9 gg (by rw[ζs4];exact hS) fun a b ha hb=>q a b (by omega) (by omega)
 have l2:=hT.2.1
 rw[(ζh2 hI hS).length_eq,List.length_append]at l2
 unfold upR at l2
 rw[List.length_map]at l2
 omega
end
def nix:List Int->Int->Nat
 | [],_=>0
 | x :: l,z=>if x=z then 0 else nix l z+1
theorem ζ22:∀ {l:List Int} {z:Int},z∈l->l[nix l z]?=some z
 | x :: l,z,h=>by
  unfold nix
  by_cases c:x=z
  ·rw[if_pos c,c];rfl
  ·rw[if_neg c]
   exact ζ22 ((List.mem_cons.mp h).resolve_left fun e=>c e.symm)
theorem ζp12{l:List Int}{z:Int}(h:z∈l):nix l z<l.length:=(List.getElem?_eq_some_iff.mp (ζ22 h)).1
theorem ζB10{l:List Int}{z y:Int}(hz:z∈l)(hy:y∈l):nix l z=nix l y↔z=y:=by
 refine⟨fun e=>?_,fun e=>by rw[e]⟩
 have h1:=ζ22 hz
 rw[e,ζ22 hy]at h1
 exact(Option.some.inj h1).symm
theorem ζq12{l:List Int}(hn:l.Nodup){i:Nat}{z:Int}(h:l[i]?=some z):nix l z=i:=ζf1 hn (ζ22 (List.mem_of_getElem? h)) h
theorem ζD10{M:List Int}{i:Nat}(h:i<M.length):mk M i∈M:=by
 unfold mk
 rw[List.getD_eq_getElem?_getD,List.getElem?_eq_getElem h]
 exact List.getElem_mem h
section
variable{N:Nat}{es:List (Nat × Nat)}{F:List Int}
theorem ζ29(h:InN N es)(hF:F.Pairwise (· < ·))(hm:∀ z,z∈F↔z∈pms N es) :
  ∃ g:Nat->Nat,(∀ i j,i<N->j<N->(nix F (mk (pms N es) i)=nix F (mk (pms N es) j)↔Conn es i j))/\(∀ i,i<N->nix F (mk (pms N es) i)<F.length)/\∀ a,a<F.length->g a<N/\nix F (mk (pms N es) (g a))=a:=by
 have hl:=ζO N es
 have inF:∀ i,i<N->mk (pms N es) i∈F:=fun i hi=>(hm _).mpr (ζD10 (by omega))
 have ex:∀ a,∃ i,a<F.length->i<N/\nix F (mk (pms N es) i)=a:=fun a=>by
  by_cases c:a<F.length
  ·have q:=(hm _).mp (List.getElem_mem c)
   obtain⟨i,hi⟩:=List.getElem?_of_mem q
   have hi2:=(List.getElem?_eq_some_iff.mp hi).1
   refine⟨i,fun _=>⟨by omega,?_⟩⟩
   have e:mk (pms N es) i=F[a]:=by unfold mk;exact ζK hi
   rw[e]
   exact ζq12 (ζr1 hF) (List.getElem?_eq_getElem c)
  ·exact⟨0,fun h=>absurd h c⟩
 refine⟨fun a=>Classical.choose (ex a),fun i j hi hj=>?_,fun i hi=>ζp12 (inF i hi),fun a ha=>Classical.choose_spec (ex a) ha⟩
 rw[ζB10 (inF i hi) (inF j hj)]
 exact ζp10 h hi hj
theorem ζq9{M:List Int}:∀(i:Nat),∃ p,p<=i/\fstB M p=true/\mk M p=mk M i:=by
 intro i
 induction i using Nat.strongRecOn with
 | _ i ih =>
  by_cases c:fstB M i=true
  ·exact⟨i,Nat.le_refl _,c,rfl⟩
  ·obtain⟨j,hj,e⟩:∃ j,j<i/\mk M j=mk M i:=Classical.byContradiction fun no=>c (fstB_iff.mpr fun j hj e=>no ⟨j,hj,e⟩)
   obtain⟨p,h1,h2,h3⟩:=ih j hj
   exact⟨p,by omega,h2,h3.trans e⟩
theorem ζd7{M:List Int}(hF:F.Pairwise (· < ·))(hm:∀ z,z∈F↔z∈M):F.length=cnt M:=by
 have e:F.Perm ((fstA M M.length).map (mk M)):=by
  refine(List.perm_ext_iff_of_nodup (ζr1 hF) ?_).mpr fun z=>?_
  ·refine List.pairwise_map.mpr ?_
   unfold fstA
   refine(List.pairwise_lt_range.filter (fstB M)).imp_of_mem fun {a b} ha hb hab=>?_
   exact fstB_iff.mp (List.mem_filter.mp hb).2 a hab
  ·rw[hm,List.mem_map]
   constructor
   ·intro hz
    obtain⟨i,hi⟩:=List.getElem?_of_mem hz
    have hi2:=(List.getElem?_eq_some_iff.mp hi).1
    obtain⟨p,h1,h2,h3⟩:=ζq9 (M:=M) i
    refine⟨p,List.mem_filter.mpr ⟨List.mem_range.mpr (by omega),h2⟩,h3.trans ?_⟩
    unfold mk
    exact ζK hi
   ·rintro⟨p,hp,rfl⟩
    exact ζD10 (List.mem_range.mp (List.mem_filter.mp hp).1)
 rw[e.length_eq,List.length_map]
 rfl
theorem ζF3(h:InN N es)(hN:1<=N)(hF:F.Pairwise (· < ·))(hm:∀ z,z∈F↔z∈pms N es):1<=F.length/\F.length<=N/\N<=F.length+es.length:=by
 have e:=ζd7 hF hm
 have hl:=ζO N es
 have e2:=ζG9 (ζs3 (n:=N) (es:=es) h)
 have e3:=ζu4 es h
 have e4:=ζf8 (M:=pms N es) (by omega)
 have e5:cnt (pms N es)<=N:=by
  unfold cnt fstA
  refine Nat.le_trans (List.length_filter_le ..) ?_
  rw[List.length_range]
  omega
 omega
end
theorem ζP6{n:Int}{ps:List (Int × Int)}{z:Int}{I O:List Int}(h1:z∈I)(h2:z∈O):PC n ps I O 0 :=
 ⟨[],.nil,fun T=>⟨fun h=>(by cases h),fun⟨_,q,r⟩=>absurd (q z h1) (r z h2)⟩,rfl⟩
theorem ζP11{m:Nat}{T:List Int}(h:IsSet m T):((rgL m).map fun t=>if t∈T then (1:Int) else 0).sum=(T.length:Int):=by
 have e:(rgL m).filter (fun t=>decide (t∈T))=T:=ζI4 ((ζD7 m).filter _) (isSet_iff.mp h).2 fun z=>by
  rw[List.mem_filter,decide_eq_true_iff,rgL_mem]
  exact⟨fun q=>q.2,fun q=>⟨h.all z q,q⟩⟩
 have key:∀ l:List Int,(l.map fun t=>if t∈T then (1:Int) else 0).sum=((l.filter fun t=>decide (t∈T)).length:Int):=fun l=>by
  induction l with
  | nil=>rfl
  | cons x l ih =>
   rw[List.map_cons,List.sum_cons,ih,List.filter_cons]
   by_cases c:x∈T
   ·rw[if_pos c,if_pos (decide_eq_true c),List.length_cons];omega
   ·rw[if_neg c,if_neg (by simp[c])];omega
 rw[key,e]
theorem ζ610{l:List Int}{f g:Int->Int}:(l.map fun t=>f t+g t).sum=(l.map f).sum+(l.map g).sum:=by
 induction l with
 | nil=>rfl
 | cons x l ih=>rw[List.map_cons,List.map_cons,List.map_cons,List.sum_cons,List.sum_cons,List.sum_cons,ih];omega
theorem ζc5{m:Nat}{k:Int}:∀ {L:List (List Int)},(∀ T∈L,IsSet m T/\(T.length:Int)=k)->((rgL m).map fun t=>((L.filter fun T=>decide (t∈T)).length:Int)).sum=k * (L.length:Int)
 | [],_=>by
  have:∀ l:List Int,(l.map fun _=>(0:Int)).sum=0:=fun l=>by
   induction l with
   | nil=>rfl
   | cons x l ih=>rw[List.map_cons,List.sum_cons,ih];rfl
  show((rgL m).map fun _=>((([]:List (List Int)).length:Nat):Int)).sum=k * 0
  rw[Int.mul_zero]
  exact this _
 | T :: L,h=>by
  obtain⟨h1,h2⟩:=h T List.mem_cons_self
  have ih:=ζc5 (L:=L) fun U hU=>h U (List.mem_cons_of_mem _ hU)
  have e:((rgL m).map fun t=>(((T :: L).filter fun T=>decide (t∈T)).length:Int))=(rgL m).map fun t=>(if t∈T then (1:Int) else 0)+((L.filter fun T=>decide (t∈T)).length:Int):=by
   refine List.map_congr_left fun t _=>?_
   rw[List.filter_cons]
   by_cases c:t∈T
   ·rw[if_pos (decide_eq_true c),if_pos c,List.length_cons];omega
   ·rw[if_neg (by simp[c]),if_neg c];omega
  rw[e,ζ610,ζP11 h1,ih,h2,List.length_cons]
  rw[show((L.length+1:Nat):Int)=(L.length:Int)+1 by omega,Int.mul_add,Int.mul_one,Int.add_comm]
section
variable{K:PySem.W.Frag}{a:Addr}{xs:List V}{g:TG}{tt:TT}{te:TE}{o:Nat}{fr:List Nat}{σ:St}{H:Hp}{Q:VK}
end
theorem ζo3{α:Type}[DecidableEq α]:∀ {l m:List α},l.Nodup->(∀ x∈l,x∈m)->l.length<=m.length
 | [],_,_,_=>Nat.zero_le _
 | x :: l,m,hn,hs=>by
  have hx:=hs x List.mem_cons_self
  obtain⟨h1,h2⟩:=List.nodup_cons.mp hn
  have:=ζo3 (m:=m.erase x) h2 fun y hy=>(List.mem_erase_of_ne fun e=>h1 (by rw[<- e];exact hy)).mpr (hs y (List.mem_cons_of_mem _ hy))
  rw[List.length_erase_of_mem hx]at this
  have:=List.length_pos_of_mem hx
  rw[List.length_cons]
  omega
section
variable{n:Int}{ps:List (Int × Int)}{I O:List Int}{i b c:Nat}
end
end My
namespace L2
open PySem PySem.Spec PyProof.Rows
section
variable{X:Cx}
theorem ζA4:ζi2 X (.builtin "abs") (fun xs H Q=>∃ z:Int,xs=[.int z]/\Q (.int (if z<0 then -z else z)) H):=by
 intro pins s σ H xs us Q I r h
 obtain⟨z,rfl,q⟩:=h
 obtain⟨u,rfl,ru⟩:=ζh3 r
 obtain⟨t,rfl⟩:=ru
 exact call_abs_int fun u tk=>⟨.int (if z<0 then -z else z),H,I.tok tk,⟨u,rfl⟩,q⟩
end
end L2
namespace My
open PySem L2
theorem TupsV.drop{H:Hp}{xs:List V}{L:List (List Int)}(h:TupsV H xs L)(a:Nat):TupsV H (xs.drop a) (L.drop a):=⟨by rw[List.length_drop,List.length_drop,h.1],fun i l e=>by
 rw[List.getElem?_drop]at e ⊢
 exact h.2 _ l e⟩
theorem TupsV.take{H:Hp}{xs:List V}{L:List (List Int)}(h:TupsV H xs L)(a:Nat):TupsV H (xs.take a) (L.take a):=⟨by rw[List.length_take,List.length_take,h.1],fun i l e=>by
 rw[List.getElem?_take]at e ⊢
 split at e
 ·rename_i c
  rw[if_pos c]
  exact h.2 _ l e
 ·cases e⟩
theorem ζX12{s rest:TS}{D:Ends}{σ:L2.St}{H:Hp}(P:L2.St->Hp->Prop)(h1:∀ σ' H',P σ' H'->rest D σ' H')(h2:∀ K:L2.St->Hp->Prop,(∀ σ' H',P σ' H'->K σ' H')->s { D with nx:=K } σ H):tSeq s rest D σ H:=h2 _ h1
theorem asgC{c:V}{i:Nat}{rest:TS}{D:Ends}{σ:L2.St}{H:Hp}(h:rest D (σ.set i (some c)) H):tSeq (tAsg (tC c) (ζ58 i)) rest D σ H:=h
end My
namespace L2
open PySem PySem.Spec PyProof.Rows
section
variable{X:Cx}
end
end L2
namespace My
open PySem L2
theorem ζv4{m:Nat}(hm:m<=30):∀ k,(cmb (m:Int) k).length<=30 ^ k
 | 0=>Nat.le_refl 1
 | k+1=>by
  have h1:=ζ36 (m:=m) (cmb (m:Int) k) fun s hs=>(cmb_mem.mp hs).2
  have h2:=ζv4 hm k
  have h3:m * (cmb (m:Int) k).length<=30 * 30 ^ k:=Nat.mul_le_mul hm h2
  rw[Nat.pow_succ,Nat.mul_comm]
  exact Nat.le_trans h1 h3
theorem ζt2{n:Int}{ps:List (Int × Int)}{c:Nat}(g:ζE n ps)(h:TC n ps c):c<10 ^ 20:=by
 obtain⟨L,hn,hm,rfl⟩:=h
 obtain⟨g1,g2,g3,_⟩:=g
 refine Nat.lt_of_le_of_lt (m:=30 ^ 13) (Nat.le_trans (ζo3 (m:=cmb (ps.length:Int) (n - 1).toNat) hn fun x hx=>cmb_mem.mpr ⟨?_,((hm x).mp hx).1⟩) (Nat.le_trans (ζv4 (by omega) _) (Nat.pow_le_pow_right (by decide) (by omega)))) (by decide)
 have:=((hm x).mp hx).2.1
 omega
theorem ζG7{n:Int}{ps:List (Int × Int)}{I O:List Int}{c d:Nat}(hc:PC n ps I O c)(hd:TC n ps d):c<=d:=by
 obtain⟨L,hn,hm,rfl⟩:=hc
 obtain⟨M,_,hm2,rfl⟩:=hd
 exact ζo3 hn fun x hx=>(hm2 x).mpr ((hm x).mp hx).1
end My
namespace HT
open PySem PyProof.Rows
section
open PySem.SeqAt
open PySem.AutoSeq1 (wpAny_loadPart')
open PySem.MeetsSeq PySem.MeetsSeq2 PySem.MeetsSeq3
end
section
variable{prog:Program}{w:World}{A:Around}{E:Value->Shared->Prop}{s:Shared}
end
end HT
namespace L2
open PySem PySem.Spec PyProof.Rows
section
variable{X:Cx}
end
end L2
namespace My
open PySem L2
theorem PairsV.ins{H:Hp}{xs:List V}{ps:List (Int × Int)}{v:V}{p:Int × Int}(h:PairsV H xs ps)(hv:PairV H v p)(j:Nat)(hj:j<=ps.length):PairsV H (xs.take j++v :: xs.drop j) (ps.take j++p :: ps.drop j):=by
 have hl:=h.1
 refine⟨by rw[List.length_append,List.length_append,List.length_cons,List.length_cons,List.length_take,List.length_take,List.length_drop,List.length_drop];omega,fun i q e=>?_⟩
 rcases(by omega:i<j\/i=j\/j<i) with c | c | c
 ·rw[List.getElem?_append_left (by rw[List.length_take];omega),List.getElem?_take_of_lt c]at e
  rw[List.getElem?_append_left (by rw[List.length_take];omega),List.getElem?_take_of_lt c]
  exact h.2 i q e
 ·rw[List.getElem?_append_right (by rw[List.length_take];omega),List.length_take,show i - min j ps.length=0 by omega]at e
  rw[List.getElem?_append_right (by rw[List.length_take];omega),List.length_take,show i - min j xs.length=0 by omega]
  obtain rfl:=Option.some.inj e
  exact⟨v,rfl,hv⟩
 ·rw[List.getElem?_append_right (by rw[List.length_take];omega),List.length_take,show i - min j ps.length=(i - j - 1)+1 by omega,List.getElem?_cons_succ,List.getElem?_drop,show j+(i - j - 1)=i - 1 by omega]at e
  rw[List.getElem?_append_right (by rw[List.length_take];omega),List.length_take,show i - min j xs.length=(i - j - 1)+1 by omega,List.getElem?_cons_succ,List.getElem?_drop,show j+(i - j - 1)=i - 1 by omega]
  exact h.2 _ q e
end My
namespace L2
open PySem PySem.Spec PyProof.Rows
section
variable{M:Model}{A:Around}{E:Value->Shared->Prop}{s:Shared}
end
structure CompScopeD (sc0:Scope) (N N':List Str) (o:Nat) (fr:List Nat) (scope:Scope) (xo:Str):Prop where
 kind:scope.kind=.function
 one:(scope.names.filter fun y=>y.2 == .cell)=[(xo,.cell)]
 loc:(scope.names.all fun y=>y.2 != .local || scope.names.lookup y.1 == some .local)=true
 free:(scope.names.all fun y=>y.2 != .free || (y.1 != xo && (sc0.names.lookup y.1 == some .cell || sc0.names.lookup y.1 == some .free)))=true
 len:N'.length=o+fr.length
 sees:((List.range fr.length).all fun j=>match fr[j]? with
  | none=>false
  | some y=>match N[y]? with
   | none=>false
   | some x=>N'[o+j]? == some x && scope.names.lookup x == some .free)=true
section
variable{X:Cx}{pins:List (Addr × Obj)}{σ:St}{H:Hp}{s:Shared}{N':List Str}{o:Nat}{fr:List Nat}{scope:Scope}{fp:List Addr}{xo:Str}
end
section
variable{xo:Str}{X:Cx}{N':List Str}{o:Nat}{fr:List Nat}{scope:Scope}{elt tg iter:Expr}{ifs:List Expr}{pos:Pos}{wi:TI}{g:TG}{tt:TT}{te:TE}
end
end L2
namespace My
open PySem L2
theorem ζv2{f:List Int->Int}{a b:List (List Int)}(h:a.Perm b):(a.map f).sum=(b.map f).sum:=by
 induction h with
 | nil=>rfl
 | cons x _ ih=>rw[List.map_cons,List.map_cons,List.sum_cons,List.sum_cons,ih]
 | swap x y l=>rw[List.map_cons,List.map_cons,List.map_cons,List.map_cons,List.sum_cons,List.sum_cons,List.sum_cons,List.sum_cons];omega
 | trans _ _ i1 i2=>exact i1.trans i2
theorem ζR5(u v i:Nat):(ind u v i).natAbs<=1:=by
 unfold ind
 split <;> split <;> decide
theorem ζN5{B:Nat}:∀ {E:List Ed},(∀ e∈E,e.2.2.natAbs<=B)->∀ i j,(lapE E i j).natAbs<=E.length * B
 | [],_,i,j=>Nat.zero_le _
 | e :: E,h,i,j=>by
  have ih:=ζN5 (fun f hf=>h f (List.mem_cons_of_mem _ hf)) i j
  have h1:=ζR5 e.1 e.2.1 i
  have h2:=ζR5 e.1 e.2.1 j
  have h0:=h e List.mem_cons_self
  have h3:(ind e.1 e.2.1 i * ind e.1 e.2.1 j).natAbs<=1:=by rw[Int.natAbs_mul];exact Nat.mul_le_mul h1 h2
  have h4:(e.2.2 * (ind e.1 e.2.1 i * ind e.1 e.2.1 j)).natAbs<=B:=by
   rw[Int.natAbs_mul]
   have:=Nat.mul_le_mul h0 h3
   omega
  show(e.2.2 * (ind e.1 e.2.1 i * ind e.1 e.2.1 j)+lapE E i j).natAbs<=(e :: E).length * B
  have:=Int.natAbs_add_le (e.2.2 * (ind e.1 e.2.1 i * ind e.1 e.2.1 j)) (lapE E i j)
  rw[List.length_cons,Nat.succ_mul]
  omega
end My
namespace L2
open PySem PySem.Spec PyProof.Rows
section
variable{prog:Program}{w:World}{A:Around}{E:Value->Shared->Prop}{s:Shared}
end
section
variable{prog:Program}{w:World}{A:Around}{E:Value->Shared->Prop}{s:Shared}
end
section
variable{X:Cx}
end
end L2
namespace My
open PySem L2
def ev(b:Int):List Int->Int
 | []=>0
 | d :: l=>d+b * ev b l
theorem ζC6(l:List Int)(x:Int):(l++[x]).sum=l.sum+x:=by
 induction l with
 | nil=>show x+0=0+x;omega
 | cons y l ih=>show y+(l++[x]).sum=y+l.sum+x;omega
end My
namespace L2
open PySem PySem.Spec PyProof.Rows
section
variable{X:Cx}
end
end L2
namespace My
open PySem L2
section
variable{n:Nat}{es:List (Nat × Nat)}(h:InN n es)
include h
end
theorem ζq4{es:List (Nat × Nat)}{φ:Nat->Prop}(h:∀ e∈es,(φ e.1↔φ e.2)){i j:Nat}(c:Conn es i j):φ i↔φ j:=by
 induction c with
 | refl i=>exact Iff.rfl
 | edge q=>exact h _ q
 | symm _ ih=>exact ih.symm
 | trans _ _ i1 i2=>exact i1.trans i2
abbrev lnz(ls:List Int)(z:Int):Int:=ls.getD z.toNat 0
def lwS(ls:List Int)(x:Int):List Int:=(rgL ls.length).filter fun z=>decide (lnz ls z<x)
def mA(N:Nat)(ps:List (Int × Int))(ls:List Int)(x:Int):List Int:=pms N (ζc ps (lwS ls x))
section
variable{n:Int}{ps:List (Int × Int)}{ls T:List Int}(g:ζE n ps)(hl:ls.length=ps.length)
include g hl
end
end My
namespace L2
open PySem PySem.Spec PyProof.Rows
section
variable{prog:Program}{w:World}{A:Around}{E:Value->Shared->Prop}{s:Shared}{l:Addr}{xs:Array (Int × Tok)}
end
section
variable{X:Cx}
end
end L2
namespace My
open PySem L2
section
variable{n:Int}{ps:List (Int × Int)}{ls T:List Int}(g:ζE n ps)(hl:ls.length=ps.length)
include g hl
omit hl in
end
section
variable{n:Int}{ps:List (Int × Int)}{ls Ls S:List Int}{j:Nat}{x:Int}(g:ζE n ps)(hl:ls.length=ps.length)(hLa:Ls.Pairwise (· < ·))(hLm:∀ z,z∈Ls↔z∈ls)(hx:Ls[j]?=some x)
include hLa hx
include g hl hLm
end
section
variable{n:Int}{ps:List (Int × Int)}{ls T:List Int}(g:ζE n ps)
include g
end
end My
namespace L2
open PySem PySem.Spec PyProof.Rows My
section
variable{prog:Program}{w:World}{A:Around}{E:Value->Shared->Prop}{s:Shared}
end
section
variable{X:Cx}
end
section
variable{M:Model}{A:Around}{E:Value->Shared->Prop}{s:Shared}
end
section
variable{prog:Program}{w:World}{A:Around}{E:Value->Shared->Prop}{s:Shared}
end
section
variable{X:Cx}
end
end L2
namespace My
open PySem L2
theorem Wk.cons{n:Int}{ps:List (Int × Int)}{T T':List Int}{o z:Int}(h1:exg n ps T o z)(h2:T'.Perm (wo T o++[z]))(h3:T'.Pairwise (·<=·)){ws:List (Int × Int)}{U:List Int}(h:Wk n ps T' ws U):Wk n ps T ((o,z) :: ws) U:=by
 induction h with
 | nil=>exact Wk.step (ws:=[]) .nil h1 h2 h3
 | step k1 k2 k3 k4 ih=>exact Wk.step (ws:=(o,z) :: _) ih k2 k3 k4
theorem Wk.at{n:Int}{ps:List (Int × Int)}{T0:List Int}{ws:List (Int × Int)}{U:List Int}(h:Wk n ps T0 ws U):∀(i:Nat) (o z:Int),ws[i]?=some (o,z)->∃ T,Wk n ps T0 (ws.take i) T/\exg n ps T o z:=by
 induction h with
 | nil=>intro i o z e;simp at e
 | @step ws T T' o z k1 k2 k3 k4 ih =>
  intro i o' z' e
  by_cases c:i<ws.length
  ·rw[List.getElem?_append_left c]at e
   rw[List.take_append_of_le_length (by omega)]
   exact ih i o' z' e
  ·have hi:=(List.getElem?_eq_some_iff.mp e).1
   rw[List.length_append]at hi
   have hi:i=ws.length:=by have:[(o,z)].length=1:=rfl;omega
   subst hi
   rw[List.getElem?_append_right (Nat.le_refl _),Nat.sub_self]at e
   cases e
   rw[List.take_append_of_le_length (Nat.le_refl _),List.take_length]
   exact⟨T,k1,k2⟩
def putc(A:Mx)(c:Nat)(b:Nat->Int):Mx:=fun i j=>if j=c then b i else A i j
def aug(A:Mx)(b:Nat->Int)(p:Nat):Mx:=fun r j=>match r,j with
 | 0,0=>b p
 | 0,j+1=>A p j
 | r+1,0=>b r
 | r+1,j+1=>A r j
theorem ζV11(j:Nat):sg (j+1) * sg j=-1:=by
 unfold sg
 split <;> split <;> first | rfl | omega
theorem ζz9{n t:Nat}{A:Mx}(h:t<n):det n (fun i k=>A i (rotN 0 t k))=sg t * det n A:=by
 have e:=ζk4 (n:=n) (k:=0) (t:=t) (A:=fun i j=>A j i) (by omega)
 rw[det_T (A:=A)]at e
 rw[<- det_T]
 exact e
theorem ζv11{A:Mx}{b:Nat->Int}{p n:Nat}:det n (mn (aug A b p) 0)=det n A:=ζa fun i k _ _=>rfl
theorem ζI12{A:Mx}{b:Nat->Int}{p n j:Nat}(h:j<n):det n (mn (aug A b p) (j+1))=sg j * det n (putc A j b):=by
 rw[<- ζz9 h]
 refine ζa fun i k _ _=>?_
 show aug A b p (i+1) (sk (j+1) k)=putc A j b i (rotN 0 j k)
 cases k with
 | zero =>
  have e1:sk (j+1) 0=0:=by unfold sk;rw[if_pos (Nat.succ_pos j)]
  have e2:rotN 0 j 0=j:=by unfold rotN;rw[if_neg (Nat.lt_irrefl 0),if_pos rfl,Nat.zero_add]
  rw[e1,e2]
  unfold putc
  rw[if_pos rfl]
  rfl
 | succ k =>
  by_cases c:k+1<j+1
  ·have e1:sk (j+1) (k+1)=k+1:=by unfold sk;rw[if_pos c]
   have e2:rotN 0 j (k+1)=k:=by unfold rotN;rw[if_neg (Nat.not_lt_zero _),if_neg (Nat.succ_ne_zero k),if_pos (by omega)];rfl
   rw[e1,e2]
   unfold putc
   rw[if_neg (by omega)]
   rfl
  ·have e1:sk (j+1) (k+1)=k+2:=by unfold sk;rw[if_neg c]
   have e2:rotN 0 j (k+1)=k+1:=by unfold rotN;rw[if_neg (Nat.not_lt_zero _),if_neg (Nat.succ_ne_zero k),if_neg (by omega)]
   rw[e1,e2]
   unfold putc
   rw[if_neg (by omega)]
   rfl
theorem ζE12{n p:Nat}{A:Mx}{b:Nat->Int}(hp:p<n):sm n (fun j=>A p j * det n (putc A j b))=b p * det n A:=by
 have z:det (n+1) (aug A b p)=0:=ζa8 (a:=0) (b:=p+1) (by omega) (by omega) (by omega) fun j _=>by cases j <;> rfl
 have e:det (n+1) (aug A b p)=sm (n+1) fun j=>sg j * aug A b p 0 j * det n (mn (aug A b p) j):=rfl
 rw[e,ζW]at z
 have e0:sg 0 * aug A b p 0 0 * det n (mn (aug A b p) 0)=b p * det n A:=by
  rw[ζv11]
  show 1 * b p * _=_
  rw[Int.one_mul]
 have e1:sm n (fun j=>sg (j+1) * aug A b p 0 (j+1) * det n (mn (aug A b p) (j+1)))=-1 * sm n (fun j=>A p j * det n (putc A j b)):=by
  rw[<- sm_mul]
  refine ζg fun j hj=>?_
  rw[ζI12 hj]
  show sg (j+1) * A p j * (sg j * _)=-1 * (A p j * _)
  rw[<- ζV11 j]
  generalize sg (j+1)=x
  generalize sg j=y
  generalize A p j=u
  generalize det n (putc A j b)=v
  rw[Int.mul_assoc x u,Int.mul_left_comm u y v,<- Int.mul_assoc x y]
 rw[e0,e1]at z
 omega
def LowF(x y p q:Int):Prop:=0<q/\Int.gcd p q=1/\p * y=x * q
theorem ζ76{a b c:Int}(h:a ∣ b * c)(g:Int.gcd b a=1):a ∣ c:=by
 have h1:a.natAbs ∣ b.natAbs * c.natAbs:=by rw[<- Int.natAbs_mul];exact Int.natAbs_dvd_natAbs.mpr h
 have h2:Nat.Coprime a.natAbs b.natAbs:=by unfold Nat.Coprime;rw[Nat.gcd_comm];exact g
 exact Int.natAbs_dvd_natAbs.mp (h2.dvd_of_dvd_mul_left h1)
theorem ζA3{x y p q p' q':Int}(hy:y≠0)(h:LowF x y p q)(h':LowF x y p' q'):p=p'/\q=q':=by
 obtain⟨q0,g,e⟩:=h
 obtain⟨q0',g',e'⟩:=h'
 have c:p * q'=p' * q:=by
  refine Int.eq_of_mul_eq_mul_right hy ?_
  rw[Int.mul_assoc,Int.mul_comm q' y,<- Int.mul_assoc,e,Int.mul_assoc p',Int.mul_comm q y,<- Int.mul_assoc,e',Int.mul_assoc,Int.mul_assoc,Int.mul_comm q q']
 have d1:q ∣ q':=by
  have:q ∣ p * q':=by rw[c];exact Int.dvd_mul_left p' q
  exact ζ76 this g
 have d2:q' ∣ q:=by
  have:q' ∣ p' * q:=by rw[<- c];exact Int.dvd_mul_left p q'
  exact ζ76 this g'
 have eq:q=q':=Int.dvd_antisymm (by omega) (by omega) d1 d2
 refine⟨?_,eq⟩
 rw[eq]at c
 exact Int.eq_of_mul_eq_mul_right (by omega) c
theorem ζE10{x y d:Int}(hy:y≠0)(hd:d=if y<0 then -(Int.gcd x y:Int) else (Int.gcd x y:Int)):d≠0/\LowF x y (x.fdiv d) (y.fdiv d):=by
 have gp:0<Int.gcd x y:=Int.gcd_pos_of_ne_zero_right _ hy
 have d0:d≠0:=by rw[hd];split <;> omega
 obtain⟨u,hu⟩:=Int.gcd_dvd_left (a:=x) (b:=y)
 obtain⟨v,hv⟩:=Int.gcd_dvd_right (a:=x) (b:=y)
 have cop:Int.gcd u v=1:=by
  have h:=Int.gcd_mul_left (Int.gcd x y:Int) u v
  rw[<- hu,<- hv,Int.natAbs_natCast]at h
  have:Int.gcd x y * 1=Int.gcd x y * Int.gcd u v:=by omega
  exact(Nat.eq_of_mul_eq_mul_left gp this).symm
 by_cases c:y<0
 ·rw[if_pos c]at hd
  have ex:x=d * (-u):=by rw[hd,Int.neg_mul_neg];exact hu
  have ey:y=d * (-v):=by rw[hd,Int.neg_mul_neg];exact hv
  have fx:x.fdiv d=-u:=by rw[ex];exact Int.mul_fdiv_cancel_left _ d0
  have fy:y.fdiv d=-v:=by rw[ey];exact Int.mul_fdiv_cancel_left _ d0
  rw[fx,fy]
  refine⟨d0,?_,by rw[Int.gcd_neg,Int.neg_gcd];exact cop,?_⟩
  ·have:(Int.gcd x y:Int) * v<0:=by omega
   have g0:(0:Int)<(Int.gcd x y:Int):=by omega
   have:v<0:=Int.lt_of_mul_lt_mul_left (a:=(Int.gcd x y:Int)) (by rw[Int.mul_zero];exact this) (by omega)
   omega
  ·have e1:(-u) * y=(-u) * (d * (-v)):=by rw[<- ey]
   have e2:x * (-v)=d * (-u) * (-v):=by rw[<- ex]
   rw[e1,e2,<- Int.mul_assoc,Int.mul_comm (-u) d]
 ·rw[if_neg c]at hd
  have ex:x=d * u:=by rw[hd];exact hu
  have ey:y=d * v:=by rw[hd];exact hv
  have fx:x.fdiv d=u:=by rw[ex];exact Int.mul_fdiv_cancel_left _ d0
  have fy:y.fdiv d=v:=by rw[ey];exact Int.mul_fdiv_cancel_left _ d0
  rw[fx,fy]
  refine⟨d0,?_,cop,?_⟩
  ·have:0<(Int.gcd x y:Int) * v:=by omega
   exact Int.lt_of_mul_lt_mul_left (a:=(Int.gcd x y:Int)) (by rw[Int.mul_zero];exact this) (by omega)
  ·have e1:u * y=u * (d * v):=by rw[<- ey]
   have e2:x * v=d * u * v:=by rw[<- ex]
   rw[e1,e2,<- Int.mul_assoc,Int.mul_comm u d]
def wcL(L:List (List Int))(c:Nat)(bs:List Int):List (List Int):=List.zipWith (fun l x=>l.take c++x :: l.drop (c+1)) L bs
theorem ζs7{L:List (List Int)}{c:Nat}{bs:List Int}(h:bs.length=L.length):(wcL L c bs).length=L.length:=by unfold wcL;rw[List.length_zipWith];omega
theorem ζl8{L:List (List Int)}{c N:Nat}{bs:List Int}(h:∀ l∈L,l.length=N)(hc:c<N):∀ l∈wcL L c bs,l.length=N:=fun l hl=>by
 unfold wcL at hl
 obtain⟨i,hi⟩:=List.getElem?_of_mem hl
 rw[List.getElem?_zipWith]at hi
 cases h1:L[i]? with
 | none=>rw[h1]at hi;cases hi
 | some r =>
  cases h2:bs[i]? with
  | none=>rw[h1,h2]at hi;cases hi
  | some x =>
   rw[h1,h2]at hi
   obtain rfl:=Option.some.inj hi
   have:=h r (List.mem_of_getElem? h1)
   rw[List.length_append,List.length_cons,List.length_take,List.length_drop]
   omega
theorem ζU9{L:List (List Int)}{c N:Nat}{bs:List Int}(hL:L.length=N)(hb:bs.length=N)(h:∀ l∈L,l.length=N)(hc:c<N){i j:Nat}(hi:i<N)(hj:j<N):fnL (wcL L c bs) i j=putc (fnL L) c (fun i=>bs.getD i 0) i j:=by
 obtain⟨l,h1⟩:∃ l,L[i]?=some l:=⟨_,List.getElem?_eq_getElem (by omega)⟩
 obtain⟨x,h2⟩:∃ x,bs[i]?=some x:=⟨_,List.getElem?_eq_getElem (by omega)⟩
 have hr:=h l (List.mem_of_getElem? h1)
 have e:(wcL L c bs)[i]?=some (l.take c++x :: l.drop (c+1)):=by
  unfold wcL
  rw[List.getElem?_zipWith,h1,h2]
 have f1:(wcL L c bs).getD i []=l.take c++x :: l.drop (c+1):=by rw[List.getD_eq_getElem?_getD,e];rfl
 have f2:L.getD i []=l:=by rw[List.getD_eq_getElem?_getD,h1];rfl
 have f3:bs.getD i 0=x:=by rw[List.getD_eq_getElem?_getD,h2];rfl
 unfold putc
 show((wcL L c bs).getD i []).getD j 0=if j=c then bs.getD i 0 else (L.getD i []).getD j 0
 rw[f1,f2,f3]
 rw[List.getD_eq_getElem?_getD]
 by_cases d:j=c
 ·rw[if_pos d,List.getElem?_append_right (by rw[List.length_take];omega),List.length_take,show j - min c l.length=0 by omega]
  rfl
 ·rw[if_neg d,List.getD_eq_getElem?_getD]
  by_cases d2:j<c
  ·rw[List.getElem?_append_left (by rw[List.length_take];omega),List.getElem?_take,if_pos d2]
  ·rw[List.getElem?_append_right (by rw[List.length_take];omega),List.length_take,show j - min c l.length=(j - c - 1)+1 by omega,List.getElem?_cons_succ,List.getElem?_drop,show c+1+(j - c - 1)=j by omega]
theorem ζR11{f:Nat->Int}:∀ {n o:Nat},o<n+1->sm (n+1) f=f o+sm n (fun i=>f (sk o i))
 | 0,o,h=>by
  obtain rfl:o=0:=by omega
  rw[ζW]
  rfl
 | n+1,0,_=>by
  rw[ζW]
  rfl
 | n+1,o+1,h=>by
  rw[ζW,ζR11 (f:=fun i=>f (i+1)) (o:=o) (by omega),ζW (f:=fun i=>f (sk (o+1) i))]
  have e0:sk (o+1) 0=0:=by unfold sk;rw[if_pos (Nat.succ_pos o)]
  have e1:sm n (fun i=>f (sk (o+1) (i+1)))=sm n fun i=>f (sk o i+1):=ζg fun i _=>by
   have:sk (o+1) (i+1)=sk o i+1:=by unfold sk;split <;> split <;> omega
   rw[this]
  rw[e0,e1]
  omega
theorem ζS11{n u v:Nat}(hu:u<n)(hv:v<n):sm n (fun i=>ind u v i)=0:=by
 have one:∀ w,w<n->sm n (fun i=>if i=w then (1:Int) else 0)=1:=fun w hw=>by
  rw[ζl2 hw fun j _ hj=>if_neg hj,if_pos rfl]
 have e:sm n (fun i=>ind u v i)=sm n (fun i=>if i=u then (1:Int) else 0)+-1 * sm n (fun i=>if i=v then (1:Int) else 0):=by
  rw[<- sm_mul,<- ζw1]
  refine ζg fun i _=>?_
  unfold ind
  omega
 rw[e,one u hu,one v hv]
 rfl
theorem ζM5{n:Nat}(j:Nat):∀ {E:List Ed},(∀ e∈E,e.1<n/\e.2.1<n)->sm n (fun i=>lapE E i j)=0
 | [],_=>sm_zero
 | e :: E,h=>by
  have he:=h e List.mem_cons_self
  have ih:=ζM5 (n:=n) j (E:=E) fun f hf=>h f (List.mem_cons_of_mem _ hf)
  show sm n (fun i=>e.2.2 * (ind e.1 e.2.1 i * ind e.1 e.2.1 j)+lapE E i j)=0
  rw[ζw1,ih,Int.add_zero]
  have:sm n (fun i=>e.2.2 * (ind e.1 e.2.1 i * ind e.1 e.2.1 j))=(e.2.2 * ind e.1 e.2.1 j) * sm n (fun i=>ind e.1 e.2.1 i):=by
   rw[<- sm_mul]
   exact ζg fun i _=>by rw[Int.mul_assoc,Int.mul_comm (ind e.1 e.2.1 j)]
  rw[this,ζS11 he.1 he.2,Int.mul_zero]
theorem ζL5{n:Nat}{E:List Ed}(hn:1<=n)(h:∀ e∈E,e.1<n/\e.2.1<n):det n (lapE E)=0:=by
 obtain⟨L,a1,a2,a3⟩:=ζD _ n E rfl fun e he=>by have:=h e he;omega
 cases L with
 | nil=>exact a3.symm
 | cons T L =>
  obtain⟨b1,b2,b3⟩:=(a2 T).mp List.mem_cons_self
  have st:=ζq4 (φ:=fun w=>w<n) (fun e he=>by
   obtain⟨z,hz,rfl⟩:=List.mem_map.mp he
   have zb:=b1.all z hz
   have e1:E.getD z.toNat (0,0,0)=E[z.toNat]'(by omega):=by rw[List.getD_eq_getElem?_getD,List.getElem?_eq_getElem (by omega)];rfl
   have:=h _ (List.getElem_mem (l:=E) (n:=z.toNat) (by omega))
   unfold edE
   rw[e1]
   exact⟨fun _=>this.2,fun _=>this.1⟩) (b3 0 n (by omega) (by omega))
  exact absurd (st.mp (by omega)) (Nat.lt_irrefl _)
theorem ζb4{n:Nat}{E:List Ed}{o:Nat}{T:List Int}(ho:o<n+1)(h:∀ e∈E,e.1<n+1/\e.2.1<n+1)(h1:∀ e∈E,e.2.2=1)(hT:IsT n E T):0<det n (fun i j=>lapE E (sk o i) (sk o j)):=by
 have hE:∀ e∈E++[(o,n+1,(1:Int))],e.1<n+2/\e.2.1<n+2:=fun e he=>by
  rcases List.mem_append.mp he with c | c
  ·have:=h e c;omega
  ·rw[List.mem_singleton.mp c];exact⟨by show o<n+2;omega,by show n+1<n+2;omega⟩
 obtain⟨L,a1,a2,a3⟩:=ζD _ (n+1) (E++[(o,n+1,1)]) rfl hE
 have e1:det (n+1) (lapE (E++[(o,n+1,1)]))=det (n+1) (fun i j=>lapE E i j+1 * ((if i=o then 1 else 0) * (if j=o then 1 else 0))):=ζa fun i j hi hj=>by
  rw[ζD1]
  have hind:∀ a,a<n+1->ind o (n+1) a=if a=o then 1 else 0:=fun a ha=>by
   unfold ind
   rw[if_neg (show ¬ a=n+1 by omega)]
   split <;> rfl
  show _+1 * (ind o (n+1) i * ind o (n+1) j)=_
  rw[hind i hi,hind j hj]
 rw[e1,ζa2 ho,ζL5 (by omega) h,Int.zero_add,Int.one_mul]at a3
 rw[<- a3]
 have w1:∀ e∈E++[(o,n+1,(1:Int))],e.2.2=1:=fun e he=>by
  rcases List.mem_append.mp he with c | c
  ·exact h1 e c
  ·rw[List.mem_singleton.mp c]
 rw[ζn3 fun T hT=>ζx6 w1 ((a2 T).mp hT).1.all]
 have hin:T++[(E.length:Int)]∈L:=(a2 _).mpr (by
  obtain⟨b1,b2,b3⟩:=hT
  refine⟨by rw[List.length_append];exact b1.snoc,by rw[List.length_append,b2];rfl,?_⟩
  rw[ζ32 b1]
  have key:∀ i,i<n+2->Conn (T.map (edE E)++[(o,n+1)]) i o:=fun i hi=>by
   by_cases c:i=n+1
   ·rw[c]
    exact(Conn.edge (List.mem_append_right _ (List.mem_singleton.mpr rfl))).symm
   ·exact(b3 i o (by omega) ho).mono fun e he=>List.mem_append_left _ he
  exact fun i j hi hj=>(key i hi).trans (key j hj).symm)
 have:=List.length_pos_of_mem hin
 omega
abbrev redL(E:List Ed)(o:Nat):Mx:=fun i j=>lapE E (sk o i) (sk o j)
def htN(n:Nat)(E:List Ed)(one o:Nat)(j:Nat):Int:=if j=o then 0 else det n (putc (redL E o) (sh o j) fun a=>if sk o a=one then 1 else 0)
theorem ζh9{n:Nat}{E:List Ed}{one o:Nat}(ho:o<n+1)(h1:one<n+1)(h:∀ e∈E,e.1<n+1/\e.2.1<n+1){p:Nat}(hp:p<n+1) :
  sm (n+1) (fun j=>lapE E p j * htN n E one o j)=det n (redL E o) * ((if p=one then 1 else 0) - (if p=o then 1 else 0)):=by
 have own:htN n E one o o=0:=if_pos rfl
 have atS:∀ c,htN n E one o (sk o c)=det n (putc (redL E o) c fun a=>if sk o a=one then 1 else 0):=fun c=>by
  unfold htN
  rw[if_neg (ζR9 o c),ζC7]
 have row:∀ a,a<n->sm (n+1) (fun j=>lapE E (sk o a) j * htN n E one o j)=(if sk o a=one then 1 else 0) * det n (redL E o):=fun a ha=>by
  rw[ζR11 ho,own,Int.mul_zero,Int.zero_add,<- ζE12 (A:=redL E o) (b:=fun a=>if sk o a=one then 1 else 0) ha]
  exact ζg fun c _=>by rw[atS]
 by_cases c:p=o
 ·have tot:sm (n+1) (fun p=>sm (n+1) (fun j=>lapE E p j * htN n E one o j))=0:=by
   rw[ζY3]
   refine ζv1 fun j _=>?_
   have:sm (n+1) (fun i=>lapE E i j * htN n E one o j)=htN n E one o j * sm (n+1) (fun i=>lapE E i j):=by
    rw[<- sm_mul]
    exact ζg fun i _=>Int.mul_comm _ _
   rw[this,ζM5 j h,Int.mul_zero]
  rw[ζR11 ho,ζg row]at tot
  have e:sm n (fun a=>(if sk o a=one then (1:Int) else 0) * det n (redL E o))=det n (redL E o) * sm n (fun a=>if sk o a=one then (1:Int) else 0):=by
   rw[<- sm_mul]
   exact ζg fun i _=>Int.mul_comm _ _
  rw[e]at tot
  rw[c,if_pos rfl]
  by_cases d:o=one
  ·have z:sm n (fun a=>if sk o a=one then (1:Int) else 0)=0:=ζv1 fun a _=>if_neg fun q=>ζR9 o a (q.trans d.symm)
   rw[z,Int.mul_zero,Int.add_zero]at tot
   rw[tot,if_pos d]
   omega
  ·have hs:sk o (sh o one)=one:=ζz7 fun q=>d q.symm
   have hl:sh o one<n:=by unfold sh;split <;> omega
   have z:sm n (fun a=>if sk o a=one then (1:Int) else 0)=1:=by
    rw[ζl2 hl fun j _ hj=>if_neg fun q=>hj (by rw[<- q,ζC7]),if_pos hs]
   rw[z,Int.mul_one]at tot
   rw[if_neg d]
   omega
 ·have hs:sk o (sh o p)=p:=ζz7 c
  have hl:sh o p<n:=by unfold sh;split <;> omega
  have r:=row (sh o p) hl
  rw[hs]at r
  rw[r,if_neg c,Int.sub_zero,Int.mul_comm]
theorem ζh6{α:Type}{l:List α}{o:Nat}(ho:o<l.length)(a:Nat):(cutz l (o:Int))[a]?=l[sk o a]?:=by
 unfold cutz sk
 rw[Int.toNat_natCast]
 have hl:(l.take o).length=o:=by rw[List.length_take];omega
 by_cases c:a<o
 ·rw[if_pos c,List.getElem?_append_left (by omega),List.getElem?_take,if_pos c]
 ·rw[if_neg c,List.getElem?_append_right (by omega),hl,List.getElem?_drop,show o+1+(a - o)=a+1 by omega]
theorem ζ711{L:List (List Int)}{o N:Nat}(hL:L.length=N)(hr:∀ l∈L,l.length=N)(ho:o<N){a c:Nat}(ha:a+1<N)(hc:c+1<N):fnL ((cutz L (o:Int)).map fun l=>cutz l (o:Int)) a c=fnL L (sk o a) (sk o c):=by
 have h1:sk o a<N:=by unfold sk;split <;> omega
 have h2:sk o c<N:=by unfold sk;split <;> omega
 obtain⟨l,hl⟩:∃ l,L[sk o a]?=some l:=⟨_,List.getElem?_eq_getElem (by omega)⟩
 have ll:=hr l (List.mem_of_getElem? hl)
 obtain⟨x,hx⟩:∃ x,l[sk o c]?=some x:=⟨_,List.getElem?_eq_getElem (by omega)⟩
 rw[ζO1 (l:=cutz l (o:Int)) (x:=x) (by rw[List.getElem?_map,ζh6 (by omega),hl];rfl) (by rw[ζh6 (by omega)];exact hx),ζO1 hl hx]
theorem ζK2{α:Type}{l:List α}{o:Nat}(ho:o<l.length):(cutz l (o:Int)).length+1=l.length:=by
 unfold cutz
 rw[Int.toNat_natCast,List.length_append,List.length_take,List.length_drop]
 omega
def HtF(n:Int)(ps:List (Int × Int))(one o:Nat)(fs:List (Int × Int)):Prop:=fs.length=n.toNat/\∃(W:Int) (h:Nat->Int),0<W/\W.natAbs<=2 ^ 200/\h o=0/\(∀ i,i<n.toNat->(h i).natAbs<=2 ^ 200)/\(∀(i:Nat) (f:Int × Int),fs[i]?=some f->LowF (h i) W f.1 f.2)/\∀ p,p<n.toNat->sm n.toNat (fun j=>lapE (ζ71 ps (List.replicate ps.length 1)) p j * h j)=W * ((if p=one then 1 else 0) - (if p=o then 1 else 0))
theorem ζ42{x W a b:Int}(hW:0<W)(h:LowF x W a b):b<=W/\a.natAbs<=x.natAbs:=by
 obtain⟨h1,h2,h3⟩:=h
 have d:b ∣ W:=ζ76 (b:=a) (by rw[h3];exact Int.dvd_mul_left x b) h2
 have hb:b<=W:=Int.le_of_dvd hW d
 refine⟨hb,?_⟩
 have e:a.natAbs * W.natAbs=x.natAbs * b.natAbs:=by rw[<- Int.natAbs_mul,h3,Int.natAbs_mul]
 have l:x.natAbs * b.natAbs<=x.natAbs * W.natAbs:=Nat.mul_le_mul_left _ (by omega)
 exact Nat.le_of_mul_le_mul_right (by rw[e];exact l) (by omega)
theorem ζF10{x y W a b c d p q:Int}(s:Int)(hW:0<W)(h1:LowF x W a b)(h2:LowF y W c d)(h:LowF (a * d+s * (c * b)) (b * d) p q):LowF (x+s * y) W p q:=by
 obtain⟨q0,g,e⟩:=h
 obtain⟨b0,_,e1⟩:=h1
 obtain⟨d0,_,e2⟩:=h2
 have bd:b * d≠0:=Int.ne_of_gt (Int.mul_pos b0 d0)
 refine⟨q0,g,Int.eq_of_mul_eq_mul_right bd ?_⟩
 have t:(a * d+s * (c * b)) * W=(x+s * y) * (b * d):=by
  rw[Int.add_mul,Int.add_mul]
  have u1:a * d * W=x * (b * d):=by rw[Int.mul_assoc,Int.mul_comm d W,<- Int.mul_assoc,e1,Int.mul_assoc]
  have u2:s * (c * b) * W=s * y * (b * d):=by
   rw[Int.mul_assoc,Int.mul_assoc,Int.mul_assoc s y,Int.mul_comm b W,<- Int.mul_assoc c W b,e2,Int.mul_assoc y d b,Int.mul_comm d b]
  rw[u1,u2]
 have v:p * W * (b * d)=(a * d+s * (c * b)) * W * q:=by
  rw[Int.mul_assoc,Int.mul_comm W,<- Int.mul_assoc,e,Int.mul_assoc,Int.mul_assoc,Int.mul_comm q W]
 rw[v,t,Int.mul_assoc (x+s * y) (b * d) q,Int.mul_comm (b * d) q,<- Int.mul_assoc]
theorem ζR7(i j:Nat):∀ E:List Ed,lapE E i j=lapE E j i
 | []=>rfl
 | e :: E=>by
  show e.2.2 * (ind e.1 e.2.1 i * ind e.1 e.2.1 j)+lapE E i j=e.2.2 * (ind e.1 e.2.1 j * ind e.1 e.2.1 i)+lapE E j i
  rw[ζR7 i j E,Int.mul_comm (ind e.1 e.2.1 i)]
def Hts(n:Nat)(E:List Ed)(a b:Nat)(W:Int)(h:Nat->Int):Prop:=∀ p,p<n->sm n (fun j=>lapE E p j * h j)=W * ((if p=a then 1 else 0) - (if p=b then 1 else 0))
theorem ζw7{n a b:Nat}{g:Nat->Int}{W:Int}(ha:a<n)(hb:b<n):sm n (fun p=>g p * (W * ((if p=a then 1 else 0) - (if p=b then 1 else 0))))=W * (g a - g b):=by
 have one:∀ w,w<n->sm n (fun i=>g i * (if i=w then (1:Int) else 0))=g w:=fun w hw=>by
  rw[ζl2 hw fun j _ hj=>by rw[if_neg hj,Int.mul_zero],if_pos rfl,Int.mul_one]
 have e:sm n (fun p=>g p * (W * ((if p=a then 1 else 0) - (if p=b then 1 else 0))))=W * sm n (fun i=>g i * (if i=a then (1:Int) else 0))+(-W) * sm n (fun i=>g i * (if i=b then (1:Int) else 0)):=by
  rw[<- sm_mul,<- sm_mul,<- ζw1]
  refine ζg fun i _=>?_
  rw[Int.mul_sub,Int.mul_sub,Int.mul_left_comm,Int.mul_left_comm (g i) W,Int.neg_mul]
  rfl
 rw[e,one a ha,one b hb,Int.mul_sub,Int.neg_mul]
 rfl
theorem ζ93{n:Nat}{E:List Ed}{a b c d:Nat}{W X:Int}{h g:Nat->Int}(ha:a<n)(hb:b<n)(hc:c<n)(hd:d<n)(h1:Hts n E a b W h)(h2:Hts n E c d X g):W * (g a - g b)=X * (h c - h d):=by
 have e1:sm n (fun p=>g p * sm n (fun j=>lapE E p j * h j))=W * (g a - g b):=by
  rw[<- ζw7 ha hb]
  exact ζg fun p hp=>by rw[h1 p hp]
 have e2:sm n (fun p=>h p * sm n (fun j=>lapE E p j * g j))=X * (h c - h d):=by
  rw[<- ζw7 hc hd]
  exact ζg fun p hp=>by rw[h2 p hp]
 rw[<- e1,<- e2]
 have f1:sm n (fun p=>g p * sm n (fun j=>lapE E p j * h j))=sm n (fun p=>sm n (fun j=>g p * (lapE E p j * h j))):=ζg fun p _=>sm_mul.symm
 have f2:sm n (fun p=>h p * sm n (fun j=>lapE E p j * g j))=sm n (fun p=>sm n (fun j=>h p * (lapE E p j * g j))):=ζg fun p _=>sm_mul.symm
 rw[f1,f2,ζe5]
 refine ζg fun p _=>ζg fun j _=>?_
 rw[ζR7 j p,Int.mul_left_comm,Int.mul_comm (g j),Int.mul_left_comm (h p)]
theorem ζk7{es:List (Nat × Nat)}{n o:Nat}(hin:∀ e∈es,e.1<n/\e.2<n)(ho:o<n){i j:Nat}(c:Conn (es++[(o,n)]) i j):Conn es (if i=n then o else i) (if j=n then o else j):=by
 induction c with
 | refl i=>exact .refl _
 | @edge a b q =>
  rcases List.mem_append.mp q with q | q
  ·have h1:=hin _ q
   rw[if_neg (show ¬ a=n from fun z=>by have:=h1.1;have:a<n:=this;omega),if_neg (show ¬ b=n from fun z=>by have:=h1.2;have:b<n:=this;omega)]
   exact .edge q
  ·obtain⟨e1,e2⟩:=Prod.mk.inj (List.mem_singleton.mp q)
   rw[e1,e2,if_neg (by omega),if_pos rfl]
   exact .refl _
 | symm _ ih=>exact ih.symm
 | trans _ _ a b=>exact a.trans b
theorem ζ68{E:List Ed}{n:Nat}(h:∀ e∈E,e.1<n/\e.2.1<n){T:List Int}(hT:IsSet E.length T):∀ e∈T.map (edE E),e.1<n/\e.2<n:=fun e he=>by
 obtain⟨z,hz,rfl⟩:=List.mem_map.mp he
 have zb:=hT.all z hz
 have e1:E.getD z.toNat (0,0,0)=E[z.toNat]'(by omega):=by rw[List.getD_eq_getElem?_getD,List.getElem?_eq_getElem (by omega)];rfl
 have:=h _ (List.getElem_mem (l:=E) (n:=z.toNat) (by omega))
 unfold edE
 rw[e1]
 exact this
theorem ζa9{n o:Nat}{E:List Ed}(ho:o<n+1)(h:∀ e∈E,e.1<n+1/\e.2.1<n+1){T:List Int}:IsT (n+1) (E++[(o,n+1,1)]) T↔∃ U,IsT n E U/\T=U++[(E.length:Int)]:=by
 constructor
 ·intro hT
  have hs:=hT.1
  rw[List.length_append]at hs
  rcases ζr3 hs with c | ⟨U,c,c2⟩
  ·have h1:=(ζO5 c).mp hT
   have hlt:=ζ68 h c
   have st:=ζq4 (φ:=fun w=>w<n+1) (fun e he=>⟨fun _=>(hlt e he).2,fun _=>(hlt e he).1⟩) (h1.2.2 0 (n+1) (by omega) (by omega))
   exact absurd (st.mp (by omega)) (Nat.lt_irrefl _)
  ·refine⟨U,⟨c2,?_,fun i j hi hj=>?_⟩,c⟩
   ·have:=hT.2.1
    rw[c,List.length_append,List.length_singleton]at this
    omega
   ·have h1:=hT.2.2 i j (by omega) (by omega)
    rw[c,ζ32 c2]at h1
    have h2:=ζk7 (ζ68 h c2) ho h1
    rw[if_neg (by omega),if_neg (by omega)]at h2
    exact h2
 ·rintro⟨U,⟨b1,b2,b3⟩,rfl⟩
  refine⟨by rw[List.length_append];exact b1.snoc,by rw[List.length_append,b2];rfl,?_⟩
  rw[ζ32 b1]
  have key:∀ i,i<n+2->Conn (U.map (edE E)++[(o,n+1)]) i o:=fun i hi=>by
   by_cases c:i=n+1
   ·rw[c]
    exact(Conn.edge (List.mem_append_right _ (List.mem_singleton.mpr rfl))).symm
   ·exact(b3 i o (by omega) ho).mono fun e he=>List.mem_append_left _ he
  exact fun i j hi hj=>(key i hi).trans (key j hj).symm
theorem ζF5{n:Nat}{E:List Ed}{o:Nat}(ho:o<n+1)(h:∀ e∈E,e.1<n+1/\e.2.1<n+1):TW n E (det n (redL E o)):=by
 have hE:∀ e∈E++[(o,n+1,(1:Int))],e.1<n+2/\e.2.1<n+2:=fun e he=>by
  rcases List.mem_append.mp he with c | c
  ·have:=h e c;omega
  ·rw[List.mem_singleton.mp c];exact⟨by show o<n+2;omega,by show n+1<n+2;omega⟩
 obtain⟨L,a1,a2,a3⟩:=ζD _ (n+1) (E++[(o,n+1,1)]) rfl hE
 have e1:det (n+1) (lapE (E++[(o,n+1,1)]))=det (n+1) (fun i j=>lapE E i j+1 * ((if i=o then 1 else 0) * (if j=o then 1 else 0))):=ζa fun i j hi hj=>by
  rw[ζD1]
  have hind:∀ a,a<n+1->ind o (n+1) a=if a=o then 1 else 0:=fun a ha=>by
   unfold ind
   rw[if_neg (show ¬ a=n+1 by omega)]
   split <;> rfl
  show _+1 * (ind o (n+1) i * ind o (n+1) j)=_
  rw[hind i hi,hind j hj]
 rw[e1,ζa2 ho,ζL5 (by omega) h,Int.zero_add,Int.one_mul]at a3
 obtain⟨M,b1,b2,_⟩:=ζD _ n E rfl h
 refine⟨M,b1,b2,?_⟩
 rw[<- a3]
 have n2:(M.map (·++[(E.length:Int)])).Nodup:=List.Pairwise.map _ (fun x y h c=>h (List.append_cancel_right c)) b1
 have pm:=ζv2 (f:=wtE (E++[(o,n+1,1)])) ((List.perm_ext_iff_of_nodup a1 n2).mpr fun T=>by
  rw[a2,ζa9 ho h,List.mem_map]
  constructor
  ·rintro⟨U,hU,rfl⟩
   exact⟨U,(b2 U).mpr hU,rfl⟩
  ·rintro⟨U,hU,rfl⟩
   exact⟨U,(b2 U).mp hU,rfl⟩)
 rw[pm,List.map_map]
 refine congrArg List.sum (List.map_congr_left fun T hT=>?_)
 have hs:=((b2 T).mp hT).1
 show _=wtE (E++[(o,n+1,1)]) (T++[(E.length:Int)])
 rw[ζr7,ζB11 hs.all]
 show _=_ * (((E++[(o,n+1,(1:Int))]).getD (E.length:Int).toNat (0,0,0)).2.2 * 1)
 rw[ζH2]
 show _=_ * (1 * 1)
 rw[Int.mul_one,Int.mul_one]
theorem ζE2{u v:Nat}{w t:Int}(i j:Nat):∀ {E:List Ed} {z:Nat},E[z]?=some (u,v,w)->lapE (E.set z (u,v,w+t)) i j=lapE E i j+t * (ind u v i * ind u v j)
 | [],z,h=>by cases h
 | e :: E,0,h=>by
  obtain rfl:e=(u,v,w):=Option.some.inj h
  show(w+t) * (ind u v i * ind u v j)+lapE E i j=w * (ind u v i * ind u v j)+lapE E i j+t * (ind u v i * ind u v j)
  rw[Int.add_mul]
  omega
 | e :: E,z+1,h=>by
  have ih:=ζE2 (t:=t) i j (E:=E) (z:=z) h
  show e.2.2 * (ind e.1 e.2.1 i * ind e.1 e.2.1 j)+lapE (E.set z (u,v,w+t)) i j=e.2.2 * (ind e.1 e.2.1 i * ind e.1 e.2.1 j)+lapE E i j+_
  rw[ih,Int.add_assoc]
theorem ζe4{E:List Ed}{z i:Nat}{e:Ed}(hz:z<E.length):(E.set z e).getD i (0,0,0)=if i=z then e else E.getD i (0,0,0):=by
 rw[List.getD_eq_getElem?_getD,List.getD_eq_getElem?_getD]
 by_cases c:i=z
 ·rw[if_pos c,c,List.getElem?_set_self hz]
  rfl
 ·rw[if_neg c,List.getElem?_set_ne (fun q=>c q.symm)]
theorem ζW7{k:Nat}{E:List Ed}{z:Nat}{u v:Nat}{w w':Int}(hz:E[z]?=some (u,v,w)){T:List Int}:IsT k (E.set z (u,v,w')) T↔IsT k E T:=by
 have zl:=(List.getElem?_eq_some_iff.mp hz).1
 have e:edE (E.set z (u,v,w'))=edE E:=by
  funext y
  unfold edE
  rw[ζe4 zl]
  by_cases c:y.toNat=z
  ·rw[if_pos c,c]
   have:E.getD z (0,0,0)=(u,v,w):=by rw[List.getD_eq_getElem?_getD,hz];rfl
   rw[this]
  ·rw[if_neg c]
 unfold IsT
 rw[e,List.length_set]
theorem ζj8{E:List Ed}{z u v:Nat}(hz:E[z]?=some (u,v,1)):∀ {T:List Int},T.Nodup->(∀ x∈T,0<=x)->wtE (E.set z (u,v,1+1)) T=wtE E T+if (z:Int)∈T then wtE E T else 0
 | [],_,_=>rfl
 | x :: T,hn,hp=>by
  have zl:=(List.getElem?_eq_some_iff.mp hz).1
  have x0:=hp x List.mem_cons_self
  obtain⟨n1,n2⟩:=List.nodup_cons.mp hn
  have ih:=ζj8 hz n2 fun y hy=>hp y (List.mem_cons_of_mem _ hy)
  have ez:(E.getD z (0,0,0)).2.2=1:=by rw[List.getD_eq_getElem?_getD,hz];rfl
  show((E.set z (u,v,1+1)).getD x.toNat (0,0,0)).2.2 * wtE (E.set z (u,v,1+1)) T=(E.getD x.toNat (0,0,0)).2.2 * wtE E T+if (z:Int)∈x :: T then (E.getD x.toNat (0,0,0)).2.2 * wtE E T else 0
  rw[ζe4 zl,ih]
  by_cases c:x.toNat=z
  ·have cx:(z:Int)=x:=by omega
   rw[if_pos c,c,ez,if_neg (cx ▸ n1),if_pos (cx ▸ List.mem_cons_self)]
   show(1+1) * (wtE E T+0)=_
   omega
  ·have cx:(z:Int)≠x:=by omega
   rw[if_neg c]
   by_cases d:(z:Int)∈T
   ·rw[if_pos d,if_pos (List.mem_cons_of_mem _ d),Int.mul_add]
   ·rw[if_neg d,if_neg (fun q=>(List.mem_cons.mp q).elim cx d),Int.add_zero,Int.add_zero]
theorem ζu2(f:List Int->Int)(q:List Int->Bool):∀ L:List (List Int),(L.map fun T=>f T+if q T=true then f T else 0).sum=(L.map f).sum+((L.filter q).map f).sum
 | []=>rfl
 | T :: L=>by
  rw[List.map_cons,List.sum_cons,ζu2 f q L,List.map_cons,List.sum_cons,List.filter_cons]
  by_cases c:q T=true
  ·rw[if_pos c,if_pos c,List.map_cons,List.sum_cons]
   omega
  ·rw[if_neg c,if_neg c]
   omega
theorem ζg7{n a:Nat}{A:Mx}{b:Nat->Int}(ha:a<n+1)(hb:∀ i,i<n+1->b i=if i=a then 1 else 0):det (n+1) (putc A a b)=det n (fun i j=>A (sk a i) (sk a j)):=by
 have e1:det (n+1) (putc A a b)=det (n+1) (fun i j=>putr (fun i j=>A j i) a (fun j=>if j=a then 1 else 0) j i):=ζa fun i j hi hj=>by
  unfold putc putr
  by_cases c:j=a
  ·rw[if_pos c,if_pos c]
   exact hb i hi
  ·rw[if_neg c,if_neg c]
 rw[e1,det_T,ζ96 ha]
 exact det_T (A:=fun i j=>A (sk a i) (sk a j))
theorem ζp4{n:Nat}{E:List Ed}(h:∀ e∈E,e.1<n+1/\e.2.1<n+1){z u o:Nat}(hz:E[z]?=some (u,o,1)){L:List (List Int)}(hL:L.Nodup)(hm:∀ T,T∈L↔IsT n E T){W:Int}{f:Nat->Int}(hf:Hts (n+1) E u o W f) :
  W * ((L.filter fun T=>decide ((z:Int)∈T)).map (wtE E)).sum=(L.map (wtE E)).sum * (f u - f o):=by
 have zl:=(List.getElem?_eq_some_iff.mp hz).1
 obtain⟨hu,ho⟩:=h _ (List.mem_of_getElem? hz)
 have hu:u<n+1:=hu
 have ho:o<n+1:=ho
 have same:∀ {s t:Int},TW n E s->(L.map (wtE E)).sum=t->s=t:=fun {s t} ⟨M,m1,m2,m3⟩ ht=>by
  rw[<- ht,<- m3]
  exact ζv2 ((List.perm_ext_iff_of_nodup m1 hL).mpr fun T=>(m2 T).trans (hm T).symm)
 have hD:det n (redL E o)=(L.map (wtE E)).sum:=same (ζF5 ho h) rfl
 have h2:∀ e∈E.set z (u,o,1+1),e.1<n+1/\e.2.1<n+1:=fun e he=>by
  rcases List.mem_or_eq_of_mem_set he with c | c
  ·exact h e c
  ·rw[c];exact⟨hu,ho⟩
 have hD2:det n (redL (E.set z (u,o,1+1)) o)=(L.map (wtE E)).sum+((L.filter fun T=>decide ((z:Int)∈T)).map (wtE E)).sum:=by
  obtain⟨M,m1,m2,m3⟩:=ζF5 ho h2
  rw[<- m3,ζv2 ((List.perm_ext_iff_of_nodup m1 hL).mpr fun T=>(m2 T).trans ((ζW7 hz).trans (hm T).symm)),<- ζu2]
  refine congrArg List.sum (List.map_congr_left fun T hT=>?_)
  have hs:=((hm T).mp hT).1
  rw[ζj8 hz ((isSet_iff.mp hs).2.imp fun h=>Int.ne_of_lt h) fun x hx=>(hs.all x hx).1]
  congr 1
  by_cases c:(z:Int)∈T
  ·rw[if_pos c,if_pos (decide_eq_true c)]
  ·rw[if_neg c,if_neg (by simp[c])]
 by_cases c:u=o
 ·have:redL (E.set z (u,o,1+1)) o=redL E o:=by
   funext i j
   show lapE _ _ _=lapE _ _ _
   rw[ζE2 (t:=1) _ _ hz,c]
   unfold ind
   rw[Int.sub_self,Int.sub_self,Int.mul_zero,Int.mul_zero,Int.add_zero]
  rw[this,hD]at hD2
  rw[show((L.filter fun T=>decide ((z:Int)∈T)).map (wtE E)).sum=0 by omega,c,Int.sub_self,Int.mul_zero,Int.mul_zero]
 ·obtain⟨m,rfl⟩:∃ m,n=m+1:=⟨n - 1,by omega⟩
  have hl:sh o u<m+1:=by unfold sh;split <;> omega
  have hi:∀ i,ind u o (sk o i)=if i=sh o u then 1 else 0:=fun i=>by
   unfold ind
   rw[if_neg (ζR9 o i)]
   by_cases d:i=sh o u
   ·rw[if_pos d,d,ζz7 c,if_pos rfl]
    rfl
   ·rw[if_neg d,if_neg fun q=>d (by rw[<- q,ζC7])]
    rfl
  have e2:det (m+1) (redL (E.set z (u,o,1+1)) o)=det (m+1) (redL E o)+1 * det m (fun i j=>redL E o (sk (sh o u) i) (sk (sh o u) j)):=by
   rw[<- ζa2 hl]
   refine ζa fun i j _ _=>?_
   show lapE _ _ _=lapE _ _ _+_
   rw[ζE2 (t:=1) _ _ hz,hi,hi]
  have gu:htN (m+1) E u o u=det m (fun i j=>redL E o (sk (sh o u) i) (sk (sh o u) j)):=by
   unfold htN
   rw[if_neg c]
   refine ζg7 hl fun i _=>?_
   by_cases d:i=sh o u
   ·rw[if_pos d,d,ζz7 c,if_pos rfl]
   ·rw[if_neg d,if_neg fun q=>d (by rw[<- q,ζC7])]
  have go:htN (m+1) E u o o=0:=if_pos rfl
  have hg:Hts (m+1+1) E u o (det (m+1) (redL E o)) (htN (m+1) E u o):=fun p hp=>ζh9 ho hu h hp
  have sy:=ζ93 hu ho hu ho hf hg
  rw[gu,go,Int.sub_zero,hD]at sy
  rw[hD2,hD]at e2
  rw[<- sy]
  congr 1
  omega
theorem ζC2{x W y X p q:Int}(hW:W≠0)(h:W * y=X * x)(l:LowF x W p q):LowF y X p q:=by
 obtain⟨a,b,c⟩:=l
 refine⟨a,b,Int.eq_of_mul_eq_mul_right hW ?_⟩
 rw[Int.mul_assoc,Int.mul_comm X W,<- Int.mul_assoc,c,Int.mul_assoc x,Int.mul_comm q X,<- Int.mul_assoc,Int.mul_comm x X,<- h,Int.mul_assoc,Int.mul_comm W,Int.mul_assoc y]
abbrev oneE(ps:List (Int × Int)):List Ed:=ζ71 ps (List.replicate ps.length 1)
theorem ζy5{ps:List (Int × Int)}:∀ e∈oneE ps,e.2.2=1:=fun e he=>by
 unfold oneE ζ71 at he
 obtain⟨i,hi⟩:=List.getElem?_of_mem he
 rw[List.getElem?_zipWith]at hi
 cases h1:ps[i]? with
 | none=>rw[h1]at hi;cases hi
 | some p =>
  cases h2:(List.replicate ps.length (1:Int))[i]? with
  | none=>rw[h1,h2]at hi;cases hi
  | some w =>
   rw[h1,h2]at hi
   obtain rfl:=Option.some.inj hi
   exact List.eq_of_mem_replicate (List.mem_of_getElem? h2)
theorem ζz5{ps:List (Int × Int)}{i:Nat}{p:Int × Int}(h:ps[i]?=some p):(oneE ps)[i]?=some (p.1.toNat,p.2.toNat,1):=by
 have:=(List.getElem?_eq_some_iff.mp h).1
 unfold oneE ζ71
 rw[List.getElem?_zipWith,h,List.getElem?_replicate,if_pos this]
theorem ζY10{n:Int}{ps:List (Int × Int)}(g:ζE n ps)(hJ:ζk1 n ps){c d:Nat}(hc:c<n.toNat)(hd:d<n.toNat):∃(X:Int) (f:Nat->Int),0<X/\Hts n.toNat (oneE ps) c d X f:=by
 obtain⟨m,hm⟩:∃ m,m+1=n.toNat:=⟨n.toNat - 1,by omega⟩
 have ein:∀ e∈oneE ps,e.1<m+1/\e.2.1<m+1:=fun e he=>by
  have:=ζ66 g _ e he
  omega
 obtain⟨U,hU,_⟩:=ζa5 g (ζy1 _) hJ
 have hUT:IsT m (oneE ps) U:=by
  have:=(ζ83 (n:=n) (ps:=ps) (ws:=List.replicate ps.length 1) g.1 List.length_replicate).mpr hU
  rw[show(n - 1).toNat=m by omega]at this
  exact this
 refine⟨det m (redL (oneE ps) d),htN m (oneE ps) c d,ζb4 (by omega) ein ζy5 hUT,?_⟩
 rw[<- hm]
 exact fun p hp=>ζh9 (by omega) (by omega) ein hp
theorem ζg9{n:Int}{ps:List (Int × Int)}(g:ζE n ps)(hJ:ζk1 n ps){a b c d:Nat}{W W':Int}{h h':Nat->Int}(ha:a<n.toNat)(hb:b<n.toNat)(hc:c<n.toNat)(hd:d<n.toNat)(h1:Hts n.toNat (oneE ps) a b W h)(h2:Hts n.toNat (oneE ps) a b W' h'):W * (h' c - h' d)=W' * (h c - h d):=by
 obtain⟨X,f,X0,hX⟩:=ζY10 g hJ hc hd
 have e1:=ζ93 ha hb hc hd h1 hX
 have e2:=ζ93 ha hb hc hd h2 hX
 refine Int.eq_of_mul_eq_mul_left (a:=X) (by omega) ?_
 rw[Int.mul_left_comm,<- e2,Int.mul_left_comm X W',<- e1,Int.mul_left_comm]
def LnF(n:Int)(ps:List (Int × Int))(e f:Int × Int)(p q:Int):Prop:=∃(W:Int) (h:Nat->Int),0<W/\W.natAbs<=2 ^ 200/\(∀ i,i<n.toNat->(h i).natAbs<=2 ^ 200)/\Hts n.toNat (oneE ps) e.1.toNat e.2.toNat W h/\LowF (h f.1.toNat - h f.2.toNat) W p q
theorem ζs12{n:Int}{ps:List (Int × Int)}(g:ζE n ps){e f:Int × Int}(he:e∈ps)(hf:f∈ps){p q p' q':Int}(h1:LnF n ps e f p q)(h2:LnF n ps f e p' q'):p=p'/\q=q':=by
 obtain⟨W,h,W0,_,_,hH,l⟩:=h1
 obtain⟨X,k,X0,_,_,hK,l'⟩:=h2
 have:=g.2.2.2 e he
 have:=g.2.2.2 f hf
 exact ζA3 (by omega) (ζC2 (by omega) (ζ93 (by omega) (by omega) (by omega) (by omega) hH hK) l) l'
theorem ζX7{n:Int}{ps:List (Int × Int)}{m:Nat}(hm:m+1=n.toNat)(g1:1<=n){T:List Int}:IsT m (oneE ps) T↔ζH n ps T:=by
 have:=ζ83 (n:=n) (ps:=ps) (ws:=List.replicate ps.length 1) (T:=T) g1 List.length_replicate
 rw[show(n - 1).toNat=m by omega]at this
 exact this
theorem ζz10{n:Int}{ps:List (Int × Int)}{m:Nat}(hm:m+1=n.toNat)(g:ζE n ps):∀ e∈oneE ps,e.1<m+1/\e.2.1<m+1:=fun e he=>by
 have:=ζ66 g _ e he
 have:=g.1
 omega
theorem ζU3{ps:List (Int × Int)}{n:Int}{L:List (List Int)}(hm:∀ l∈L,ζH n ps l):(L.map (wtE (oneE ps))).sum=(L.length:Int) :=
 ζn3 fun T hT=>ζx6 ζy5 fun z hz=>by
  have:=(hm T hT).1.all z hz
  have hl:(oneE ps).length=ps.length:=by unfold oneE ζ71;rw[List.length_zipWith,List.length_replicate];omega
  rw[hl]
  exact this
theorem ζO6{n:Int}{ps:List (Int × Int)}{z:Int}{L:List (List Int)}(h1:L.Nodup)(h2:∀ l,l∈L↔ζH n ps l):PC n ps [z] [] (L.filter fun T=>decide (z∈T)).length :=
 ⟨_,h1.filter _,fun l=>by
  rw[List.mem_filter,decide_eq_true_iff,h2]
  constructor
  ·rintro⟨a,b⟩
   exact⟨a,fun y hy=>by rw[List.mem_singleton.mp hy];exact b,fun y hy=>(by cases hy)⟩
  ·rintro⟨a,b,_⟩
   exact⟨a,b z (List.mem_singleton.mpr rfl)⟩,rfl⟩
theorem ζL2{n:Int}{ps:List (Int × Int)}(g:ζE n ps){z:Nat}{e:Int × Int}(he:ps[z]?=some e){c d:Nat}(hc:PC n ps [(z:Int)] [] c)(hd:TC n ps d){W:Int}{h:Nat->Int}(hH:Hts n.toNat (oneE ps) e.1.toNat e.2.toNat W h):W * (c:Int)=(d:Int) * (h e.1.toNat - h e.2.toNat):=by
 have g1:=g.1
 obtain⟨m,hm⟩:∃ m,m+1=n.toNat:=⟨n.toNat - 1,by omega⟩
 obtain⟨L,l1,l2,rfl⟩:=hd
 obtain rfl:=hc.uniq (ζO6 l1 l2)
 rw[<- hm]at hH
 have:=ζp4 (ζz10 hm g) (ζz5 he) l1 (fun T=>(l2 T).trans (ζX7 hm g1).symm) hH
 rw[ζU3 fun l hl=>(l2 l).mp hl,ζU3 fun l hl=>(l2 l).mp ((List.mem_filter.mp hl).1)]at this
 exact this
theorem ζx7{n u v:Nat}{h:Nat->Int}(hu:u<n)(hv:v<n):sm n (fun j=>ind u v j * h j)=h u - h v:=by
 have pick:∀ w,w<n->sm n (fun j=>(if j=w then (1:Int) else 0) * h j)=h w:=fun w hw=>by
  rw[ζl2 hw fun j _ hj=>by rw[if_neg hj,Int.zero_mul],if_pos rfl,Int.one_mul]
 have:sm n (fun j=>ind u v j * h j)=sm n (fun j=>(if j=u then (1:Int) else 0) * h j)+-1 * sm n (fun j=>(if j=v then (1:Int) else 0) * h j):=by
  rw[<- sm_mul,<- ζw1]
  refine ζg fun j _=>?_
  unfold ind
  rw[Int.sub_mul]
  omega
 rw[this,pick _ hu,pick _ hv]
 omega
theorem ζf9{n:Nat}{E:List Ed}{z a b u o:Nat}{w:Int}(hz:E[z]?=some (a,b,w))(ha:a<n)(hb:b<n){W X:Int}{h k:Nat->Int}(h1:Hts n E a b W h)(h2:Hts n E u o X k) :
  Hts n (E.set z (a,b,w+1)) u o ((W+(h a - h b)) * X) fun j=>(W+(h a - h b)) * k j+(-(k a - k b)) * h j:=fun p hp=>by
 have e1:sm n (fun j=>lapE (E.set z (a,b,w+1)) p j * ((W+(h a - h b)) * k j+(-(k a - k b)) * h j))=((W+(h a - h b)) * sm n (fun j=>lapE E p j * k j)+(-(k a - k b)) * sm n (fun j=>lapE E p j * h j))+(ind a b p * (W+(h a - h b)) * sm n (fun j=>ind a b j * k j)+ind a b p * (-(k a - k b)) * sm n (fun j=>ind a b j * h j)):=by
  rw[<- sm_mul,<- sm_mul,<- sm_mul,<- sm_mul,<- ζw1,<- ζw1,<- ζw1]
  refine ζg fun j _=>?_
  rw[ζE2 (t:=1) p j hz]
  grind
 rw[e1,h1 p hp,h2 p hp,ζx7 ha hb,ζx7 ha hb]
 have e2:ind a b p=(if p=a then 1 else 0) - (if p=b then 1 else 0):=rfl
 rw[<- e2]
 grind
theorem ζi12{n:Int}{ps:List (Int × Int)}{y z:Int}{L:List (List Int)}(h1:L.Nodup)(h2:∀ l,l∈L↔ζH n ps l):PC n ps [y,z] [] ((L.filter fun T=>decide (z∈T)).filter fun T=>decide (y∈T)).length :=
 ⟨_,(h1.filter _).filter _,fun l=>by
  rw[List.mem_filter,List.mem_filter,decide_eq_true_iff,decide_eq_true_iff,h2]
  constructor
  ·rintro⟨⟨a,b⟩,c⟩
   refine⟨a,fun x hx=>?_,fun x hx=>(by cases hx)⟩
   rcases List.mem_cons.mp hx with e | e
   ·rw[e];exact c
   ·rw[List.mem_singleton.mp e];exact b
  ·rintro⟨a,b,_⟩
   exact⟨⟨a,b z (List.mem_cons_of_mem _ List.mem_cons_self)⟩,b y List.mem_cons_self⟩,rfl⟩
theorem ζp11{n:Int}{ps:List (Int × Int)}(g:ζE n ps){y z:Nat}{e f:Int × Int}(he:ps[y]?=some e)(hf:ps[z]?=some f)(hyz:y≠z){cy cz cyz d:Nat}(hy:PC n ps [(y:Int)] [] cy)(hz:PC n ps [(z:Int)] [] cz)(hb:PC n ps [(y:Int),(z:Int)] [] cyz)(hd:TC n ps d)(d0:0<d)
  {W X:Int} {h k:Nat->Int} (W0:0<W) (X0:0<X) (hH:Hts n.toNat (oneE ps) e.1.toNat e.2.toNat W h) (hK:Hts n.toNat (oneE ps) f.1.toNat f.2.toNat X k) :
  (d:Int) * (W * W) * (cyz:Int)=W * W * ((cy:Int) * (cz:Int)) - (d:Int) * (d:Int) * ((h f.1.toNat - h f.2.toNat) * (h f.1.toNat - h f.2.toNat)):=by
 have g1:=g.1
 have e1:=ζL2 g he hy hd hH
 have e2:=ζL2 g hf hz hd hK
 have ge:=g.2.2.2 e (List.mem_of_getElem? he)
 have gf:=g.2.2.2 f (List.mem_of_getElem? hf)
 have e3:=ζ93 (by omega) (by omega) (by omega) (by omega) hH hK
 obtain⟨m,hm⟩:∃ m,m+1=n.toNat:=⟨n.toNat - 1,by omega⟩
 obtain⟨L,l1,l2,rfl⟩:=hd
 obtain rfl:=hy.uniq (ζO6 l1 l2)
 obtain rfl:=hz.uniq (ζO6 l1 l2)
 obtain rfl:=hb.uniq (ζi12 l1 l2)
 have oy:=ζz5 he
 have oz:=ζz5 hf
 have hM:=ζf9 oy (by omega) (by omega) hH hK
 rw[<- hm]at hM
 have hin:∀ q∈(oneE ps).set y (e.1.toNat,e.2.toNat,1+1),q.1<m+1/\q.2.1<m+1:=fun q hq=>by
  rcases List.mem_or_eq_of_mem_set hq with c | c
  ·exact ζz10 hm g q c
  ·rw[c];exact⟨by show e.1.toNat<_;omega,by show e.2.toNat<_;omega⟩
 have sums:∀ M:List (List Int),(∀ l∈M,ζH n ps l)->(M.map (wtE ((oneE ps).set y (e.1.toNat,e.2.toNat,1+1)))).sum=(M.length:Int)+((M.filter fun T=>decide ((y:Int)∈T)).length:Int):=fun M hM=>by
  rw[<- ζU3 hM,<- ζU3 fun l hl=>hM l ((List.mem_filter.mp hl).1),<- ζu2]
  refine congrArg List.sum (List.map_congr_left fun T hT=>?_)
  have hs:=(hM T hT).1
  rw[ζj8 oy ((isSet_iff.mp hs).2.imp fun h=>Int.ne_of_lt h) fun x hx=>(hs.all x hx).1]
  congr 1
  by_cases c:(y:Int)∈T
  ·rw[if_pos c,if_pos (decide_eq_true c)]
  ·rw[if_neg c,if_neg (by simp[c])]
 have cu:=ζp4 hin (z:=z) (u:=f.1.toNat) (o:=f.2.toNat) (by rw[List.getElem?_set_ne hyz];exact oz) l1 (fun T=>(l2 T).trans ((ζX7 hm g1).symm.trans (ζW7 oy).symm)) hM
 rw[sums L fun l hl=>(l2 l).mp hl,sums _ fun l hl=>(l2 l).mp ((List.mem_filter.mp hl).1)]at cu
 generalize hcy:((L.filter fun T=>decide ((y:Int)∈T)).length:Int)=ny at *
 generalize ((L.filter fun T=>decide ((z:Int)∈T)).length:Int)=nz at *
 generalize (((L.filter fun T=>decide ((z:Int)∈T)).filter fun T=>decide ((y:Int)∈T)).length:Int)=nyz at *
 have n0:0<=ny:=by omega
 have D0:0<(L.length:Int):=by omega
 clear hcy
 generalize (L.length:Int)=D at *
 generalize h e.1.toNat - h e.2.toNat=lee at *
 generalize lef0:h f.1.toNat - h f.2.toNat=lef at *
 generalize lff0:k f.1.toNat - k f.2.toNat=lff at *
 generalize k e.1.toNat - k e.2.toNat=lfe at *
 have cu2:(W+lee) * X * (nz+nyz)=(D+ny) * ((W+lee) * lff - lfe * lef):=by
  rw[cu,<- lef0,<- lff0]
  grind
 have key:(X * (D+ny)) * (D * (W * W) * nyz)=(X * (D+ny)) * (W * W * (ny * nz) - D * D * (lef * lef)):=by grind
 exact Int.eq_of_mul_eq_mul_left (Int.ne_of_gt (Int.mul_pos X0 (by omega))) key
theorem ζi9{n:Int}{ps:List (Int × Int)}(g:ζE n ps)(hJ:ζk1 n ps){one o:Nat}(h1:one<n.toNat)(ho:o<n.toNat){fs gs:List (Int × Int)}{W:Int}{h:Nat->Int}(W0:0<W)(hf:HtF n ps one o fs)(low:∀(i:Nat) (f:Int × Int),gs[i]?=some f->LowF (h i) W f.1 f.2) :
  gs=fs↔gs.length=n.toNat/\h o=0/\Hts n.toNat (oneE ps) one o W h:=by
 obtain⟨fl,X,k,X0,_,ko,_,lowk,bal⟩:=hf
 have bal:Hts n.toNat (oneE ps) one o X k:=bal
 constructor
 ·rintro rfl
  have e:∀ i,i<n.toNat->X * h i=W * k i:=fun i hi=>by
   obtain⟨f,hf⟩:∃ f,gs[i]?=some f:=⟨_,List.getElem?_eq_getElem (by omega)⟩
   have a:=(low i f hf).2.2
   have b:=(lowk i f hf).2.2
   have q0:=(low i f hf).1
   refine Int.eq_of_mul_eq_mul_right (Int.ne_of_gt q0) ?_
   grind
  refine⟨fl,?_,fun p hp=>?_⟩
  ·have:=e o ho
   rw[ko,Int.mul_zero]at this
   rcases Int.mul_eq_zero.mp this with z | z
   ·omega
   ·exact z
  ·refine Int.eq_of_mul_eq_mul_left (a:=X) (by omega) ?_
   rw[<- sm_mul]
   have:sm n.toNat (fun j=>X * (lapE (oneE ps) p j * h j))=W * sm n.toNat (fun j=>lapE (oneE ps) p j * k j):=by
    rw[<- sm_mul]
    exact ζg fun j hj=>by rw[Int.mul_left_comm,e j hj,Int.mul_left_comm]
   rw[this,bal p hp,Int.mul_left_comm]
 ·rintro⟨gl,h0,hH⟩
  refine List.ext_getElem? fun i=>?_
  by_cases c:i<n.toNat
  ·obtain⟨f,hf⟩:∃ f,gs[i]?=some f:=⟨_,List.getElem?_eq_getElem (by omega)⟩
   obtain⟨d,hd⟩:∃ d,fs[i]?=some d:=⟨_,List.getElem?_eq_getElem (by omega)⟩
   have e:=ζg9 g hJ h1 ho c ho hH bal
   rw[h0,ko,Int.sub_zero,Int.sub_zero]at e
   obtain⟨e1,e2⟩:=ζA3 (by omega) (ζC2 (by omega) e (low i f hf)) (lowk i d hd)
   rw[hf,hd,Prod.ext e1 e2]
  ·rw[List.getElem?_eq_none (by omega),List.getElem?_eq_none (by omega)]
theorem ζ56{K:PySem.W.Frag}{H:Hp}{p q:Addr}{xs ys:List V}{ps qs:List (Int × Int)}(hp:SqT K H p xs)(hq:SqT K H q ys)(h1:PairsV H xs ps)(h2:PairsV H ys qs):EqD K H 2 (.ref p) (.ref q) (decide (ps=qs)) :=
 ζ46 hp hq (ζq2 h1) (ζq2 h2) fun _ _ _ _=>ζG3
end My
namespace L2
open PySem PySem.Spec PyProof.Rows
section
variable{prog:Program}{w:World}{A:Around}{E:Value->Shared->Prop}{s:Shared}
end
section
variable{prog:Program}{w:World}{A:Around}{E:Value->Shared->Prop}{s:Shared}
end
section
variable{X:Cx}
end
end L2
namespace My
open PySem L2
section
variable{K:PySem.W.Frag}{kd:Bool}{a b:Addr}{xs ys:List V}{g:TG}{tt:TT}{te:TE}{o:Nat}{fr:List Nat}{σ:St}{H:Hp}{Q:VK}
end
section
variable{K:PySem.W.Frag}{kd:Bool}{a b:Addr}{xs ys:List V}{g:TG}{tt:TT}{te:TE}{o:Nat}{fr:List Nat}{σ:St}{H:Hp}{Q:VK}
end
end My
namespace L2
open PySem PySem.Spec PyProof.Rows
section
variable{prog:Program}{w:World}{A:Around}{E:Value->Shared->Prop}{s:Shared}
end
section
variable{X:Cx}
end
section
variable{prog:Program}{w:World}{A:Around}{E:Value->Shared->Prop}{s:Shared}
end
section
variable{X:Cx}{p p2 pos pos2:Pos}{e:Expr}{t:TA}
end
end L2
namespace My
open PySem L2
section
variable{K:PySem.W.Frag}{kd:Bool}{a:Addr}{xs:List V}{g:TG}{tt:TT}{te:TE}{o:Nat}{fr:List Nat}{σ:St}{H:Hp}{Q:VK}
end
end My
namespace HT
open PySem PyProof.Rows
section
open PySem.SeqAt
open PySem.AutoSeq1 (wpAny_loadPart')
open PySem.MeetsSeq PySem.MeetsSeq2 PySem.MeetsSeq3
end
section
variable{prog:Program}{w:World}{A:Around}{E:Value->Shared->Prop}{s:Shared}
end
end HT
namespace My
open PySem L2
end My
namespace L2
open PySem PySem.Spec PyProof.Rows
section
variable{prog:Program}{w:World}{A:Around}{I S:Addr}{fp wr:List Addr}{n:Nat}{P:Nat->Value->Prop}{St:Nat->Heap->Prop}{R:Result->Shared->Prop}
end
section
variable{X:Cx}
end
section
variable{prog:Program}{w:World}{A:Around}{E:Value->Shared->Prop}{s:Shared}
end
section
variable{X:Cx}
end
end L2
namespace My
open PySem L2
def bkD(d:Int):Int:=if d % 2=0 then d+1 else d - 1
def ownD(ps:List (Int × Int))(x:Int):Int:=if x % 2=0 then (ps.getD (x / 2).toNat (0,0)).1 else (ps.getD (x / 2).toNat (0,0)).2
def dtU(ps:List (Int × Int))(p:Int):Nat->List Int
 | 0=>[]
 | i+1=>dtU ps p i++(if (ps.getD i (0,0)).1=p then [2 * (i:Int)] else [])++(if (ps.getD i (0,0)).2=p then [2 * (i:Int)+1] else [])
def dts(ps:List (Int × Int))(p:Int):List Int:=dtU ps p ps.length
theorem dtU_mem{ps:List (Int × Int)}{p x:Int}:∀ {i:Nat},x∈dtU ps p i↔(0<=x/\x<2 * (i:Int))/\ownD ps x=p
 | 0=>by
  constructor
  ·intro h;cases h
  ·rintro⟨h,_⟩;omega
 | i+1=>by
  have e0:ownD ps (2 * (i:Int))=(ps.getD i (0,0)).1:=by
   unfold ownD
   rw[if_pos (by omega),show(2 * (i:Int) / 2).toNat=i by omega]
  have e1:ownD ps (2 * (i:Int)+1)=(ps.getD i (0,0)).2:=by
   unfold ownD
   rw[if_neg (by omega),show((2 * (i:Int)+1) / 2).toNat=i by omega]
  show x∈dtU ps p i++(if (ps.getD i (0,0)).1=p then [2 * (i:Int)] else [])++(if (ps.getD i (0,0)).2=p then [2 * (i:Int)+1] else [])↔_
  rw[List.mem_append,List.mem_append,dtU_mem]
  constructor
  ·rintro((⟨h1,h2⟩ | h) | h)
   ·exact⟨⟨h1.1,by omega⟩,h2⟩
   ·split at h
    ·rename_i hp
     rw[List.mem_singleton.mp h]
     exact⟨⟨by omega,by omega⟩,e0.trans hp⟩
    ·cases h
   ·split at h
    ·rename_i hp
     rw[List.mem_singleton.mp h]
     exact⟨⟨by omega,by omega⟩,e1.trans hp⟩
    ·cases h
  ·rintro⟨⟨h1,h2⟩,h3⟩
   by_cases c:x<2 * (i:Int)
   ·exact .inl (.inl ⟨⟨h1,c⟩,h3⟩)
   ·by_cases c2:x=2 * (i:Int)
    ·subst c2
     rw[e0]at h3
     rw[if_pos h3]
     exact .inl (.inr (List.mem_singleton.mpr rfl))
    ·have c3:x=2 * (i:Int)+1:=by omega
     subst c3
     rw[e1]at h3
     rw[if_pos h3]
     exact .inr (List.mem_singleton.mpr rfl)
theorem ζ78{ps:List (Int × Int)}{p:Int}:∀ i,(dtU ps p i).Pairwise (· < ·)
 | 0=>.nil
 | i+1=>by
  show(dtU ps p i++(if (ps.getD i (0,0)).1=p then [2 * (i:Int)] else [])++(if (ps.getD i (0,0)).2=p then [2 * (i:Int)+1] else [])).Pairwise _
  refine List.pairwise_append.mpr ⟨List.pairwise_append.mpr ⟨ζ78 i,by split <;> simp,fun a ha b hb=>?_⟩,by split <;> simp,fun a ha b hb=>?_⟩
  ·have:=(dtU_mem.mp ha).1
   split at hb
   ·rw[List.mem_singleton.mp hb];exact this.2
   ·cases hb
  ·split at hb
   ·rw[List.mem_singleton.mp hb]
    rcases List.mem_append.mp ha with h | h
    ·have:=(dtU_mem.mp h).1
     omega
    ·split at h
     ·rw[List.mem_singleton.mp h];omega
     ·cases h
   ·cases hb
theorem ζe11{ps:List (Int × Int)}{p x:Int}:x∈dts ps p↔(0<=x/\x<2 * (ps.length:Int))/\ownD ps x=p:=dtU_mem
theorem ζf11{ps:List (Int × Int)}{p:Int}:(dts ps p).Pairwise (· < ·):=ζ78 _
def VT(n:Nat)(ps:List (Int × Int))(ts:List (List Int)):Prop:=ts.length=n/\∀(p:Nat) (row:List Int),ts[p]?=some row->row.Perm (dts ps (p:Int))
theorem ζJ12{l:List Int}(h:l.Pairwise (· < ·)):l.Nodup:=h.imp fun h=>by omega
section
variable{n:Nat}{ps:List (Int × Int)}{ts:List (List Int)}
theorem VT.mem(h:VT n ps ts){p:Nat}{row:List Int}(hp:ts[p]?=some row){x:Int}:x∈row↔(0<=x/\x<2 * (ps.length:Int))/\ownD ps x=p:=by
 rw[(h.2 p row hp).mem_iff,ζe11]
theorem VT.nodup(h:VT n ps ts){p:Nat}{row:List Int}(hp:ts[p]?=some row):row.Nodup:=(h.2 p row hp).nodup_iff.mpr (ζJ12 ζf11)
end
def bhR(row:List Int)(k:Nat):List (Int × Int):=(List.range k).map fun i=>(bkD (row.getD i 0),row.getD ((i+1) % row.length) 0)
def bhL(ts:List (List Int)):List (Int × Int):=ts.flatMap fun row=>bhR row row.length
theorem bhL_mem{ts:List (List Int)}{x y:Int}:(x,y)∈bhL ts↔∃ row∈ts,∃ i,i<row.length/\x=bkD (row.getD i 0)/\y=row.getD ((i+1) % row.length) 0:=by
 unfold bhL bhR
 rw[List.mem_flatMap]
 constructor
 ·rintro⟨row,hr,h⟩
  obtain⟨i,hi,e⟩:=List.mem_map.mp h
  cases e
  exact⟨row,hr,i,List.mem_range.mp hi,rfl,rfl⟩
 ·rintro⟨row,hr,i,hi,rfl,rfl⟩
  exact⟨row,hr,List.mem_map.mpr ⟨i,List.mem_range.mpr hi,rfl⟩⟩
theorem ζY5{l:List Int}{i:Nat}(h:i<l.length):l.getD i 0∈l:=by
 rw[List.getD_eq_getElem?_getD,List.getElem?_eq_getElem h]
 exact List.getElem_mem h
theorem ζm9{l:List Int}(hn:l.Nodup){i j:Nat}(hi:i<l.length)(hj:j<l.length)(e:l.getD i 0=l.getD j 0):i=j:=by
 rw[List.getD_eq_getElem?_getD,List.getD_eq_getElem?_getD,List.getElem?_eq_getElem hi,List.getElem?_eq_getElem hj]at e
 exact(List.getElem_inj hn).mp e
section
variable{n:Nat}{ps:List (Int × Int)}{ts:List (List Int)}
theorem ζ212(h:VT n ps ts){r1 r2:List Int}(h1:r1∈ts)(h2:r2∈ts){x:Int}(hx1:x∈r1)(hx2:x∈r2):r1=r2:=by
 obtain⟨p,hp⟩:=List.getElem?_of_mem h1
 obtain⟨q,hq⟩:=List.getElem?_of_mem h2
 have a:=((h.mem hp).mp hx1).2
 have b:=((h.mem hq).mp hx2).2
 have:p=q:=by omega
 subst this
 rw[hp]at hq
 exact Option.some.inj hq
theorem ζr12(h:VT n ps ts){r:List Int}(hr:r∈ts):r.Nodup:=by
 obtain⟨p,hp⟩:=List.getElem?_of_mem hr
 exact h.nodup hp
theorem ζG12(h:VT n ps ts){x y z:Int}(h1:(x,z)∈bhL ts)(h2:(y,z)∈bhL ts):x=y:=by
 obtain⟨r1,hr1,i,hi,rfl,e1⟩:=bhL_mem.mp h1
 obtain⟨r2,hr2,j,hj,rfl,e2⟩:=bhL_mem.mp h2
 have e:=e1.symm.trans e2
 have p1:(i+1) % r1.length<r1.length:=Nat.mod_lt _ (by omega)
 have p2:(j+1) % r2.length<r2.length:=Nat.mod_lt _ (by omega)
 obtain rfl:=ζ212 h hr1 hr2 (ζY5 p1) (by rw[e];exact ζY5 p2)
 have k:=ζm9 (ζr12 h hr1) p1 p2 e
 have:i=j:=by
  by_cases c1:i+1=r1.length
  ·by_cases c2:j+1=r1.length
   ·omega
   ·rw[c1,Nat.mod_self,Nat.mod_eq_of_lt (by omega)]at k
    omega
  ·by_cases c2:j+1=r1.length
   ·rw[c2,Nat.mod_self,Nat.mod_eq_of_lt (by omega)]at k
    omega
   ·rw[Nat.mod_eq_of_lt (by omega),Nat.mod_eq_of_lt (by omega)]at k
    omega
 rw[this]
end
def Orb(B:List (Int × Int))(d:Int)(row:List Int):Prop:=row[0]?=some d/\row.Nodup/\(∀ i x y,row[i]?=some x->row[i+1]?=some y->(x,y)∈B)/\∀ x,row[row.length - 1]?=some x->(x,d)∈B
theorem Orb.pos{B:List (Int × Int)}{d:Int}{row:List Int}(h:Orb B d row):0<row.length:=(List.getElem?_eq_some_iff.mp h.1).1
theorem Orb.ahead{B:List (Int × Int)}(hi:∀ x y z,(x,z)∈B->(y,z)∈B->x=y){d:Int}{row:List Int}(h:Orb B d row){x y:Int}(hy:y∈row)(hb:(x,y)∈B):x∈row:=by
 obtain⟨i,hi'⟩:=List.getElem?_of_mem hy
 have p:=h.pos
 cases i with
 | zero =>
  rw[h.1]at hi'
  have e:d=y:=Option.some.inj hi'
  obtain⟨z,hz⟩:∃ z,row[row.length - 1]?=some z:=⟨_,List.getElem?_eq_getElem (by omega)⟩
  rw[hi _ _ _ hb (e ▸ h.2.2.2 z hz)]
  exact List.mem_of_getElem? hz
 | succ i =>
  have lt:=(List.getElem?_eq_some_iff.mp hi').1
  obtain⟨z,hz⟩:∃ z,row[i]?=some z:=⟨_,List.getElem?_eq_getElem (by omega)⟩
  rw[hi _ _ _ hb (h.2.2.1 i z y hz hi')]
  exact List.mem_of_getElem? hz
def Way(B:List (Int × Int))(d c:Int)(row:List Int):Prop:=row.Nodup/\(∀ i x y,row[i]?=some x->row[i+1]?=some y->(x,y)∈B)/\((row=[]/\c=d)\/(row[0]?=some d/\∀ x,row[row.length - 1]?=some x->(x,c)∈B))
theorem Way.snoc{B:List (Int × Int)}{d c e:Int}{row:List Int}(h:Way B d c row)(hn:c∉row)(hb:(c,e)∈B):Way B d e (row++[c]):=by
 obtain⟨h1,h2,h3⟩:=h
 refine⟨ζa4 h1 hn,fun i x y ex ey=>?_,.inr ⟨?_,fun x ex=>?_⟩⟩
 ·have lt:=(List.getElem?_eq_some_iff.mp ey).1
  rw[List.length_append,List.length_singleton]at lt
  by_cases c1:i+1<row.length
  ·rw[List.getElem?_append_left (by omega)]at ex
   rw[List.getElem?_append_left c1]at ey
   exact h2 i x y ex ey
  ·rw[List.getElem?_append_left (by omega)]at ex
   rw[List.getElem?_append_right (by omega),show i+1 - row.length=0 by omega]at ey
   have ey:c=y:=Option.some.inj ey
   rcases h3 with ⟨rfl,_⟩ | ⟨_,h3⟩
   ·simp at ex
   ·rw[<- ey]
    exact h3 x (by rw[show row.length - 1=i by omega];exact ex)
 ·rcases h3 with ⟨rfl,rfl⟩ | ⟨h3,_⟩
  ·rfl
  ·rw[List.getElem?_append_left (List.getElem?_eq_some_iff.mp h3).1];exact h3
 ·rw[List.length_append,List.length_singleton,Nat.add_sub_cancel,List.getElem?_append_right (Nat.le_refl _),Nat.sub_self]at ex
  have ex:c=x:=Option.some.inj ex
  rw[<- ex];exact hb
def Rds(B:List (Int × Int)):Nat->List (List Int)->Prop
 | 0,R=>R=[]
 | k+1,R=>∃ R',Rds B k R'/\(((k:Int)∈R'.flatten/\R=R')\/((k:Int)∉R'.flatten/\∃ row,Orb B k row/\R=R'++[row]))
theorem Rds.orbs{B:List (Int × Int)}:∀ {k:Nat} {R:List (List Int)},Rds B k R->∀ row∈R,∃ d,Orb B d row
 | 0,_,h,row,hr=>by rw[show _=[] from h]at hr;cases hr
 | k+1,_,⟨Q,a,b⟩,row,hr=>by
  rcases b with ⟨_,rfl⟩ | ⟨_,r,o,rfl⟩
  ·exact Rds.orbs a row hr
  ·rcases List.mem_append.mp hr with e | e
   ·exact Rds.orbs a row e
   ·rw[List.mem_singleton.mp e];exact⟨_,o⟩
theorem Rds.below{B:List (Int × Int)}:∀ {k:Nat} {R:List (List Int)},Rds B k R->∀ x:Int,0<=x->x<(k:Int)->x∈R.flatten
 | 0,_,_,x,h0,h1=>by omega
 | k+1,_,⟨Q,a,b⟩,x,h0,h1=>by
  rcases b with ⟨c,rfl⟩ | ⟨_,r,o,rfl⟩
  ·by_cases e:x=(k:Int)
   ·rw[e];exact c
   ·exact Rds.below a x h0 (by omega)
  ·rw[List.flatten_append,List.mem_append]
   by_cases e:x=(k:Int)
   ·rw[e]
    refine .inr ?_
    simp only [List.flatten_cons,List.flatten_nil,List.append_nil]
    exact List.mem_of_getElem? o.1
   ·exact .inl (Rds.below a x h0 (by omega))
theorem Rds.ahead{B:List (Int × Int)}(hi:∀ x y z,(x,z)∈B->(y,z)∈B->x=y){k:Nat}{R:List (List Int)}(h:Rds B k R){x y:Int}(hy:y∈R.flatten)(hb:(x,y)∈B):x∈R.flatten:=by
 obtain⟨row,hr,hm⟩:=List.mem_flatten.mp hy
 obtain⟨d,o⟩:=h.orbs row hr
 exact List.mem_flatten.mpr ⟨row,hr,o.ahead hi hm hb⟩
theorem ζQ6{B:List (Int × Int)}{M:Int}(hr:∀ x y,(x,y)∈B->(0<=x/\x<M)/\0<=y/\y<M){d:Int}{row:List Int}(h:Orb B d row):∀ x∈row,0<=x/\x<M:=fun x hx=>by
 obtain⟨i,hi⟩:=List.getElem?_of_mem hx
 have lt:=(List.getElem?_eq_some_iff.mp hi).1
 by_cases c:i+1<row.length
 ·obtain⟨y,hy⟩:∃ y,row[i+1]?=some y:=⟨_,List.getElem?_eq_getElem c⟩
  exact(hr _ _ (h.2.2.1 i x y hi hy)).1
 ·exact(hr _ _ (h.2.2.2 x (by rw[show row.length - 1=i by omega];exact hi))).1
theorem Rds.nodup{B:List (Int × Int)}(hi:∀ x y z,(x,z)∈B->(y,z)∈B->x=y):∀ {k:Nat} {R:List (List Int)},Rds B k R->R.flatten.Nodup
 | 0,_,h=>by rw[show _=[] from h];exact .nil
 | k+1,_,⟨Q,a,b⟩=>by
  rcases b with ⟨_,rfl⟩ | ⟨c,r,o,rfl⟩
  ·exact Rds.nodup hi a
  ·rw[List.flatten_append]
   simp only [List.flatten_cons,List.flatten_nil,List.append_nil]
   refine List.nodup_append.mpr ⟨Rds.nodup hi a,o.2.1,fun x hx y hy e=>?_⟩
   subst e
   obtain⟨i,hi'⟩:=List.getElem?_of_mem hy
   have back:∀(i:Nat) (x:Int),r[i]?=some x->x∈Q.flatten->(k:Int)∈Q.flatten:=by
    intro i
    induction i with
    | zero=>intro x e hx;rw[o.1]at e;cases e;exact hx
    | succ i ih =>
     intro x e hx
     have lt:=(List.getElem?_eq_some_iff.mp e).1
     obtain⟨z,hz⟩:∃ z,r[i]?=some z:=⟨_,List.getElem?_eq_getElem (by omega)⟩
     exact ih z hz (a.ahead hi hx (o.2.2.1 i z x hz e))
   exact c (back i x hi' hx)
end My
namespace L2
open PySem PySem.Spec PyProof.Rows
section
variable{X:Cx}
end
end L2
namespace My
open PySem L2
def Kys(kvs:List (Key × V))(S:List Int):Prop:=∀ x:Int,(valV kvs (Sum.inl x)).isSome=true↔x∈S
theorem Kys.nil:Kys [] []:=fun x=>by
 constructor
 ·intro h;rw[ζn8]at h;cases h
 ·intro h;cases h
structure JagAt (H0:Hp) (r:Addr) (H:Hp) (ys:List V) (L:List (List Int)):Prop where
 tab:H r=some (.lst ys)
 rows:Bears (LiV r H) ys L
 nd:ys.Nodup
 new:∀ A,V.ref A∈ys->H0 A=none
theorem JagAt.at{H0 H:Hp}{r:Addr}{ys:List V}{L:List (List Int)}(h:JagAt H0 r H ys L){i:Nat}(hi:i<L.length):∃(A:Addr) (l:List Int),ys[i]?=some (.ref A)/\L[i]?=some l/\H A=some (.lst (IL l))/\H0 A=none/\A≠r:=by
 obtain⟨l,e⟩:∃ l,L[i]?=some l:=⟨_,List.getElem?_eq_getElem hi⟩
 obtain⟨v,e1,A,rfl,e2,e3⟩:=h.rows.2 i l e
 exact⟨A,l,e1,e,e2,h.new A (List.mem_of_getElem? e1),e3⟩
theorem JagAt.nil{H0:Hp}{r:Addr}{H:Hp}(h:H r=some (.lst [])):JagAt H0 r H [] []:=⟨h,⟨rfl,fun i l e=>by simp at e⟩,.nil,fun A h=>by cases h⟩
theorem JagAt.snoc{H0 H:Hp}{r A:Addr}{ys:List V}{L:List (List Int)}{l:List Int}(h:JagAt H0 r H ys L)(hA:H A=some (.lst (IL l)))(h0:H0 A=none)(hne:A≠r)(hny:V.ref A∉ys):JagAt H0 r (upd H r (.lst (ys++[.ref A]))) (ys++[.ref A]) (L++[l]):=by
 refine⟨ζ1,?_,ζa4 h.nd hny,fun B hB=>?_⟩
 ·exact(h.rows.imp fun _ _ q=>q.mut).snoc ⟨A,rfl,by rw[ζ9 hne];exact hA,hne⟩
 ·rcases List.mem_append.mp hB with e | e
  ·exact h.new B e
  ·have:B=A:=by simpa using e
   rw[this];exact h0
def RdW(ps:List (Int × Int))(ts:List (List Int))(R:List (List Int)):Prop:=(ps.length=0/\R=[[]])\/(0<ps.length/\Rds (bhL ts) (2 * ps.length) R)
theorem Rds.range{B:List (Int × Int)}{M:Int}(hr:∀ x y,(x,y)∈B->(0<=x/\x<M)/\0<=y/\y<M){k:Nat}{R:List (List Int)}(h:Rds B k R):∀ x∈R.flatten,0<=x/\x<M:=fun x hx=>by
 obtain⟨row,h1,h2⟩:=List.mem_flatten.mp hx
 obtain⟨d,o⟩:=h.orbs row h1
 exact ζQ6 hr o x h2
section
variable{n:Nat}{ps:List (Int × Int)}{ts:List (List Int)}
end
def plR(row:List Int)(k:Int):List (Int × Int):=row.map fun d=>(d,k)
def plL(ts:List (List Int)):Nat->List (Int × Int)
 | 0=>[]
 | i+1=>plL ts i++plR (ts.getD i []) i
end My
namespace L2
open PySem PySem.Spec PyProof.Rows
section
variable{X:Cx}{a b c:Expr}{ta tb tc:TE}{pos:Pos}
end
end L2
namespace My
open PySem L2
def Flat(n:Int)(ps:List (Int × Int))(R:List (List Int)):Prop:=ζk1 n ps/\n - (ps.length:Int)+(R.length:Int)=2
def rnR(R:List (List Int))(d:Int):Int:=((plL R R.length).find? fun p=>decide (p.1=d)).elim 0 (·.2)
def owT(R:List (List Int))(m:Nat):List (Int × Int):=(List.range m).map fun(k:Nat)=>(rnR R (2 * (k:Int)),rnR R (2 * (k:Int)+1))
theorem RdW.nodup{n:Nat}{ps:List (Int × Int)}{ts R:List (List Int)}(hV:VT n ps ts)(h:RdW ps ts R):R.flatten.Nodup:=by
 rcases h with ⟨_,rfl⟩ | ⟨_,h⟩
 ·exact .nil
 ·exact h.nodup fun x y z=>ζG12 hV
theorem RdW.all{n:Nat}{ps:List (Int × Int)}{ts R:List (List Int)}(hV:VT n ps ts)(h:RdW ps ts R){x:Int}(hx:0<=x/\x<2 * (ps.length:Int)):x∈R.flatten:=by
 rcases h with ⟨h0,_⟩ | ⟨_,h⟩
 ·omega
 ·exact h.below x hx.1 (by omega)
end My
namespace L2
open PySem PySem.Spec PyProof.Rows
section
variable{X:Cx}
end
end L2
namespace My
open PySem L2
section
variable{n:Nat}{ps:List (Int × Int)}{ts R L:List (List Int)}
end
section
variable{one d0 d1:Int}{other:Option Int}
def hdD(one:Int)(other:Option Int)(d0 d1 y:Int):Int:=if y=one then d0 else if some y=other then d1 else y
end
section
variable{B B':List (Int × Int)}{one d0 d1:Int}{other:Option Int}
section
variable{M:Nat}{L:List (List Int)}
end
end
section
variable{n:Nat}{ps:List (Int × Int)}{ts:List (List Int)}
end
section
variable{n:Nat}{ps:List (Int × Int)}{ts R D:List (List Int)}
end
section
variable{n:Nat}{ps:List (Int × Int)}{ts R D:List (List Int)}
end
section
variable{n:Nat}{ps:List (Int × Int)}{ts R D:List (List Int)}
end
structure Back (n:Nat) (ps:List (Int × Int)) (ts R D:List (List Int)):Prop where
 flat:Flat n ps R
 few:R.length<=14
 rows:∀ l∈R,l.length<64
 good:ζE R.length (owT R ps.length)
 vt:VT R.length (owT R ps.length) R
 rds:RdW (owT R ps.length) R D
 flat2:Flat R.length (owT R ps.length) D
 len:D.length=n
 good2:ζE n (owT D ps.length)
 tc:∀ c,TC n ps c->TC n (owT D ps.length) c
 nd:D.flatten.Nodup
 all:∀ x:Int,0<=x->x<2 * (ps.length:Int)->x∈D.flatten
 small:D.flatten.length<=100
end My
namespace L2
open PySem PySem.Spec PyProof.Rows
section
variable{X:Cx}{a b c:Expr}{ta tb tc:TE}{pos:Pos}
end
end L2
namespace PyProof.Rows
open PySem
section
variable{M:Model}{A:Around}{E:Value->Shared->Prop}{s:Shared}{O:KeyOrd}{key:Keyed->O.α}{kd:SortKind}{S:Keyed->Prop}
end
end PyProof.Rows
namespace L2
open PySem PySem.Spec PyProof.Rows
section
variable{prog:Program}{w:World}{A:Around}{E:Value->Shared->Prop}{s:Shared}
end
end L2
namespace L2
open PySem PySem.Spec PyProof.Rows My
section
variable{X:Cx}
end
end L2
namespace My
open PySem L2
def Orth(ps qs:List (Int × Int)):Prop:=∀ A f:Int->Int,((List.range ps.length).map fun(k:Nat)=>(A (ps.getD k (0,0)).1 - A (ps.getD k (0,0)).2) * (f (qs.getD k (0,0)).1 - f (qs.getD k (0,0)).2)).sum=0
theorem Orth.symm{ps qs:List (Int × Int)}(hl:qs.length=ps.length)(h:Orth ps qs):Orth qs ps:=fun A f=>by
 have e:((List.range ps.length).map fun(k:Nat)=>(A (qs.getD k (0,0)).1 - A (qs.getD k (0,0)).2) * (f (ps.getD k (0,0)).1 - f (ps.getD k (0,0)).2))=(List.range ps.length).map fun(k:Nat)=>(f (ps.getD k (0,0)).1 - f (ps.getD k (0,0)).2) * (A (qs.getD k (0,0)).1 - A (qs.getD k (0,0)).2):=List.map_congr_left fun k _=>Int.mul_comm ..
 rw[hl,e]
 exact h f A
section
variable{n:Nat}{ps:List (Int × Int)}{ts R:List (List Int)}
end
end My
namespace L2
open PySem PySem.Spec PyProof.Rows
def TL(l:List Str):List V:=l.map V.str
theorem ζU2:∀ {l:List Str} {us:List Value},Vals (TL l) us->∃ k:List (Str × Tok),us=strValues k/\k.map (fun x=>x.fst)=l
 | [],_,.nil=>⟨[],rfl,rfl⟩
 | x :: l,_,.cons r t=>by
  obtain⟨tk,rfl⟩:=r
  obtain⟨k,rfl,h⟩:=ζU2 (l:=l) t
  exact⟨(x,tk) :: k,rfl,by rw[List.map_cons,h]⟩
section
variable{X:Cx}
def ζ813(K:PySem.W.Frag):V->List V->Hp->VK->Prop:=fun x vs H Q=>∃(sep:Str) (a:Addr) (l:List Str),x=.str sep/\vs=[.ref a]/\SqL K H a (TL l)/\JoinOk sep l=true/\Q (.str (sep.join l)) H
theorem ζE5 (K:PySem.W.Frag) (h:X.K=K:=by rfl):MtM X "str.join" (ζ813 K):=by
 subst h
 intro pins s σ H x vs v us Q I rx rv h
 obtain⟨sep,a,l,rfl,rfl,hq,hj,q⟩:=h
 obtain⟨tk,rfl⟩:=rx
 obtain⟨u,rfl,ru⟩:=rv.one
 cases ru
 obtain⟨its,r,pl,hz⟩:=I.list hq
 obtain⟨k,rfl,hk⟩:=ζU2 r
 refine PySem.SC.join pl.isList hk hj fun t' n=>⟨.str _,H,I.tok n,⟨t',rfl⟩,?_⟩
 rw[show Txt.join sep l=sep.join l from PySem.StrLaws.glued_eq_join sep l]
 exact q
variable{es:List Expr}{e:Expr}{te:TE}{t:St->Hp->Str->(Str->Hp->Prop)->Prop}{pos:Pos}
theorem ζW1:ζi2 X (.type "str") (fun xs H Q=>∃ i:Int,xs=[.int i]/\-(10 ^ 70)<i/\i<10 ^ 70/\Q (.str (Str.ofString (toString i))) H):=by
 intro pins s σ H xs us Q I r h
 obtain⟨i,rfl,h1,h2,q⟩:=h
 exact ζO3 pins s σ H _ us Q I r ⟨i,rfl,ζ17 h1 h2,q⟩
end
theorem ζV3:∀(l:List Str) (n:Nat),Vals (TL l) (strsFrom n l)
 | [],_=>.nil
 | _ :: l,n=>.cons ⟨n,rfl⟩ (ζV3 l (n+1))
section
variable{X:Cx}
def ζ512:V->List V->Hp->VK->Prop:=fun x vs H Q=>∃(z y:Str),x=.str z/\vs=[.str y]/\(y.length == 0)=false/\z.length<=sizeLine/\(Txt.split z y).length<=sizeLine/\∀ p,H p=none->Q (.ref p) (upd H p (.lst (TL (Txt.split z y))))
theorem ζD5:MtM X "str.split" ζ512:=by
 intro pins s σ H x vs v us Q I rx rv h
 obtain⟨z,y,rfl,rfl,hy,hz,hl,q⟩:=h
 obtain⟨t,rfl⟩:=rx
 obtain⟨u,rfl,ru⟩:=rv.one
 obtain⟨u',rfl⟩:=ru
 have self:Txt.split z y=[z]->EP X pins σ Q (.ref s.heap.objs.size) { s with heap:=s.heap.push { cls:=.type "list",data:=.seq #[.str z t] } }:=fun e=>by
  rw[e]at q
  refine⟨.ref s.heap.objs.size,_,I.laid (t':=s.toks) (o:=.lst (TL [z])) (fun b ob q=>Heap.get?_push_of_some _ q) (Nat.le_refl _) ?_,rfl,q _ (I.hok.fresh (Nat.le_refl _))⟩
  exact⟨by rw[e]at hl;exact hl,[.str z t],0,.cons ⟨t,rfl⟩ .nil,Heap.get?_push_size _ rfl⟩
 by_cases c1:(decide (z.length<y.length) || decide (Builtin.Str.strKind z<Builtin.Str.strKind y))=true
 ·have e:Txt.split z y=[z]:=by unfold Txt.split;rw[if_pos c1]
  exact call_meets PySem.F.slot_str_split (typeIs_str _ _ _) PySem.F.entry_str_split (PySem.F.args_str_split_2 _ _) (meets_str_split_cannot_occur z y t u' c1) (self e)
 ·have c1':=Bool.eq_false_iff.mpr c1
  by_cases c2:(Builtin.Str.occurrences z y 0 z.length (z.length+1)).isEmpty=true
  ·have e:Txt.split z y=[z]:=by unfold Txt.split;rw[if_neg c1,if_pos c2]
   exact call_meets PySem.F.slot_str_split (typeIs_str _ _ _) PySem.F.entry_str_split (PySem.F.args_str_split_2 _ _) (meets_str_split_not_found z y t u' c1' hy c2) (self e)
  ·have e:Txt.split z y=Builtin.Str.partsBetween z (Builtin.Str.occurrences z y 0 z.length (z.length+1)) y.length:=by unfold Txt.split;rw[if_neg c1,if_neg c2]
   rw[e]at hl q
   refine call_meets PySem.F.slot_str_split (typeIs_str _ _ _) PySem.F.entry_str_split (PySem.F.args_str_split_2 _ _) (meets_str_split_sep z y t u' c1' hy (Bool.eq_false_iff.mpr c2) hz hl) ?_
   refine⟨.ref s.heap.objs.size,_,I.laid (o:=.lst (TL (Builtin.Str.partsBetween z (Builtin.Str.occurrences z y 0 z.length (z.length+1)) y.length))) (fun b ob q=>Heap.get?_push_of_some _ q) (Nat.le_refl _) ?_,rfl,q _ (I.hok.fresh (Nat.le_refl _))⟩
   exact⟨by unfold TL;rw[List.length_map];exact hl,_,0,ζV3 _ _,Heap.get?_push_size _ rfl⟩
def ζl10:V->List V->Hp->VK->Prop:=fun x vs H Q=>∃(z y:Str),x=.str z/\vs=[.str y]/\Q (.bl (Txt.startswith z y)) H
theorem ζX6:MtM X "str.startswith" ζl10:=by
 intro pins s σ H x vs v us Q I rx rv h
 obtain⟨z,y,rfl,rfl,q⟩:=h
 obtain⟨t,rfl⟩:=rx
 obtain⟨u,rfl,ru⟩:=rv.one
 obtain⟨u',rfl⟩:=ru
 exact PySem.SC.startswith ⟨.bl _,H,I,rfl,q⟩
theorem ζl7:ζi2 X (.type "int") (fun xs H Q=>∃(z:Str) (n:Int),xs=[.str z]/\intText? z=some n/\z.length<=640/\Q (.int n) H):=by
 intro pins s σ H xs us Q I r h
 obtain⟨z,n,rfl,hz,hl,q⟩:=h
 obtain⟨u,rfl,ru⟩:=ζh3 r
 obtain⟨t,rfl⟩:=ru
 exact PySem.W.KIN.call_text hz hl ⟨.int n,H,I.tok _,⟨_,rfl⟩,q⟩
def Its(z:Str):It:=⟨fun i _=>i<z.cps.size,fun i H x H'=>H'=H/\∃ c,z.cps[i]?=some c/\x=.str ⟨#[c]⟩,fun i _=>z.cps.size<=i⟩
theorem ζz6 {P:Program} {w:World} {K:PySem.W.Frag} {tg:Expr} (z:Str) (t:Tok) (it:Addr):Turn P w K tg (Its z) [it] it (fun i h=>h.IsStrIter it "str_ascii_iterator" z t i) where
 mem:=by simp
 obj:=fun i h st b hb=>by
  have e:b=it:=by simpa using hb
  subst e
  obtain⟨o,e,c,d⟩:=st
  exact⟨o,e,fun v z=>by rw[d]at z;cases z⟩
 keep:=fun i h h' st k=>by
  obtain⟨o,e,c,d⟩:=st
  exact⟨o,k it (by simp) o e,c,d⟩
 item:=by
  intro X hP hw hK hc i pins s σ H E I hf st hg
  subst hP hw hK
  obtain⟨c,hc'⟩:∃ c,z.cps[i]?=some c:=⟨_,Array.getElem?_eq_getElem hg⟩
  obtain⟨f0,f1,f2,f3,f4,f5⟩:=hf it (by simp)
  refine wpAny_pyNext_ascii_item st hc' fun h' st' sb=>?_
  have I1:Inv X pins σ H { s with heap:=h',toks:=s.toks+1 }:=I.turned (fun b o hb e=>(sb.2 b hb).trans e) f0 f1 f3 f4 f5
  obtain⟨o,e,c',d⟩:=id st'
  exact⟨_,rfl,ζC11 (s:={ s with heap:=h',toks:=s.toks+1 }) e c' d (by decide) ⟨.str ⟨#[c]⟩,H,I1,⟨_,rfl⟩,⟨rfl,c,hc',rfl⟩,st',fun b hb=>(hf b hb).1⟩⟩
 done:=by
  intro X hP hw hK hc i pins s σ H E I hf st hg
  subst hP hw hK
  obtain⟨f0,f1,f2,f3,f4,f5⟩:=hf it (by simp)
  exact wpAny_pyNext_ascii_end (I.ok.hd hc) st (Array.getElem?_eq_none hg) fun h' eb=>⟨rfl,I.turned (t':=s.toks) (fun b o hb e=>eb b o hb e) f0 f1 f3 f4 f5⟩
 self:=fun _ _ _ _ _ st h=>wpAny_pyIter_striter_ascii st h
def ζj13(tl:TE):TI:=fun σ H R=>tl σ H fun x H1=>∃ z:Str,x=.str z/\(z.cps.all fun c=>decide (c<128))=true/\R (Its z) H1
theorem ζq10{l tg:Expr}{tl:TE}(hl:PE X l tl):PI X tg l (ζj13 tl):=by
 intro pins s σ H R I h
 refine thn (hl pins s σ H _ I h) fun v s1 ⟨x,H1,I1,r1,q1⟩=>?_
 obtain⟨z,e,ha,q⟩:=q1
 subst e
 obtain⟨t,rfl⟩:=r1
 refine wpAny_pyIter_ascii ha ?_
 refine⟨s1.heap.objs.size,[s1.heap.objs.size],_,_,H1,rfl,I1.kept (t':=s1.toks) fun b o e=>Heap.get?_push_of_some _ e,ζz6 z t _,⟨_,Heap.get?_push_size _ rfl,rfl,rfl⟩,fun b hb=>?_,q⟩
 have e:b=s1.heap.objs.size:=by simpa using hb
 subst e
 exact I1.fpOk (Nat.le_refl _) (I1.hok.fresh (Nat.le_refl _))
def rSlS:V->Option Int->Option Int->Hp->VK->Prop:=fun x lo hi H Q=>∃ z:Str,x=.str z/\(StrLaws.sliceText z lo hi).length<=sizeLine/\Q (.str (StrLaws.sliceText z lo hi)) H
theorem ζH7{v:Value}{o:Option Int}(h:IsPart v o):∃ l:Option (Int × Tok),v=partValue l/\l.map (fun x=>x.fst)=o:=by
 cases h with
 | none=>exact⟨none,rfl,rfl⟩
 | int i t=>exact⟨some (i,t),rfl,rfl⟩
theorem ζa10:SlR X rSlS:=by
 intro pins s σ H x v vl vu lo hi sl Q I rx hs pl pu h
 obtain⟨z,rfl,hz,q⟩:=h
 obtain⟨t,rfl⟩:=rx
 refine⟨"str",_,slot_str_getitem.lookup,typeIs_str s z t,?_⟩
 obtain⟨l,rfl,e1⟩:=ζH7 pl
 obtain⟨u,rfl,e2⟩:=ζH7 pu
 subst e1 e2
 refine wpAny_getItem_str_slice (l:=l) (u:=u) (st:=none) hs (by rfl) ?_
 unfold StrLaws.sliceText at hz q
 unfold sliceMade slicePicked
 show Made.post (if (1 == 1 && (Builtin.Str.strSliceIndices (l.map fun x=>x.fst) (u.map fun x=>x.fst) 1 z.length).length == z.length)=true then _ else _) _ s
 split at hz
 ·rename_i c
  rw[if_pos c]at q
  rw[if_pos c]
  exact⟨.str z,H,I,⟨t,rfl⟩,q⟩
 ·rename_i c
  rw[if_neg c]at q
  rw[if_neg c]
  exact⟨hz,.str _,H,I.tok _,⟨_,rfl⟩,q⟩
end
end L2
namespace My
open PySem L2
section
variable{g:TG}{tt:TT}{te:TE}{o:Nat}{fr:List Nat}{σ:L2.St}{H:Hp}{Q:VK}
theorem ζJ10{z:Str}(Pv:Nat->List V->Hp->Prop)(h0:Pv 0 [] H)(hz:z.cps.size<sizeLine)(hl:∀ i ys H,i<=z.cps.size->Pv i ys H->ys.length<=i)
  (hs:∀ i c ys H,z.cps[i]?=some c->Pv i ys H->ζT3 Pv g tt te o fr σ i (.str ⟨#[c]⟩) ys H) (hd:∀ ys H,Pv z.cps.size ys H->∀ p,H p=none->Q (.ref p) (upd H p (.lst ys))):LcR (Its z) g tt te o fr σ H Q:=by
 refine⟨fun i m ys H=>m=z.cps.size - i/\i<=z.cps.size/\Pv i ys H,⟨z.cps.size,by simp,Nat.zero_le _,h0⟩,?_⟩
 rintro i m ys H ⟨rfl,hi,p⟩
 have hy:=hl i ys H hi p
 by_cases hlt:i<z.cps.size
 ·refine .inr ⟨hlt,by omega,fun x H' ⟨e,c,hc,y⟩=>?_⟩
  subst e
  subst y
  exact hs i c ys _ hc p (fun j ys H=>∃ m',m'<z.cps.size - i/\m'=z.cps.size - j/\j<=z.cps.size/\Pv j ys H) fun ys H p'=>⟨z.cps.size - (i+1),by omega,rfl,hlt,p'⟩
 ·have e:i=z.cps.size:=by omega
  subst e
  exact .inl ⟨Nat.le_refl _,by omega,hd ys H p⟩
end
def nT(i:Int):Str:=Str.ofString (toString i)
def dg(m:Nat):List Nat:=(Nat.toDigits 10 m).map Char.toNat
def sgT(i:Int):List Nat:=if i<0 then 45 :: dg i.natAbs else dg i.natAbs
theorem ζ43(i:Int):(nT i).cps.toList=sgT i:=by
 unfold nT sgT
 cases i with
 | ofNat m =>
  rw[if_neg (show ¬ Int.ofNat m<0 from Int.not_lt.mpr (Int.natCast_nonneg m))]
  exact W.KIN.signs_num m
 | negSucc m =>
  rw[if_pos (Int.negSucc_lt_zero m)]
  have e:(Str.ofString (toString ((m+1:Nat):Int))).cps.toList=dg (m+1):=W.KIN.signs_num (m+1)
  rw[Str.ofString_eq_toList]at e ⊢
  have e2:(toString (Int.negSucc m)).toList='-' :: (toString ((m+1:Nat):Int)).toList:=by
   show("-"++toString (m+1)).toList='-' :: (toString (m+1)).toList
   rw[String.toList_append]
   rfl
  rw[e2,List.map_cons]
  show 45 :: List.map Char.toNat _=45 :: dg (m+1)
  rw[<- e]
theorem dgc{d:Nat}(h:d<10):(Nat.digitChar d).toNat=48+d:=by
 match d,h with
 | 0,_=>rfl
 | 1,_=>rfl
 | 2,_=>rfl
 | 3,_=>rfl
 | 4,_=>rfl
 | 5,_=>rfl
 | 6,_=>rfl
 | 7,_=>rfl
 | 8,_=>rfl
 | 9,_=>rfl
theorem ζH11{m:Nat}(h:m<10):dg m=[48+m]:=by
 unfold dg
 rw[Nat.toDigits_of_lt_base h,List.map_singleton,dgc h]
theorem ζI11{m:Nat}(h:10<=m):dg m=dg (m / 10)++[48+m % 10]:=by
 unfold dg
 rw[Nat.toDigits_of_base_le (by decide) h,List.map_append,List.map_singleton,dgc (Nat.mod_lt _ (by decide))]
theorem ζV4(m:Nat):NumText.AllDigits (dg m):=by
 induction m using Nat.strongRecOn with
 | ind m ih =>
  intro c hc
  by_cases h:m<10
  ·rw[ζH11 h]at hc
   have:=List.mem_singleton.mp hc
   omega
  ·rw[ζI11 (by omega)]at hc
   rcases List.mem_append.mp hc with q | q
   ·exact ih (m / 10) (by omega) c q
   ·have:=List.mem_singleton.mp q
    omega
theorem ζG11(m:Nat):dg m≠[]:=by
 by_cases h:m<10
 ·rw[ζH11 h];simp
 ·rw[ζI11 (by omega)];simp
theorem ζg11(m:Nat):NumText.digitsVal (dg m)=m:=by
 induction m using Nat.strongRecOn with
 | ind m ih =>
  by_cases h:m<10
  ·rw[ζH11 h]
   show 0 * 10+(48+m - 48)=m
   omega
  ·rw[ζI11 (by omega),NumText.digitsVal_snoc,ih (m / 10) (by omega)]
   omega
theorem ζi11{m k:Nat}(hk:1<=k)(h:m<10 ^ k):(dg m).length<=k:=by
 unfold dg
 rw[List.length_map]
 exact toDigits_len_pow (by decide) hk h
theorem ζj11{m:Nat}(h:0<m):∃ c r,dg m=c :: r/\c≠48:=by
 induction m using Nat.strongRecOn with
 | ind m ih =>
  by_cases c:m<10
  ·exact⟨48+m,[],ζH11 c,by omega⟩
  ·obtain⟨a,r,e,ne⟩:=ih (m / 10) (by omega) (by omega)
   exact⟨a,r++[48+m % 10],by rw[ζI11 (by omega),e];rfl,ne⟩
theorem ζt1(x:Str):x.length=x.cps.toList.length:=by
 show x.cps.size=_
 rw[Array.length_toList]
theorem ζu7{x y:Str}(h:x.cps.toList=y.cps.toList):x=y:=Str.ext' (Array.toList_inj.mp h)
theorem ζX11{i:Int}{k:Nat}(hk:1<=k)(h1:-(10 ^ k)<i)(h2:i<10 ^ k):(sgT i).length<=k+1:=by
 have e:((10 ^ k:Nat):Int)=(10:Int) ^ k:=by rw[Int.natCast_pow];rfl
 rw[<- e]at h1 h2
 have:=ζi11 hk (m:=i.natAbs) (by omega)
 unfold sgT
 split
 ·rw[List.length_cons];omega
 ·omega
theorem ζC5{i:Int}{k:Nat}(hk:1<=k)(h1:-(10 ^ k)<i)(h2:i<10 ^ k):(nT i).length<=k+1:=by rw[ζt1,ζ43];exact ζX11 hk h1 h2
theorem ζZ8{i:Int}{k:Nat}(hk:1<=k)(h4:k<=4000)(h1:-(10 ^ k)<i)(h2:i<10 ^ k):intText? (nT i)=some i:=by
 have hl:=ζC5 hk h1 h2
 have e:=ζ43 i
 unfold sgT at e
 split at e
 ·rw[intText_neg e (ζV4 _) (ζG11 _) (by omega),ζg11]
  congr 1
  omega
 ·rw[intText_digits (by rw[e];exact ζV4 _) (by rw[e];exact ζG11 _) (by omega),e,ζg11]
  congr 1
  omega
def figs(cs:List Nat):List Nat:=if cs.head?=some 45 then cs.tail else cs
def ζP5(cs:List Nat):Bool:=decide (1<=(figs cs).length/\(figs cs).length<=60/\(∀ c∈figs cs,48<=c/\c<=57)/\(cs=[48]\/(figs cs).head?≠some 48))
theorem ζh11(m:Nat):(dg m).head?≠some 45:=fun h=>by
 cases e:dg m with
 | nil=>exact ζG11 m e
 | cons c r =>
  rw[e]at h
  have hc:c=45:=Option.some.inj h
  have:=ζV4 m c (by rw[e];exact List.mem_cons_self)
  omega
theorem ζ811(i:Int):figs (sgT i)=dg i.natAbs:=by
 unfold figs sgT
 split
 ·rfl
 ·rw[if_neg (ζh11 _)]
theorem ζW11{i:Int}(h1:-(10 ^ 60)<i)(h2:i<10 ^ 60):ζP5 (sgT i)=true:=by
 refine decide_eq_true ?_
 rw[ζ811]
 refine⟨List.length_pos_iff.mpr (ζG11 _),ζi11 (k:=60) (by decide) (by omega),ζV4 _,?_⟩
 by_cases c:i=0
 ·subst c
  exact .inl rfl
 ·obtain⟨a,r,e,ne⟩:=ζj11 (m:=i.natAbs) (by omega)
  refine .inr ?_
  rw[e]
  intro q
  exact ne (Option.some.inj q)
def jn(c:Nat):List (List Nat)->List Nat
 | []=>[]
 | [a]=>a
 | a :: b :: l=>a++c :: jn c (b :: l)
theorem ζ73(c:Nat):∀ l:List Str,(Str.join ⟨#[c]⟩ l).cps.toList=jn c (l.map fun x=>x.cps.toList)
 | []=>rfl
 | [a]=>rfl
 | a :: b :: l=>by
  have ih:=ζ73 c (b :: l)
  show((a++⟨#[c]⟩++Str.join ⟨#[c]⟩ (b :: l)):Str).cps.toList=a.cps.toList++c :: jn c ((b :: l).map fun x=>x.cps.toList)
  rw[<- ih,Str.cps_append,Str.cps_append,Array.toList_append,Array.toList_append,List.append_assoc]
  rfl
theorem ζb3{c:Nat}:∀ {a b x y:List Nat},c∉a->c∉b->a++c :: x=b++c :: y->a=b/\x=y
 | [],[],_,_,_,_,e=>⟨rfl,(List.cons.inj e).2⟩
 | [],b :: bs,_,_,_,hb,e=>absurd (List.mem_cons_self) ((List.cons.inj e).1 ▸ hb)
 | a :: as,[],_,_,ha,_,e=>absurd (List.mem_cons_self) ((List.cons.inj e).1 ▸ ha)
 | a :: as,b :: bs,x,y,ha,hb,e=>by
  obtain⟨e1,e2⟩:=List.cons.inj e
  obtain⟨h1,h2⟩:=ζb3 (a:=as) (b:=bs) (fun h=>ha (List.mem_cons_of_mem _ h)) (fun h=>hb (List.mem_cons_of_mem _ h)) e2
  exact⟨by rw[e1,h1],h2⟩
theorem ζP10{c:Nat}:∀ {A B:List (List Nat)},A≠[]->B≠[]->(∀ a∈A,c∉a)->(∀ b∈B,c∉b)->jn c A=jn c B->A=B
 | [],_,h,_,_,_,_=>absurd rfl h
 | _,[],_,h,_,_,_=>absurd rfl h
 | [a],[b],_,_,_,_,e=>by
  have e:a=b:=e
  rw[e]
 | [a],b :: b' :: B,_,_,ha,_,e=>by
  have e:a=b++c :: jn c (b' :: B):=e
  exact absurd (by rw[e];simp) (ha a List.mem_cons_self)
 | a :: a' :: A,[b],_,_,_,hb,e=>by
  have e:a++c :: jn c (a' :: A)=b:=e
  exact absurd (by rw[<- e];simp) (hb b List.mem_cons_self)
 | a :: a' :: A,b :: b' :: B,_,_,ha,hb,e=>by
  obtain⟨e1,e2⟩:=ζb3 (ha a List.mem_cons_self) (hb b List.mem_cons_self) (show a++c :: jn c (a' :: A)=b++c :: jn c (b' :: B) from e)
  rw[e1,ζP10 (A:=a' :: A) (B:=b' :: B) (by simp) (by simp) (fun x hx=>ha x (List.mem_cons_of_mem _ hx)) (fun x hx=>hb x (List.mem_cons_of_mem _ hx)) e2]
theorem ζv8(x y:Str):Txt.split x y≠[]:=by
 unfold Txt.split
 split
 ·simp
 ·split
  ·simp
  ·rw[StrLaws.partsBetween_eq]
   obtain⟨p,r,e⟩:=StrLaws.partsFrom_ne x y.length 0 (Builtin.Str.occurrences x y 0 x.length (x.length+1))
   rw[e]
   simp
theorem ζX2{c:Nat}{l:List Str}(hl:l≠[])(hf:∀ p∈l,c∉p.cps.toList):Txt.split (Str.join ⟨#[c]⟩ l) ⟨#[c]⟩=l:=by
 have e:=StrLaws.join_split (Str.join ⟨#[c]⟩ l) ⟨#[c]⟩
 have e2:=congrArg (fun x:Str=>x.cps.toList) e
 rw[ζ73,ζ73]at e2
 have m:=ζP10 (by simpa using ζv8 _ _) (by simpa using hl) (fun a ha=>by
  obtain⟨p,hp,rfl⟩:=List.mem_map.mp ha
  exact StrLaws.split_free _ c p hp) (fun a ha=>by
  obtain⟨p,hp,rfl⟩:=List.mem_map.mp ha
  exact hf p hp) e2
 exact(List.map_inj_right (fun x y h=>ζu7 h)).mp m
end My
namespace L2
open PySem PySem.Spec PyProof.Rows
section
variable{X:Cx}{es:List Expr}{e:Expr}{te:TE}{t:St->Hp->(Hp->Prop)->Prop}
end
end L2
namespace My
open PySem L2
theorem const_mkS{K:PySem.W.Frag}{h:Heap}{mg:Str->Option Value}{x:Str}{z:Str}{v:Value}(X:K.In h)(G:h.Ns mainGlobals mg)(a:PySem.W.nsIn K mainGlobals x=some (some v))(e:∃ tk,v=.str z tk):∃ tk,mg x=some (.str z tk):=by
 obtain⟨tk,rfl⟩:=e
 exact⟨tk,PySem.W.mg_of X G a⟩
def ζP1:Str:=Str.ofString " "
def nlS:Str:=Str.ofString "\n"
def ζQ4 (p:Int × Int) (l:Int):Str:=Str.join ζP1 [Str.ofString "tie",nT p.1,nT p.2,nT l]
def webT (n:Int) (ps:List (Int × Int)) (ls:List Int):List Str:=(Str.ofString "places "++nT n) :: List.zipWith ζQ4 ps ls
def ζr8(n:Int)(ps:List (Int × Int))(ls:List Int):Str:=Str.join nlS (webT n ps ls)
theorem ζf2:ζP1=⟨#[32]⟩:=by rfl
theorem ζo12:nlS=⟨#[10]⟩:=by rfl
theorem ζ24 (n:Int):Str.ofString "places "++nT n=Str.join ζP1 [Str.ofString "places",nT n]:=by
 have e:Str.ofString "places "=Str.ofString "places"++ζP1:=by rfl
 rw[e]
 rfl
theorem ζ04{i:Int}{c:Nat}(h:c∈sgT i):c=45\/48<=c/\c<=57:=by
 unfold sgT at h
 split at h
 ·rcases List.mem_cons.mp h with e | e
  ·exact .inl e
  ·exact .inr (ζV4 _ c e)
 ·exact .inr (ζV4 _ c h)
theorem ζN7{i:Int}{c:Nat}(h1:c≠45)(h2:c<48\/57<c):c∉(nT i).cps.toList:=fun h=>by
 rw[ζ43]at h
 rcases ζ04 h with e | e <;> omega
theorem ζ09(i:Int):((nT i).cps.all fun c=>decide (c<128))=true:=by
 rw[<- Array.all_toList,ζ43,List.all_eq_true]
 intro c hc
 refine decide_eq_true ?_
 rcases ζ04 hc with e | e <;> omega
theorem ζN10{c x:Nat}:∀ {A:List (List Nat)},x∈jn c A->x=c\/∃ a∈A,x∈a
 | [],h=>by cases h
 | [a],h=>.inr ⟨a,List.mem_cons_self,h⟩
 | a :: b :: A,h=>by
  have h:x∈a++c :: jn c (b :: A):=h
  rcases List.mem_append.mp h with h | h
  ·exact .inr ⟨a,List.mem_cons_self,h⟩
  ·rcases List.mem_cons.mp h with h | h
   ·exact .inl h
   ·rcases ζN10 h with e | ⟨y,hy,hx⟩
    ·exact .inl e
    ·exact .inr ⟨y,List.mem_cons_of_mem _ hy,hx⟩
theorem ζO10{c B:Nat}:∀ {A:List (List Nat)},(∀ a∈A,a.length<=B)->(jn c A).length<=A.length * (B+1)
 | [],_=>Nat.zero_le _
 | [a],h=>by
  have:=h a List.mem_cons_self
  show a.length<=1 * (B+1)
  omega
 | a :: b :: A,h=>by
  have h1:=h a List.mem_cons_self
  have ih:=ζO10 (c:=c) (A:=b :: A) fun x hx=>h x (List.mem_cons_of_mem _ hx)
  show(a++c :: jn c (b :: A)).length<=_
  rw[List.length_append,List.length_cons,List.length_cons,Nat.add_mul]
  omega
theorem ζC3{c B:Nat}{l:List Str}(h:∀ a∈l,a.length<=B):(Str.join ⟨#[c]⟩ l).length<=l.length * (B+1):=by
 rw[ζt1,ζ73]
 refine Nat.le_trans (ζO10 (B:=B) fun a ha=>?_) (by rw[List.length_map];exact Nat.le_refl _)
 obtain⟨p,hp,rfl⟩:=List.mem_map.mp ha
 rw[<- ζt1]
 exact h p hp
theorem ζU7{c B:Nat}{l:List Str}(h:∀ a∈l,a.length<=B)(hl:l.length * B+l.length<=16777216):JoinOk ⟨#[c]⟩ l=true:=by
 unfold JoinOk
 rw[StrLaws.joinFits h (by show l.length * B+l.length * 1<=_;omega)]
 rfl
def Told(l:List Int):Prop:=∀ z∈l,-(10 ^ 60)<z/\z<(10:Int) ^ 60
theorem ζm3{l:List Int}(h:Told l):∀ a∈l.map nT,a.length<=61:=fun a ha=>by
 obtain⟨z,hz,rfl⟩:=List.mem_map.mp ha
 exact ζC5 (k:=60) (by decide) (h z hz).1 (h z hz).2
theorem ζk8{name:Str}{l:List Int}(hn:32∉name.cps.toList):Txt.split (Str.join ζP1 (name :: l.map nT)) ζP1=name :: l.map nT:=by
 rw[ζf2]
 refine ζX2 (by simp) fun p hp=>?_
 rcases List.mem_cons.mp hp with e | e
 ·rw[e];exact hn
 ·obtain⟨z,_,rfl⟩:=List.mem_map.mp e
  exact ζN7 (by decide) (.inl (by decide))
theorem ζM7{name:Str}{l:List Int}(hn:10∉name.cps.toList):10∉(Str.join ζP1 (name :: l.map nT)).cps.toList:=fun h=>by
 rw[ζf2,ζ73]at h
 rcases ζN10 h with e | ⟨a,ha,hx⟩
 ·cases e
 ·obtain⟨p,hp,rfl⟩:=List.mem_map.mp ha
  rcases List.mem_cons.mp hp with e | e
  ·rw[e]at hx;exact hn hx
  ·obtain⟨z,_,rfl⟩:=List.mem_map.mp e
   exact ζN7 (by decide) (.inl (by decide)) hx
theorem ζ79{n:Int}{ps:List (Int × Int)}{ls:List Int}:Txt.split (ζr8 n ps ls) nlS=webT n ps ls:=by
 unfold ζr8
 rw[ζo12]
 refine ζX2 (by unfold webT;simp) fun p hp=>?_
 rcases List.mem_cons.mp hp with e | e
 ·rw[e,ζ24]
  exact ζM7 (l:=[n]) (by decide)
 ·obtain⟨i,hi,e⟩:=List.getElem_of_mem e
  rw[List.getElem_zipWith]at e
  rw[<- e]
  exact ζM7 (l:=[_,_,_]) (by decide)
theorem ζF6 (w:Str):Txt.startswith w (Str.ofString "-")=decide (w.cps.toList.head?=some 45):=by
 have h:=StrLaws.subAt_one w 45 0
 have e:Str.ofString "-"=⟨#[45]⟩:=by rfl
 rw[e]
 unfold Txt.startswith
 rw[List.head?_eq_getElem?]
 by_cases c:w.cps.toList[0]?=some 45
 ·obtain⟨h1,h2⟩:=h.mpr c
  rw[decide_eq_true c,h2,Bool.and_true]
  exact decide_eq_true h1
 ·rw[decide_eq_false c]
  refine Bool.eq_false_iff.mpr fun q=>c (h.mp ?_)
  obtain⟨q1,q2⟩:=Bool.and_eq_true_iff.mp q
  exact⟨of_decide_eq_true q1,q2⟩
theorem ζf5{w:Str}(h:1<=w.cps.toList.length):(StrLaws.sliceText w (some 1) none).cps.toList=w.cps.toList.tail:=by
 rw[StrLaws.sliceText_from (i:=1) ⟨by decide,by omega⟩]
 show(List.take _ (List.drop 1 _))=_
 rw[List.drop_one]
 refine List.take_of_length_le ?_
 rw[List.length_tail]
 omega
theorem ζe7 (c:Nat):(!(!(Builtin.Str.occurrences (Str.ofString "0123456789") ⟨#[c]⟩ 0 (Str.ofString "0123456789").length 1).isEmpty))=!decide (48<=c/\c<=57):=by
 rw[StrLaws.found_one]
 congr 1
 have e:(Str.ofString "0123456789").cps.toList=[48,49,50,51,52,53,54,55,56,57]:=by rfl
 rw[e]
 refine decide_eq_decide.mpr ⟨fun h=>?_,fun h=>?_⟩
 ·simp at h
  omega
 ·simp
  omega
theorem ζ110{l:List Str}{i:Nat}{v:V}(h:(TL l)[i]?=some v):∃ x,v=.str x/\l[i]?=some x:=by
 unfold TL at h
 rw[List.getElem?_map]at h
 obtain⟨x,hx,rfl⟩:=Option.map_eq_some_iff.mp h
 exact⟨x,rfl,hx⟩
theorem ζd1(l:List Str):(TL l).length=l.length:=by unfold TL;rw[List.length_map]
theorem ζ010(l:List Str)(x:Str):TL l++[.str x]=TL (l++[x]):=by unfold TL;rw[List.map_append];rfl
theorem ζy6{n:Int}{ps:List (Int × Int)}{ls:List Int}{i:Nat}{p:Int × Int}{l:Int}(hp:ps[i]?=some p)(hl:ls[i]?=some l):webT n (ps.take (i+1)) (ls.take (i+1))=webT n (ps.take i) (ls.take i)++[ζQ4 p l]:=by
 have h1:=(List.getElem?_eq_some_iff.mp hp).1
 have h2:=(List.getElem?_eq_some_iff.mp hl).1
 unfold webT
 rw[List.take_succ,List.take_succ,hp,hl]
 rw[List.zipWith_append (by rw[List.length_take,List.length_take];omega)]
 rfl
theorem ζ35{n:Int}{ps:List (Int × Int)}{ls:List Int}(hl:ls.length=ps.length):(webT n ps ls).length=ps.length+1:=by
 unfold webT
 rw[List.length_cons,List.length_zipWith]
 omega
theorem ζ89{p:Int × Int}{l:Int}(h:Told [p.1,p.2,l]):(ζQ4 p l).length<=400:=by
 unfold ζQ4
 rw[ζf2]
 refine Nat.le_trans (ζC3 (B:=61) (l:=Str.ofString "tie" :: [p.1,p.2,l].map nT) fun a ha=>?_) (show 4 * (61+1)<=400 by decide)
 rcases List.mem_cons.mp ha with e | e
 ·rw[e];decide
 ·exact ζm3 h a e
theorem ζj3{n:Int}{ps:List (Int × Int)}{ls:List Int}(g:ζE n ps)(hT:Told ls){i:Nat}{p:Int × Int}{l:Int}(hp:ps[i]?=some p)(hl:ls[i]?=some l):Told [p.1,p.2,l]:=fun z hz=>by
 have:=g.2.2.2 p (List.mem_of_getElem? hp)
 have:=g.2.1
 rcases List.mem_cons.mp hz with e | e
 ·omega
 ·rcases List.mem_cons.mp e with e | e
  ·omega
  ·rw[List.mem_singleton.mp e];exact hT l (List.mem_of_getElem? hl)
theorem ζ25{n:Int}{ps:List (Int × Int)}{ls:List Int}(g:ζE n ps)(hT:Told ls):∀ a∈webT n ps ls,a.length<=400:=fun a ha=>by
 rcases List.mem_cons.mp ha with e | e
 ·rw[e,ζt1,Str.cps_append,Array.toList_append,List.length_append,<- ζt1,<- ζt1]
  have:=ζC5 (i:=n) (k:=60) (by decide) (by have:=g.1;omega) (by have:=g.2.1;omega)
  have e2:(Str.ofString "places ").length=7:=by decide
  omega
 ·obtain⟨i,hi,e⟩:=List.getElem_of_mem e
  rw[List.getElem_zipWith]at e
  rw[<- e]
  rw[List.length_zipWith]at hi
  exact ζ89 (ζj3 g hT (i:=i) (List.getElem?_eq_getElem (by omega)) (List.getElem?_eq_getElem (by omega)))
end My
namespace L2
open PySem PySem.Spec PyProof.Rows
section
variable{X:Cx}{tg:Expr}
end
end L2
namespace My
open PySem L2
abbrev Tr:=Int × List (Int × Int) × List Int
def OkT(T:Tr):Prop:=ζE T.1 T.2.1/\T.2.2.length=T.2.1.length/\Told T.2.2
def StageV(C:Addr)(H:Hp)(v:V)(T:Tr):Prop:=∃ t w a,v=.ref t/\H t=some (.tup [.ref w,.ref a])/\WebAt C H w T.1 T.2.1/\H a=some (.lst (IL T.2.2))
def PastV(H:Hp)(v:V)(T:Tr):Prop:=∃ p l b xs,v=.ref p/\H p=some (.tup [.int T.1,.ref l,.ref b])/\H l=some (.lst xs)/\PairsV H xs T.2.1/\H b=some (.lst (IL T.2.2))
def OddL(H:Hp)(d:Addr):Prop:=∃ t r v,H d=some (.lst (.ref t :: r))/\H t=some (.tup v)/\∀ a b:Int,v≠[.int a,.int b]
theorem ζ94{H:Hp}{d l:Addr}{xs:List V}{ps:List (Int × Int)}(h:OddL H d)(hl:H l=some (.lst xs))(hp:PairsV H xs ps):l≠d:=fun e=>by
 obtain⟨t,r,v,h1,h2,h3⟩:=h
 subst e
 rw[hl]at h1
 cases h1
 obtain⟨p,_,tt,e,ht⟩:=hp.at (i:=0) (v:=.ref t) rfl
 cases e
 rw[h2]at ht
 cases ht
 exact h3 _ _ rfl
theorem ζA5{H:Hp}{d b:Addr}{ls:List Int}(h:OddL H d)(hb:H b=some (.lst (IL ls))):b≠d:=fun e=>by
 obtain⟨t,r,v,h1,h2,h3⟩:=h
 subst e
 rw[hb]at h1
 cases ls with
 | nil=>cases h1
 | cons z l=>cases h1
theorem ζP7{H:Hp}{d t:Addr}{zs v:List V}(h:H d=some (.lst zs))(ht:H t=some (.tup v)):t≠d:=fun e=>by
 subst e
 rw[h]at ht
 cases ht
theorem OddL.lst{H:Hp}{d:Addr}(h:OddL H d):∃ zs,H d=some (.lst zs):=let ⟨t,r,v,h1,_⟩:=h;⟨_,h1⟩
theorem WebAt.mutO{C:Addr}{H:Hp}{d w:Addr}{n:Int}{ps:List (Int × Int)}{ys:List V}(h:OddL H d)(hW:WebAt C H w n ps):WebAt C (upd H d (.lst ys)) w n ps:=by
 obtain⟨zs,hd⟩:=h.lst
 obtain⟨dx,tl,xs,g1,g2,g3⟩:=hW
 have nw:w≠d:=fun e=>by subst e;rw[hd]at g1;cases g1
 exact⟨dx,tl,xs,by rw[ζ9 nw];exact g1,by rw[ζ9 (ζ94 h g2 g3)];exact g2,g3.mut hd⟩
theorem StageV.mut{C:Addr}{H:Hp}{d:Addr}{v:V}{T:Tr}{ys:List V}(h:OddL H d)(hs:StageV C H v T):StageV C (upd H d (.lst ys)) v T:=by
 obtain⟨zs,hd⟩:=h.lst
 obtain⟨t,w,a,e,h1,h2,h3⟩:=hs
 exact⟨t,w,a,e,by rw[ζ9 (ζP7 hd h1)];exact h1,h2.mutO h,by rw[ζ9 (ζA5 h h3)];exact h3⟩
theorem PastV.mut{H:Hp}{d:Addr}{v:V}{T:Tr}{ys:List V}(h:OddL H d)(hs:PastV H v T):PastV (upd H d (.lst ys)) v T:=by
 obtain⟨zs,hd⟩:=h.lst
 obtain⟨p,l,b,xs,e,h1,h2,h3,h4⟩:=hs
 exact⟨p,l,b,xs,e,by rw[ζ9 (ζP7 hd h1)];exact h1,by rw[ζ9 (ζ94 h h2 h3)];exact h2,h3.mut hd,by rw[ζ9 (ζA5 h h4)];exact h4⟩
theorem ζg2{α:Type}{R:V->α->Prop}{zs:List V}{L:List α}(h:Bears R zs L)(hp:0<zs.length):∃ v r a,zs=v :: r/\R v a:=by
 cases zs with
 | nil=>cases hp
 | cons v r =>
  cases L with
  | nil=>cases h.1
  | cons a l =>
   obtain⟨x,hx,hr⟩:=h.2 0 a rfl
   cases hx
   exact⟨v,r,a,rfl,hr⟩
theorem ζP8{H:Hp}{d:Addr}{zs:List V}{L:List Tr}(hd:H d=some (.lst zs))(h:Bears (PastV H) zs L)(hp:0<zs.length):OddL H d:=by
 obtain⟨v,r,T,rfl,p,l,b,xs,rfl,h1,_⟩:=ζg2 h hp
 exact⟨p,r,_,hd,h1,fun a b e=>by cases e⟩
theorem ζx10{C:Addr}{H:Hp}{d pA:Addr}{zs ys:List V}{L M:List Tr}(hd:H d=some (.lst zs))(hA:H pA=some (.lst ys))(h:Bears (StageV C H) zs L)(h2:Bears (PastV H) ys M)(hp:0<zs.length):pA≠d:=fun e=>by
 subst e
 rw[hA]at hd
 cases hd
 obtain⟨v,r,T,e,t,w,a,e2,h1,_⟩:=ζg2 h hp
 obtain⟨v2,r2,T2,e3,p,l,b,xs,e4,h3,_⟩:=ζg2 h2 hp
 rw[e]at e3
 cases e3
 rw[e2]at e4
 cases e4
 rw[h1]at h3
 cases h3
def DeskAt (C:Addr) (H:Hp) (x d:Addr) (zs:List V):Prop:=∃ dx,H x=some (.ins C dx (putF "stages" (.ref d) []))/\H d=some (.lst zs)
theorem DeskAt.mut{C:Addr}{H:Hp}{x d p:Addr}{zs ys us:List V}(h:DeskAt C H x d zs)(hp:H p=some (.lst us))(hne:p≠d):DeskAt C (upd H p (.lst ys)) x d zs:=by
 obtain⟨dx,h1,h2⟩:=h
 have nx:x≠p:=fun e=>by subst e;rw[h1]at hp;cases hp
 exact⟨dx,by rw[ζ9 nx];exact h1,by rw[ζ9 (Ne.symm hne)];exact h2⟩
structure DSt (CD C:Addr) (H:Hp) (x d pA:Addr) (zs ys:List V) (L M:List Tr):Prop where
 desk:DeskAt CD H x d zs
 st:Bears (StageV C H) zs L
 pst:H pA=some (.lst ys)
 past:Bears (PastV H) ys M
 okL:∀ T∈L,OkT T
 okM:∀ T∈M,OkT T
 posL:0<L.length
 posM:0<M.length
section
variable{CD C:Addr}{H H':Hp}{x d pA:Addr}{zs ys:List V}{L M:List Tr}
theorem DSt.lst(h:DSt CD C H x d pA zs ys L M):H d=some (.lst zs):=let ⟨_,_,h2⟩:=h.desk;h2
theorem DSt.ne(h:DSt CD C H x d pA zs ys L M):pA≠d:=ζx10 h.lst h.pst h.st h.past (by rw[h.st.1];exact h.posL)
theorem DSt.oddP(h:DSt CD C H x d pA zs ys L M):OddL H pA:=ζP8 h.pst h.past (by rw[h.past.1];exact h.posM)
theorem DSt.keep(h:DSt CD C H x d pA zs ys L M){p:Addr}{T:Tr}(ht:PastV H (.ref p) T)(ok:OkT T):DSt CD C (upd H pA (.lst (ys++[.ref p]))) x d pA zs (ys++[.ref p]) L (M++[T]) :=
 ⟨h.desk.mut h.pst h.ne,h.st.imp fun _ _ q=>q.mut h.oddP,ζ1,(h.past.imp fun _ _ q=>q.mut h.oddP).snoc (ht.mut h.oddP),h.okL,fun T' hT=>by
  rcases List.mem_append.mp hT with e | e
  ·exact h.okM T' e
  ·rw[List.mem_singleton.mp e];exact ok,h.posL,by rw[List.length_append,List.length_singleton];omega⟩
end
def top(i:Nat):Stmt:=PySem.Challenge.pw_spanrow_k93_whole_shares_and_counts.main.body.getD i (.Pass ⟨0,0,0,0⟩)
abbrev sζ0:Stmt:=top 11
abbrev sζ1:Stmt:=top 12
abbrev sζ2:Stmt:=top 13
abbrev sζ3:Stmt:=top 14
abbrev sζ4:Stmt:=top 15
abbrev sζ5:Stmt:=top 16
abbrev sζ6:Stmt:=top 17
abbrev sζ7:Stmt:=top 18
abbrev sζ8:Stmt:=top 19
abbrev sζ9:Stmt:=top 20
abbrev sζa:Stmt:=top 25
abbrev sζb:Stmt:=ζV10 (top 24) 0
abbrev sζc:Stmt:=top 26
abbrev sζd:Stmt:=top 27
abbrev sζe:Stmt:=top 29
abbrev sζf:Stmt:=top 31
abbrev sζg:Stmt:=top 32
abbrev sζh:Stmt:=top 33
abbrev sζi:Stmt:=top 34
abbrev sζj:Stmt:=top 35
abbrev sζk:Stmt:=top 36
abbrev sζl:Stmt:=top 37
abbrev sζm:Stmt:=top 39
abbrev sζn:Stmt:=top 40
abbrev sζo:Stmt:=top 46
abbrev sζp:Stmt:=top 28
abbrev sζq:Stmt:=top 48
abbrev sζr:Stmt:=top 49
abbrev sζs:Stmt:=top 41
abbrev sζt:Stmt:=top 42
abbrev sζu:Stmt:=top 45
abbrev sζv:Stmt:=top 47
abbrev sζw:Stmt:=top 30
abbrev sζx:Stmt:=top 43
abbrev sζy:Stmt:=top 53
abbrev sζz:Stmt:=top 54
abbrev sζA:Stmt:=top 55
abbrev sζB:Stmt:=top 56
abbrev sζC:Stmt:=top 58
abbrev sζD:Stmt:=top 59
abbrev sζE:Stmt:=top 60
abbrev sζF:Stmt:=top 61
abbrev sζG:Stmt:=top 62
abbrev sζH:Stmt:=top 63
abbrev sζI:Stmt:=top 64
abbrev sζJ:Stmt:=top 65
abbrev sζK:Stmt:=top 66
abbrev sζL:Stmt:=top 67
structure Adr where
 aζ0:Addr
 dζ0:FuncData
 aζ1:Addr
 dζ1:FuncData
 aζ2:Addr
 dζ2:FuncData
 aζ3:Addr
 dζ3:FuncData
 aζ4:Addr
 dζ4:FuncData
 aζ5:Addr
 dζ5:FuncData
 aζ6:Addr
 dζ6:FuncData
 aζ7:Addr
 dζ7:FuncData
 aζ8:Addr
 dζ8:FuncData
 aζ9:Addr
 dζ9:FuncData
 aζa:Addr
 dζa:FuncData
 aζb:Addr
 dζb:FuncData
 aζc:Addr
 dζc:FuncData
 aζd:Addr
 dζd:FuncData
 aζe:Addr
 dζe:FuncData
 aζf:Addr
 dζf:FuncData
 aζg:Addr
 dζg:FuncData
 aζh:Addr
 dζh:FuncData
 aζi:Addr
 dζi:FuncData
 aζj:Addr
 dζj:FuncData
 aζk:Addr
 dζk:FuncData
 aζl:Addr
 dζl:FuncData
 aζm:Addr
 dζm:FuncData
 aζn:Addr
 dζn:FuncData
 aζo:Addr
 dζo:FuncData
 aζp:Addr
 dζp:FuncData
 aζq:Addr
 dζq:FuncData
 aζr:Addr
 dζr:FuncData
 aζs:Addr
 dζs:FuncData
 aζt:Addr
 dζt:FuncData
 aζu:Addr
 dζu:FuncData
 aζv:Addr
 dζv:FuncData
 aζw:Addr
 dζw:FuncData
 aζx:Addr
 dζx:FuncData
 aζy:Addr
 dζy:FuncData
 aζz:Addr
 dζz:FuncData
 aζA:Addr
 dζA:FuncData
 aζB:Addr
 dζB:FuncData
 aζC:Addr
 dζC:FuncData
 aζD:Addr
 dζD:FuncData
 aζE:Addr
 dζE:FuncData
 aζF:Addr
 dζF:FuncData
 aζG:Addr
 dζG:FuncData
 aζH:Addr
 dζH:FuncData
 aζI:Addr
 dζI:FuncData
 aζJ:Addr
 dζJ:FuncData
 aζK:Addr
 dζK:FuncData
 aζL:Addr
 dζL:FuncData
 A_Web:Addr
structure Txt (K:PySem.W.Frag) (mg:Str->Option Value) (t:Adr):Prop where
 fζ0:Fun K "refuse_not_square" "refuse_not_square" sζ0 t.aζ0 t.dζ0
 bζ0:Binds K t.dζ0 ["table"] []
 mζ0:mg "refuse_not_square"=some (.ref t.aζ0)
 fζ1:Fun K "row_taken_off" "row_taken_off" sζ1 t.aζ1 t.dζ1
 bζ1:Binds K t.dζ1 ["row","pivot","last"] []
 mζ1:mg "row_taken_off"=some (.ref t.aζ1)
 fζ2:Fun K "first_with_some" "first_with_some" sζ2 t.aζ2 t.dζ2
 bζ2:Binds K t.dζ2 ["rows"] []
 mζ2:mg "first_with_some"=some (.ref t.aζ2)
 fζ3:Fun K "determinant" "determinant" sζ3 t.aζ3 t.dζ3
 bζ3:Binds K t.dζ3 ["table"] []
 mζ3:mg "determinant"=some (.ref t.aζ3)
 fζ4:Fun K "row_without" "row_without" sζ4 t.aζ4 t.dζ4
 bζ4:Binds K t.dζ4 ["row","number"] []
 mζ4:mg "row_without"=some (.ref t.aζ4)
 fζ5:Fun K "table_without" "table_without" sζ5 t.aζ5 t.dζ5
 bζ5:Binds K t.dζ5 ["table","number"] []
 mζ5:mg "table_without"=some (.ref t.aζ5)
 fζ6:Fun K "common_divisor" "common_divisor" sζ6 t.aζ6 t.dζ6
 bζ6:Binds K t.dζ6 ["one","other"] []
 mζ6:mg "common_divisor"=some (.ref t.aζ6)
 fζ7:Fun K "fraction" "fraction" sζ7 t.aζ7 t.dζ7
 bζ7:Binds K t.dζ7 ["top","bottom"] []
 mζ7:mg "fraction"=some (.ref t.aζ7)
 fζ8:Fun K "with_column" "with_column" sζ8 t.aζ8 t.dζ8
 bζ8:Binds K t.dζ8 ["table","column","right"] []
 mζ8:mg "with_column"=some (.ref t.aζ8)
 fζ9:Fun K "solved" "solved" sζ9 t.aζ9 t.dζ9
 bζ9:Binds K t.dζ9 ["table","right"] []
 mζ9:mg "solved"=some (.ref t.aζ9)
 fζa:Fun K "refuse_bad_web" "refuse_bad_web" sζa t.aζa t.dζa
 bζa:Binds K t.dζa ["places","ties"] []
 mζa:mg "refuse_bad_web"=some (.ref t.aζa)
 fζb:Fun K "__init__" "Web.__init__" sζb t.aζb t.dζb
 bζb:Binds K t.dζb ["self","places","ties"] []
 fζc:Fun K "is_place" "is_place" sζc t.aζc t.dζc
 bζc:Binds K t.dζc ["web","number"] []
 mζc:mg "is_place"=some (.ref t.aζc)
 fζd:Fun K "is_tie" "is_tie" sζd t.aζd t.dζd
 bζd:Binds K t.dζd ["web","number"] []
 mζd:mg "is_tie"=some (.ref t.aζd)
 fζe:Fun K "all_ties" "all_ties" sζe t.aζe t.dζe
 bζe:Binds K t.dζe ["web"] []
 mζe:mg "all_ties"=some (.ref t.aζe)
 fζf:Fun K "is_set" "is_set" sζf t.aζf t.dζf
 bζf:Binds K t.dζf ["web","ties"] []
 mζf:mg "is_set"=some (.ref t.aζf)
 fζg:Fun K "made_set" "made_set" sζg t.aζg t.dζg
 bζg:Binds K t.dζg ["web","ties"] []
 mζg:mg "made_set"=some (.ref t.aζg)
 fζh:Fun K "merged_marks" "merged_marks" sζh t.aζh t.dζh
 bζh:Binds K t.dζh ["web","marks","ties"] []
 mζh:mg "merged_marks"=some (.ref t.aζh)
 fζi:Fun K "piece_marks" "piece_marks" sζi t.aζi t.dζi
 bζi:Binds K t.dζi ["web","ties"] []
 mζi:mg "piece_marks"=some (.ref t.aζi)
 fζj:Fun K "pieces_of" "pieces_of" sζj t.aζj t.dζj
 bζj:Binds K t.dζj ["web","ties"] []
 mζj:mg "pieces_of"=some (.ref t.aζj)
 fζk:Fun K "is_joined" "is_joined" sζk t.aζk t.dζk
 bζk:Binds K t.dζk ["web","ties"] []
 mζk:mg "is_joined"=some (.ref t.aζk)
 fζl:Fun K "refuse_parted" "refuse_parted" sζl t.aζl t.dζl
 bζl:Binds K t.dζl ["web"] []
 mζl:mg "refuse_parted"=some (.ref t.aζl)
 fζm:Fun K "weighted_table" "weighted_table" sζm t.aζm t.dζm
 bζm:Binds K t.dζm ["web","weights"] []
 mζm:mg "weighted_table"=some (.ref t.aζm)
 fζn:Fun K "pull_table" "pull_table" sζn t.aζn t.dζn
 bζn:Binds K t.dζn ["web"] []
 mζn:mg "pull_table"=some (.ref t.aζn)
 fζo:Fun K "heights_of" "heights_of" sζo t.aζo t.dζo
 bζo:Binds K t.dζo ["web","one","other"] []
 mζo:mg "heights_of"=some (.ref t.aζo)
 fζp:Fun K "refuse_no_tie" "refuse_no_tie" sζp t.aζp t.dζp
 bζp:Binds K t.dζp ["web","number"] []
 mζp:mg "refuse_no_tie"=some (.ref t.aζp)
 fζq:Fun K "fraction_less" "fraction_less" sζq t.aζq t.dζq
 bζq:Binds K t.dζq ["one","other"] []
 mζq:mg "fraction_less"=some (.ref t.aζq)
 fζr:Fun K "lean_of" "lean_of" sζr t.aζr t.dζr
 bζr:Binds K t.dζr ["web","tie","other"] []
 mζr:mg "lean_of"=some (.ref t.aζr)
 fζs:Fun K "tree_count" "tree_count" sζs t.aζs t.dζs
 bζs:Binds K t.dζs ["web"] []
 mζs:mg "tree_count"=some (.ref t.aζs)
 fζt:Fun K "part_count" "part_count" sζt t.aζt t.dζt
 bζt:Binds K t.dζt ["web","inside","outside"] []
 mζt:mg "part_count"=some (.ref t.aζt)
 fζu:Fun K "share_of" "share_of" sζu t.aζu t.dζu
 bζu:Binds K t.dζu ["web","ties"] []
 mζu:mg "share_of"=some (.ref t.aζu)
 fζv:Fun K "heights_hold" "heights_hold" sζv t.aζv t.dζv
 bζv:Binds K t.dζv ["web","one","other","heights"] []
 mζv:mg "heights_hold"=some (.ref t.aζv)
 fζw:Fun K "have_common" "have_common" sζw t.aζw t.dζw
 bζw:Binds K t.dζw ["one","other"] []
 mζw:mg "have_common"=some (.ref t.aζw)
 fζx:Fun K "count_with" "count_with" sζx t.aζx t.dζx
 bζx:Binds K t.dζx ["web","inside","outside"] []
 mζx:mg "count_with"=some (.ref t.aζx)
 fζy:Fun K "is_number" "is_number" sζy t.aζy t.dζy
 bζy:Binds K t.dζy ["word"] []
 mζy:mg "is_number"=some (.ref t.aζy)
 fζz:Fun K "read_number" "read_number" sζz t.aζz t.dζz
 bζz:Binds K t.dζz ["word"] []
 mζz:mg "read_number"=some (.ref t.aζz)
 fζA:Fun K "read_line" "read_line" sζA t.aζA t.dζA
 bζA:Binds K t.dζA ["line","name","many"] []
 mζA:mg "read_line"=some (.ref t.aζA)
 fζB:Fun K "read_web" "read_web" sζB t.aζB t.dζB
 bζB:Binds K t.dζB ["text"] []
 mζB:mg "read_web"=some (.ref t.aζB)
 fζC:Fun K "_law_cell" "_law_cell" sζC t.aζC t.dζC
 bζC:Binds K t.dζC ["script","k"] []
 mζC:mg "_law_cell"=some (.ref t.aζC)
 fζD:Fun K "_law_mixed" "_law_mixed" sζD t.aζD t.dζD
 bζD:Binds K t.dζD ["cell","k"] []
 mζD:mg "_law_mixed"=some (.ref t.aζD)
 fζE:Fun K "_law_draws" "_law_draws" sζE t.aζE t.dζE
 bζE:Binds K t.dζE ["script","start","count","way"] []
 mζE:mg "_law_draws"=some (.ref t.aζE)
 fζF:Fun K "_law_ties" "_law_ties" sζF t.aζF t.dζF
 bζF:Binds K t.dζF ["draws","places","hang"] []
 mζF:mg "_law_ties"=some (.ref t.aζF)
 fζG:Fun K "_law_web" "_law_web" sζG t.aζG t.dζG
 bζG:Binds K t.dζG ["script","most","count"] []
 mζG:mg "_law_web"=some (.ref t.aζG)
 fζH:Fun K "_law_lengths" "_law_lengths" sζH t.aζH t.dζH
 bζH:Binds K t.dζH ["script","count"] []
 mζH:mg "_law_lengths"=some (.ref t.aζH)
 fζI:Fun K "_law_text" "_law_text" sζI t.aζI t.dζI
 bζI:Binds K t.dζI ["places","ties","lengths"] []
 mζI:mg "_law_text"=some (.ref t.aζI)
 fζJ:Fun K "_law_tie_good" "_law_tie_good" sζJ t.aζJ t.dζJ
 bζJ:Binds K t.dζJ ["web","ties","tie","many"] []
 mζJ:mg "_law_tie_good"=some (.ref t.aζJ)
 fζK:Fun K "_law_two_good" "_law_two_good" sζK t.aζK t.dζK
 bζK:Binds K t.dζK ["web","one","other","many"] []
 mζK:mg "_law_two_good"=some (.ref t.aζK)
 fζL:Fun K "law" "law" sζL t.aζL t.dζL
 bζL:Binds K t.dζL ["script"] []
 mζL:mg "law"=some (.ref t.aζL)
 c_Web:mg "Web"=some (.ref t.A_Web)
 cl_Web:Cls K t.A_Web
 k_Web:Mk K t.A_Web t.aζb
 n_Web_places:NoAttr K t.A_Web "places"
 n_Web_ties:NoAttr K t.A_Web "ties"
 g_MOST_PLACES:∃ tk,mg "MOST_PLACES"=some (.int 14 tk)
 g_MOST_TIES:∃ tk,mg "MOST_TIES"=some (.int 30 tk)
 g_FIGURES:∃ tk,mg "FIGURES"=some (.str "0123456789" tk)
 g_MOST_FIGURES:∃ tk,mg "MOST_FIGURES"=some (.int 60 tk)
 n_abs:mg "abs"=none
 n_any:mg "any"=none
 n_enumerate:mg "enumerate"=none
 n_int:mg "int"=none
 n_len:mg "len"=none
 n_list:mg "list"=none
 n_max:mg "max"=none
 n_min:mg "min"=none
 n_range:mg "range"=none
 n_set:mg "set"=none
 n_sorted:mg "sorted"=none
 n_str:mg "str"=none
 n_sum:mg "sum"=none
 n_tuple:mg "tuple"=none
 n_zip:mg "zip"=none
end My
namespace My
open PySem L2 PyProof.Rows
set_option maxHeartbeats 4000000
def spζ0(K:PySem.W.Frag):Sp:=fun vs H Q _=>∃(a:Addr) (kd:Bool) (xs:List V) (L:List (List Int)),vs=[.ref a]/\SqK kd K H a xs/\Bears (RowV K H) xs L /\
 ((∀ l∈L,l.length=L.length)->Q .non H)/\(¬ (∀ l∈L,l.length=L.length)->False)
section
variable{P:Program}{w:World}{K:PySem.W.Frag}{mg:Str->Option Value}{base:Heap}{t:Adr}
theorem scζ0:FnScope ["table","row"] ["table"] (ζ5 sζ0):=⟨rfl,rfl,rfl,by decide +kernel,rfl,by decide +kernel,by decide +kernel⟩
theorem okζ0 (T:Txt K mg t):FnOk P w K mg base CX0 1 t.aζ0 t.dζ0 ["table"] (spζ0 K):=by
 refine T.fζ0.ok scζ0 (fun vs H Q E h=>?_) (fun cdv A outer s H vs Q E hr h=>?_)
 ·obtain⟨a,kd,xs,L,rfl,_⟩:=h
  rfl
 ·obtain⟨a,kd,xs,L,rfl,hS,hB,q,qe⟩:=h
  refine⟨_,(ζ6 (ζ81 PassesOwn.never rfl (ζn2 K (pv 0)) (ζe (i:=1) scζ0.nd rfl (Or.inl rfl))
   (ζ6 (ζe1 (ζp ζ74 (ζb (ζi K) (by rfl) T.n_len Boot.«len» (ζ0 (pv 1) ζ3)) (ζb (ζi K) (by rfl) T.n_len Boot.«len» (ζ0 (pv 0) ζ3)) (ζv _))
   (ζ6 ζJ)
   ζn)))),?_⟩
  have hxl:=hB.1
  refine⟨_,rfl,a,rfl,ζg4 (K:=K) (k:=kd) (a:=a) (xs:=xs) (fun i σ H2=>∃ v1,σ=[some (.ref a),v1]/\H2=H/\∀ l∈L.take i,l.length=L.length) ⟨none,rfl,rfl,fun l h=>(by cases h)⟩ (fun i σ H2 _ ⟨_,_,e,_⟩=>e ▸ hS) ?_ ?_⟩
  ·rintro i v σ H2 hi ⟨v1,rfl,rfl,hall⟩
   obtain⟨l,hl,r,k,rfl,hr⟩:=hB.at hi
   refine nm ?_
   refine⟨_,rfl,r,_,rfl,hr.or,_,rfl,a,xs,rfl,hS.or,rfl,_,rfl,?_⟩
   rw[ζ7,ζI]
   refine itn2 (fun e=>?_) (fun e=>?_)
   ·refine⟨_,rfl,rfl,fun m hm=>?_⟩
    rw[List.take_succ,hl]at hm
    rcases List.mem_append.mp hm with h | h
    ·exact hall m h
    ·have hm':m=l:=by simpa using h
     rw[hm']
     omega
   ·exact qe fun h=>e (by rw[h l (List.mem_of_getElem? hl),hxl])
  ·rintro σ H2 ⟨v1,rfl,rfl,hall⟩
   rw[hxl,List.take_length]at hall
   exact q hall
end
set_option maxHeartbeats 4000000
def spζ1(K:PySem.W.Frag):Sp:=fun vs H Q _=>∃(r p:Addr) (x y last:Int) (l q:List Int),vs=[.ref r,.ref p,.int last]/\SqL K H r (IL (x :: l))/\SqL K H p (IL (y :: q))/\l.length=q.length/\l.length<=1000/\last≠0/\last.natAbs<2 ^ 9000 /\
 (∀ z∈x :: l,z.natAbs<2 ^ 9000)/\(∀ z∈y :: q,z.natAbs<2 ^ 9000)/\∀(c:Addr) (H':Hp),Same H H'->H c=none->H' c=some (.lst (IL (tkn y q last (x :: l))))->Q (.ref c) H'
section
variable{P:Program}{w:World}{K:PySem.W.Frag}{mg:Str->Option Value}{base:Heap}{t:Adr}
theorem scζ1:FnScope ["row","pivot","last"] ["row","pivot","last"] (ζ5 sζ1):=⟨rfl,rfl,rfl,by decide +kernel,rfl,by decide +kernel,by decide +kernel⟩
theorem okζ1 (T:Txt K mg t):FnOk P w K mg base CX0 1 t.aζ1 t.dζ1 ["row","pivot","last"] (spζ1 K):=by
 refine T.fζ1.ok scζ1 (fun vs H Q E h=>?_) (fun cdv A outer s H vs Q E hr h=>?_)
 ·obtain⟨r,p,x,y,last,l,q,rfl,_⟩:=h
  rfl
 ·obtain⟨r,p,x,y,last,l,q',rfl,hR,hP,hlq,hl,l0,l1,hx,hy,q⟩:=h
  refine⟨_,(ζ6 (ζl (ζN4 rfl (sc0:=ζ5 sζ1) (N0:=["row","pivot","last"]) (N':=["own","other","pivot","row","last"]) (o:=2) (fr:=[1,0,2]) ⟨rfl,by decide +kernel,by decide +kernel,by decide +kernel,rfl,by decide +kernel⟩ (ζM8 K rfl T.n_zip (ζ0 (ζG (ζN K) (pv 0) (ζT ζ4) ζU) (ζ0 (ζG (ζN K) (pv 1) (ζT ζ4) ζU) ζ3))) (ζ54 (ζb1 (by decide) (ζb1 (by decide) ζ64))) (fun _ _ _ _=>(ζa1 (n:=2) K rfl (ζq (ζe (i:=0) (show List.Nodup (["own","other","pivot","row","last"]:List Str) by decide +kernel) rfl (Or.inl rfl)) (ζq (ζe (i:=1) (show List.Nodup (["own","other","pivot","row","last"]:List Str) by decide +kernel) rfl (Or.inl rfl)) ζ91)))) (fun _ _ _ _=>ζB) (fun _ _ _ _=>(ζk ζz3 (ζk ζj2 (ζk ζC (ζr (ζd K) (pv 2) ζ4 (fun _ _=>rfl)) (pv 0)) (ζk ζC (ζr (ζd K) (pv 3) ζ4 (fun _ _=>rfl)) (pv 1))) (pv 4)))))),?_⟩
  refine⟨_,rfl,_,rfl,r,_,rfl,hR,fun p1 hp1=>?_⟩
  rw[ζi6]
  have s1:=same_at (o:=.lst (IL l)) hp1
  refine⟨_,rfl,_,rfl,p,_,rfl,s1.seq hP,fun p2 hp2=>?_⟩
  rw[ζi6]
  have s2:=same_at (o:=.lst (IL q')) hp2
  have s12:=s1.trans s2
  have h1:=s2 _ _ (ζ1 (H:=H) (a:=p1) (o:=.lst (IL l)))
  have h2:(upd (upd H p1 (.lst (IL l))) p2 (.lst (IL q'))) p2=some (.lst (IL q')):=ζ1
  generalize upd (upd H p1 (.lst (IL l))) p2 (.lst (IL q'))=H2 at *
  refine⟨p1,p2,rfl,⟨_,_,SqL.of h1,SqL.of h2⟩,ζH10 (K:=K) (a:=p1) (b:=p2) (xs:=IL l) (ys:=IL q') (fun i zs H3=>Same H2 H3/\i<=l.length/\zs=IL ((tkn y q' last (x :: l)).take i)) ⟨Same.refl _,Nat.zero_le _,rfl⟩ (by rw[ζ7,ζ7];exact hlq) (ζm (by rw[ζ7];omega))
   (fun i zs H3 hi ⟨e,hi2,ez⟩=>⟨SqL.of (e _ _ h1),SqL.of (e _ _ h2),by rw[ez,ζ7,List.length_take];omega⟩) ?_ ?_⟩
  ·rintro i u v zs H3 pt hpt hu hv ⟨s3,hil,rfl⟩ S hSS
   obtain⟨own,rfl,ho⟩:=ζJ1 hu
   obtain⟨oth,rfl,ht⟩:=ζJ1 hv
   have hil':=(List.getElem?_eq_some_iff.mp ho).1
   have s4:=same_at (o:=.tup [.int own,.int oth]) hpt
   refine⟨pt,_,rfl,SqT.of ζ1,rfl,_,_,rfl,_,_,rfl,rfl,?_⟩
   have s34:=s12.trans (s3.trans s4)
   have a1:=hy y List.mem_cons_self
   have a2:=hx own (List.mem_cons_of_mem _ (List.mem_of_getElem? ho))
   have a3:=hx x List.mem_cons_self
   have a4:=hy oth (List.mem_cons_of_mem _ (List.mem_of_getElem? ht))
   refine⟨_,rfl,p,_,0,.int y,rfl,rfl,s34.seq hP,ζw (n:=0) rfl rfl,_,rfl,_,_,rfl,rfl,⟨a1,a2⟩,_,rfl,r,_,0,.int x,rfl,rfl,s34.seq hR,ζw (n:=0) rfl rfl,_,rfl,_,_,rfl,rfl,⟨a3,a4⟩,_,_,rfl,rfl,_,rfl,_,_,rfl,rfl,⟨l0,l1⟩,?_⟩
   refine hSS _ _ ⟨s3.trans s4,hil',?_⟩
   have e:(tkn y q' last (x :: l))[i]?=some ((y * own - x * oth).fdiv last):=by
    show(List.zipWith _ l q')[i]?=_
    rw[List.getElem?_zipWith,ho,ht]
    rfl
   rw[List.take_succ,e]
   exact(ζl1 _ _).symm
  ·rintro zs H3 ⟨s3,_,rfl⟩ c hc
   rw[ζ7,List.take_of_length_le (by rw[ζt7 (by rw[List.length_cons,hlq])];omega)]
   exact q c _ (s12.trans (s3.trans (same_at hc))) ((s12.trans s3).free hc) ζ1
end
set_option maxHeartbeats 4000000
def spζ2(K:PySem.W.Frag):Sp:=fun vs H Q _=>∃(a:Addr) (ys:List V) (R:List (List Int)),vs=[.ref a]/\SqL K H a ys/\Bears (ζT2 H) ys R/\(∀ l∈R,0<l.length) /\
 (∀ H':Hp,Same H H'->(∀ i,i<R.length->fnL R i 0=0)->Q .non H')/\(∀(t:Nat) (H':Hp),Same H H'->t<R.length->fnL R t 0≠0->Q (.int t) H')
section
variable{P:Program}{w:World}{K:PySem.W.Frag}{mg:Str->Option Value}{base:Heap}{t:Adr}
theorem scζ2:FnScope ["rows","at","row"] ["rows"] (ζ5 sζ2):=⟨rfl,rfl,rfl,by decide +kernel,rfl,by decide +kernel,by decide +kernel⟩
theorem okζ2 (T:Txt K mg t):FnOk P w K mg base CX0 1 t.aζ2 t.dζ2 ["rows"] (spζ2 K):=by
 refine T.fζ2.ok scζ2 (fun vs H Q E h=>?_) (fun cdv A outer s H vs Q E hr h=>?_)
 ·obtain⟨a,ys,R,rfl,_⟩:=h
  rfl
 ·obtain⟨a,ys,R,rfl,hS,hB,hp,q0,q1⟩:=h
  refine⟨_,(ζ2 (ζ81 PassesOwn.never rfl (ζA2 K rfl T.n_enumerate (ζ0 (pv 0) ζ3)) (ζa1 (n:=2) K rfl (ζq (ζe (i:=1) scζ2.nd rfl (Or.inl rfl)) (ζq (ζe (i:=2) scζ2.nd rfl (Or.inl rfl)) ζ91)))
   (ζ6 (ζe1 (ζp ζ74 (ζr (ζd K) (pv 2) ζ4 (fun _ _=>rfl)) ζ4 (ζv _))
   (ζ6 (ζl (pv 1)))
   ζn)))
   (ζ6 (ζl ζu10))),?_⟩
  have hyl:=hB.1
  refine⟨_,rfl,a,rfl,⟨_,hS⟩,ζ26 (K:=K) (a:=a) (xs:=ys) (fun i σ H2=>∃ v1 v2,σ=[some (.ref a),v1,v2]/\Same H H2/\∀ j,j<i->fnL R j 0=0) ⟨none,none,rfl,Same.refl _,fun j h=>absurd h (Nat.not_lt_zero _)⟩ (fun i σ H2 _ ⟨_,_,_,e,_⟩=>e.seq hS) ?_ ?_⟩
  ·rintro i v σ H2 pt hpt hi ⟨v1,v2,rfl,s2,hz⟩
   obtain⟨l,hl,r,rfl,hr⟩:=hB.at hi
   have hlp:=hp l (List.mem_of_getElem? hl)
   obtain⟨x,l',rfl⟩:∃ x l',l=x :: l':=by
    cases l with
    | nil=>exact absurd hlp (Nat.lt_irrefl 0)
    | cons x l'=>exact⟨x,l',rfl⟩
   have e0:fnL R i 0=x:=ζO1 hl rfl
   have s3:=s2.trans (same_at (o:=.tup [.int i,.ref r]) hpt)
   refine⟨pt,_,rfl,SqT.of ζ1,rfl,_,_,rfl,_,_,rfl,rfl,?_⟩
   generalize upd H2 pt (.tup [.int i,.ref r])=H3 at *
   refine⟨_,rfl,r,_,0,.int x,rfl,rfl,SqL.of (s3 _ _ hr),ζw (n:=0) rfl rfl,rfl,_,rfl,?_⟩
   rw[ζI]
   refine itn2 (fun e=>?_) (fun e=>?_)
   ·refine⟨_,_,rfl,s3,fun j hj=>?_⟩
    by_cases c:j=i
    ·rw[c,e0,e]
    ·exact hz j (by omega)
   ·exact⟨_,rfl,q1 i H3 s3 (by have:=(List.getElem?_eq_some_iff.mp hl).1;exact this) (by rw[e0];exact e)⟩
  ·rintro σ H2 ⟨v1,v2,rfl,s2,hz⟩
   exact q0 H2 s2 fun i hi=>hz i (by omega)
end
set_option maxHeartbeats 4000000
def spζ3(K:PySem.W.Frag):Sp:=fun vs H Q _=>∃(a:Addr) (kd:Bool) (xs:List V) (L:List (List Int)),vs=[.ref a]/\SqK kd K H a xs/\Bears (RowV K H) xs L/\L.length<=16/\(∀ i j,i<L.length->j<L.length->(fnL L i j).natAbs<=2 ^ 400) /\
 ((∀ l∈L,l.length=L.length)->∀ H':Hp,Same H H'->Q (.int (det L.length (fnL L))) H')/\(¬ (∀ l∈L,l.length=L.length)->∀ H':Hp,Same H H'->False)
theorem ζF12{s rest:TS}{D:Ends}{σ:L2.St}{H:Hp}(P:L2.St->Hp->Prop)(h1:∀ σ' H',P σ' H'->rest D σ' H')(h2:∀ K:L2.St->Hp->Prop,(∀ σ' H',P σ' H'->K σ' H')->s { D with nx:=K } σ H):tSeq s rest D σ H:=h2 _ h1
section
variable{P:Program}{w:World}{K:PySem.W.Frag}{mg:Str->Option Value}{base:Heap}{t:Adr}
theorem scζ3:FnScope ["table","rows","sign","last","at","pivot"] ["table"] (ζ5 sζ3):=⟨rfl,rfl,rfl,by decide +kernel,rfl,by decide +kernel,by decide +kernel⟩
theorem okζ3 (T:Txt K mg t):FnOk P w K mg base CX0 2 t.aζ3 t.dζ3 ["table"] (spζ3 K):=by
 refine T.fζ3.ok scζ3 (fun vs H Q E h=>?_) (fun cdv A outer s H vs Q E hr h=>?_)
 ·obtain⟨a,kd,xs,L,rfl,_⟩:=h
  rfl
 ·obtain⟨a,kd,xs,L,rfl,hS,hB,hL16,hA0,q,qe⟩:=h
  refine⟨_,(ζ2 (ζ51 (ζ8 (okζ0 T) (hr.mono (by decide)) rfl T.mζ0 T.fζ0.kp T.bζ0 .nil ζt (ζ0 (pv 0) ζ3)))
   (ζ2 (ζL6 (i:=1) rfl scζ3.nd rfl rfl (sc0:=ζ5 sζ3) (N0:=["table","rows","sign","last","at","pivot"]) (N':=["row"]) (o:=1) (fr:=[]) ⟨rfl,by decide +kernel,by decide +kernel,by decide +kernel,rfl,by decide +kernel⟩ (ζn2 K (pv 0)) (ζu (by decide)) (fun _ _ _ _=>(ζe (i:=0) (show List.Nodup (["row"]:List Str) by decide +kernel) rfl (Or.inl rfl))) (fun _ _ _ _=>ζB) (fun _ _ _ _=>(ζo (ζ01 K) (by rfl) T.n_list Boot.«list» (ζ0 (pv 0) ζ3))))
   (ζ2 (ζh (i:=2) scζ3.nd rfl (Or.inl rfl) ζ4)
   (ζ2 (ζh (i:=3) scζ3.nd rfl (Or.inr rfl) ζ4)
   (ζ2 (ζo5 PassesOwn.never (ζp ζS8 (ζb (ζi K) (by rfl) T.n_len Boot.«len» (ζ0 (pv 1) ζ3)) ζ4 (ζv _))
   (ζ2 (ζh (i:=4) scζ3.nd rfl (Or.inl rfl) (ζ8 (okζ2 T) (hr.mono (by decide)) rfl T.mζ2 T.fζ2.kp T.bζ2 .nil ζt (ζ0 (pv 1) ζ3)))
   (ζ2 (ζe1 (ζp ζk12 (pv 4) ζu10 (ζv _))
   (ζ6 (ζl ζ4))
   ζn)
   (ζ2 (ζe1 (ζp ζT8 (ζk ζz (pv 4) ζ4) ζ4 (ζv _))
   (ζ6 (ζh (i:=2) scζ3.nd rfl (Or.inl rfl) (ζe12 ζo8 (pv 2))))
   ζn)
   (ζ2 (ζh (i:=5) scζ3.nd rfl (Or.inr rfl) (ζB1 K PySem.F.plainAttrs_list PySem.F.slot_list_pop PySem.F.type_list_pop ζ19 (pv 1) (ζ0 (pv 4) ζ3)))
   (ζ2 (ζL6 (i:=1) rfl scζ3.nd rfl rfl (sc0:=ζ5 sζ3) (N0:=["table","rows","sign","last","at","pivot"]) (N':=["row","pivot","last"]) (o:=1) (fr:=[5,3]) ⟨rfl,by decide +kernel,by decide +kernel,by decide +kernel,rfl,by decide +kernel⟩ (ζX K (pv 1)) (ζu (by decide)) (fun _ _ _ _=>(ζe (i:=0) (show List.Nodup (["row","pivot","last"]:List Str) by decide +kernel) rfl (Or.inl rfl))) (fun _ _ _ _=>ζB) (fun _ _ _ _=>(ζ8 (okζ1 T) (hr.mono (by decide)) rfl T.mζ1 T.fζ1.kp T.bζ1 .nil ζt (ζ0 (pv 0) (ζ0 (pv 1) (ζ0 (pv 2) ζ3))))))
   (ζ6 (ζh (i:=3) scζ3.nd rfl (Or.inr rfl) (ζr (ζd K) (pv 5) ζ4 (fun _ _=>rfl))))))))))
   (ζ6 (ζl (ζk ζC (pv 2) (pv 3))))))))),?_⟩
  have hxl:=hB.1
  refine⟨_,rfl,a,kd,xs,L,rfl,hS,hB,fun hsq=>?_,fun h=>qe h H (Same.refl H)⟩
  have q:=q hsq
  obtain⟨n,hn⟩:∃ n,n=L.length:=⟨_,rfl⟩
  rw[<- hn]at q hsq hA0 hL16
  refine⟨_,rfl,a,rfl,ζK10 (K:=K) (k:=kd) (a:=a) (xs:=xs) (fun i zs H2=>Same H H2/\i<=xs.length/\Bears (ζT2 H2) zs (L.take i)) ⟨Same.refl _,Nat.zero_le _,⟨rfl,fun i l e=>by simp at e⟩⟩ (ζm (by omega)) (fun i zs H2 hi ⟨e,hi2,ez⟩=>⟨hS.same e,by rw[ez.1,List.length_take];omega⟩) ?_ ?_⟩
  ·rintro i v zs H2 hi ⟨s2,hil,hZ⟩ S hSS
   obtain⟨l,hl,r,k,rfl,hr⟩:=hB.at hi
   have hil':=(List.getElem?_eq_some_iff.mp hi).1
   refine nm ?_
   refine⟨_,rfl,r,_,rfl,(hr.same s2).or,fun c hc=>hSS _ _ ⟨s2.trans (same_at hc),hil',?_⟩⟩
   rw[List.take_succ,hl]
   refine(hZ.imp fun _ _ ⟨r',e,h⟩=>⟨r',e,same_at hc _ _ h⟩).snoc ⟨c,rfl,ζ1⟩
  rintro zs H2 ⟨s2,_,hZ⟩ rA hrA
  rw[hxl,List.take_length]at hZ
  have s3:=s2.trans (same_at (o:=.lst zs) hrA)
  refine⟨fun m σ H4=>∃(A:Mx) (k:Nat) (rA:Addr) (ys:List V) (R:List (List Int)) (sgn last:Int) (v4 v5:Option V),σ=[some (.ref a),some (.ref rA),some (.int sgn),some (.int last),v4,v5]/\Same H H4/\H rA=none/\H4 rA=some (.lst ys)/\Bears (LiV rA H4) ys R/\R.length=m/\(∀ l∈R,l.length=m)/\k+m=n/\Bar A k m (fnL R) last/\det n (fnL L)=sgn * det n A/\(∀ i j,i<n->j<n->(A i j).natAbs<=2 ^ 400)/\(m=0->last=det n A)/\(sgn=1\/sgn=-1)/\last.natAbs<2 ^ 9000,⟨n,fnL L,0,rA,zs,L,1,1,none,none,rfl,s3,s2.free hrA,ζ1,?_,hn.symm,hsq,by omega,ζn7 _ _,by omega,hA0,fun e=>by rw[e];rfl,.inl rfl,Nat.one_lt_two_pow (by decide)⟩,?_⟩
  ·exact hZ.imp fun v l ⟨r,e,h⟩=>⟨r,e,same_at hrA _ _ h,ζf h hrA⟩
  rintro m σ H4 ⟨A,k,rA,ys,R,sgn,last,v4,v5,rfl,s4,hr0,hr4,hR,hRm,hRl,hkm,hBar,hdet,hAb,hfin,hsg,hlb⟩
  have hyl:=hR.1
  refine⟨_,rfl,rA,ys,rfl,.inl (SqL.of hr4),_,_,rfl,rfl,_,rfl,?_⟩
  refine itd2 (fun hpos=>?_) (fun hpos=>?_)
  ·obtain⟨M,rfl⟩:∃ M,m=M+1:=⟨m - 1,by omega⟩
   refine⟨_,fun σ' H' h=>⟨M,Nat.lt_succ_self M,h⟩,?_⟩
   have hsm:∀ l∈R,∀ z∈l,z.natAbs<2 ^ 9000:=fun l hl z hz=>by
    obtain⟨i,hi⟩:=List.getElem?_of_mem hl
    obtain⟨j,hj⟩:=List.getElem?_of_mem hz
    have h1:=(List.getElem?_eq_some_iff.mp hi).1
    have h2:=(List.getElem?_eq_some_iff.mp hj).1
    have h3:=hRl l hl
    have:=ζo7 hBar hkm hL16 hAb (i:=i) (j:=j) (by omega) (by omega)
    rw[ζO1 hi hj]at this
    exact this
   refine⟨_,rfl,rA,ys,R,rfl,SqL.of hr4,hR.imp fun _ _ h=>h.list,fun l hl=>by rw[hRl l hl];omega,fun H5 s5 h0=>?_,fun t H5 s5 ht hne=>?_⟩
   ·refine⟨_,rfl,rfl,_,rfl,?_⟩
    refine itd (c:=V.non=V.non) rfl ?_
    have z:det n A=0:=by
     have:=ζN9 hBar fun i hi=>h0 i (by omega)
     rw[show k+M+1=n by omega]at this
     exact this
    rw[hdet,z,Int.mul_zero]at q
    exact q H5 (s4.trans s5)
   refine⟨_,rfl,rfl,_,rfl,?_⟩
   refine itdn (c:=V.int (t:Int)=V.non) (fun z=>nomatch z) ?_
   refine nm ?_
   dsimp only
   refine ζF12 (fun σ H6=>∃ sgn':Int,H6=H5/\σ=[some (.ref a),some (.ref rA),some (.int sgn'),some (.int last),some (.int t),v5]/\sgn'=sgn * sg t) ?_ ?_
   ·rintro σ H6 ⟨sgn',rfl,rfl,hsgn⟩
    have hr6:=s5 _ _ hr4
    have hR6:=hR.imp fun _ _ h=>h.same s5
    obtain⟨l,hl⟩:∃ l,R[t]?=some l:=⟨_,List.getElem?_eq_getElem ht⟩
    have hll:=hRl l (List.mem_of_getElem? hl)
    obtain⟨y,p',rfl⟩:∃ y p',l=y :: p':=by
     cases l with
     | nil=>cases hll
     | cons y p'=>exact⟨y,p',rfl⟩
    have hpl:p'.length=M:=by rw[List.length_cons]at hll;omega
    obtain⟨v,hv,pA,rfl,hpA,hpn⟩:=hR6.2 t _ hl
    have hy0:y≠0:=by rw[ζO1 hl rfl]at hne;exact hne
    refine⟨_,rfl,.inl ⟨rfl,_,SqL.of hr6⟩,_,rfl,rA,ys,(t:Int),t,.ref pA,rfl,rfl,hr6,by omega,by omega,by rw[ζY11 (by omega) (by omega),Int.toNat_natCast],hv,?_⟩
    have hpA7:(upd H6 rA (.lst (ys.eraseIdx t))) pA=some (.lst (IL (y :: p'))):=by rw[ζ9 hpn];exact hpA
    have s7:Same H (upd H6 rA (.lst (ys.eraseIdx t))):=ζs hr0 (s4.trans s5)
    have hR7:Bears (LiV rA (upd H6 rA (.lst (ys.eraseIdx t)))) (ys.eraseIdx t) (R.eraseIdx t):=(hR6.erase t).imp fun _ _ h=>h.mut
    have hr7:(upd H6 rA (.lst (ys.eraseIdx t))) rA=some (.lst (ys.eraseIdx t)):=ζ1
    generalize upd H6 rA (.lst (ys.eraseIdx t))=H7 at *
    have eRl:(R.eraseIdx t).length=M:=by rw[List.length_eraseIdx,if_pos ht];omega
    have hRl7:∀ l∈R.eraseIdx t,l.length=M+1:=fun l h=>hRl l (List.mem_of_mem_eraseIdx h)
    have hy7:=hR7.1
    refine⟨_,rfl,rA,rfl,⟨_,SqL.of hr7⟩,ζc1 (K:=K) (a:=rA) (xs:=ys.eraseIdx t) (fun i zs H8=>Same H7 H8/\i<=(ys.eraseIdx t).length/\Bears (ζT2 H8) zs (((R.eraseIdx t).take i).map (tkn y p' last))) ⟨Same.refl _,Nat.zero_le _,⟨rfl,fun i l e=>by simp at e⟩⟩ (ζm (by omega)) (fun i zs H8 hi ⟨e,hi2,ez⟩=>⟨SqL.of (e _ _ hr7),by rw[ez.1,List.length_map,List.length_take];omega⟩) ?_ ?_⟩
    ·rintro i v zs H8 hi ⟨s8,hil,hZ8⟩ S hSS
     obtain⟨l,hli,r,rfl,hr,_⟩:=hR7.at hi
     have hil':=(List.getElem?_eq_some_iff.mp hi).1
     have hl2:=hRl7 l (List.mem_of_getElem? hli)
     obtain⟨x,l',rfl⟩:∃ x l',l=x :: l':=by
      cases l with
      | nil=>cases hl2
      | cons x l'=>exact⟨x,l',rfl⟩
     have hl':l'.length=M:=by rw[List.length_cons]at hl2;omega
     refine nm ?_
     refine⟨_,rfl,_,rfl,_,rfl,r,pA,x,y,last,l',p',rfl,SqL.of (s8 _ _ hr),SqL.of (s8 _ _ hpA7),by omega,by omega,hBar.1,hlb,hsm _ (List.mem_of_mem_eraseIdx (List.mem_of_getElem? hli)),hsm _ (List.mem_of_getElem? hl),fun c H9 s9 hc0 hc=>hSS _ _ ⟨s8.trans s9,hil',?_⟩⟩
     rw[List.take_succ,hli,List.map_append]
     exact(hZ8.imp fun _ _ ⟨r',e,h⟩=>⟨r',e,s9 _ _ h⟩).snoc ⟨c,rfl,hc⟩
    rintro zs H8 ⟨s8,_,hZ8⟩ cA hcA
    rw[hy7,List.take_length]at hZ8
    have s9:=same_at (o:=.lst zs) hcA
    refine⟨_,rfl,pA,_,0,.int y,rfl,rfl,SqL.of (s9 _ _ (s8 _ _ hpA7)),ζw (n:=0) rfl rfl,?_⟩
    have hb1:Bar (fun i=>A (rotN k t i)) k (M+1) (fnL ((y :: p') :: R.eraseIdx t)) last:=by
     rw[ζh10 hl]
     exact ζs11 hBar (by omega)
    have hb2:Bar (fun i=>A (rotN k t i)) (k+1) M (fnL ((R.eraseIdx t).map (tkn y p' last))) y:=ζM9 hb1 hy0 fun i j hi hj=>ζ210 hpl eRl hRl7 hi hj
    have hdr:=ζk4 (n:=n) (k:=k) (t:=t) (A:=A) (by omega)
    refine⟨fun i=>A (rotN k t i),k+1,cA,zs,(R.eraseIdx t).map (tkn y p' last),sgn',y,_,_,rfl,s7.trans (s8.trans s9),(s7.trans s8).free hcA,ζ1,?_,by rw[List.length_map];exact eRl,fun l h=>?_,by omega,hb2,?_,fun i j hi hj=>hAb _ _ ?_ hj,fun e0=>?_,?_,hsm _ (List.mem_of_getElem? hl) y List.mem_cons_self⟩
    ·exact hZ8.imp fun v l ⟨r,e,h⟩=>⟨r,e,s9 _ _ h,ζf h hcA⟩
    ·obtain⟨l0,h0,rfl⟩:=List.mem_map.mp h
     rw[ζt7 (by rw[hRl7 l0 h0,hpl]),hpl]
    ·rw[hdr,hdet,hsgn,Int.mul_assoc,<- Int.mul_assoc (sg t),ζ513,Int.one_mul]
    ·unfold rotN
     split
     ·omega
     ·split
      ·omega
      ·split <;> omega
    ·subst e0
     have:=ζu11 hb1
     rw[show k+1=n by omega]at this
     exact this
    ·rw[hsgn]
     have hst:sg t=1\/sg t=-1:=by
      unfold sg
      split
      ·exact .inl rfl
      ·exact .inr rfl
     rcases hsg with e | e <;> rcases hst with f | f <;> rw[e,f]
     ·exact .inl rfl
     ·exact .inr rfl
     ·exact .inr rfl
     ·exact .inl rfl
   ·intro Kn hK
    refine⟨_,rfl,_,_,rfl,rfl,(by show(0:Int)<2;decide),rfl,_,rfl,?_⟩
    rw[ζI]
    refine itd2 (fun h1=>?_) (fun h1=>?_)
    ·refine⟨_,rfl,_,rfl,hK _ _ ⟨-sgn,rfl,rfl,?_⟩⟩
     have e:sg t=-1:=by unfold sg;rw[if_neg (by omega)]
     rw[e]
     omega
    ·refine hK _ _ ⟨sgn,rfl,rfl,?_⟩
     have e:sg t=1:=by unfold sg;rw[if_pos (by omega)]
     rw[e]
     omega
  ·have hm0:m=0:=by omega
   refine⟨_,rfl,_,rfl,_,_,rfl,rfl,⟨?_,hlb⟩,?_⟩
   ·rcases hsg with e | e <;> rw[e] <;> exact Nat.one_lt_two_pow (by decide)
   ·rw[hfin hm0]at *
    rw[hdet]at q
    exact q H4 s4
end
set_option maxHeartbeats 4000000
def spζ4(K:PySem.W.Frag):Sp:=fun vs H Q _=>∃(a:Addr) (l:List Int) (i:Nat),vs=[.ref a,.int i]/\SqL K H a (IL l)/\l.length<=1000/\∀(r:Addr) (H':Hp),Same H H'->H r=none->H' r=some (.lst (IL (cutz l i)))->Q (.ref r) H'
theorem ζe9(l:List Int)(z:Int):cutz (IL l) z=IL (cutz l z):=by
 unfold cutz
 show(l.map V.int).take _++(l.map V.int).drop _=(l.take _++l.drop _).map V.int
 rw[List.map_append,List.map_take,List.map_drop]
section
variable{P:Program}{w:World}{K:PySem.W.Frag}{mg:Str->Option Value}{base:Heap}{t:Adr}
theorem scζ4:FnScope ["row","number"] ["row","number"] (ζ5 sζ4):=⟨rfl,rfl,rfl,by decide +kernel,rfl,by decide +kernel,by decide +kernel⟩
theorem okζ4 (T:Txt K mg t):FnOk P w K mg base CX0 1 t.aζ4 t.dζ4 ["row","number"] (spζ4 K):=by
 refine T.fζ4.ok scζ4 (fun vs H Q E h=>?_) (fun cdv A outer s H vs Q E hr h=>?_)
 ·obtain⟨a,l,i,rfl,_⟩:=h
  rfl
 ·obtain⟨a,l,i,rfl,hA,hl,q⟩:=h
  refine⟨_,(ζ6 (ζl (ζk ζV8 (ζo (ζ01 K) (by rfl) T.n_list Boot.«list» (ζ0 (ζG (ζN K) (pv 0) ζU (ζT (pv 1))) ζ3)) (ζo (ζ01 K) (by rfl) T.n_list Boot.«list» (ζ0 (ζG (ζN K) (pv 0) (ζT (ζk ζS (pv 1) ζ4)) ζU) ζ3))))),?_⟩
  refine⟨_,rfl,_,rfl,(i:Int),rfl,a,_,rfl,hA,fun p1 hp1=>?_⟩
  have u1:=same_at (o:=.lst (cutV (IL l) none (some (i:Int)))) hp1
  refine⟨p1,_,rfl,.inl (SqL.of ζ1),fun p2 hp2=>?_⟩
  have u2:=same_at (o:=.lst (cutV (IL l) none (some (i:Int)))) hp2
  refine⟨_,rfl,_,rfl,_,_,rfl,rfl,_,rfl,a,_,rfl,(u1.trans u2).seq hA,fun p3 hp3=>?_⟩
  have u3:=same_at (o:=.lst (cutV (IL l) (some ((i:Int)+1)) none)) hp3
  refine⟨p3,_,rfl,.inl (SqL.of ζ1),fun p4 hp4=>?_⟩
  have u4:=same_at (o:=.lst (cutV (IL l) (some ((i:Int)+1)) none)) hp4
  have c1:=ζi1 (IL l) none (some (i:Int))
  have c2:=ζi1 (IL l) (some ((i:Int)+1)) none
  rw[ζ7]at c1 c2
  refine⟨p2,p4,_,_,rfl,rfl,(u3.trans u4) _ _ ζ1,ζ1,ζu1 (by omega),fun p5 hp5=>?_⟩
  have u14:=u1.trans (u2.trans (u3.trans u4))
  refine q p5 _ (u14.trans (same_at hp5)) (u14.free hp5) ?_
  rw[ζ1,ζq13 (by omega),ζe9]
end
set_option maxHeartbeats 4000000
def spζ5(K:PySem.W.Frag):Sp:=fun vs H Q _=>∃(a:Addr) (ys:List V) (L:List (List Int)) (i:Nat),vs=[.ref a,.int i]/\SqL K H a ys/\Bears (ζT2 H) ys L/\L.length<=1000/\(∀ l∈L,l.length<=1000)/\i<L.length /\
 ∀(r:Addr) (zs:List V) (H':Hp),Same H H'->H' r=some (.lst zs)->Bears (ζT2 H') zs ((cutz L i).map fun l=>cutz l (i:Int))->Q (.ref r) H'
theorem ζo4{α:Type}{l:List α}{i j:Nat}{x:α}(hx:l[j]?=some x):cutz (l.take (j+1)) (i:Int)=cutz (l.take j) (i:Int)++(if j=i then [] else [x]):=by
 have hj:=(List.getElem?_eq_some_iff.mp hx).1
 have e:l.take (j+1)=l.take j++[x]:=by rw[List.take_succ,hx];rfl
 have hl:(l.take j).length=j:=by rw[List.length_take];omega
 have short:∀ m:List α,m.length<=i->cutz m (i:Int)=m:=fun m hm=>by
  unfold cutz
  rw[Int.toNat_natCast,List.take_of_length_le hm,List.drop_eq_nil_of_le (by omega),List.append_nil]
 rw[e]
 by_cases c:j=i
 ·subst c
  rw[if_pos rfl,List.append_nil,short (l.take j) (by omega)]
  unfold cutz
  rw[Int.toNat_natCast,List.take_append_of_le_length (by omega),List.drop_eq_nil_of_le (by rw[List.length_append,hl];exact Nat.le_refl _),List.append_nil,List.take_of_length_le (by omega)]
 ·rw[if_neg c]
  by_cases d:j<i
  ·rw[short (l.take j++[x]) (by rw[List.length_append,hl];exact d),short (l.take j) (by omega)]
  ·unfold cutz
   rw[Int.toNat_natCast,List.take_append_of_le_length (by omega),List.drop_append_of_le_length (by omega),List.append_assoc]
section
variable{P:Program}{w:World}{K:PySem.W.Frag}{mg:Str->Option Value}{base:Heap}{t:Adr}
theorem scζ5:FnScope ["table","number"] ["table","number"] (ζ5 sζ5):=⟨rfl,rfl,rfl,by decide +kernel,rfl,by decide +kernel,by decide +kernel⟩
theorem okζ5 (T:Txt K mg t):FnOk P w K mg base CX0 2 t.aζ5 t.dζ5 ["table","number"] (spζ5 K):=by
 refine T.fζ5.ok scζ5 (fun vs H Q E h=>?_) (fun cdv A outer s H vs Q E hr h=>?_)
 ·obtain⟨a,ys,L,i,rfl,_⟩:=h
  rfl
 ·obtain⟨a,ys,L,i,rfl,hA,hB,hL,hLl,hi,q⟩:=h
  refine⟨_,(ζ6 (ζl (ζN4 rfl (sc0:=ζ5 sζ5) (N0:=["table","number"]) (N':=["at","row","number"]) (o:=2) (fr:=[1]) ⟨rfl,by decide +kernel,by decide +kernel,by decide +kernel,rfl,by decide +kernel⟩ (ζA2 K rfl T.n_enumerate (ζ0 (pv 0) ζ3)) (ζ54 (ζb1 (by decide) (ζb1 (by decide) ζ64))) (fun _ _ _ _=>(ζa1 (n:=2) K rfl (ζq (ζe (i:=0) (show List.Nodup (["at","row","number"]:List Str) by decide +kernel) rfl (Or.inl rfl)) (ζq (ζe (i:=1) (show List.Nodup (["at","row","number"]:List Str) by decide +kernel) rfl (Or.inl rfl)) ζ91)))) (fun _ _ _ _=>(ζE7 (ζp ζ74 (pv 0) (pv 2) (ζv _)))) (fun _ _ _ _=>(ζ8 (okζ4 T) (hr.mono (by decide)) rfl T.mζ4 T.fζ4.kp T.bζ4 .nil ζt (ζ0 (pv 1) (ζ0 (pv 2) ζ3))))))),?_⟩
  have hyl:=hB.1
  refine⟨_,rfl,a,rfl,⟨_,hA⟩,ζQ7 (K:=K) (a:=a) (xs:=ys) (fun j zs H2=>Same H H2/\j<=ys.length/\Bears (ζT2 H2) zs ((cutz (L.take j) (i:Int)).map fun l=>cutz l (i:Int))) ⟨Same.refl _,Nat.zero_le _,by rw[show(cutz (L.take 0) (i:Int)).map (fun l=>cutz l (i:Int))=[] by unfold cutz;simp];exact⟨rfl,fun i l e=>by simp at e⟩⟩ (ζm (by omega)) (fun j zs H2 hj ⟨e,hj2,ez⟩=>⟨e.seq hA,by
   rw[ez.1,List.length_map]
   refine Nat.le_trans (ζC9 _ _) ?_
   rw[List.length_take]
   omega⟩) ?_ ?_⟩
  ·rintro j v zs H2 pt hpt hj ⟨s2,hjl,hZ⟩ S hSS
   obtain⟨l,hl,r,rfl,hr⟩:=hB.at hj
   have hjl':=(List.getElem?_eq_some_iff.mp hj).1
   have s3:=same_at (o:=.tup [.int j,.ref r]) hpt
   refine⟨pt,_,rfl,SqT.of ζ1,rfl,_,_,rfl,_,_,rfl,rfl,?_⟩
   have hZ3:Bears (ζT2 (upd H2 pt (.tup [.int j,.ref r]))) zs ((cutz (L.take j) (i:Int)).map fun l=>cutz l (i:Int)):=hZ.imp fun _ _ ⟨r',e,h⟩=>⟨r',e,s3 _ _ h⟩
   have s23:=s2.trans s3
   generalize upd H2 pt (.tup [.int j,.ref r])=H3 at *
   refine⟨_,rfl,_,rfl,rfl,_,rfl,?_⟩
   rw[ζI]
   refine itn2 (fun e=>?_) (fun e=>?_)
   ·refine hSS _ _ ⟨s23,hjl',?_⟩
    rw[ζo4 hl,if_pos (by omega),List.append_nil]
    exact hZ3
   ·refine⟨_,rfl,_,rfl,r,l,i,rfl,SqL.of (s23 _ _ hr),hLl l (List.mem_of_getElem? hl),fun c H4 s4 _ hc=>hSS _ _ ⟨s23.trans s4,hjl',?_⟩⟩
    rw[ζo4 hl,if_neg (by omega),List.map_append]
    exact(hZ3.imp fun _ _ ⟨r',e,h⟩=>⟨r',e,s4 _ _ h⟩).snoc ⟨c,rfl,hc⟩
  ·rintro zs H2 ⟨s2,_,hZ⟩ p hp
   rw[hyl,List.take_length]at hZ
   exact q p zs _ (s2.trans (same_at hp)) ζ1 (hZ.imp fun _ _ ⟨r',e,h⟩=>⟨r',e,same_at hp _ _ h⟩)
end
set_option maxHeartbeats 4000000
def spζ6:Sp:=fun vs H Q _=>∃(x y:Int),vs=[.int x,.int y]/\Q (.int (Int.gcd x y)) H
theorem ζi8(z:Int):(if z<0 then -z else z)=(z.natAbs:Int):=by split <;> omega
theorem ζn9(a b:Nat):Nat.gcd b (a % b)=Nat.gcd a b:=by rw[Nat.gcd_comm b,<- Nat.gcd_rec,Nat.gcd_comm]
section
variable{P:Program}{w:World}{K:PySem.W.Frag}{mg:Str->Option Value}{base:Heap}{t:Adr}
theorem scζ6:FnScope ["one","other","rest"] ["one","other"] (ζ5 sζ6):=⟨rfl,rfl,rfl,by decide +kernel,rfl,by decide +kernel,by decide +kernel⟩
theorem okζ6 (T:Txt K mg t):FnOk P w K mg base CX0 1 t.aζ6 t.dζ6 ["one","other"] spζ6:=by
 refine T.fζ6.ok scζ6 (fun vs H Q E h=>?_) (fun cdv A outer s H vs Q E hr h=>?_)
 ·obtain⟨x,y,rfl,_⟩:=h
  rfl
 ·obtain⟨x,y,rfl,q⟩:=h
  refine⟨_,(ζ2 (ζh (i:=0) scζ6.nd rfl (Or.inl rfl) (ζb ζA4 (by rfl) T.n_abs Boot.«abs» (ζ0 (pv 0) ζ3)))
   (ζ2 (ζh (i:=1) scζ6.nd rfl (Or.inl rfl) (ζb ζA4 (by rfl) T.n_abs Boot.«abs» (ζ0 (pv 1) ζ3)))
   (ζ2 (ζo5 PassesOwn.never (ζp ζ74 (pv 1) ζ4 (ζv _))
   (ζ2 (ζh (i:=2) scζ6.nd rfl (Or.inl rfl) (ζk ζz (pv 0) (pv 1)))
   (ζ2 (ζh (i:=0) scζ6.nd rfl (Or.inl rfl) (pv 1))
   (ζ6 (ζh (i:=1) scζ6.nd rfl (Or.inl rfl) (pv 2))))))
   (ζ6 (ζl (pv 0)))))),?_⟩
  refine⟨_,rfl,x,rfl,?_⟩
  rw[ζi8]
  refine nm ?_
  dsimp only
  refine⟨_,rfl,y,rfl,?_⟩
  rw[ζi8]
  refine nm ?_
  dsimp only
  refine⟨fun m σ H2=>H2=H/\∃(a b:Nat) (v3:Option V),σ=[some (.int a),some (.int b),v3]/\b=m/\Nat.gcd a b=Int.gcd x y,⟨y.natAbs,rfl,x.natAbs,y.natAbs,none,rfl,rfl,rfl⟩,?_⟩
  rintro m σ H2 ⟨rfl,a,b,v3,rfl,rfl,hg⟩
  refine⟨_,rfl,rfl,_,rfl,?_⟩
  rw[ζI]
  refine itn2 (fun hb=>?_) (fun hb=>?_)
  ·have b0:b=0:=by omega
   subst b0
   rw[Nat.gcd_zero_right]at hg
   refine⟨_,rfl,?_⟩
   rw[hg]
   exact q
  ·have bp:0<b:=by omega
   refine⟨_,fun σ' H' h=>h,?_⟩
   refine⟨_,rfl,_,rfl,_,_,rfl,rfl,(by omega:(0:Int)<(b:Int)),?_⟩
   refine⟨_,rfl,?_⟩
   refine⟨_,rfl,?_⟩
   exact⟨a % b,Nat.mod_lt _ bp,rfl,b,a % b,_,rfl,rfl,by rw[ζn9];exact hg⟩
end
set_option maxHeartbeats 4000000
def spζ7:Sp:=fun vs H Q _=>∃(x y:Int),vs=[.int x,.int y]/\y≠0/\x.natAbs<2 ^ 9000/\y.natAbs<2 ^ 9000/\∀ p q:Int,LowF x y p q->∀ r,H r=none->Q (.ref r) (upd H r (.tup [.int p,.int q]))
section
variable{P:Program}{w:World}{K:PySem.W.Frag}{mg:Str->Option Value}{base:Heap}{t:Adr}
theorem scζ7:FnScope ["top","bottom","divisor"] ["top","bottom"] (ζ5 sζ7):=⟨rfl,rfl,rfl,by decide +kernel,rfl,by decide +kernel,by decide +kernel⟩
theorem okζ7 (T:Txt K mg t):FnOk P w K mg base CX0 2 t.aζ7 t.dζ7 ["top","bottom"] spζ7:=by
 refine T.fζ7.ok scζ7 (fun vs H Q E h=>?_) (fun cdv A outer s H vs Q E hr h=>?_)
 ·obtain⟨x,y,rfl,_⟩:=h
  rfl
 ·obtain⟨x,y,rfl,hy,bx,by',q⟩:=h
  refine⟨_,(ζ2 (ζh (i:=2) scζ7.nd rfl (Or.inl rfl) (ζ8 (okζ6 T) (hr.mono (by decide)) rfl T.mζ6 T.fζ6.kp T.bζ6 .nil ζt (ζ0 (pv 0) (ζ0 (pv 1) ζ3))))
   (ζ2 (ζe1 (ζp ζR8 (pv 1) ζ4 (ζv _))
   (ζ6 (ζh (i:=2) scζ7.nd rfl (Or.inl rfl) (ζe12 ζo8 (pv 2))))
   ζn)
   (ζ6 (ζl (ζq1 (ζ0 (ζk ζz3 (pv 0) (pv 2)) (ζ0 (ζk ζz3 (pv 1) (pv 2)) ζ3))))))),?_⟩
  have gb:Int.gcd x y<2 ^ 9000:=Nat.lt_of_le_of_lt (Nat.gcd_le_right _ (by omega)) by'
  have low:=fun d hd=>ζE10 (x:=x) (y:=y) (d:=d) hy hd
  have fin:∀ d:Int,d=(if y<0 then -(Int.gcd x y:Int) else (Int.gcd x y:Int))->ζK12 x d/\ζK12 y d:=fun d hd=>by
   have h0:=(low d hd).1
   have h1:d.natAbs<2 ^ 9000:=by
    rw[hd]
    split
    ·rw[Int.natAbs_neg,Int.natAbs_natCast];exact gb
    ·rw[Int.natAbs_natCast];exact gb
   exact⟨⟨h0,h1⟩,⟨h0,h1⟩⟩
  refine⟨_,rfl,_,rfl,x,y,rfl,?_⟩
  refine nm ?_
  dsimp only
  refine ζX12 (fun σ H2=>∃ d:Int,d=(if y<0 then -(Int.gcd x y:Int) else (Int.gcd x y:Int))/\σ=[some (.int x),some (.int y),some (.int d)]/\H2=H) ?_ ?_
  rotate_left
  ·intro Kn hK
   refine⟨_,rfl,_,_,rfl,rfl,_,rfl,?_⟩
   refine itd2 (fun h=>?_) (fun h=>?_)
   ·refine⟨_,rfl,_,rfl,?_⟩
    exact hK _ _ ⟨_,(if_pos h).symm,rfl,rfl⟩
   ·exact hK _ _ ⟨_,(if_neg h).symm,rfl,rfl⟩
  rintro σ H2 ⟨d,hd,rfl,rfl⟩
  obtain⟨f1,f2⟩:=fin d hd
  refine⟨_,rfl,_,rfl,_,_,rfl,rfl,f1,_,rfl,_,rfl,_,_,rfl,rfl,f2,(by show 2<=sizeLine;decide),fun r hr=>?_⟩
  exact q _ _ (low d hd).2 r hr
end
set_option maxHeartbeats 4000000
def spζ8(K:PySem.W.Frag):Sp:=fun vs H Q _=>∃(a b:Addr) (xs:List V) (L:List (List Int)) (bs:List Int) (c N:Nat),vs=[.ref a,.int c,.ref b]/\SqL K H a xs/\Bears (ζT2 H) xs L/\SqL K H b (IL bs)/\L.length=N/\bs.length=N/\(∀ l∈L,l.length=N)/\c<N/\N<=1000 /\
 ∀(r:Addr) (zs:List V) (H':Hp),Same H H'->H' r=some (.lst zs)->Bears (ζT2 H') zs (wcL L c bs)->Q (.ref r) H'
section
variable{P:Program}{w:World}{K:PySem.W.Frag}{mg:Str->Option Value}{base:Heap}{t:Adr}
theorem scζ8:FnScope ["table","column","right"] ["table","column","right"] (ζ5 sζ8):=⟨rfl,rfl,rfl,by decide +kernel,rfl,by decide +kernel,by decide +kernel⟩
theorem okζ8 (T:Txt K mg t):FnOk P w K mg base CX0 1 t.aζ8 t.dζ8 ["table","column","right"] (spζ8 K):=by
 refine T.fζ8.ok scζ8 (fun vs H Q E h=>?_) (fun cdv A outer s H vs Q E hr h=>?_)
 ·obtain⟨a,b,xs,L,bs,c,N,rfl,_⟩:=h
  rfl
 ·obtain⟨a,b,xs,L,bs,c,N,rfl,hA,hX,hB,hLN,hbN,hrow,hc,hN,q⟩:=h
  refine⟨_,(ζ6 (ζl (ζN4 rfl (sc0:=ζ5 sζ8) (N0:=["table","column","right"]) (N':=["row","number","column"]) (o:=2) (fr:=[1]) ⟨rfl,by decide +kernel,by decide +kernel,by decide +kernel,rfl,by decide +kernel⟩ (ζM8 K rfl T.n_zip (ζ0 (pv 0) (ζ0 (pv 2) ζ3))) (ζ54 (ζb1 (by decide) (ζb1 (by decide) ζ64))) (fun _ _ _ _=>(ζa1 (n:=2) K rfl (ζq (ζe (i:=0) (show List.Nodup (["row","number","column"]:List Str) by decide +kernel) rfl (Or.inl rfl)) (ζq (ζe (i:=1) (show List.Nodup (["row","number","column"]:List Str) by decide +kernel) rfl (Or.inl rfl)) ζ91)))) (fun _ _ _ _=>ζB) (fun _ _ _ _=>(ζk (ζL7 K) (ζk (ζL7 K) (ζo (ζ01 K) (by rfl) T.n_list Boot.«list» (ζ0 (ζG (ζN K) (pv 0) ζU (ζT (pv 2))) ζ3)) (ζR (ζ0 (pv 1) ζ3))) (ζo (ζ01 K) (by rfl) T.n_list Boot.«list» (ζ0 (ζG (ζN K) (pv 0) (ζT (ζk ζS (pv 2) ζ4)) ζU) ζ3))))))),?_⟩
  have one:1<=sizeLine:=by decide
  have hxl:=hX.1
  have wl:(wcL L c bs).length=N:=(ζs7 (by omega)).trans hLN
  refine⟨_,rfl,_,rfl,a,b,rfl,⟨_,_,hA,hB⟩,ζH10 (K:=K) (a:=a) (b:=b) (xs:=xs) (ys:=IL bs) (fun i zs H3=>Same H H3/\i<=N/\Bears (ζT2 H3) zs ((wcL L c bs).take i)) ⟨Same.refl _,Nat.zero_le _,⟨rfl,fun i l e=>by simp at e⟩⟩ (by rw[ζ7];omega) (ζm (by omega))
   (fun i zs H3 hi ⟨e,hi2,ez⟩=>⟨e.seq hA,e.seq hB,by rw[ez.1,List.length_take];omega⟩) ?_ ?_⟩
  ·rintro i u v zs H3 pt hpt hu hv ⟨s3,hil,hZ⟩ S hSS
   obtain⟨l,hl,lr,rfl,hlr⟩:=hX.at hu
   obtain⟨x,rfl,hx⟩:=ζJ1 hv
   have hil':=(List.getElem?_eq_some_iff.mp hx).1
   have ll:=hrow l (List.mem_of_getElem? hl)
   have s4:=same_at (o:=.tup [.ref lr,.int x]) hpt
   refine⟨pt,_,rfl,SqT.of ζ1,rfl,_,_,rfl,_,_,rfl,rfl,?_⟩
   have s34:=s3.trans s4
   have hZ4:Bears (ζT2 (upd H3 pt (.tup [.ref lr,.int x]))) zs ((wcL L c bs).take i):=hZ.imp fun _ _ ⟨r',e,h⟩=>⟨r',e,s4 _ _ h⟩
   generalize upd H3 pt (.tup [.ref lr,.int x])=H4 at *
   have hlr4:=s34 _ _ hlr
   refine⟨_,rfl,_,rfl,_,rfl,lr,_,rfl,SqL.of hlr4,fun p1 hp1=>?_⟩
   rw[ζK3 (by omega),Int.toNat_natCast]
   have u1:=same_at (o:=.lst ((IL l).take c)) hp1
   have k1:=ζ1 (H:=H4) (a:=p1) (o:=.lst ((IL l).take c))
   generalize upd H4 p1 (.lst ((IL l).take c))=H5 at *
   refine⟨p1,_,rfl,.inl (SqL.of k1),fun p2 hp2=>?_⟩
   have u2:=same_at (o:=.lst ((IL l).take c)) hp2
   have k2:=ζ1 (H:=H5) (a:=p2) (o:=.lst ((IL l).take c))
   generalize upd H5 p2 (.lst ((IL l).take c))=H6 at *
   refine⟨_,rfl,one,fun p3 hp3=>?_⟩
   have u3:=same_at (o:=.lst [.int x]) hp3
   have k3:=ζ1 (H:=H6) (a:=p3) (o:=.lst [.int x])
   generalize upd H6 p3 (.lst [.int x])=H7 at *
   refine⟨p2,p3,_,_,rfl,rfl,SqL.of (u3 _ _ k2),SqL.of k3,ζu1 (by rw[List.length_take,ζ7];show _+1<=_;omega),fun p4 hp4=>?_⟩
   have u4:=same_at (o:=.lst ((IL l).take c++[.int x])) hp4
   have k4:=ζ1 (H:=H7) (a:=p4) (o:=.lst ((IL l).take c++[.int x]))
   generalize upd H7 p4 (.lst ((IL l).take c++[.int x]))=H8 at *
   have t48:=u1.trans (u2.trans (u3.trans u4))
   refine⟨_,rfl,_,rfl,_,_,rfl,rfl,_,rfl,lr,_,rfl,SqL.of (t48 _ _ hlr4),fun p5 hp5=>?_⟩
   rw[ζL3 (by omega) (by rw[ζ7];omega),show((c:Int)+1).toNat=c+1 by omega]
   have u5:=same_at (o:=.lst ((IL l).drop (c+1))) hp5
   have k5:=ζ1 (H:=H8) (a:=p5) (o:=.lst ((IL l).drop (c+1)))
   generalize upd H8 p5 (.lst ((IL l).drop (c+1)))=H9 at *
   refine⟨p5,_,rfl,.inl (SqL.of k5),fun p6 hp6=>?_⟩
   have u6:=same_at (o:=.lst ((IL l).drop (c+1))) hp6
   have k6:=ζ1 (H:=H9) (a:=p6) (o:=.lst ((IL l).drop (c+1)))
   generalize upd H9 p6 (.lst ((IL l).drop (c+1)))=H10 at *
   refine⟨p4,p6,_,_,rfl,rfl,SqL.of (u6 _ _ (u5 _ _ k4)),SqL.of k6,ζu1 (by rw[List.length_append,List.length_take,List.length_drop,ζ7];show _+1+_<=_;omega),fun p7 hp7=>?_⟩
   have u7:=same_at (o:=.lst ((IL l).take c++[.int x]++(IL l).drop (c+1))) hp7
   have t410:=t48.trans (u5.trans (u6.trans u7))
   have el:(IL l).take c++[.int x]++(IL l).drop (c+1)=IL (l.take c++x :: l.drop (c+1)):=by
    show(l.map V.int).take c++[.int x]++(l.map V.int).drop (c+1)=(l.take c++x :: l.drop (c+1)).map V.int
    rw[<- List.map_take,<- List.map_drop,List.append_assoc,List.map_append,List.map_cons]
    rfl
   refine hSS _ _ ⟨s34.trans t410,by omega,?_⟩
   have ew:(wcL L c bs)[i]?=some (l.take c++x :: l.drop (c+1)):=by
    unfold wcL
    rw[List.getElem?_zipWith,hl,hx]
   rw[List.take_succ,ew]
   refine(hZ4.imp fun _ _ ⟨r',e,h⟩=>⟨r',e,t410 _ _ h⟩).snoc ⟨p7,rfl,?_⟩
   rw[ζ1,el]
  ·rintro zs H3 ⟨s3,_,hZ⟩ r hr
   rw[hxl,List.take_of_length_le (by omega)]at hZ
   have u:=same_at (o:=.lst zs) hr
   exact q r zs _ (s3.trans u) ζ1 (hZ.imp fun _ _ ⟨r',e,h⟩=>⟨r',e,u _ _ h⟩)
end
set_option maxHeartbeats 4000000
def spζ9(K:PySem.W.Frag):Sp:=fun vs H Q _=>∃(a b:Addr) (xs:List V) (L:List (List Int)) (bs:List Int),vs=[.ref a,.ref b]/\SqL K H a xs/\Bears (ζT2 H) xs L/\SqL K H b (IL bs)/\L.length<=14/\(∀ l∈L,l.length=L.length)/\bs.length=L.length/\(∀ i j,i<L.length->j<L.length->(fnL L i j).natAbs<=2 ^ 400)/\(∀ x∈bs,x.natAbs<=2 ^ 400)/\det L.length (fnL L)≠0 /\
 ∀(r:Addr) (zs:List V) (fs:List (Int × Int)) (H':Hp),Same H H'->H' r=some (.tup zs)->PairsV H' zs fs->fs.length=L.length->(∀(j:Nat) (f:Int × Int),fs[j]?=some f->LowF (det L.length (putc (fnL L) j fun i=>bs.getD i 0)) (det L.length (fnL L)) f.1 f.2)->Q (.ref r) H'
section
variable{P:Program}{w:World}{K:PySem.W.Frag}{mg:Str->Option Value}{base:Heap}{t:Adr}
theorem scζ9:FnScope ["table","right","whole","tops"] ["table","right"] (ζ5 sζ9):=⟨rfl,rfl,rfl,by decide +kernel,rfl,by decide +kernel,by decide +kernel⟩
theorem okζ9 (T:Txt K mg t):FnOk P w K mg base CX0 3 t.aζ9 t.dζ9 ["table","right"] (spζ9 K):=by
 refine T.fζ9.ok scζ9 (fun vs H Q E h=>?_) (fun cdv A outer s H vs Q E hr h=>?_)
 ·obtain⟨a,b,xs,L,bs,rfl,_⟩:=h
  rfl
 ·obtain⟨a,b,xs,L,bs,rfl,hA,hX,hB,hL14,hrow,hbl,hLb,hbb,hdet,q⟩:=h
  refine⟨_,(ζ2 (ζe1 (ζp ζ74 (ζb (ζi K) (by rfl) T.n_len Boot.«len» (ζ0 (pv 1) ζ3)) (ζb (ζi K) (by rfl) T.n_len Boot.«len» (ζ0 (pv 0) ζ3)) (ζv _))
   (ζ6 ζJ)
   ζn)
   (ζ2 (ζh (i:=2) scζ9.nd rfl (Or.inr rfl) (ζ8 (okζ3 T) (hr.mono (by decide)) rfl T.mζ3 T.fζ3.kp T.bζ3 .nil ζt (ζ0 (pv 0) ζ3)))
   (ζ2 (ζe1 (ζp ζT8 (pv 2) ζ4 (ζv _))
   (ζ6 ζJ)
   ζn)
   (ζ2 (ζL6 (i:=3) rfl scζ9.nd rfl rfl (sc0:=ζ5 sζ9) (N0:=["table","right","whole","tops"]) (N':=["column","table","right"]) (o:=1) (fr:=[0,1]) ⟨rfl,by decide +kernel,by decide +kernel,by decide +kernel,rfl,by decide +kernel⟩ (ζF rfl T.n_range (ζ0 (ζb (ζi K) (by rfl) T.n_len Boot.«len» (ζ0 (pv 0) ζ3)) ζ3)) (ζu (by decide)) (fun _ _ _ _=>(ζe (i:=0) (show List.Nodup (["column","table","right"]:List Str) by decide +kernel) rfl (Or.inl rfl))) (fun _ _ _ _=>ζB) (fun _ _ _ _=>(ζ8 (okζ3 T) (hr.mono (by decide)) rfl T.mζ3 T.fζ3.kp T.bζ3 .nil ζt (ζ0 (ζ8 (okζ8 T) (hr.mono (by decide)) rfl T.mζ8 T.fζ8.kp T.bζ8 .nil ζt (ζ0 (pv 1) (ζ0 (pv 0) (ζ0 (pv 2) ζ3)))) ζ3))))
   (ζ6 (ζl (ζo (ζL1 K) (by rfl) T.n_tuple Boot.«tuple» (ζ0 (ζN4 rfl (sc0:=ζ5 sζ9) (N0:=["table","right","whole","tops"]) (N':=["top","whole"]) (o:=1) (fr:=[2]) ⟨rfl,by decide +kernel,by decide +kernel,by decide +kernel,rfl,by decide +kernel⟩ (ζX K (pv 3)) (ζu (by decide)) (fun _ _ _ _=>(ζe (i:=0) (show List.Nodup (["top","whole"]:List Str) by decide +kernel) rfl (Or.inl rfl))) (fun _ _ _ _=>ζB) (fun _ _ _ _=>(ζ8 (okζ7 T) (hr.mono (by decide)) rfl T.mζ7 T.fζ7.kp T.bζ7 .nil ζt (ζ0 (pv 0) (ζ0 (pv 1) ζ3))))) ζ3)))))))),?_⟩
  obtain⟨N,hN⟩:∃ N,N=L.length:=⟨_,rfl⟩
  rw[<- hN]at hL14 hbl hLb hdet q hrow
  have hxl:=hX.1
  have small:∀ A:Mx,(∀ i j,i<N->j<N->(A i j).natAbs<=2 ^ 400)->(det N A).natAbs<2 ^ 9000:=fun A hA=>by
   refine Nat.lt_of_le_of_lt (Nat.le_trans (ζn4 hA) (ζm7 (b:=400) (by omega))) ?_
   exact Nat.pow_lt_pow_right (by decide) (by omega)
  have hpb:∀ c,c<N->∀ i j,i<N->j<N->(putc (fnL L) c (fun i=>bs.getD i 0) i j).natAbs<=2 ^ 400:=fun c hc i j hi hj=>by
   unfold putc
   split
   ·show(bs.getD i 0).natAbs<=_
    rw[List.getD_eq_getElem?_getD]
    cases hz:bs[i]? with
    | none=>exact Nat.zero_le _
    | some y=>exact hbb y (List.mem_of_getElem? hz)
   ·exact hLb i j hi hj
  refine⟨_,rfl,b,_,rfl,.inl hB,_,rfl,a,xs,rfl,.inl hA,rfl,_,rfl,?_⟩
  rw[ζI,ζ7]
  refine itn (by omega) ?_
  refine⟨_,rfl,a,false,xs,L,rfl,hA,hX.imp (fun _ _ ⟨r',e,h⟩=>⟨r',false,e,SqL.of h⟩),by omega,fun i j hi hj=>hLb i j (by omega) (by omega),fun _ H1 s1=>?_,fun h=>absurd (fun l hl=>by rw[<- hN];exact hrow l hl) h⟩
  rw[<- hN]
  refine nm ?_
  dsimp only
  refine⟨_,rfl,rfl,_,rfl,?_⟩
  rw[ζI]
  refine itdn hdet ?_
  obtain⟨tp,htp⟩:∃ tp:Nat->Int,tp=fun j=>det N (putc (fnL L) j fun i=>bs.getD i 0):=⟨_,rfl⟩
  refine⟨_,rfl,a,xs,rfl,.inl (s1.seq hA),_,rfl,by omega,by omega,ζD2 (lo:=0) (n:=(xs.length:Int).toNat) (fun i zs H2=>Same H1 H2/\zs=IL ((List.range i).map tp)) ⟨Same.refl _,rfl⟩ (ζm (by omega)) (fun i zs H2 _ ⟨_,e⟩=>by rw[e,ζ7,List.length_map,List.length_range];exact Nat.le_refl _) ?_ ?_⟩
  ·rintro i zs H2 hi ⟨s2,rfl⟩ SS hSS
   have hi2:i<N:=by omega
   have s12:=s1.trans s2
   refine nm ?_
   refine⟨_,rfl,_,rfl,_,rfl,a,b,xs,L,bs,i,N,(by rw[Int.zero_add];rfl),s12.seq hA,hX.imp (fun _ _ ⟨r',e,h⟩=>⟨r',e,s12 _ _ h⟩),s12.seq hB,hN.symm,hbl,hrow,hi2,by omega,fun r ws H3 s3 hr hW=>?_⟩
   have wl:(wcL L i bs).length=N:=(ζs7 (by omega)).trans hN.symm
   refine⟨r,false,ws,wcL L i bs,rfl,SqL.of hr,hW.imp (fun _ _ ⟨r',e,h⟩=>⟨r',false,e,SqL.of h⟩),by omega,fun i' j' h1 h2=>?_,fun _ H4 s4=>?_,fun h=>absurd (fun l hl=>by rw[wl];exact ζl8 hrow hi2 l hl) h⟩
   ·rw[wl]at h1 h2
    rw[ζU9 hN.symm hbl hrow hi2 h1 h2]
    exact hpb i hi2 i' j' h1 h2
   ·refine hSS _ _ ⟨s2.trans (s3.trans s4),?_⟩
    rw[List.range_succ,List.map_append,wl,ζa fun i' j' h1 h2=>ζU9 hN.symm hbl hrow hi2 h1 h2]
    show _=IL (_++[tp i])
    rw[htp]
    exact(ζl1 ..).symm
  rintro zs H2 ⟨s2,rfl⟩ tA htA
  rw[show(xs.length:Int).toNat=N by omega]
  have u3:=same_at (o:=.lst (IL ((List.range N).map tp))) htA
  have ht3:=ζ1 (H:=H2) (a:=tA) (o:=.lst (IL ((List.range N).map tp)))
  have s13:=s1.trans (s2.trans u3)
  generalize upd H2 tA (.lst (IL ((List.range N).map tp)))=H3 at *
  refine nm ?_
  dsimp only
  refine⟨_,rfl,tA,rfl,⟨_,SqL.of ht3⟩,ζc1 (K:=K) (a:=tA) (xs:=IL ((List.range N).map tp)) (fun i ws H4=>Same H3 H4/\∃ fs:List (Int × Int),PairsV H4 ws fs/\fs.length=i/\i<=N/\∀(j:Nat) (f:Int × Int),fs[j]?=some f->LowF (tp j) (det N (fnL L)) f.1 f.2) ⟨Same.refl _,[],PairsV.nil,rfl,Nat.zero_le _,fun j f h=>(by simp at h)⟩ (ζm (by rw[ζ7,List.length_map,List.length_range];omega)) (fun i ws H4 hi ⟨e,fs,h1,h2,_⟩=>⟨SqL.of (e _ _ ht3),by rw[h1.1,h2];exact Nat.le_refl _⟩) ?_ ?_⟩
  ·rintro i v ws H4 hi ⟨s4,fs,hF,hfl,hiN,hlow⟩ SS hSS
   obtain⟨y,rfl,hy⟩:=ζJ1 hi
   have hiN':i<N:=by have:=(List.getElem?_eq_some_iff.mp hy).1;rw[List.length_map,List.length_range]at this;exact this
   have ey:tp i=y:=by rw[List.getElem?_map,List.getElem?_range hiN']at hy;exact Option.some.inj hy
   refine nm ?_
   refine⟨_,rfl,_,rfl,y,_,rfl,hdet,by rw[<- ey,htp];exact small _ (hpb i hiN'),small _ hLb,fun p q' hl r hr=>?_⟩
   have u:=same_at (o:=.tup [.int p,.int q']) hr
   refine hSS _ _ ⟨s4.trans u,fs++[(p,q')],(hF.same u).snoc ⟨r,rfl,ζ1⟩,by rw[List.length_append,hfl];rfl,hiN',fun j f hj=>?_⟩
   by_cases c:j<fs.length
   ·rw[List.getElem?_append_left c]at hj
    exact hlow j f hj
   ·have hj2:=(List.getElem?_eq_some_iff.mp hj).1
    rw[List.length_append]at hj2
    have ej:j=i:=by have:[(p,q')].length=1:=rfl;omega
    rw[List.getElem?_append_right (by omega),ej,hfl,Nat.sub_self]at hj
    cases hj
    rw[ej,ey]
    exact hl
  rintro ws H4 ⟨s4,fs,hF,hfl,_,hlow⟩ cA hcA
  rw[ζ7,List.length_map,List.length_range]at hfl
  have u5:=same_at (o:=.lst ws) hcA
  refine⟨cA,_,rfl,.inl ⟨SqL.of ζ1,fun r hr=>?_⟩⟩
  have u6:=same_at (o:=.tup ws) hr
  rw[htp]at hlow
  exact q r ws fs _ (s13.trans (s4.trans (u5.trans u6))) ζ1 ((hF.same u5).same u6) hfl hlow
end
set_option maxHeartbeats 4000000
def spζa(K:PySem.W.Frag):Sp:=fun vs H Q _=>∃(n:Int) (a:Addr) (kd:Bool) (xs:List V) (ps:List (Int × Int)),vs=[.int n,.ref a]/\SqK kd K H a xs/\PairsV H xs ps/\ζE n ps/\Q .non H
section
variable{P:Program}{w:World}{K:PySem.W.Frag}{mg:Str->Option Value}{base:Heap}{t:Adr}
theorem scζa:FnScope ["places","ties","ends","end"] ["places","ties"] (ζ5 sζa):=⟨rfl,rfl,rfl,by decide +kernel,rfl,by decide +kernel,by decide +kernel⟩
theorem okζa (T:Txt K mg t):FnOk P w K mg base CX0 1 t.aζa t.dζa ["places","ties"] (spζa K):=by
 refine T.fζa.ok scζa (fun vs H Q E h=>?_) (fun cdv A outer s H vs Q E hr h=>?_)
 ·obtain⟨n,a,kd,xs,ps,rfl,_⟩:=h
  rfl
 ·obtain⟨n,a,kd,xs,ps,rfl,hS,hp,⟨g1,g2,g3,g4⟩,q⟩:=h
  refine⟨_,(ζ2 (ζe1 (ζY1 (ζt3 ζI7 ζI7 ζ4 (pv 0) (ζ44 (v:=V.int 14) rfl T.g_MOST_PLACES.choose_spec ⟨_,rfl⟩)))
   (ζ6 ζJ)
   ζn)
   (ζ2 (ζe1 (ζp ζS8 (ζb (ζi K) (by rfl) T.n_len Boot.«len» (ζ0 (pv 1) ζ3)) (ζ44 (v:=V.int 30) rfl T.g_MOST_TIES.choose_spec ⟨_,rfl⟩) (ζv _))
   (ζ6 ζJ)
   ζn)
   (ζ6 (ζ81 PassesOwn.never rfl (ζn2 K (pv 1)) (ζe (i:=2) scζa.nd rfl (Or.inl rfl))
   (ζ6 (ζ81 PassesOwn.never rfl (ζr5 K (pv 2)) (ζe (i:=3) scζa.nd rfl (Or.inl rfl))
   (ζ6 (ζe1 (ζY1 (ζt3 ζI7 ζR8 ζ4 (pv 3) (pv 0)))
   (ζ6 ζJ)
   ζn)))))))),?_⟩
  refine⟨_,rfl,_,_,rfl,rfl,_,rfl,?_⟩
  refine itd g1 ?_
  refine⟨_,_,rfl,rfl,_,rfl,?_⟩
  refine itn g2 ?_
  refine⟨_,rfl,a,xs,rfl,hS.or,_,_,rfl,rfl,_,rfl,?_⟩
  refine itdn (by rw[hp.1];omega) ?_
  refine⟨_,rfl,a,rfl,ζg4 (k:=kd) (K:=K) (xs:=xs) (fun i σ H2=>∃ v v2,σ=[some (.int n),some (.ref a),v,v2]/\H2=H) ⟨none,none,rfl,rfl⟩ (fun i σ H2 _ ⟨_,_,_,e⟩=>e ▸ hS) ?_ ?_⟩
  ·rintro i x σ H2 hi ⟨v,v2,rfl,rfl⟩
   obtain⟨p,hpi,tt,rfl,ht⟩:=hp.at hi
   obtain⟨e1,e2,e3,e4⟩:=g4 p (List.mem_of_getElem? hpi)
   refine⟨_,rfl,tt,rfl,⟨_,SqT.of ht⟩,ζ16 (K:=K) (a:=tt) (xs:=[.int p.1,.int p.2]) (fun j σ H3=>∃ v v2,σ=[some (.int n),some (.ref a),v,v2]/\H3=H2) ⟨_,_,rfl,rfl⟩ (fun j σ H3 _ ⟨_,_,_,e⟩=>e ▸ SqT.of ht) ?_ ?_⟩
   ·rintro j y σ H3 hj ⟨v,v2,rfl,rfl⟩
    have hy:∃ z:Int,y=.int z/\0<=z/\z<n:=by
     match j,hj with
     | 0,hj=>exact⟨p.1,(Option.some.inj hj).symm,e1,e2⟩
     | 1,hj=>exact⟨p.2,(Option.some.inj hj).symm,e3,e4⟩
    obtain⟨z,rfl,z1,z2⟩:=hy
    refine⟨_,rfl,_,_,rfl,rfl,_,rfl,?_⟩
    refine itd z1 ?_
    refine⟨_,rfl,_,_,rfl,rfl,_,rfl,?_⟩
    refine itn z2 ?_
    exact⟨_,_,rfl,rfl⟩
   ·rintro σ H3 ⟨v,v2,rfl,rfl⟩
    exact⟨_,_,rfl,rfl⟩
  ·rintro σ H2 ⟨v,v2,rfl,rfl⟩
   exact q
end
set_option maxHeartbeats 4000000
def ζL4(K:PySem.W.Frag)(C:Addr):Sp:=fun vs H Q _=>∃(w dx:Addr) (n:Int) (a:Addr) (kd:Bool) (xs:List V) (ps:List (Int × Int)),vs=[.ref w,.int n,.ref a]/\H w=some (.ins C dx [])/\(∀ o,SqK kd K (upd H w o) a xs)/\PairsV H xs ps/\ζE n ps /\
 ∀ H':Hp,WebAt C H' w n ps->(∀ b o,H b=some o->b≠w->H' b=some o)->Q .non H'
section
variable{P:Program}{w:World}{K:PySem.W.Frag}{mg:Str->Option Value}{base:Heap}{t:Adr}
theorem scζb:FnScope ["self","places","ties"] ["self","places","ties"] (ζ5 sζb):=⟨rfl,rfl,rfl,by decide +kernel,rfl,by decide +kernel,by decide +kernel⟩
theorem okζb (T:Txt K mg t):FnOk P w K mg base CX0 2 t.aζb t.dζb ["self","places","ties"] (ζL4 K t.A_Web):=by
 refine T.fζb.ok scζb (fun vs H Q E h=>?_) (fun cdv A outer s H vs Q E hr h=>?_)
 ·obtain⟨w,dx,n,a,kd,xs,ps,rfl,_⟩:=h
  rfl
 ·obtain⟨w,dx,n,a,kd,xs,ps,rfl,hw,hS,hp,g,q⟩:=h
  have eH:upd H w (.ins t.A_Web dx [])=H:=by
   funext b
   by_cases hb:b=w
   ·subst hb;rw[ζ1,hw]
   ·rw[ζ9 hb]
  have hS0:SqK kd K H a xs:=by have z:=hS (.ins t.A_Web dx []);rw[eH]at z;exact z
  refine⟨_,(ζ2 (ζ51 (ζ8 (okζa T) (hr.mono (by decide)) rfl T.mζa T.fζa.kp T.bζa .nil ζt (ζ0 (pv 1) (ζ0 (pv 2) ζ3))))
   (ζ2 (ζo10 (pv 0) (pv 1) rfl)
   (ζ6 (ζo10 (pv 0) (ζN4 rfl (sc0:=ζ5 sζb) (N0:=["self","places","ties"]) (N':=["ends"]) (o:=1) (fr:=[]) ⟨rfl,by decide +kernel,by decide +kernel,by decide +kernel,rfl,by decide +kernel⟩ (ζn2 K (pv 2)) (ζu (by decide)) (fun _ _ _ _=>(ζe (i:=0) (show List.Nodup (["ends"]:List Str) by decide +kernel) rfl (Or.inl rfl))) (fun _ _ _ _=>ζB) (fun _ _ _ _=>(ζq1 (ζ0 (ζr (ζj K) (pv 0) ζ4 (fun _ _=>rfl)) (ζ0 (ζr (ζj K) (pv 0) ζ4 (fun _ _=>rfl)) ζ3))))) rfl)))),?_⟩
  refine⟨_,rfl,_,rfl,n,a,kd,xs,ps,rfl,hS0,hp,g,?_⟩
  refine⟨_,rfl,_,rfl,w,_,dx,[],rfl,hw,T.cl_Web,T.n_Web_places,(by show 0<1000;decide),?_⟩
  have hp1:PairsV (upd H w (.ins t.A_Web dx (putF "places" (.int n) []))) xs ps:=⟨hp.1,fun i p e=>by
   obtain⟨v,e1,tt,e2,e3⟩:=hp.2 i p e
   exact⟨v,e1,tt,e2,by rw[ζ9 (ζV6 e3 hw (fun z=>nomatch z))];exact e3⟩⟩
  have sx:xs.length<sizeLine:=ζm (by rw[hp.1];have:=g.2.2.1;omega)
  refine⟨_,rfl,a,rfl,ζK10 (k:=kd) (K:=K) (xs:=xs) (fun i ys H2=>i<=xs.length/\ys.length=i/\Same (upd H w (.ins t.A_Web dx (putF "places" (.int n) []))) H2/\PairsV H2 ys (ps.take i)) ⟨Nat.zero_le _,rfl,Same.refl _,PairsV.nil⟩ sx
   (fun i ys H2 _ ⟨_,hl,s2,_⟩=>⟨(hS _).same s2,Nat.le_of_eq hl⟩) ?_ ?_⟩
  ·rintro i x ys H2 hi ⟨h1,hl,s2,hy⟩ S hSS
   obtain⟨p,hpi,tt,rfl,ht⟩:=hp1.at hi
   have ht2:=s2 _ _ ht
   refine nmY ?_
   refine⟨_,rfl,tt,_,0,.int p.1,rfl,rfl,SqT.of ht2,rfl,_,rfl,tt,_,1,.int p.2,rfl,rfl,SqT.of ht2,rfl,(by show 2<=sizeLine;decide),fun q hq=>?_⟩
   have hil:i<xs.length:=(List.getElem?_eq_some_iff.mp hi).1
   refine hSS _ _ ⟨hil,by rw[List.length_append,hl];rfl,ζy s2 hq,?_⟩
   rw[List.take_succ,hpi]
   exact(hy.same (same_at hq)).snoc ⟨q,rfl,ζ1⟩
  ·rintro ys H2 ⟨_,hl,s2,hy⟩ tl htl
   have hw2:=s2 w _ ζ1
   have nwt:w≠tl:=ζf hw2 htl
   refine⟨_,rfl,w,_,dx,_,rfl,(by rw[ζ9 nwt];exact hw2),T.cl_Web,T.n_Web_ties,(by show 1<1000;decide),?_⟩
   refine q _ ⟨dx,tl,ys,ζ1,by rw[ζ9 (Ne.symm nwt),ζ1],?_⟩ fun b ob e hb=>?_
   ·have e1:ps.take xs.length=ps:=List.take_of_length_le (by rw[hp.1];exact Nat.le_refl _)
    rw[e1]at hy
    refine⟨hy.1,fun i p e=>?_⟩
    obtain⟨v,e2,tt,e3,e4⟩:=hy.2 i p e
    exact⟨v,e2,tt,e3,by rw[ζ9 (ζV6 e4 hw2 (fun z=>nomatch z)),ζ9 (ζf e4 htl)];exact e4⟩
   ·have e2:=s2 b ob (by rw[ζ9 hb];exact e)
    rw[ζ9 hb,ζ9 (ζf e2 htl)]
    exact e2
end
set_option maxHeartbeats 4000000
def spζc(C:Addr):Sp:=fun vs H Q _=>∃(w:Addr) (n:Int) (ps:List (Int × Int)) (k:Int),vs=[.ref w,.int k]/\WebAt C H w n ps/\Q (.bl (decide (0<=k/\k<n))) H
section
variable{P:Program}{w:World}{K:PySem.W.Frag}{mg:Str->Option Value}{base:Heap}{t:Adr}
theorem scζc:FnScope ["web","number"] ["web","number"] (ζ5 sζc):=⟨rfl,rfl,rfl,by decide +kernel,rfl,by decide +kernel,by decide +kernel⟩
theorem okζc (T:Txt K mg t):FnOk P w K mg base CX0 1 t.aζc t.dζc ["web","number"] (spζc t.A_Web):=by
 refine T.fζc.ok scζc (fun vs H Q E h=>?_) (fun cdv A outer s H vs Q E hr h=>?_)
 ·obtain⟨w,n,ps,k,rfl,_⟩:=h
  rfl
 ·obtain⟨w,n,ps,k,rfl,⟨dx,tl,xs,h1,h2,h3⟩,q⟩:=h
  refine⟨_,(ζ6 (ζl (ζt5 ζI7 ζR8 ζ4 (pv 1) (ζP K (pv 0) rfl)))),?_⟩
  refine⟨_,rfl,_,_,rfl,rfl,_,rfl,?_⟩
  refine ite2 (fun hc=>?_) (fun hc=>?_)
  ·refine⟨_,rfl,w,_,dx,_,_,rfl,h1,T.cl_Web,T.n_Web_places,ζ31 _ _,_,_,rfl,rfl,?_⟩
   have hc:=of_decide_eq_true hc
   show Q (.bl (decide (k<n))) H
   rw[show decide (k<n)=decide (0<=k/\k<n) from by simp[hc]]
   exact q
  ·have hc:¬ (0<=k):=fun z=>hc (decide_eq_true z)
   show Q (.bl false) H
   rw[show(false:Bool)=decide (0<=k/\k<n) from by simp;omega]
   exact q
end
set_option maxHeartbeats 4000000
def spζd(C:Addr):Sp:=fun vs H Q _=>∃(w:Addr) (n:Int) (ps:List (Int × Int)) (k:Int),vs=[.ref w,.int k]/\WebAt C H w n ps/\Q (.bl (decide (0<=k/\k<(ps.length:Int)))) H
section
variable{P:Program}{w:World}{K:PySem.W.Frag}{mg:Str->Option Value}{base:Heap}{t:Adr}
theorem scζd:FnScope ["web","number"] ["web","number"] (ζ5 sζd):=⟨rfl,rfl,rfl,by decide +kernel,rfl,by decide +kernel,by decide +kernel⟩
theorem okζd (T:Txt K mg t):FnOk P w K mg base CX0 1 t.aζd t.dζd ["web","number"] (spζd t.A_Web):=by
 refine T.fζd.ok scζd (fun vs H Q E h=>?_) (fun cdv A outer s H vs Q E hr h=>?_)
 ·obtain⟨w,n,ps,k,rfl,_⟩:=h
  rfl
 ·obtain⟨w,n,ps,k,rfl,⟨dx,tl,xs,h1,h2,h3⟩,q⟩:=h
  refine⟨_,(ζ6 (ζl (ζt5 ζI7 ζR8 ζ4 (pv 1) (ζb (ζi K) (by rfl) T.n_len Boot.«len» (ζ0 (ζP K (pv 0) rfl) ζ3))))),?_⟩
  refine⟨_,rfl,_,_,rfl,rfl,_,rfl,?_⟩
  refine ite2 (fun hc=>?_) (fun hc=>?_)
  ·refine⟨_,rfl,w,_,dx,_,_,rfl,h1,T.cl_Web,T.n_Web_ties,ζM1 _ _,tl,xs,rfl,.inl (SqL.of h2),_,_,rfl,rfl,?_⟩
   have hc:=of_decide_eq_true hc
   show Q (.bl (decide (k<(xs.length:Int)))) H
   rw[h3.1,show decide (k<(ps.length:Int))=decide (0<=k/\k<(ps.length:Int)) from by simp[hc]]
   exact q
  ·have hc:¬ (0<=k):=fun z=>hc (decide_eq_true z)
   show Q (.bl false) H
   rw[show(false:Bool)=decide (0<=k/\k<(ps.length:Int)) from by simp;omega]
   exact q
end
set_option maxHeartbeats 4000000
def spζe(K:PySem.W.Frag)(C:Addr):Sp:=fun vs H Q _=>∃(w:Addr) (n:Int) (ps:List (Int × Int)),vs=[.ref w]/\WebAt C H w n ps/\ps.length<=1000 /\
 ∀(r:Addr) (H':Hp),Same H H'->H r=none->H' r=some (.tup (IL (rgL ps.length)))->Q (.ref r) H'
section
variable{P:Program}{w:World}{K:PySem.W.Frag}{mg:Str->Option Value}{base:Heap}{t:Adr}
theorem scζe:FnScope ["web"] ["web"] (ζ5 sζe):=⟨rfl,rfl,rfl,by decide +kernel,rfl,by decide +kernel,by decide +kernel⟩
theorem okζe (T:Txt K mg t):FnOk P w K mg base CX0 1 t.aζe t.dζe ["web"] (spζe K t.A_Web):=by
 refine T.fζe.ok scζe (fun vs H Q E h=>?_) (fun cdv A outer s H vs Q E hr h=>?_)
 ·obtain⟨w,n,ps,rfl,_⟩:=h
  rfl
 ·obtain⟨w,n,ps,rfl,⟨dx,tl,xs,h1,h2,h3⟩,hl,q⟩:=h
  refine⟨_,(ζ6 (ζl (ζo (ζO2 rfl) (by rfl) T.n_tuple Boot.«tuple» (ζ0 (ζo ζy4 (by rfl) T.n_range Boot.«range» (ζ0 (ζb (ζi K) (by rfl) T.n_len Boot.«len» (ζ0 (ζP K (pv 0) rfl) ζ3)) ζ3)) ζ3)))),?_⟩
  have hx:=h3.1
  refine⟨_,rfl,w,_,dx,_,_,rfl,h1,T.cl_Web,T.n_Web_ties,ζM1 _ _,tl,xs,rfl,.inl (SqL.of h2),_,rfl,fun r hr=>⟨r,0,_,rfl,ζ1,⟨by decide,by decide,by omega,by omega⟩,by omega,fun l hl=>?_⟩⟩
  refine q l _ (ζy (same_at hr) hl) ((same_at hr).free hl) ?_
  rw[ζ1,hx,ζD8]
end
set_option maxHeartbeats 4000000
def spζf(K:PySem.W.Frag)(C:Addr):Sp:=fun vs H Q _=>∃(w a:Addr) (n:Int) (ps:List (Int × Int)) (kd:Bool) (ns:List Int),vs=[.ref w,.ref a]/\WebAt C H w n ps/\SqK kd K H a (IL ns)/\∀ b:Bool,(b=true↔IsSet ps.length ns)->Q (.bl b) H
section
variable{P:Program}{w:World}{K:PySem.W.Frag}{mg:Str->Option Value}{base:Heap}{t:Adr}
theorem scζf:FnScope ["web","ties","last","tie"] ["web","ties"] (ζ5 sζf):=⟨rfl,rfl,rfl,by decide +kernel,rfl,by decide +kernel,by decide +kernel⟩
theorem okζf (T:Txt K mg t):FnOk P w K mg base CX0 2 t.aζf t.dζf ["web","ties"] (spζf K t.A_Web):=by
 refine T.fζf.ok scζf (fun vs H Q E h=>?_) (fun cdv A outer s H vs Q E hr h=>?_)
 ·obtain⟨w,a,n,ps,kd,ns,rfl,_⟩:=h
  rfl
 ·obtain⟨w,a,n,ps,kd,ns,rfl,hW,hS,q⟩:=h
  refine⟨_,(ζ2 (ζh (i:=2) scζf.nd rfl (Or.inl rfl) (ζe12 ζo8 ζ4))
   (ζ2 (ζ81 PassesOwn.never rfl (ζn2 K (pv 1)) (ζe (i:=3) scζf.nd rfl (Or.inl rfl))
   (ζ2 (ζe1 (PW.pt (ζ912 (ζp ζI7 (pv 3) (pv 2) (ζv _)) (ζF8 (ζY1 (ζN1 (ζ8 (okζd T) (hr.mono (by decide)) rfl T.mζd T.fζd.kp T.bζd .nil ζt (ζ0 (pv 0) (ζ0 (pv 3) ζ3))))))))
   (ζ6 (ζl ζu5))
   ζn)
   (ζ6 (ζh (i:=2) scζf.nd rfl (Or.inl rfl) (pv 3)))))
   (ζ6 (ζl ζu5)))),?_⟩
  refine⟨_,rfl,?_⟩
  refine⟨_,rfl,a,rfl,ζg4 (k:=kd) (K:=K) (xs:=IL ns) (fun i σ H2=>∃(l:Int) (v:Option V),σ=[some (.ref w),some (.ref a),some (.int l),v]/\H2=H/\(i=0->l=-1)/\(i≠0->ns[i - 1]?=some l)/\∀ j z,j<i->ns[j]?=some z->0<=z/\z<(ps.length:Int)/\∀ y,j≠0->ns[j - 1]?=some y->y<z)
   ⟨-1,none,rfl,rfl,fun _=>rfl,fun z=>absurd rfl z,fun j z hj=>absurd hj (Nat.not_lt_zero j)⟩ (fun i σ H2 _ ⟨_,_,_,e,_⟩=>e ▸ hS) ?_ ?_⟩
  ·rintro i x σ H2 hi ⟨l,v,rfl,rfl,hl0,hl1,hp⟩
   obtain⟨z,rfl,hz⟩:=ζJ1 hi
   refine⟨_,rfl,_,rfl,_,_,rfl,rfl,_,rfl,?_⟩
   refine itd2 (fun hc=>?_) (fun hc=>?_)
   ·-- tie<=last
    refine iteT ?_
    refine q false ⟨fun z=>(nomatch z),fun hs=>?_⟩
    obtain⟨b1,b2,b3⟩:=hs i z hz
    by_cases h0:i=0
    ·have:=hl0 h0;omega
    ·have:=b3 l h0 (hl1 h0);omega
   ·refine⟨_,rfl,_,rfl,w,n,ps,z,rfl,hW,_,rfl,?_⟩
    refine itn2 (fun hc2=>?_) (fun hc2=>?_)
    ·refine⟨_,rfl,?_⟩
     refine⟨z,_,rfl,rfl,fun e=>(nomatch e),fun _=>by simpa using hz,fun j y hj ey=>?_⟩
     by_cases hji:j<i
     ·exact hp j y hji ey
     ·have e:j=i:=by omega
      subst e
      rw[hz]at ey
      cases ey
      refine⟨hc2.1,hc2.2,fun y h0 ey=>?_⟩
      rw[hl1 h0]at ey
      cases ey
      omega
    ·refine q false ⟨fun z=>(nomatch z),fun hs=>?_⟩
     obtain⟨b1,b2,b3⟩:=hs i z hz
     exact absurd ⟨b1,b2⟩ hc2
  ·rintro σ H2 ⟨l,v,rfl,rfl,hl0,hl1,hp⟩
   refine q true ⟨fun _ i z hz=>?_,fun _=>rfl⟩
   have hi:i<(IL ns).length:=by rw[ζ7];exact(List.getElem?_eq_some_iff.mp hz).1
   exact hp i z hi hz
end
set_option maxHeartbeats 4000000
def spζg(K:PySem.W.Frag)(C:Addr):Sp:=fun vs H Q _=>∃(w a:Addr) (n:Int) (ps:List (Int × Int)) (kd:Bool) (ns:List Int),vs=[.ref w,.ref a]/\WebAt C H w n ps/\SqK kd K H a (IL ns)/\IsSet ps.length ns /\
 ∀(r:Addr) (H':Hp),Same H H'->SqT K H' r (IL ns)->Q (.ref r) H'
section
variable{P:Program}{w:World}{K:PySem.W.Frag}{mg:Str->Option Value}{base:Heap}{t:Adr}
theorem scζg:FnScope ["web","ties"] ["web","ties"] (ζ5 sζg):=⟨rfl,rfl,rfl,by decide +kernel,rfl,by decide +kernel,by decide +kernel⟩
theorem okζg (T:Txt K mg t):FnOk P w K mg base CX0 3 t.aζg t.dζg ["web","ties"] (spζg K t.A_Web):=by
 refine T.fζg.ok scζg (fun vs H Q E h=>?_) (fun cdv A outer s H vs Q E hr h=>?_)
 ·obtain⟨w,a,n,ps,kd,ns,rfl,_⟩:=h
  rfl
 ·obtain⟨w,a,n,ps,kd,ns,rfl,hW,hS,hI,q⟩:=h
  refine⟨_,(ζ2 (ζe1 (ζY1 (ζN1 (ζ8 (okζf T) (hr.mono (by decide)) rfl T.mζf T.fζf.kp T.bζf .nil ζt (ζ0 (pv 0) (ζ0 (pv 1) ζ3)))))
   (ζ6 ζJ)
   ζn)
   (ζ6 (ζl (ζo (ζL1 K) (by rfl) T.n_tuple Boot.«tuple» (ζ0 (pv 1) ζ3))))),?_⟩
  refine⟨_,rfl,_,rfl,w,a,n,ps,kd,ns,rfl,hW,hS,fun b hb=>⟨_,rfl,?_⟩⟩
  refine itnb (fun _=>?_) (fun z=>?_)
  ·refine⟨_,rfl,a,IL ns,rfl,?_⟩
   cases kd with
   | false=>exact .inl ⟨hS,fun l hl=>q l _ (same_at hl) (SqT.of ζ1)⟩
   | true=>exact .inr ⟨hS,q a H (Same.refl H) hS⟩
  ·rw[hb.mpr hI]at z
   cases z
end
set_option maxHeartbeats 4000000
def spζh(K:PySem.W.Frag)(C:Addr):Sp:=fun vs H Q _=>∃(w m a:Addr) (n:Int) (ps:List (Int × Int)) (M:List Int) (kd:Bool) (ns:List Int),vs=[.ref w,.ref m,.ref a]/\WebAt C H w n ps/\ζE n ps/\H m=some (.lst (IL M))/\M.length=n.toNat/\SqK kd K H a (IL ns)/\(∀ z∈ns,0<=z/\z<(ps.length:Int)) /\
 ∀(m':Addr) (H':Hp),Same H H'->(m'=m\/H m'=none)->H' m'=some (.lst (IL (pmf M (ζc ps ns))))->Q (.ref m') H'
section
variable{P:Program}{w:World}{K:PySem.W.Frag}{mg:Str->Option Value}{base:Heap}{t:Adr}
theorem scζh:FnScope ["web","marks","ties","tie","ends","low","high"] ["web","marks","ties"] (ζ5 sζh):=⟨rfl,rfl,rfl,by decide +kernel,rfl,by decide +kernel,by decide +kernel⟩
theorem okζh (T:Txt K mg t):FnOk P w K mg base CX0 1 t.aζh t.dζh ["web","marks","ties"] (spζh K t.A_Web):=by
 refine T.fζh.ok scζh (fun vs H Q E h=>?_) (fun cdv A outer s H vs Q E hr h=>?_)
 ·obtain⟨w,m,a,n,ps,M,kd,ns,rfl,_⟩:=h
  rfl
 ·obtain⟨w,m0,a,n,ps,M0,kd,ns,rfl,⟨dx,tl,xs,h1,h2,h3⟩,⟨g1,g2,g3,g4⟩,hm,hlM,hS,hI,q⟩:=h
  refine⟨_,(ζ2 (ζ81 PassesOwn.never rfl (ζn2 K (pv 2)) (ζe (i:=3) scζh.nd rfl (Or.inl rfl))
   (ζ2 (ζh (i:=4) scζh.nd rfl (Or.inl rfl) (ζr (ζd K) (ζP K (pv 0) rfl) (pv 3) (fun _ _=>rfl)))
   (ζ2 (ζh (i:=5) scζh.nd rfl (Or.inr rfl) (ζb (ζP2 rfl) (by rfl) T.n_min Boot.«min» (ζ0 (ζr (ζd K) (pv 1) (ζr (ζj K) (pv 4) ζ4 (fun _ _=>rfl)) (fun _ _=>rfl)) (ζ0 (ζr (ζd K) (pv 1) (ζr (ζj K) (pv 4) ζ4 (fun _ _=>rfl)) (fun _ _=>rfl)) ζ3))))
   (ζ2 (ζh (i:=6) scζh.nd rfl (Or.inr rfl) (ζb (ζX1 rfl) (by rfl) T.n_max Boot.«max» (ζ0 (ζr (ζd K) (pv 1) (ζr (ζj K) (pv 4) ζ4 (fun _ _=>rfl)) (fun _ _=>rfl)) (ζ0 (ζr (ζd K) (pv 1) (ζr (ζj K) (pv 4) ζ4 (fun _ _=>rfl)) (fun _ _=>rfl)) ζ3))))
   (ζ6 (ζe1 (ζp ζR8 (pv 5) (pv 6) (ζv _))
   (ζ6 (ζL6 (i:=1) rfl scζh.nd rfl rfl (sc0:=ζ5 sζh) (N0:=["web","marks","ties","tie","ends","low","high"]) (N':=["mark","high","low"]) (o:=1) (fr:=[6,5]) ⟨rfl,by decide +kernel,by decide +kernel,by decide +kernel,rfl,by decide +kernel⟩ (ζX K (pv 1)) (ζu (by decide)) (fun _ _ _ _=>(ζe (i:=0) (show List.Nodup (["mark","high","low"]:List Str) by decide +kernel) rfl (Or.inl rfl))) (fun _ _ _ _=>ζB) (fun _ _ _ _=>(ζs5 (ζp ζT8 (pv 0) (pv 1) (ζv _)) (pv 2) (pv 0)))))
   ζn))))))
   (ζ6 (ζl (pv 1)))),?_⟩
  refine⟨_,rfl,a,rfl,ζg4 (k:=kd) (K:=K) (a:=a) (xs:=IL ns) (fun i σ H2=>∃(m:Addr) (v3 v4 v5 v6:Option V),σ=[some (.ref w),some (.ref m),some (.ref a),v3,v4,v5,v6]/\Same H H2/\(m=m0\/H m=none)/\H2 m=some (.lst (IL (pmf M0 (ζc ps (ns.take i))))))
   ⟨m0,none,none,none,none,rfl,Same.refl _,.inl rfl,hm⟩ (fun i σ H2 _ ⟨_,_,_,_,_,_,s2,_⟩=>hS.same s2) ?_ ?_⟩
  ·rintro i x σ H2 hi ⟨m,v3,v4,v5,v6,rfl,s2,hm0,hm2⟩
   obtain⟨z,rfl,hz⟩:=ζJ1 hi
   obtain⟨z0,z1⟩:=hI z (List.mem_of_getElem? hz)
   obtain⟨p,hp⟩:∃ p,ps[z.toNat]?=some p:=⟨_,List.getElem?_eq_getElem (by omega)⟩
   obtain⟨v,hv,tt,rfl,htt⟩:=h3.2 z.toNat p hp
   obtain⟨e1,e2,e3,e4⟩:=g4 p (List.mem_of_getElem? hp)
   have ed:ps.getD z.toNat (0,0)=p:=ζK hp
   refine⟨_,rfl,w,_,dx,_,_,rfl,s2 _ _ h1,T.cl_Web,T.n_Web_ties,ζM1 _ _,_,rfl,tl,xs,z,.ref tt,rfl,rfl,SqL.of (s2 _ _ h2),ζw (n:=z.toNat) (by omega) hv,?_⟩
   have ht2:=s2 _ _ htt
   have hl:(pmf M0 (ζc ps (ns.take i))).length=n.toNat:=(ζp5 _ _).trans hlM
   generalize hM:pmf M0 (ζc ps (ns.take i))=M at *
   have ha:M[p.1.toNat]?=some (mk M p.1.toNat):=ζO7 (by omega)
   have hb:M[p.2.toNat]?=some (mk M p.2.toNat):=ζO7 (by omega)
   have iA:atI (IL M) p.1=some (.int (mk M p.1.toNat)):=ζw (n:=p.1.toNat) (by omega) (by rw[List.getElem?_map,ha];rfl)
   have iB:atI (IL M) p.2=some (.int (mk M p.2.toNat)):=ζw (n:=p.2.toNat) (by omega) (by rw[List.getElem?_map,hb];rfl)
   have t0:atI ([.int p.1,.int p.2]:List V) 0=some (.int p.1):=rfl
   have t1:atI ([.int p.1,.int p.2]:List V) 1=some (.int p.2):=rfl
   refine⟨_,rfl,_,rfl,tt,_,0,_,rfl,rfl,SqT.of ht2,t0,m,_,p.1,_,rfl,rfl,SqL.of hm2,iA,_,rfl,_,rfl,tt,_,1,_,rfl,rfl,SqT.of ht2,t1,m,_,p.2,_,rfl,rfl,SqL.of hm2,iB,_,_,rfl,?_⟩
   refine⟨_,rfl,_,rfl,tt,_,0,_,rfl,rfl,SqT.of ht2,t0,m,_,p.1,_,rfl,rfl,SqL.of hm2,iA,_,rfl,_,rfl,tt,_,1,_,rfl,rfl,SqT.of ht2,t1,m,_,p.2,_,rfl,rfl,SqL.of hm2,iB,_,_,rfl,?_⟩
   have eL:(if mk M p.2.toNat<mk M p.1.toNat then mk M p.2.toNat else mk M p.1.toNat)=min (mk M p.1.toNat) (mk M p.2.toNat):=by
    rw[Int.min_def];split <;> split <;> omega
   have eH:(if mk M p.2.toNat > mk M p.1.toNat then mk M p.2.toNat else mk M p.1.toNat)=max (mk M p.1.toNat) (mk M p.2.toNat):=by
    rw[Int.max_def];split <;> split <;> omega
   refine⟨_,rfl,_,rfl,_,_,rfl,rfl,_,rfl,?_⟩
   rw[eL,eH]
   have step:pmf M0 (ζc ps (ns.take (i+1)))=pm M p.1.toNat p.2.toNat:=by rw[ζT4 hz,ζK8,hM,ed]
   refine itd2 (fun hc=>?_) (fun hc=>?_)
   ·refine⟨_,rfl,m,rfl,⟨_,SqL.of hm2⟩,ζc1 (K:=K) (a:=m) (xs:=IL M) (fun j ys H3=>H3=H2/\j<=M.length/\ys=IL ((M.take j).map fun k=>if k=max (mk M p.1.toNat) (mk M p.2.toNat) then min (mk M p.1.toNat) (mk M p.2.toNat) else k)) ⟨rfl,Nat.zero_le _,rfl⟩ (ζm (by rw[ζ7];omega))
     (fun j ys H3 hj ⟨e,hjl,ey⟩=>⟨e ▸ SqL.of hm2,by rw[ey,ζ7,List.length_map,List.length_take];omega⟩) ?_ ?_⟩
    ·rintro j y ys H3 hj ⟨rfl,hjl,rfl⟩ S hSS
     obtain⟨k,rfl,hk⟩:=ζJ1 hj
     refine nmY ?_
     refine⟨_,rfl,_,rfl,rfl,_,rfl,?_⟩
     have hjl':j<M.length:=(List.getElem?_eq_some_iff.mp hk).1
     have app:∀ r:Int,r=(if k=max (mk M p.1.toNat) (mk M p.2.toNat) then min (mk M p.1.toNat) (mk M p.2.toNat) else k) ->
       IL ((M.take j).map fun k=>if k=max (mk M p.1.toNat) (mk M p.2.toNat) then min (mk M p.1.toNat) (mk M p.2.toNat) else k)++[.int r]=IL ((M.take (j+1)).map fun k=>if k=max (mk M p.1.toNat) (mk M p.2.toNat) then min (mk M p.1.toNat) (mk M p.2.toNat) else k):=by
      intro r er
      rw[List.take_succ,hk,er]
      simp
     refine itd2 (fun he=>?_) (fun he=>?_)
     ·refine⟨_,rfl,hSS _ _ ⟨rfl,hjl',app _ ?_⟩⟩
      rw[if_pos (V.int.inj he)]
     ·refine⟨_,rfl,hSS _ _ ⟨rfl,hjl',app _ ?_⟩⟩
      rw[if_neg fun z=>he (congrArg V.int z)]
    ·rintro ys H3 ⟨rfl,_,rfl⟩ p' hp'
     refine⟨p',_,_,_,_,rfl,ζy s2 hp',.inr (s2.free hp'),?_⟩
     rw[ζ1,step,ζ7,List.take_length]
     unfold pm
     rw[if_pos hc]
   ·refine⟨m,_,_,_,_,rfl,s2,hm0,?_⟩
    rw[hm2,step]
    unfold pm
    rw[if_neg hc]
  ·rintro σ H2 ⟨m,v3,v4,v5,v6,rfl,s2,hm0,hm2⟩
   rw[ζ7,List.take_length]at hm2
   exact⟨_,rfl,q m H2 s2 hm0 hm2⟩
end
set_option maxHeartbeats 4000000
def spζi(K:PySem.W.Frag)(C:Addr):Sp:=fun vs H Q _=>∃(w a:Addr) (n:Int) (ps:List (Int × Int)) (ns:List Int),vs=[.ref w,.ref a]/\WebAt C H w n ps/\ζE n ps/\SqT K H a (IL ns)/\(∀ z∈ns,0<=z/\z<(ps.length:Int)) /\
 ∀(m:Addr) (H':Hp),Same H H'->H m=none->H' m=some (.lst (IL (pms n.toNat (ζc ps ns))))->Q (.ref m) H'
section
variable{P:Program}{w:World}{K:PySem.W.Frag}{mg:Str->Option Value}{base:Heap}{t:Adr}
theorem scζi:FnScope ["web","ties"] ["web","ties"] (ζ5 sζi):=⟨rfl,rfl,rfl,by decide +kernel,rfl,by decide +kernel,by decide +kernel⟩
theorem okζi (T:Txt K mg t):FnOk P w K mg base CX0 2 t.aζi t.dζi ["web","ties"] (spζi K t.A_Web):=by
 refine T.fζi.ok scζi (fun vs H Q E h=>?_) (fun cdv A outer s H vs Q E hr h=>?_)
 ·obtain⟨w,a,n,ps,ns,rfl,_⟩:=h
  rfl
 ·obtain⟨w,a,n,ps,ns,rfl,hW,hG,hS,hI,q⟩:=h
  refine⟨_,(ζ6 (ζl (ζ8 (okζh T) (hr.mono (by decide)) rfl T.mζh T.fζh.kp T.bζh .nil ζt (ζ0 (pv 0) (ζ0 (ζo (ζf3 rfl) (by rfl) T.n_list Boot.«list» (ζ0 (ζo ζy4 (by rfl) T.n_range Boot.«range» (ζ0 (ζP K (pv 0) rfl) ζ3)) ζ3)) (ζ0 (pv 1) ζ3)))))),?_⟩
  obtain⟨dx,tl,xs,h1,h2,h3⟩:=id hW
  obtain⟨g1,g2,g3,g4⟩:=id hG
  refine⟨_,rfl,_,rfl,w,_,dx,_,_,rfl,h1,T.cl_Web,T.n_Web_places,ζ31 _ _,n,rfl,fun r hr0=>⟨r,0,n,rfl,ζ1,⟨by decide,by decide,by omega,by omega⟩,by omega,fun m hm=>?_⟩⟩
  have sm:Same H (upd (upd H r (.rng 0 n)) m (.lst ((rngI 0 n).map V.int))):=ζy (same_at hr0) hm
  refine⟨_,rfl,w,m,a,n,ps,(List.range n.toNat).map (fun(i:Nat)=>(i:Int)),true,ns,rfl,hW.same sm,hG,?_,by simp,ζM sm hS,hI,fun m' H' s' hf hm'=>?_⟩
  ·rw[ζ1,ζI6]
  ·refine q m' H' (sm.trans s') ?_ hm'
   rcases hf with rfl | hf
   ·exact(same_at hr0).free hm
   ·exact sm.free hf
end
set_option maxHeartbeats 4000000
def spζj(K:PySem.W.Frag)(C:Addr):Sp:=fun vs H Q _=>∃(w a:Addr) (n:Int) (ps:List (Int × Int)) (kd:Bool) (ns:List Int),vs=[.ref w,.ref a]/\WebAt C H w n ps/\ζE n ps/\SqK kd K H a (IL ns)/\IsSet ps.length ns /\
 ∀(r:Addr) (as:List Addr) (H':Hp),Same H H'->H r=none->H' r=some (.lst (as.map V.ref))->r∉as->GrpAt H H' (grp (pms n.toNat (ζc ps ns))) as->Q (.ref r) H'
section
variable{P:Program}{w:World}{K:PySem.W.Frag}{mg:Str->Option Value}{base:Heap}{t:Adr}
theorem scζj:FnScope ["web","ties","pieces","place","mark"] ["web","ties"] (ζ5 sζj):=⟨rfl,rfl,rfl,by decide +kernel,rfl,by decide +kernel,by decide +kernel⟩
theorem okζj (T:Txt K mg t):FnOk P w K mg base CX0 4 t.aζj t.dζj ["web","ties"] (spζj K t.A_Web):=by
 refine T.fζj.ok scζj (fun vs H Q E h=>?_) (fun cdv A outer s H vs Q E hr h=>?_)
 ·obtain⟨w,a,n,ps,kd,ns,rfl,_⟩:=h
  rfl
 ·obtain⟨w,a,n,ps,kd,ns,rfl,hW,hG,hS,hI,q⟩:=h
  refine⟨_,(ζ2 (ζh (i:=2) scζj.nd rfl (Or.inl rfl) ζO8)
   (ζ2 (ζ81 PassesOwn.never rfl (ζA2 K rfl T.n_enumerate (ζ0 (ζ8 (okζi T) (hr.mono (by decide)) rfl T.mζi T.fζi.kp T.bζi .nil ζt (ζ0 (pv 0) (ζ0 (ζ8 (okζg T) (hr.mono (by decide)) rfl T.mζg T.fζg.kp T.bζg .nil ζt (ζ0 (pv 0) (ζ0 (pv 1) ζ3))) ζ3))) ζ3)) (ζa1 (n:=2) K rfl (ζq (ζe (i:=3) scζj.nd rfl (Or.inl rfl)) (ζq (ζe (i:=4) scζj.nd rfl (Or.inl rfl)) ζ91)))
   (ζ6 (ζ51 (ζB1 K PySem.F.plainAttrs_list PySem.F.slot_list_append PySem.F.type_list_append ζg1 (ζB1 K PySem.F.plainAttrs_dict PySem.F.slot_dict_setdefault PySem.F.type_dict_setdefault ζ53 (pv 2) (ζ0 (pv 4) (ζ0 (ζR ζ3) ζ3))) (ζ0 (pv 3) ζ3)))))
   (ζ6 (ζl (ζo (ζQ2 rfl) (by rfl) T.n_list Boot.«list» (ζ0 (ζv10 K PySem.F.plainAttrs_dict PySem.F.slot_dict_values PySem.F.type_dict_values ζW6 (pv 2)) ζ3)))))),?_⟩
  intro d hd
  have s0:Same H (upd H d (.dK [])):=same_at hd
  refine⟨_,rfl,_,rfl,_,rfl,w,a,n,ps,kd,ns,rfl,hW.same s0,hS.same s0,hI,fun r H1 s1 hr1=>?_⟩
  refine⟨w,r,n,ps,ns,rfl,(hW.same s0).same s1,hG,hr1,hI.all,fun m H2 s2 hm1 hm2=>?_⟩
  have s02:Same H H2:=(s0.trans s1).trans s2
  have hd2:H2 d=some (.dK []):=s2 _ _ (s1 _ _ ζ1)
  have hl:(pms n.toNat (ζc ps ns)).length=n.toNat:=ζO _ _
  generalize hM:pms n.toNat (ζc ps ns)=M at *
  have hm0:H m=none:=(s0.trans s1).free hm1
  have n14:M.length<=14:=by have:=hG.2.1;omega
  refine⟨m,rfl,⟨_,SqL.of hm2⟩,?_⟩
  refine ζ26 (K:=K) (a:=m) (xs:=IL M) (fun i σ H3=>∃(as:List Addr) (v3 v4:Option V),σ=[some (.ref w),some (.ref a),some (.ref d),v3,v4]/\i<=M.length/\Same H H3/\H3 m=some (.lst (IL M))/\H3 d=some (.dK (gkv (grpA M i) as))/\d∉as/\m∉as/\GrpAt H H3 (grpA M i) as/\as.length<=i)
   ⟨[],none,none,rfl,Nat.zero_le _,s02,hm2,hd2,by simp,by simp,⟨rfl,List.nodup_nil,fun i kv a e=>by simp[grpA]at e,fun a ha=>by simp at ha⟩,Nat.le_refl _⟩ (fun i σ H3 _ ⟨_,_,_,_,_,_,h,_⟩=>SqL.of h) ?_ ?_
  ·rintro i x σ H3 pt hpt hi ⟨as,v3,v4,rfl,hil,s3,hm3,hd3,nda,nma,gA,hal⟩
   obtain⟨k,rfl,hk⟩:=ζJ1 hi
   have hk':mk M i=k:=ζK hk
   have hil':i<M.length:=(List.getElem?_eq_some_iff.mp hk).1
   have s4:Same H3 (upd H3 pt (.tup [.int i,.int k])):=same_at hpt
   refine⟨pt,_,rfl,SqT.of ζ1,rfl,_,_,rfl,_,_,rfl,rfl,?_⟩
   refine⟨_,rfl,.inr (.inr (.inl ⟨rfl,.inl ⟨_,s4 _ _ hd3⟩⟩)),_,rfl,(by show 0<=sizeLine;exact Nat.zero_le _),fun l hl0=>?_⟩
   have s5:Same H3 (upd (upd H3 pt (.tup [.int i,.int k])) l (.lst [])):=ζy s4 hl0
   have hd5:=s5 _ _ hd3
   have hl3:H3 l=none:=s4.free hl0
   have ndl:d≠l:=ζf hd3 hl3
   have gl:=gA.len
   refine⟨d,gkv (grpA M i) as,Sum.inl k,.ref l,rfl,rfl,hd5,?_,fun v hv=>?_,fun hv=>?_⟩
   ·rw[ζV5 gl]
    exact ζm (by omega)
   ·-- the mark has its list
    rcases ζT5 (g:=grpA M i) (as:=as) (k:=k) gl with ⟨h1,_⟩ | ⟨j,kv,b,e1,e2,e3,e4⟩
    ·rw[h1]at hv;cases hv
    ·rw[e4]at hv
     cases hv
     have hb5:=s5 _ _ (gA.at_ j kv b e1 e2)
     have hkm:k∈(grpA M i).map (·.1):=List.mem_map.mpr ⟨kv,List.mem_of_getElem? e1,e3⟩
     have hlen:kv.2.length<=i:=ζE3 (List.mem_of_getElem? e1)
     refine⟨.inl ⟨rfl,_,SqL.of hb5⟩,_,rfl,b,_,.int i,rfl,rfl,hb5,?_,?_⟩
     ·rw[ζ7]
      exact ζm (by omega)
     ·have hbas:b∈as:=List.mem_of_getElem? e2
      have hdb:d≠b:=fun z=>nda (z ▸ hbas)
      have hmb:m≠b:=fun z=>nma (z ▸ hbas)
      have hb0:=gA.new b hbas
      have ekeys:(grpA M (i+1)).map (·.1)=(grpA M i).map (·.1):=by
       show(ζD3 (grpA M i) (i:Int) (mk M i)).map (·.1)=_
       rw[ζE1,hk',if_pos hkm]
      refine⟨as,_,_,rfl,hil',ζs hb0 (s3.trans s5),by rw[ζ9 hmb];exact s5 _ _ hm3,by rw[ζ9 hdb,hd5,ζW5 ekeys],nda,nma,⟨?_,gA.nd,?_,gA.new⟩,by omega⟩
      ·have:=congrArg List.length ekeys
       rw[List.length_map,List.length_map]at this
       omega
      ·intro i2 kv2 a2 f1 f2
       have f1:(ζD3 (grpA M i) (i:Int) (mk M i))[i2]?=some kv2:=f1
       unfold ζD3 at f1
       rw[hk',if_pos hkm,List.getElem?_map]at f1
       cases f3:(grpA M i)[i2]? with
       | none=>rw[f3]at f1;cases f1
       | some kv3 =>
        rw[f3]at f1
        have f1:(if kv3.1=k then (kv3.1,kv3.2++[(i:Int)]) else kv3)=kv2:=Option.some.inj f1
        by_cases hj:i2=j
        ·subst hj
         rw[e1]at f3
         cases f3
         rw[e2]at f2
         cases f2
         rw[if_pos e3]at f1
         subst f1
         rw[ζ1]
         simp
        ·have hab:a2≠b:=fun z=>by
          subst z
          exact hj (ζf1 gA.nd f2 e2)
         have hkk:¬ kv3.1=k:=fun z=>hj (ζf1 (ζ72 M i) (by rw[List.getElem?_map,f3];exact congrArg some z) (by rw[List.getElem?_map,e1];exact congrArg some e3))
         rw[if_neg hkk]at f1
         subst f1
         rw[ζ9 hab]
         exact s5 _ _ (gA.at_ i2 kv3 a2 f3 f2)
   ·-- a new list
    rcases ζT5 (g:=grpA M i) (as:=as) (k:=k) gl with ⟨h1,hkn⟩ | ⟨j,kv,b,e1,e2,e3,e4⟩
    ·have hl6:(upd (upd (upd H3 pt (.tup [.int i,.int k])) l (.lst [])) d (.dK (gkv (grpA M i) as++[(Sum.inl k,.ref l)]))) l=some (.lst []):=by rw[ζ9 (Ne.symm ndl),ζ1]
     refine⟨.inl ⟨rfl,_,SqL.of hl6⟩,_,rfl,l,[],.int i,rfl,rfl,hl6,(by show 0<sizeLine;decide),?_⟩
     have hl0':H l=none:=s3.free hl3
     have hlas:l∉as:=fun z=>by
      obtain⟨_,e⟩:=gA.mem z
      rw[hl3]at e
      cases e
     have hml:m≠l:=ζf hm3 hl3
     have hmd:m≠d:=ζV6 hm3 hd3 (fun z=>nomatch z)
     have egr:grpA M (i+1)=grpA M i++[(k,[(i:Int)])]:=by
      show ζD3 (grpA M i) (i:Int) (mk M i)=_
      unfold ζD3
      rw[hk',if_neg hkn]
     have hdH:H d=none:=hd
     refine⟨as++[l],_,_,rfl,hil',ζs hl0' (ζs hdH (s3.trans s5)),by rw[ζ9 hml,ζ9 hmd];exact s5 _ _ hm3,?_,?_,?_,⟨?_,?_,?_,?_⟩,?_⟩
     ·rw[ζ9 ndl,ζ1,egr,ζU5 gl]
     ·rw[List.mem_append,List.mem_singleton]
      rintro(z | z)
      ·exact nda z
      ·exact ndl z
     ·rw[List.mem_append,List.mem_singleton]
      rintro(z | z)
      ·exact nma z
      ·exact hml z
     ·rw[egr,List.length_append,List.length_append,gl]
      rfl
     ·exact ζa4 gA.nd hlas
     ·intro i2 kv2 a2 f1 f2
      rw[egr]at f1
      by_cases hi2:i2<(grpA M i).length
      ·rw[List.getElem?_append_left hi2]at f1
       rw[List.getElem?_append_left (by omega)]at f2
       have e:=gA.at_ i2 kv2 a2 f1 f2
       have n1:a2≠l:=ζf e hl3
       have n2:a2≠d:=ζV6 e hd3 (fun z=>nomatch z)
       rw[ζ9 n1,ζ9 n2]
       exact s5 _ _ e
      ·have h2:i2=(grpA M i).length:=by
        have:=(List.getElem?_eq_some_iff.mp f1).1
        rw[List.length_append,List.length_singleton]at this
        omega
       subst h2
       rw[List.getElem?_append_right (Nat.le_refl _),Nat.sub_self]at f1
       rw[List.getElem?_append_right (by omega),gl,Nat.sub_self]at f2
       cases f1
       cases f2
       rw[ζ1]
       rfl
     ·intro a2 ha2
      rcases List.mem_append.mp ha2 with z | z
      ·exact gA.new a2 z
      ·rw[List.mem_singleton.mp z];exact hl0'
     ·rw[List.length_append,List.length_singleton]
      omega
    ·rw[e4]at hv;cases hv
  ·rintro σ H3 ⟨as,v3,v4,rfl,hil,s3,hm3,hd3,nda,nma,gA,hal⟩
   rw[ζ7]at hd3 gA
   refine⟨_,rfl,.inr (.inr (.inl ⟨rfl,.inl ⟨_,hd3⟩⟩)),d,_,rfl,rfl,hd3,fun p hp=>?_⟩
   have s6:Same H3 (upd H3 p (ζQ9 p d)):=same_at hp
   refine⟨p,d,_,rfl,ζ1,s6 _ _ hd3,fun r hr0=>?_⟩
   have s7:Same H3 (upd (upd H3 p (ζQ9 p d)) r (.lst ((gkv (grpA M M.length) as).map (·.2)))):=ζy s6 hr0
   refine q r as _ (s3.trans s7) ((s3.trans s6).free hr0) (by rw[ζ1,ζ38 gA.len]) (fun z=>?_) (gA.same s7)
   obtain⟨_,e⟩:=gA.mem z
   rw[s6.free hr0]at e
   cases e
end
set_option maxHeartbeats 4000000
def spζk(K:PySem.W.Frag)(C:Addr):Sp:=fun vs H Q _=>∃(w a:Addr) (n:Int) (ps:List (Int × Int)) (kd:Bool) (ns:List Int),vs=[.ref w,.ref a]/\WebAt C H w n ps/\ζE n ps/\SqK kd K H a (IL ns)/\IsSet ps.length ns /\
 ∀(b:Bool) (H':Hp),Same H H'->(b=true↔(grp (pms n.toNat (ζc ps ns))).length=1)->Q (.bl b) H'
section
variable{P:Program}{w:World}{K:PySem.W.Frag}{mg:Str->Option Value}{base:Heap}{t:Adr}
theorem scζk:FnScope ["web","ties"] ["web","ties"] (ζ5 sζk):=⟨rfl,rfl,rfl,by decide +kernel,rfl,by decide +kernel,by decide +kernel⟩
theorem okζk (T:Txt K mg t):FnOk P w K mg base CX0 5 t.aζk t.dζk ["web","ties"] (spζk K t.A_Web):=by
 refine T.fζk.ok scζk (fun vs H Q E h=>?_) (fun cdv A outer s H vs Q E hr h=>?_)
 ·obtain⟨w,a,n,ps,kd,ns,rfl,_⟩:=h
  rfl
 ·obtain⟨w,a,n,ps,kd,ns,rfl,hW,hG,hS,hI,q⟩:=h
  refine⟨_,(ζ6 (ζl (ζA1 ζT8 (ζb (ζi K) (by rfl) T.n_len Boot.«len» (ζ0 (ζ8 (okζj T) (hr.mono (by decide)) rfl T.mζj T.fζj.kp T.bζj .nil ζt (ζ0 (pv 0) (ζ0 (pv 1) ζ3))) ζ3)) ζ4 (ζv _)))),?_⟩
  refine⟨_,rfl,_,rfl,w,a,n,ps,kd,ns,rfl,hW,hG,hS,hI,fun r as H' s1 hr0 hr1 hnr gA=>?_⟩
  refine⟨r,_,rfl,.inl (SqL.of hr1),rfl,?_⟩
  rw[List.length_map,gA.len,ζI]
  refine q _ H' s1 ?_
  rw[decide_eq_true_iff]
  omega
end
set_option maxHeartbeats 4000000
def spζl(K:PySem.W.Frag)(C:Addr):Sp:=fun vs H Q _=>∃(w:Addr) (n:Int) (ps:List (Int × Int)),vs=[.ref w]/\WebAt C H w n ps/\ζE n ps /\
 (ζk1 n ps->∀ H':Hp,Same H H'->Q .non H')/\(¬ ζk1 n ps->∀ H':Hp,Same H H'->False)
section
variable{P:Program}{w:World}{K:PySem.W.Frag}{mg:Str->Option Value}{base:Heap}{t:Adr}
theorem scζl:FnScope ["web"] ["web"] (ζ5 sζl):=⟨rfl,rfl,rfl,by decide +kernel,rfl,by decide +kernel,by decide +kernel⟩
theorem okζl (T:Txt K mg t):FnOk P w K mg base CX0 6 t.aζl t.dζl ["web"] (spζl K t.A_Web):=by
 refine T.fζl.ok scζl (fun vs H Q E h=>?_) (fun cdv A outer s H vs Q E hr h=>?_)
 ·obtain⟨w,n,ps,rfl,_⟩:=h
  rfl
 ·obtain⟨w,n,ps,rfl,hW,hG,q,qe⟩:=h
  refine⟨_,(ζ6 (ζe1 (ζY1 (ζN1 (ζ8 (okζk T) (hr.mono (by decide)) rfl T.mζk T.fζk.kp T.bζk .nil ζt (ζ0 (pv 0) (ζ0 (ζ8 (okζe T) (hr.mono (by decide)) rfl T.mζe T.fζe.kp T.bζe .nil ζt (ζ0 (pv 0) ζ3)) ζ3)))))
   (ζ6 ζJ)
   ζn)),?_⟩
  refine⟨_,rfl,_,rfl,w,n,ps,rfl,hW,by have:=hG.2.2.1;omega,fun r H1 s1 hr0 hr1=>?_⟩
  refine⟨w,r,n,ps,true,rgL ps.length,rfl,hW.same s1,hG,SqT.of hr1,ζy1 _,fun b H2 s2 hb=>⟨_,rfl,?_⟩⟩
  rw[ζl9 (by have:=hG.1;omega) (ζG1 hG (ζy1 _).all)]at hb
  refine itnb (fun z=>?_) (fun z=>?_)
  ·exact q (hb.mp z) H2 (s1.trans s2)
  ·exact qe (fun g=>by rw[hb.mpr g]at z;cases z) H2 (s1.trans s2)
end
set_option maxHeartbeats 4000000
def spζm(K:PySem.W.Frag)(C:Addr):Sp:=fun vs H Q _=>∃(w b:Addr) (n:Int) (ps:List (Int × Int)) (ws:List Int),vs=[.ref w,.ref b]/\WebAt C H w n ps/\ζE n ps/\SqL K H b (IL ws)/\ws.length=ps.length /\
 ∀(r:Addr) (ys:List V) (L:List (List Int)) (H':Hp),Same H H'->H r=none->TabAt H r n.toNat H' ys L->(∀ i j,i<n.toNat->j<n.toNat->fnL L i j=lapE (ζ71 ps ws) i j)->Q (.ref r) H'
theorem ζk5(x:V)(k:Nat):(List.replicate k [x]).flatten=List.replicate k x:=by
 induction k with
 | zero=>rfl
 | succ k ih=>rw[List.replicate_succ,List.flatten_cons,ih,List.replicate_succ];rfl
theorem ζp9(n i j:Nat):fnL (List.replicate n (List.replicate n 0)) i j=0:=by
 unfold fnL
 cases h:(List.replicate n (List.replicate n (0:Int)))[i]? with
 | none =>
  have e:(List.replicate n (List.replicate n (0:Int))).getD i []=[]:=by rw[List.getD_eq_getElem?_getD,h];rfl
  rw[e]
  rfl
 | some l =>
  have e:(List.replicate n (List.replicate n (0:Int))).getD i []=l:=by rw[List.getD_eq_getElem?_getD,h];rfl
  rw[e,List.eq_of_mem_replicate (List.mem_of_getElem? h),List.getD_eq_getElem?_getD,List.getElem?_replicate]
  split <;> rfl
theorem TabAt.get{H0 H:Hp}{r:Addr}{n:Nat}{ys:List V}{L:List (List Int)}(h:TabAt H0 r n H ys L){i j:Nat}(hi:i<n)(hj:j<n):∃(A:Addr) (l:List Int) (x:Int),ys[i]?=some (.ref A)/\H A=some (.lst (IL l))/\l[j]?=some x/\l.length=n/\x=fnL L i j/\H0 A=none/\∀ y:Int,∃ L':List (List Int),TabAt H0 r n (upd H A (.lst ((IL l).set j (.int y)))) ys L'/\∀ a b,fnL L' a b=if a=i/\b=j then y else fnL L a b:=by
 obtain⟨A,l,y1,z1,hA,hl,hn,hr⟩:=h.at hi
 obtain⟨x,hx⟩:∃ x,l[j]?=some x:=⟨_,List.getElem?_eq_getElem (by omega)⟩
 refine⟨A,l,x,y1,hA,hx,hl,(ζO1 z1 hx).symm,hn,fun y=>⟨L.set i (l.set j y),?_,ζ611 z1 (by omega)⟩⟩
 have e:(IL l).set j (.int y)=IL (l.set j y):=(List.map_set ..).symm
 rw[e]
 exact h.put y1 z1 hr (by rw[List.length_set];exact hl)
theorem ζ57{xs:List V}{i:Int}(h0:0<=i)(h1:i<(xs.length:Int)):ixN xs.length i=some i.toNat:=by
 unfold ixN
 rw[if_pos h0,if_pos (by omega)]
section
variable{P:Program}{w:World}{K:PySem.W.Frag}{mg:Str->Option Value}{base:Heap}{t:Adr}
theorem scζm:FnScope ["web","weights","table","ends","weight","one","other"] ["web","weights"] (ζ5 sζm):=⟨rfl,rfl,rfl,by decide +kernel,rfl,by decide +kernel,by decide +kernel⟩
theorem okζm (T:Txt K mg t):FnOk P w K mg base CX0 1 t.aζm t.dζm ["web","weights"] (spζm K t.A_Web):=by
 refine T.fζm.ok scζm (fun vs H Q E h=>?_) (fun cdv A outer s H vs Q E hr h=>?_)
 ·obtain⟨w,b,n,ps,ws,rfl,_⟩:=h
  rfl
 ·obtain⟨w,b,n,ps,ws,rfl,hW,hG,hS,hwl,q⟩:=h
  refine⟨_,(ζ2 (ζL6 (i:=2) rfl scζm.nd rfl rfl (sc0:=ζ5 sζm) (N0:=["web","weights","table","ends","weight","one","other"]) (N':=["place","web"]) (o:=1) (fr:=[0]) ⟨rfl,by decide +kernel,by decide +kernel,by decide +kernel,rfl,by decide +kernel⟩ (ζF rfl T.n_range (ζ0 (ζP K (pv 0) rfl) ζ3)) (ζu (by decide)) (fun _ _ _ _=>(ζe (i:=0) (show List.Nodup (["place","web"]:List Str) by decide +kernel) rfl (Or.inl rfl))) (fun _ _ _ _=>ζB) (fun _ _ _ _=>(ζk ζQ8 (ζR (ζ0 ζ4 ζ3)) (ζP K (pv 1) rfl))))
   (ζ2 (ζ81 PassesOwn.never rfl (ζM8 K rfl T.n_zip (ζ0 (ζP K (pv 0) rfl) (ζ0 (pv 1) ζ3))) (ζa1 (n:=2) K rfl (ζq (ζe (i:=3) scζm.nd rfl (Or.inl rfl)) (ζq (ζe (i:=4) scζm.nd rfl (Or.inl rfl)) ζ91)))
   (ζ2 (ζh (i:=5) scζm.nd rfl (Or.inl rfl) (ζr (ζj K) (pv 3) ζ4 (fun _ _=>rfl)))
   (ζ2 (ζh (i:=6) scζm.nd rfl (Or.inl rfl) (ζr (ζj K) (pv 3) ζ4 (fun _ _=>rfl)))
   (ζ6 (ζe1 (ζp ζ74 (pv 5) (pv 6) (ζv _))
   (ζ2 (ζ14 (ζr (ζd K) (pv 2) (pv 5) (fun _ _=>rfl)) (pv 5) (ζS1 K) (pv 4) ζT10 ζo1)
   (ζ2 (ζ14 (ζr (ζd K) (pv 2) (pv 6) (fun _ _=>rfl)) (pv 6) (ζS1 K) (pv 4) ζT10 ζo1)
   (ζ2 (ζ14 (ζr (ζd K) (pv 2) (pv 5) (fun _ _=>rfl)) (pv 6) (ζS1 K) (pv 4) ζS10 ζo1)
   (ζ6 (ζ14 (ζr (ζd K) (pv 2) (pv 6) (fun _ _=>rfl)) (pv 5) (ζS1 K) (pv 4) ζS10 ζo1)))))
   ζn)))))
   (ζ6 (ζl (pv 2))))),?_⟩
  obtain⟨dx,tl,xs,h1,h2,h3⟩:=id hW
  have hl:=h3.1
  obtain⟨g1,g2,g3,g4⟩:=id hG
  have one:1<=sizeLine:=by decide
  refine⟨_,rfl,w,_,dx,_,_,rfl,h1,T.cl_Web,T.n_Web_places,ζ31 _ _,n,rfl,by omega,by omega,ζD2 (lo:=0) (n:=n.toNat) (fun i zs H2=>Same H H2/\Bears (ζT2 H2) zs (List.replicate i (List.replicate n.toNat 0))/\zs.Nodup/\∀ A,V.ref A∈zs->H A=none/\∃ o,H2 A=some o) ⟨Same.refl _,⟨rfl,fun i l e=>by simp at e⟩,.nil,fun A h=>(by cases h)⟩ (ζm (by omega)) (fun i zs H2 _ ⟨_,e,_⟩=>by rw[e.1,List.length_replicate];exact Nat.le_refl _) ?_ ?_⟩
  ·rintro i zs H2 hi ⟨s2,hZ,hnd,hnew⟩ S hSS
   refine nm ?_
   refine⟨one,fun p1 hp1=>?_⟩
   have u1:=same_at (o:=.lst [.int 0]) hp1
   refine⟨_,rfl,w,_,dx,_,_,rfl,u1 _ _ (s2 _ _ h1),T.cl_Web,T.n_Web_places,ζ31 _ _,p1,n,_,rfl,rfl,ζ1,by omega,by omega,ζu1 (by show 1 * n.toNat<=_;omega),fun p2 hp2=>?_⟩
   have e0:(List.replicate n.toNat [V.int 0]).flatten=IL (List.replicate n.toNat 0):=by rw[ζk5];show _=(List.replicate n.toNat 0).map V.int;rw[List.map_replicate]
   rw[e0]
   have u2:=u1.trans (same_at (o:=.lst (IL (List.replicate n.toNat 0))) hp2)
   have hp20:H2 p2=none:=(same_at hp1).free hp2
   refine hSS _ _ ⟨s2.trans u2,?_,?_,fun A hA=>?_⟩
   ·rw[List.replicate_succ']
    exact(hZ.imp fun _ _ ⟨r',e,h⟩=>⟨r',e,u2 _ _ h⟩).snoc ⟨p2,rfl,ζ1⟩
   ·refine List.nodup_append.mpr ⟨hnd,by simp,fun x hx y hy e=>?_⟩
    rw[List.mem_singleton.mp hy]at e
    obtain⟨_,o,ho⟩:=hnew p2 (e ▸ hx)
    rw[hp20]at ho
    cases ho
   ·rcases List.mem_append.mp hA with e | e
    ·obtain⟨a1,o,a2⟩:=hnew A e
     exact⟨a1,o,u2 _ _ a2⟩
    ·have e':A=p2:=by simpa using e
     rw[e']
     exact⟨s2.free hp20,_,ζ1⟩
  rintro zs H2 ⟨s2,hZ,hnd,hnew⟩ tA htA
  have s3:=s2.trans (same_at (o:=.lst zs) htA)
  have htA0:H tA=none:=s2.free htA
  have hT:TabAt H tA n.toNat (upd H2 tA (.lst zs)) zs (List.replicate n.toNat (List.replicate n.toNat 0)):=⟨ζ1,hZ.imp fun _ _ ⟨r',e,h⟩=>⟨r',e,same_at htA _ _ h,ζf h htA⟩,List.length_replicate,fun l h=>by rw[List.eq_of_mem_replicate h];exact List.length_replicate,hnd,fun A h=>(hnew A h).1⟩
  have hzero:∀ i j,fnL (List.replicate n.toNat (List.replicate n.toNat 0)) i j=0:=fun i j=>by
   have:=ζp9 n.toNat i j
   exact this
  generalize upd H2 tA (.lst zs)=H3 at *
  generalize List.replicate n.toNat (List.replicate n.toNat (0:Int))=L0 at *
  refine⟨_,rfl,w,_,dx,_,_,rfl,s3 _ _ h1,T.cl_Web,T.n_Web_ties,ζM1 _ _,_,rfl,tl,b,rfl,⟨_,_,SqL.of (s3 _ _ h2),s3.seq hS⟩,ζ511 (K:=K) (a:=tl) (b:=b) (xs:=xs) (ys:=IL ws) (by rw[ζ7];omega) (fun i σ H4=>∃(L:List (List Int)) (v3 v4 v5 v6:Option V),σ=[some (.ref w),some (.ref b),some (.ref tA),v3,v4,v5,v6]/\Same H H4/\TabAt H tA n.toNat H4 zs L/\∀ x y,x<n.toNat->y<n.toNat->fnL L x y=lapE (ζ71 (ps.take i) (ws.take i)) x y) ⟨L0,none,none,none,none,rfl,s3,hT,fun x y _ _=>hzero x y⟩ (fun i σ H4 _ ⟨_,_,_,_,_,_,e,_⟩=>⟨SqL.of (e _ _ h2),e.seq hS⟩) ?_ ?_⟩
  ·rintro i v v' σ H4 pt hpt hi hi' ⟨L,v3,v4,v5,v6,rfl,s4,hT4,hlap⟩
   obtain⟨p,hp,tt,rfl,htt⟩:=h3.at hi
   obtain⟨wt,rfl,hwt⟩:=ζJ1 hi'
   obtain⟨e1,e2,e3,e4⟩:=g4 p (List.mem_of_getElem? hp)
   have u1:=same_at (o:=.tup [.ref tt,.int wt]) hpt
   refine⟨pt,_,rfl,SqT.of ζ1,rfl,_,_,rfl,_,_,rfl,rfl,?_⟩
   have hT5:=hT4.same u1
   have s5:=s4.trans u1
   generalize upd H4 pt (.tup [.ref tt,.int wt])=H5 at *
   refine⟨_,rfl,tt,_,0,.int p.1,rfl,rfl,SqT.of (s5 _ _ htt),rfl,?_⟩
   refine⟨_,rfl,tt,_,1,.int p.2,rfl,rfl,SqT.of (s5 _ _ htt),rfl,?_⟩
   refine⟨_,rfl,_,rfl,rfl,_,rfl,?_⟩
   rw[ζI]
   have esn:=ζw9 hp hwt
   refine itn2 (fun heq=>?_) (fun hne=>?_)
   ·refine⟨L,_,_,_,_,rfl,s5,hT5,fun x y hx hy=>?_⟩
    rw[esn,ζd4 (by show p.1.toNat=p.2.toNat;rw[heq])]
    exact hlap x y hx hy
   have hne':p.1.toNat≠p.2.toNat:=fun e=>hne (by omega)
   obtain⟨A1,l1,x1,y1,hA1,hx1,hl1,ex1,hn1,put1⟩:=hT5.get (i:=p.1.toNat) (j:=p.1.toNat) (by omega) (by omega)
   refine⟨_,rfl,_,rfl,tA,zs,p.1,.ref A1,rfl,rfl,SqL.of hT5.tab,ζw (n:=p.1.toNat) (by omega) y1,_,rfl,A1,_,p.1,.int x1,rfl,rfl,SqL.of hA1,by omega,ζ05 hx1,_,rfl,_,_,rfl,rfl,A1,_,p.1,p.1.toNat,rfl,rfl,hA1,ζ57 (by omega) (by rw[ζ7];omega),?_⟩
   obtain⟨L1,hT6,hf1⟩:=put1 (x1+wt)
   have s6:Same H (upd H5 A1 (.lst ((IL l1).set p.1.toNat (.int (x1+wt))))):=ζs hn1 s5
   generalize upd H5 A1 (.lst ((IL l1).set p.1.toNat (.int (x1+wt))))=H6 at *
   rw[ex1]at hf1
   obtain⟨A2,l2,x2,y2,hA2,hx2,hl2,ex2,hn2,put2⟩:=hT6.get (i:=p.2.toNat) (j:=p.2.toNat) (by omega) (by omega)
   refine⟨_,rfl,_,rfl,tA,zs,p.2,.ref A2,rfl,rfl,SqL.of hT6.tab,ζw (n:=p.2.toNat) (by omega) y2,_,rfl,A2,_,p.2,.int x2,rfl,rfl,SqL.of hA2,by omega,ζ05 hx2,_,rfl,_,_,rfl,rfl,A2,_,p.2,p.2.toNat,rfl,rfl,hA2,ζ57 (by omega) (by rw[ζ7];omega),?_⟩
   obtain⟨L2,hT7,hf2⟩:=put2 (x2+wt)
   have s7:Same H (upd H6 A2 (.lst ((IL l2).set p.2.toNat (.int (x2+wt))))):=ζs hn2 s6
   generalize upd H6 A2 (.lst ((IL l2).set p.2.toNat (.int (x2+wt))))=H7 at *
   rw[ex2]at hf2
   obtain⟨A3,l3,x3,y3,hA3,hx3,hl3,ex3,hn3,put3⟩:=hT7.get (i:=p.1.toNat) (j:=p.2.toNat) (by omega) (by omega)
   refine⟨_,rfl,_,rfl,tA,zs,p.1,.ref A3,rfl,rfl,SqL.of hT7.tab,ζw (n:=p.1.toNat) (by omega) y3,_,rfl,A3,_,p.2,.int x3,rfl,rfl,SqL.of hA3,by omega,ζ05 hx3,_,rfl,_,_,rfl,rfl,A3,_,p.2,p.2.toNat,rfl,rfl,hA3,ζ57 (by omega) (by rw[ζ7];omega),?_⟩
   obtain⟨L3,hT8,hf3⟩:=put3 (x3 - wt)
   have s8:Same H (upd H7 A3 (.lst ((IL l3).set p.2.toNat (.int (x3 - wt))))):=ζs hn3 s7
   generalize upd H7 A3 (.lst ((IL l3).set p.2.toNat (.int (x3 - wt))))=H8 at *
   rw[ex3]at hf3
   obtain⟨A4,l4,x4,y4,hA4,hx4,hl4,ex4,hn4,put4⟩:=hT8.get (i:=p.2.toNat) (j:=p.1.toNat) (by omega) (by omega)
   refine⟨_,rfl,_,rfl,tA,zs,p.2,.ref A4,rfl,rfl,SqL.of hT8.tab,ζw (n:=p.2.toNat) (by omega) y4,_,rfl,A4,_,p.1,.int x4,rfl,rfl,SqL.of hA4,by omega,ζ05 hx4,_,rfl,_,_,rfl,rfl,A4,_,p.1,p.1.toNat,rfl,rfl,hA4,ζ57 (by omega) (by rw[ζ7];omega),?_⟩
   obtain⟨L4,hT9,hf4⟩:=put4 (x4 - wt)
   have s9:Same H (upd H8 A4 (.lst ((IL l4).set p.1.toNat (.int (x4 - wt))))):=ζs hn4 s8
   generalize upd H8 A4 (.lst ((IL l4).set p.1.toNat (.int (x4 - wt))))=H9 at *
   rw[ex4]at hf4
   refine⟨L4,_,_,_,_,rfl,s9,hT9,fun x y hx hy=>?_⟩
   rw[esn,ζD1,<- hlap x y hx hy]
   exact four hne' x y hf1 hf2 hf3 hf4
  ·rintro σ H4 ⟨L,v3,v4,v5,v6,rfl,s4,hT4,hlap⟩
   rw[hl,List.take_length,<- hwl,List.take_length]at hlap
   exact⟨_,rfl,q tA zs L H4 s4 htA0 hT4 hlap⟩
end
set_option maxHeartbeats 4000000
def spζn(K:PySem.W.Frag)(C:Addr):Sp:=fun vs H Q _=>∃(w:Addr) (n:Int) (ps:List (Int × Int)),vs=[.ref w]/\WebAt C H w n ps/\ζE n ps /\
 ∀(r:Addr) (ys:List V) (L:List (List Int)) (H':Hp),Same H H'->H r=none->TabAt H r n.toNat H' ys L->(∀ i j,i<n.toNat->j<n.toNat->fnL L i j=lapE (ζ71 ps (List.replicate ps.length 1)) i j)->Q (.ref r) H'
section
variable{P:Program}{w:World}{K:PySem.W.Frag}{mg:Str->Option Value}{base:Heap}{t:Adr}
theorem scζn:FnScope ["web"] ["web"] (ζ5 sζn):=⟨rfl,rfl,rfl,by decide +kernel,rfl,by decide +kernel,by decide +kernel⟩
theorem okζn (T:Txt K mg t):FnOk P w K mg base CX0 2 t.aζn t.dζn ["web"] (spζn K t.A_Web):=by
 refine T.fζn.ok scζn (fun vs H Q E h=>?_) (fun cdv A outer s H vs Q E hr h=>?_)
 ·obtain⟨w,n,ps,rfl,_⟩:=h
  rfl
 ·obtain⟨w,n,ps,rfl,hW,hG,q⟩:=h
  refine⟨_,(ζ6 (ζl (ζ8 (okζm T) (hr.mono (by decide)) rfl T.mζm T.fζm.kp T.bζm .nil ζt (ζ0 (pv 0) (ζ0 (ζk ζQ8 (ζR (ζ0 ζ4 ζ3)) (ζb (ζi K) (by rfl) T.n_len Boot.«len» (ζ0 (ζP K (pv 0) rfl) ζ3))) ζ3))))),?_⟩
  obtain⟨dx,tl,xs,h1,h2,h3⟩:=id hW
  have hl:=h3.1
  have g3:=hG.2.2.1
  refine⟨_,rfl,(by show 1<=sizeLine;decide),fun p1 hp1=>?_⟩
  have u1:=same_at (o:=.lst [.int 1]) hp1
  refine⟨_,rfl,w,_,dx,_,_,rfl,u1 _ _ h1,T.cl_Web,T.n_Web_ties,ζM1 _ _,tl,xs,rfl,.inl (SqL.of (u1 _ _ h2)),p1,(xs.length:Int),_,rfl,rfl,ζ1,by omega,by omega,ζu1 (by show 1 * _<=_;omega),fun p2 hp2=>?_⟩
  have e0:(List.replicate (xs.length:Int).toNat [V.int 1]).flatten=IL (List.replicate ps.length 1):=by
   rw[Int.toNat_natCast,hl,ζk5]
   show _=(List.replicate ps.length 1).map V.int
   rw[List.map_replicate]
  rw[e0]
  have u2:=u1.trans (same_at (o:=.lst (IL (List.replicate ps.length 1))) hp2)
  refine⟨w,p2,n,ps,List.replicate ps.length 1,rfl,hW.same u2,hG,SqL.of ζ1,List.length_replicate,fun r ys L H' s hr hT hf=>?_⟩
  exact q r ys L H' (u2.trans s) (u2.free hr) ⟨hT.tab,hT.rows,hT.len,hT.all,hT.nd,fun A h=>u2.free (hT.new A h)⟩ hf
end
set_option maxHeartbeats 4000000
def spζo(K:PySem.W.Frag)(C:Addr):Sp:=fun vs H Q _=>∃(w:Addr) (n:Int) (ps:List (Int × Int)) (one o:Int),vs=[.ref w,.int one,.int o]/\WebAt C H w n ps/\ζE n ps/\-(10 ^ 70)<one/\one<10 ^ 70/\-(10 ^ 70)<o/\o<10 ^ 70 /\
 (0<=one/\one<n->0<=o/\o<n->ζk1 n ps->∀(r:Addr) (zs:List V) (fs:List (Int × Int)) (H':Hp),Same H H'->H' r=some (.tup zs)->PairsV H' zs fs->HtF n ps one.toNat o.toNat fs->Q (.ref r) H') /\
 (¬ ((0<=one/\one<n)/\(0<=o/\o<n))->∀ H':Hp,Same H H'->False)/\(0<=one/\one<n->0<=o/\o<n->¬ ζk1 n ps->∀ H':Hp,Same H H'->False)
theorem ζ412(x:V)(k:Nat):(List.replicate k [x]).flatten=List.replicate k x:=by
 induction k with
 | zero=>rfl
 | succ k ih=>rw[List.replicate_succ,List.flatten_cons,ih,List.replicate_succ];rfl
theorem ζz12{xs:List V}{i:Int}(h0:0<=i)(h1:i<(xs.length:Int)):ixN xs.length i=some i.toNat:=by
 unfold ixN
 rw[if_pos h0,if_pos (by omega)]
theorem ζn12{ps:List (Int × Int)}:∀ e∈ζ71 ps (List.replicate ps.length (1:Int)),e.2.2=1:=fun e he=>by
 unfold ζ71 at he
 obtain⟨i,hi⟩:=List.getElem?_of_mem he
 rw[List.getElem?_zipWith]at hi
 cases h1:ps[i]? with
 | none=>rw[h1]at hi;cases hi
 | some p =>
  cases h2:(List.replicate ps.length (1:Int))[i]? with
  | none=>rw[h1,h2]at hi;cases hi
  | some w =>
   rw[h1,h2]at hi
   obtain rfl:=Option.some.inj hi
   exact List.eq_of_mem_replicate (List.mem_of_getElem? h2)
section
variable{P:Program}{w:World}{K:PySem.W.Frag}{mg:Str->Option Value}{base:Heap}{t:Adr}
theorem scζo:FnScope ["web","one","other","place","sums","heights"] ["web","one","other"] (ζ5 sζo):=⟨rfl,rfl,rfl,by decide +kernel,rfl,by decide +kernel,by decide +kernel⟩
theorem okζo (T:Txt K mg t):FnOk P w K mg base CX0 9 t.aζo t.dζo ["web","one","other"] (spζo K t.A_Web):=by
 refine T.fζo.ok scζo (fun vs H Q E h=>?_) (fun cdv A outer s H vs Q E hr h=>?_)
 ·obtain⟨w,n,ps,one,o,rfl,_⟩:=h
  rfl
 ·obtain⟨w,n,ps,one,o,rfl,hW,hG,a0,a1,b0,b1,q,qn,qp⟩:=h
  refine⟨_,(ζ2 (ζ81 PassesOwn.never rfl (ζr5 K (ζq1 (ζ0 (pv 1) (ζ0 (pv 2) ζ3)))) (ζe (i:=3) scζo.nd rfl (Or.inl rfl))
   (ζ6 (ζe1 (ζY1 (ζN1 (ζ8 (okζc T) (hr.mono (by decide)) rfl T.mζc T.fζc.kp T.bζc .nil ζt (ζ0 (pv 0) (ζ0 (pv 3) ζ3)))))
   (ζ6 ζJ)
   ζn)))
   (ζ2 (ζ51 (ζ8 (okζl T) (hr.mono (by decide)) rfl T.mζl T.fζl.kp T.bζl .nil ζt (ζ0 (pv 0) ζ3)))
   (ζ2 (ζh (i:=4) scζo.nd rfl (Or.inl rfl) (ζk ζQ8 (ζR (ζ0 ζ4 ζ3)) (ζP K (pv 0) rfl)))
   (ζ2 (ζu3 ζ4 (ζN8 (pv 4) (pv 1) ζo1))
   (ζ2 (ζh (i:=5) scζo.nd rfl (Or.inl rfl) (ζ8 (okζ9 T) (hr.mono (by decide)) rfl T.mζ9 T.fζ9.kp T.bζ9 .nil ζt (ζ0 (ζ8 (okζ5 T) (hr.mono (by decide)) rfl T.mζ5 T.fζ5.kp T.bζ5 .nil ζt (ζ0 (ζ8 (okζn T) (hr.mono (by decide)) rfl T.mζn T.fζn.kp T.bζn .nil ζt (ζ0 (pv 0) ζ3)) (ζ0 (pv 2) ζ3))) (ζ0 (ζ8 (okζ4 T) (hr.mono (by decide)) rfl T.mζ4 T.fζ4.kp T.bζ4 .nil ζt (ζ0 (pv 4) (ζ0 (pv 2) ζ3))) ζ3))))
   (ζ6 (ζl (ζk (ζK7 K) (ζk (ζK7 K) (ζG (ζy7 K) (pv 5) ζU (ζT (pv 2))) (ζq1 (ζ0 (ζq1 (ζ0 ζ4 (ζ0 ζ4 ζ3))) ζ3))) (ζG (ζy7 K) (pv 5) (ζT (pv 2)) ζU))))))))),?_⟩
  obtain⟨g1,g2,g3,g4⟩:=id hG
  have two:2<=sizeLine:=by decide
  have oneS:1<=sizeLine:=by decide
  refine⟨_,rfl,_,rfl,two,fun tp htp=>?_⟩
  have u1:=same_at (o:=.tup [.int one,.int o]) htp
  have k1:(upd H tp (.tup [.int one,.int o])) tp=some (.tup (IL [one,o])):=ζ1
  refine⟨tp,rfl,⟨_,SqT.of k1⟩,ζ16 (K:=K) (a:=tp) (xs:=IL [one,o]) (fun i σ H2=>∃ v3:Option V,σ=[some (.ref w),some (.int one),some (.int o),v3,none,none]/\Same H H2/\H2 tp=some (.tup (IL [one,o]))/\(1<=i->0<=one/\one<n)/\(2<=i->0<=o/\o<n)) ⟨none,rfl,u1,k1,fun h=>by omega,fun h=>by omega⟩ (fun i σ H2 _ ⟨_,_,_,e,_⟩=>SqT.of e) ?_ ?_⟩
  ·rintro i v σ H2 hi ⟨v3,rfl,s2,k2,p1,p2⟩
   obtain⟨z,rfl,hz⟩:=ζJ1 hi
   have hi2:=(List.getElem?_eq_some_iff.mp hz).1
   have cz:(i=0/\z=one)\/(i=1/\z=o):=by
    rcases(show i=0\/i=1 by have:[one,o].length=2:=rfl;omega) with e | e
    ·subst e;exact .inl ⟨rfl,(Option.some.inj hz).symm⟩
    ·subst e;exact .inr ⟨rfl,(Option.some.inj hz).symm⟩
   refine nm ?_
   dsimp only
   refine⟨_,rfl,_,rfl,w,n,ps,z,rfl,hW.same s2,_,rfl,?_⟩
   refine itn2 (fun h=>?_) (fun h=>?_)
   ·refine⟨_,rfl,s2,k2,fun h1=>?_,fun h2=>?_⟩
    ·rcases cz with ⟨e1,e2⟩ | ⟨e1,e2⟩
     ·rw[<- e2];exact h
     ·exact p1 (by omega)
    ·rcases cz with ⟨e1,e2⟩ | ⟨e1,e2⟩
     ·omega
     ·rw[<- e2];exact h
   ·refine qn (fun hh=>?_) H2 s2
    rcases cz with ⟨_,e⟩ | ⟨_,e⟩
    ·exact h (by rw[e];exact hh.1)
    ·exact h (by rw[e];exact hh.2)
  rintro σ H2 ⟨v3,rfl,s2,k2,p1,p2⟩
  have p1:=p1 (by show 1<=2;omega)
  have p2:=p2 (by show 2<=2;omega)
  refine⟨_,rfl,w,n,ps,rfl,hW.same s2,hG,fun hJ H3 s3=>?_,fun hno H3 s3=>qp p1 p2 hno H3 (s2.trans s3)⟩
  have q:=q p1 p2 hJ
  have t3:=s2.trans s3
  obtain⟨dx,tl,xs,h1,h2,h3⟩:=id (hW.same t3)
  refine⟨oneS,fun q1 hq1=>?_⟩
  have u4:=same_at (o:=.lst [.int 0]) hq1
  refine⟨_,rfl,w,_,dx,_,_,rfl,u4 _ _ h1,T.cl_Web,T.n_Web_places,ζ31 _ _,q1,n,_,rfl,rfl,ζ1,by omega,by omega,ζu1 (by show 1 * n.toNat<=_;omega),fun sA hsA=>?_⟩
  have e0:(List.replicate n.toNat [V.int 0]).flatten=IL (List.replicate n.toNat 0):=by
   rw[ζ412]
   show _=(List.replicate n.toNat 0).map V.int
   rw[List.map_replicate]
  rw[e0]
  have u5:=u4.trans (same_at (o:=.lst (IL (List.replicate n.toNat 0))) hsA)
  have k5:=ζ1 (H:=upd H3 q1 (.lst [.int 0])) (a:=sA) (o:=.lst (IL (List.replicate n.toNat 0)))
  have hs0:=u4.free hsA
  generalize upd (upd H3 q1 (.lst [.int 0])) sA (.lst (IL (List.replicate n.toNat 0)))=H5 at *
  refine nm ?_
  dsimp only
  refine⟨_,rfl,_,rfl,sA,_,_,one.toNat,rfl,rfl,k5,ζz12 p1.1 (by rw[ζ7,List.length_replicate];omega),?_⟩
  obtain⟨sm1,hsm⟩:∃ l:List Int,l=(List.replicate n.toNat 0).set one.toNat 1:=⟨_,rfl⟩
  have u6:Same H3 (upd H5 sA (.lst ((IL (List.replicate n.toNat 0)).set one.toNat (.int 1)))):=ζs hs0 u5
  have k6:(upd H5 sA (.lst ((IL (List.replicate n.toNat 0)).set one.toNat (.int 1)))) sA=some (.lst (IL sm1)):=by
   rw[ζ1,hsm,ζd9]
  generalize upd H5 sA (.lst ((IL (List.replicate n.toNat 0)).set one.toNat (.int 1)))=H6 at *
  have t6:=t3.trans u6
  have sl:sm1.length=n.toNat:=by rw[hsm,List.length_set,List.length_replicate]
  have eo:((o.toNat:Nat):Int)=o:=Int.toNat_of_nonneg p2.1
  refine⟨_,rfl,w,n,ps,rfl,hW.same t6,hG,fun tA ys L H7 s7 hr0 hT hf=>?_⟩
  have hTB:Bears (ζT2 H7) ys L:=hT.rows.imp fun _ _ h=>h.list
  refine⟨_,rfl,tA,ys,L,o.toNat,(by rw[eo];rfl),SqL.of hT.tab,hTB,by rw[hT.len];omega,fun l hl=>by rw[hT.all l hl];omega,by rw[hT.len];omega,fun mA zs H8 s8 hm8 hB8=>?_⟩
  have t8:=t6.trans (s7.trans s8)
  refine⟨_,rfl,_,rfl,sA,sm1,o.toNat,(by rw[eo];rfl),SqL.of ((s7.trans s8) _ _ k6),by omega,fun bA H9 s9 hb0 hb9=>?_⟩
  obtain⟨m,hm⟩:∃ m,m+1=n.toNat:=⟨n.toNat - 1,by omega⟩
  have cl:((cutz L (o.toNat:Int)).map fun l=>cutz l (o.toNat:Int)).length=m:=by
   have:=ζK2 (l:=L) (o:=o.toNat) (by rw[hT.len];omega)
   rw[List.length_map]
   have:=hT.len
   omega
  have cf:∀ i j,i<m->j<m->fnL ((cutz L (o.toNat:Int)).map fun l=>cutz l (o.toNat:Int)) i j=redL (ζ71 ps (List.replicate ps.length 1)) o.toNat i j:=fun i j hi hj=>by
   rw[ζ711 hT.len hT.all (by omega) (by omega) (by omega),hf _ _ (by unfold sk;split <;> omega) (by unfold sk;split <;> omega)]
  have cb:(cutz sm1 (o.toNat:Int)).length=m:=by
   have:=ζK2 (l:=sm1) (o:=o.toNat) (by omega)
   omega
  have cv:∀ a,a<m->(cutz sm1 (o.toNat:Int)).getD a 0=if sk o.toNat a=one.toNat then 1 else 0:=fun a ha=>by
   have hk:sk o.toNat a<n.toNat:=by unfold sk;split <;> omega
   rw[List.getD_eq_getElem?_getD,ζh6 (by omega),hsm]
   by_cases c:one.toNat=sk o.toNat a
   ·rw[if_pos c.symm,<- c,List.getElem?_set_self (by rw[List.length_replicate];omega)]
    rfl
   ·rw[if_neg (fun h=>c h.symm),List.getElem?_set_ne c,List.getElem?_replicate,if_pos hk]
    rfl
  obtain⟨E,hE⟩:∃ E,E=ζ71 ps (List.replicate ps.length (1:Int)):=⟨_,rfl⟩
  rw[<- hE]at cf
  have el:E.length<=30:=by
   rw[hE]
   unfold ζ71
   rw[List.length_zipWith]
   omega
  have w1:∀ e∈E,e.2.2=1:=by rw[hE];exact ζn12
  have ein:∀ e∈E,e.1<m+1/\e.2.1<m+1:=fun e he=>by
   rw[hE]at he
   have:=ζ66 hG _ e he
   omega
  have lb:∀ i j,(lapE E i j).natAbs<=2 ^ 5:=fun i j=>by
   have:=ζN5 (fun e he=>by rw[w1 e he];exact Nat.le_refl 1:∀ e∈E,e.2.2.natAbs<=1) i j
   have e5:(2:Nat) ^ 5=32:=rfl
   omega
  have five:(2:Nat) ^ 5<=2 ^ 400:=Nat.pow_le_pow_right (by decide) (by decide)
  obtain⟨U,hU,_⟩:=ζa5 hG (ζy1 _) hJ
  have hUT:IsT m E U:=by
   have:=(ζ83 (n:=n) (ps:=ps) (ws:=List.replicate ps.length 1) g1 List.length_replicate).mpr hU
   rw[<- hE,show(n - 1).toNat=m by omega]at this
   exact this
  have wp:0<det m (redL E o.toNat):=ζb4 (by omega) ein w1 hUT
  have smallD:∀ A:Mx,(∀ i j,i<m->j<m->(A i j).natAbs<=2 ^ 5)->(det m A).natAbs<=2 ^ 200:=fun A hA=>Nat.le_trans (ζn4 hA) (Nat.le_trans (ζm7 (b:=5) (by omega)) (Nat.pow_le_pow_right (by decide) (by omega)))
  have rowL:∀ l∈(cutz L (o.toNat:Int)).map fun l=>cutz l (o.toNat:Int),l.length=m:=fun l hl=>by
   obtain⟨r,hr,rfl⟩:=List.mem_map.mp hl
   have hrL:r∈L:=by
    unfold cutz at hr
    rcases List.mem_append.mp hr with e | e
    ·exact List.mem_of_mem_take e
    ·exact List.mem_of_mem_drop e
   have h1:=hT.all r hrL
   have:=ζK2 (l:=r) (o:=o.toNat) (by omega)
   omega
  generalize (cutz L (o.toNat:Int)).map (fun l=>cutz l (o.toNat:Int))=Lr at *
  have bsb:∀ x∈cutz sm1 (o.toNat:Int),x.natAbs<=2 ^ 400:=fun x hx=>by
   have hx2:x∈sm1:=by
    unfold cutz at hx
    rcases List.mem_append.mp hx with e | e
    ·exact List.mem_of_mem_take e
    ·exact List.mem_of_mem_drop e
   rw[hsm]at hx2
   rcases List.mem_or_eq_of_mem_set hx2 with e | e
   ·rw[List.eq_of_mem_replicate e];exact Nat.zero_le _
   ·rw[e];exact Nat.one_le_two_pow
  generalize cutz sm1 (o.toNat:Int)=bs at *
  have dW:det m (fnL Lr)=det m (redL E o.toNat):=ζa cf
  refine⟨mA,bA,zs,Lr,bs,rfl,SqL.of (s9 _ _ hm8),hB8.imp (fun _ _ ⟨r',e,h⟩=>⟨r',e,s9 _ _ h⟩),SqL.of hb9,by omega,fun l hl=>by rw[cl];exact rowL l hl,by omega,fun i j hi hj=>?_,bsb,by rw[cl,dW];omega,fun rA ws fs H10 s10 hr10 hF hfl hlow=>?_⟩
  ·rw[cl]at hi hj
   rw[cf i j hi hj]
   exact Nat.le_trans (lb _ _) five
  rw[cl]at hfl hlow
  rw[dW]at hlow
  have t10:=t8.trans (s9.trans s10)
  have low2:∀(j:Nat) (f:Int × Int),fs[j]?=some f->LowF (htN m E one.toNat o.toNat (sk o.toNat j)) (det m (redL E o.toNat)) f.1 f.2:=fun j f hj=>by
   have h:=hlow j f hj
   have hjm:j<m:=by have:=(List.getElem?_eq_some_iff.mp hj).1;omega
   have e:det m (putc (fnL Lr) j fun i=>bs.getD i 0)=htN m E one.toNat o.toNat (sk o.toNat j):=by
    unfold htN
    rw[if_neg (ζR9 _ _),ζC7]
    refine ζa fun a b ha hb=>?_
    unfold putc
    by_cases c:b=j
    ·rw[if_pos c,if_pos c]
     exact cv a ha
    ·rw[if_neg c,if_neg c]
     exact cf a b ha hb
   rw[e]at h
   exact h
  refine nm ?_
  dsimp only
  refine⟨_,rfl,_,rfl,_,rfl,rA,ws,rfl,hr10,fun x1 H11 s11 hx1=>?_⟩
  rw[ζK3 p2.1]at hx1
  refine⟨two,fun z1 hz1=>⟨oneS,fun z2 hz2=>?_⟩⟩
  have v1:=same_at (o:=.tup [.int 0,.int 1]) hz1
  have v2:=same_at (o:=.tup [.ref z1]) hz2
  have kz:(upd (upd H11 z1 (.tup [.int 0,.int 1])) z2 (.tup [.ref z1])) z1=some (.tup [.int 0,.int 1]):=v2 _ _ ζ1
  have kz2:=ζ1 (H:=upd H11 z1 (.tup [.int 0,.int 1])) (a:=z2) (o:=.tup [.ref z1])
  have v12:=v1.trans v2
  generalize upd (upd H11 z1 (.tup [.int 0,.int 1])) z2 (.tup [.ref z1])=H12 at *
  have wl:=hF.1
  refine⟨x1,z2,_,_,rfl,rfl,v12 _ _ hx1,kz2,ζu1 (by rw[List.length_take];show _+1<=_;omega),fun x2 H13 s13 hx2=>?_⟩
  refine⟨_,rfl,_,rfl,_,rfl,rA,ws,rfl,(s11.trans (v12.trans s13)) _ _ hr10,fun x3 H14 s14 hx3=>?_⟩
  rw[ζL3 p2.1 (by omega)]at hx3
  refine⟨x2,x3,_,_,rfl,rfl,s14 _ _ hx2,hx3,ζu1 (by rw[List.length_append,List.length_take,List.length_drop];show _+1+_<=_;omega),fun x4 H15 s15 hx4=>?_⟩
  have sAll:=s11.trans (v12.trans (s13.trans (s14.trans s15)))
  have hF15:=hF.same sAll
  have kz15:=(s13.trans (s14.trans s15)) _ _ kz
  have hP:PairsV H15 (ws.take o.toNat++[.ref z1]++ws.drop o.toNat) (fs.take o.toNat++[(0,1)]++fs.drop o.toNat):=((hF15.take _).snoc ⟨z1,rfl,kz15⟩).app (hF15.drop _)
  have fl:(fs.take o.toNat).length=o.toNat:=by rw[List.length_take];omega
  refine q x4 _ _ H15 (t10.trans sAll) hx4 hP ⟨?_,det m (redL E o.toNat),htN m E one.toNat o.toNat,wp,smallD _ fun i j _ _=>lb _ _,if_pos rfl,fun i _=>?_,fun i f hi=>?_,fun p hp=>?_⟩
  ·rw[List.length_append,List.length_append,fl,List.length_drop]
   show o.toNat+1+_=_
   omega
  ·unfold htN
   split
   ·exact Nat.zero_le _
   ·refine smallD _ fun a b _ _=>?_
    unfold putc
    split
    ·show(if sk o.toNat a=one.toNat then (1:Int) else 0).natAbs<=_
     split <;> decide
    ·exact lb _ _
  ·rw[List.append_assoc]at hi
   by_cases c:i<o.toNat
   ·rw[List.getElem?_append_left (by omega),List.getElem?_take,if_pos c]at hi
    have h:=low2 i f hi
    rw[show sk o.toNat i=i by unfold sk;rw[if_pos c]]at h
    exact h
   ·rw[List.getElem?_append_right (by omega),fl]at hi
    by_cases d:i=o.toNat
    ·rw[d,Nat.sub_self]at hi
     obtain rfl:(0,1)=f:=Option.some.inj hi
     rw[d]
     unfold htN
     rw[if_pos rfl]
     exact⟨by decide,by decide,by rw[Int.zero_mul,Int.zero_mul]⟩
    ·obtain⟨j,hj⟩:∃ j,i=o.toNat+j+1:=⟨i - o.toNat - 1,by omega⟩
     rw[hj,show o.toNat+j+1 - o.toNat=j+1 by omega]at hi
     have hi:(fs.drop o.toNat)[j]?=some f:=hi
     rw[List.getElem?_drop]at hi
     have h:=low2 _ f hi
     rw[show sk o.toNat (o.toNat+j)=i by unfold sk;rw[if_neg (by omega)];omega]at h
     exact h
  ·have:=ζh9 (n:=m) (E:=E) (one:=one.toNat) (o:=o.toNat) (p:=p) (by omega) (by omega) ein (by omega)
   rw[hm]at this
   rw[<- hE]
   exact this
end
set_option maxHeartbeats 4000000
def spζp(C:Addr):Sp:=fun vs H Q _=>∃(w:Addr) (n:Int) (ps:List (Int × Int)) (z:Int),vs=[.ref w,.int z]/\WebAt C H w n ps/\-(10 ^ 70)<z/\z<10 ^ 70 /\
 ((0<=z/\z<(ps.length:Int))->Q .non H)/\(¬ (0<=z/\z<(ps.length:Int))->False)
section
variable{P:Program}{w:World}{K:PySem.W.Frag}{mg:Str->Option Value}{base:Heap}{t:Adr}
theorem scζp:FnScope ["web","number"] ["web","number"] (ζ5 sζp):=⟨rfl,rfl,rfl,by decide +kernel,rfl,by decide +kernel,by decide +kernel⟩
theorem okζp (T:Txt K mg t):FnOk P w K mg base CX0 2 t.aζp t.dζp ["web","number"] (spζp t.A_Web):=by
 refine T.fζp.ok scζp (fun vs H Q E h=>?_) (fun cdv A outer s H vs Q E hr h=>?_)
 ·obtain⟨w,n,ps,z,rfl,_⟩:=h
  rfl
 ·obtain⟨w,n,ps,z,rfl,hW,z0,z1,q,qe⟩:=h
  refine⟨_,(ζ6 (ζe1 (ζY1 (ζN1 (ζ8 (okζd T) (hr.mono (by decide)) rfl T.mζd T.fζd.kp T.bζd .nil ζt (ζ0 (pv 0) (ζ0 (pv 1) ζ3)))))
   (ζ6 ζJ)
   ζn)),?_⟩
  refine⟨_,rfl,_,rfl,w,n,ps,z,rfl,hW,_,rfl,?_⟩
  refine itnb (fun h=>?_) (fun h=>?_)
  ·exact q (of_decide_eq_true h)
  ·exact qe (of_decide_eq_false h)
end
set_option maxHeartbeats 4000000
def spζq(K:PySem.W.Frag):Sp:=fun vs H Q _=>∃(u v:Addr) (x y W a b c d:Int),vs=[.ref u,.ref v]/\SqT K H u [.int a,.int b]/\SqT K H v [.int c,.int d]/\0<W/\W.natAbs<=2 ^ 2000/\x.natAbs<=2 ^ 2000/\y.natAbs<=2 ^ 2000/\LowF x W a b/\LowF y W c d/\∀ p q:Int,LowF (x+(-1) * y) W p q->∀ r,H r=none->Q (.ref r) (upd H r (.tup [.int p,.int q]))
section
variable{P:Program}{w:World}{K:PySem.W.Frag}{mg:Str->Option Value}{base:Heap}{t:Adr}
theorem scζq:FnScope ["one","other"] ["one","other"] (ζ5 sζq):=⟨rfl,rfl,rfl,by decide +kernel,rfl,by decide +kernel,by decide +kernel⟩
theorem okζq (T:Txt K mg t):FnOk P w K mg base CX0 3 t.aζq t.dζq ["one","other"] (spζq K):=by
 refine T.fζq.ok scζq (fun vs H Q E h=>?_) (fun cdv A outer s H vs Q E hr h=>?_)
 ·obtain⟨u,v,x,y,W,a,b,c,d,rfl,_⟩:=h
  rfl
 ·obtain⟨u,v,x,y,W,a,b,c,d,rfl,hu,hv,hW,bW,bx,by',l1,l2,q⟩:=h
  refine⟨_,(ζ6 (ζl (ζ8 (okζ7 T) (hr.mono (by decide)) rfl T.mζ7 T.fζ7.kp T.bζ7 .nil ζt (ζ0 (ζk ζj2 (ζk ζC (ζr (ζj K) (pv 0) ζ4 (fun _ _=>rfl)) (ζr (ζj K) (pv 1) ζ4 (fun _ _=>rfl))) (ζk ζC (ζr (ζj K) (pv 1) ζ4 (fun _ _=>rfl)) (ζr (ζj K) (pv 0) ζ4 (fun _ _=>rfl)))) (ζ0 (ζk ζC (ζr (ζj K) (pv 0) ζ4 (fun _ _=>rfl)) (ζr (ζj K) (pv 1) ζ4 (fun _ _=>rfl))) ζ3))))),?_⟩
  obtain⟨b1,a1⟩:=ζ42 hW l1
  obtain⟨d1,c1⟩:=ζ42 hW l2
  have b0:=l1.1
  have d0:=l2.1
  have big:∀ z:Int,z.natAbs<=2 ^ 2000->z.natAbs<2 ^ 9000:=fun z hz=>Nat.lt_of_le_of_lt hz (Nat.pow_lt_pow_right (by decide) (by decide))
  have ba:a.natAbs<=2 ^ 2000:=Nat.le_trans a1 bx
  have bc:c.natAbs<=2 ^ 2000:=Nat.le_trans c1 by'
  have bb:b.natAbs<=2 ^ 2000:=Nat.le_trans (by omega) bW
  have bd:d.natAbs<=2 ^ 2000:=Nat.le_trans (by omega) bW
  have mul:∀ y z:Int,y.natAbs<=2 ^ 2000->z.natAbs<=2 ^ 2000->(y * z).natAbs<=2 ^ 4000:=fun y z h1 h2=>by
   rw[Int.natAbs_mul]
   refine Nat.le_trans (Nat.mul_le_mul h1 h2) ?_
   rw[<- Nat.pow_add]
   exact Nat.le_refl _
  have i0:∀ a b:Int,atI ([.int a,.int b]:List V) 0=some (.int a):=fun _ _=>rfl
  have i1:∀ a b:Int,atI ([.int a,.int b]:List V) 1=some (.int b):=fun _ _=>rfl
  refine⟨_,rfl,u,_,0,_,rfl,rfl,hu,i0 a b,_,rfl,v,_,1,_,rfl,rfl,hv,i1 c d,_,_,rfl,rfl,⟨big a ba,big d bd⟩,_,rfl,v,_,0,_,rfl,rfl,hv,i0 c d,_,rfl,u,_,1,_,rfl,rfl,hu,i1 a b,_,_,rfl,rfl,⟨big c bc,big b bb⟩,_,_,rfl,rfl,_,rfl,u,_,1,_,rfl,rfl,hu,i1 a b,_,rfl,v,_,1,_,rfl,rfl,hv,i1 c d,_,_,rfl,rfl,⟨big b bb,big d bd⟩,?_⟩
  have m1:=mul a d ba bd
  have m2:=mul c b bc bb
  have m3:=mul b d bb bd
  have p40:(2:Nat) ^ 4000+2 ^ 4000<=2 ^ 4001:=by rw[Nat.pow_succ];omega
  refine⟨_,_,rfl,Int.ne_of_gt (Int.mul_pos b0 d0),?_,Nat.lt_of_le_of_lt m3 (Nat.pow_lt_pow_right (by decide) (by decide)),fun p q' hl=>?_⟩
  ·refine Nat.lt_of_le_of_lt (m:=2 ^ 4001) ?_ (Nat.pow_lt_pow_right (by decide) (by decide))
   show(_:Int).natAbs<=_
   omega
  ·refine q p q' (ζF10 (-1) hW l1 l2 ?_)
   rw[show a * d+(-1) * (c * b)=a * d - c * b by omega]
   exact hl
end
set_option maxHeartbeats 4000000
def spζr(K:PySem.W.Frag)(C:Addr):Sp:=fun vs H Q _=>∃(w:Addr) (n:Int) (ps:List (Int × Int)) (x y:Int),vs=[.ref w,.int x,.int y]/\WebAt C H w n ps/\ζE n ps/\-(10 ^ 70)<x/\x<10 ^ 70/\-(10 ^ 70)<y/\y<10 ^ 70 /\
 (0<=x/\x<(ps.length:Int)->0<=y/\y<(ps.length:Int)->ζk1 n ps->∀(r:Addr) (p q:Int) (H':Hp),Same H H'->H' r=some (.tup [.int p,.int q])->LnF n ps (ps.getD x.toNat (0,0)) (ps.getD y.toNat (0,0)) p q->Q (.ref r) H') /\
 (¬ ((0<=x/\x<(ps.length:Int))/\(0<=y/\y<(ps.length:Int)))->∀ H':Hp,Same H H'->False)/\(0<=x/\x<(ps.length:Int)->0<=y/\y<(ps.length:Int)->¬ ζk1 n ps->∀ H':Hp,Same H H'->False)
section
variable{P:Program}{w:World}{K:PySem.W.Frag}{mg:Str->Option Value}{base:Heap}{t:Adr}
theorem scζr:FnScope ["web","tie","other","ends","other_ends","heights"] ["web","tie","other"] (ζ5 sζr):=⟨rfl,rfl,rfl,by decide +kernel,rfl,by decide +kernel,by decide +kernel⟩
theorem okζr (T:Txt K mg t):FnOk P w K mg base CX0 10 t.aζr t.dζr ["web","tie","other"] (spζr K t.A_Web):=by
 refine T.fζr.ok scζr (fun vs H Q E h=>?_) (fun cdv A outer s H vs Q E hr h=>?_)
 ·obtain⟨w,n,ps,x,y,rfl,_⟩:=h
  rfl
 ·obtain⟨w,n,ps,x,y,rfl,hW,hG,a0,a1,b0,b1,q,qn,qp⟩:=h
  refine⟨_,(ζ2 (ζ51 (ζ8 (okζp T) (hr.mono (by decide)) rfl T.mζp T.fζp.kp T.bζp .nil ζt (ζ0 (pv 0) (ζ0 (pv 1) ζ3))))
   (ζ2 (ζ51 (ζ8 (okζp T) (hr.mono (by decide)) rfl T.mζp T.fζp.kp T.bζp .nil ζt (ζ0 (pv 0) (ζ0 (pv 2) ζ3))))
   (ζ2 (ζh (i:=3) scζr.nd rfl (Or.inl rfl) (ζr (ζd K) (ζP K (pv 0) rfl) (pv 1) (fun _ _=>rfl)))
   (ζ2 (ζh (i:=4) scζr.nd rfl (Or.inl rfl) (ζr (ζd K) (ζP K (pv 0) rfl) (pv 2) (fun _ _=>rfl)))
   (ζ2 (ζh (i:=5) scζr.nd rfl (Or.inl rfl) (ζ8 (okζo T) (hr.mono (by decide)) rfl T.mζo T.fζo.kp T.bζo .nil ζt (ζ0 (pv 0) (ζ0 (ζr (ζj K) (pv 3) ζ4 (fun _ _=>rfl)) (ζ0 (ζr (ζj K) (pv 3) ζ4 (fun _ _=>rfl)) ζ3)))))
   (ζ6 (ζl (ζ8 (okζq T) (hr.mono (by decide)) rfl T.mζq T.fζq.kp T.bζq .nil ζt (ζ0 (ζr (ζj K) (pv 5) (ζr (ζj K) (pv 4) ζ4 (fun _ _=>rfl)) (fun _ _=>rfl)) (ζ0 (ζr (ζj K) (pv 5) (ζr (ζj K) (pv 4) ζ4 (fun _ _=>rfl)) (fun _ _=>rfl)) ζ3)))))))))),?_⟩
  obtain⟨g1,g2,g3,g4⟩:=id hG
  refine⟨_,rfl,_,rfl,w,n,ps,x,rfl,hW,a0,a1,fun hx=>?_,fun hx=>qn (fun h=>hx h.1) H (Same.refl _)⟩
  refine⟨_,rfl,_,rfl,w,n,ps,y,rfl,hW,b0,b1,fun hy=>?_,fun hy=>qn (fun h=>hy h.2) H (Same.refl _)⟩
  have q:=q hx hy
  have qp:=qp hx hy
  obtain⟨dx,tl,xs,h1,h2,h3⟩:=id hW
  obtain⟨e,he⟩:∃ e,ps[x.toNat]?=some e:=⟨_,List.getElem?_eq_getElem (by omega)⟩
  obtain⟨f,hf⟩:∃ f,ps[y.toNat]?=some f:=⟨_,List.getElem?_eq_getElem (by omega)⟩
  obtain⟨v1,hv1,t1,rfl,ht1⟩:=h3.2 _ _ he
  obtain⟨v2,hv2,t2,rfl,ht2⟩:=h3.2 _ _ hf
  obtain⟨e1,e2,e3,e4⟩:=g4 e (List.mem_of_getElem? he)
  obtain⟨f1,f2,f3,f4⟩:=g4 f (List.mem_of_getElem? hf)
  rw[ζK he,ζK hf]at q
  refine⟨_,rfl,w,_,dx,_,_,rfl,h1,T.cl_Web,T.n_Web_ties,ζM1 _ _,_,rfl,tl,xs,x,.ref t1,rfl,rfl,SqL.of h2,ζw (n:=x.toNat) (by omega) hv1,?_⟩
  refine nm ?_
  dsimp only
  refine⟨_,rfl,w,_,dx,_,_,rfl,h1,T.cl_Web,T.n_Web_ties,ζM1 _ _,_,rfl,tl,xs,y,.ref t2,rfl,rfl,SqL.of h2,ζw (n:=y.toNat) (by omega) hv2,?_⟩
  refine nm ?_
  dsimp only
  have i0:∀ a b:Int,atI ([.int a,.int b]:List V) 0=some (.int a):=fun _ _=>rfl
  have i1:∀ a b:Int,atI ([.int a,.int b]:List V) 1=some (.int b):=fun _ _=>rfl
  have n70:n<10 ^ 70:=Int.lt_of_le_of_lt g2 (by decide)
  have z70:∀ z:Int,0<=z->-(10 ^ 70)<z:=fun z hz=>Int.lt_of_lt_of_le (by decide) hz
  refine⟨_,rfl,_,rfl,t1,_,0,_,rfl,rfl,SqT.of ht1,i0 _ _,_,rfl,t1,_,1,_,rfl,rfl,SqT.of ht1,i1 _ _,w,n,ps,e.1,e.2,rfl,hW,hG,z70 _ e1,Int.lt_trans e2 n70,z70 _ e3,Int.lt_trans e4 n70,fun _ _ hJ r1 zs fs H1 s1 hr1 hF hH=>?_,fun hno=>absurd ⟨⟨e1,e2⟩,⟨e3,e4⟩⟩ hno,fun _ _ hnJ H1 s1=>qp hnJ H1 s1⟩
  obtain⟨fl,W,h,W0,Wb,ho,hb,low,bal⟩:=hH
  have zl:=hF.1
  refine nm ?_
  dsimp only
  have atH:∀ y:Int,0<=y->y<n->∃(tt:Addr) (g:Int × Int),atI zs y=some (.ref tt)/\H1 tt=some (.tup [.int g.1,.int g.2])/\LowF (h y.toNat) W g.1 g.2:=fun y y0 y1=>by
   obtain⟨g,hg⟩:∃ g,fs[y.toNat]?=some g:=⟨_,List.getElem?_eq_getElem (by omega)⟩
   obtain⟨v,hv,tt,rfl,htt⟩:=hF.2 _ _ hg
   exact⟨tt,g,ζw (n:=y.toNat) (by omega) hv,htt,low _ _ hg⟩
  obtain⟨u1,c1,at1,hu1,low1⟩:=atH f.1 f1 f2
  obtain⟨u2,c2,at2,hu2,low2⟩:=atH f.2 f3 f4
  have big:∀ k:Nat,k<=2 ^ 200->k<=2 ^ 2000:=fun k hk=>Nat.le_trans hk (Nat.pow_le_pow_right (by decide) (by decide))
  refine⟨_,rfl,_,rfl,t2,_,0,_,rfl,rfl,SqT.of (s1 _ _ ht2),i0 _ _,r1,_,f.1,_,rfl,rfl,SqT.of hr1,at1,_,rfl,_,rfl,t2,_,1,_,rfl,rfl,SqT.of (s1 _ _ ht2),i1 _ _,r1,_,f.2,_,rfl,rfl,SqT.of hr1,at2,u1,u2,_,_,W,_,_,_,_,rfl,SqT.of hu1,SqT.of hu2,W0,big _ Wb,big _ (hb _ (by omega)),big _ (hb _ (by omega)),low1,low2,fun p q' hl r hr=>?_⟩
  refine q hJ r p q' _ (s1.trans (same_at hr)) ζ1 ⟨W,h,W0,Wb,hb,bal,?_⟩
  rw[show h f.1.toNat - h f.2.toNat=h f.1.toNat+(-1) * h f.2.toNat by omega]
  exact hl
end
set_option maxHeartbeats 4000000
def spζs(K:PySem.W.Frag)(C:Addr):Sp:=fun vs H Q _=>∃(w:Addr) (n:Int) (ps:List (Int × Int)),vs=[.ref w]/\WebAt C H w n ps/\ζE n ps/\∀(c:Nat) (H':Hp),TC n ps c->Same H H'->Q (.int c) H'
theorem ζZ7(u v i:Nat):(ind u v i).natAbs<=1:=by
 unfold ind
 split <;> split <;> decide
theorem ζS7:∀ {E:List Ed},(∀ e∈E,e.2.2=1)->∀ i j,(lapE E i j).natAbs<=E.length
 | [],_,i,j=>Nat.le_refl 0
 | e :: E,h,i,j=>by
  have ih:=ζS7 (fun f hf=>h f (List.mem_cons_of_mem _ hf)) i j
  have h1:=ζZ7 e.1 e.2.1 i
  have h2:=ζZ7 e.1 e.2.1 j
  have h3:(ind e.1 e.2.1 i * ind e.1 e.2.1 j).natAbs<=1:=by rw[Int.natAbs_mul];exact Nat.mul_le_mul h1 h2
  show(e.2.2 * (ind e.1 e.2.1 i * ind e.1 e.2.1 j)+lapE E i j).natAbs<=(e :: E).length
  rw[h e List.mem_cons_self,Int.one_mul,List.length_cons]
  have:=Int.natAbs_add_le (ind e.1 e.2.1 i * ind e.1 e.2.1 j) (lapE E i j)
  omega
theorem ζg6{α:Type}{l:List α}{i:Nat}(hi:l.length=i+1):cutz l (i:Int)=l.take i:=by
 unfold cutz
 rw[Int.toNat_natCast,List.drop_eq_nil_of_le (by omega),List.append_nil]
section
variable{P:Program}{w:World}{K:PySem.W.Frag}{mg:Str->Option Value}{base:Heap}{t:Adr}
theorem scζs:FnScope ["web"] ["web"] (ζ5 sζs):=⟨rfl,rfl,rfl,by decide +kernel,rfl,by decide +kernel,by decide +kernel⟩
theorem okζs (T:Txt K mg t):FnOk P w K mg base CX0 3 t.aζs t.dζs ["web"] (spζs K t.A_Web):=by
 refine T.fζs.ok scζs (fun vs H Q E h=>?_) (fun cdv A outer s H vs Q E hr h=>?_)
 ·obtain⟨w,n,ps,rfl,_⟩:=h
  rfl
 ·obtain⟨w,n,ps,rfl,hW,hG,q⟩:=h
  refine⟨_,(ζ6 (ζl (ζ8 (okζ3 T) (hr.mono (by decide)) rfl T.mζ3 T.fζ3.kp T.bζ3 .nil ζt (ζ0 (ζ8 (okζ5 T) (hr.mono (by decide)) rfl T.mζ5 T.fζ5.kp T.bζ5 .nil ζt (ζ0 (ζ8 (okζn T) (hr.mono (by decide)) rfl T.mζn T.fζn.kp T.bζn .nil ζt (ζ0 (pv 0) ζ3)) (ζ0 (ζk ζj2 (ζP K (pv 0) rfl) ζ4) ζ3))) ζ3)))),?_⟩
  obtain⟨g1,g2,g3,g4⟩:=id hG
  refine⟨_,rfl,w,n,ps,rfl,hW,hG,fun r ys L H1 s1 hr hT hf=>?_⟩
  obtain⟨dx,tl,xs,h1,h2,h3⟩:=id hW
  refine⟨_,rfl,w,_,dx,_,_,rfl,s1 _ _ h1,T.cl_Web,T.n_Web_places,ζ31 _ _,_,_,rfl,rfl,?_⟩
  obtain⟨k,hk⟩:∃ k:Nat,n - 1=(k:Int):=⟨(n - 1).toNat,by omega⟩
  have hnk:n.toNat=k+1:=by omega
  have hLl:=hT.len
  have hTB:Bears (ζT2 H1) ys L:=hT.rows.imp fun _ _ h=>h.list
  refine⟨r,ys,L,k,?_,SqL.of hT.tab,hTB,by omega,fun l h=>by rw[hT.all l h];omega,by omega,fun r2 zs H2 s2 hr2 hZ=>?_⟩
  ·show [V.ref r,V.int (n - 1)]=_
   rw[hk]
  have w1:∀ e∈ζ71 ps (List.replicate ps.length (1:Int)),e.2.2=1:=fun e he=>by
   unfold ζ71 at he
   obtain⟨i,hi⟩:=List.getElem?_of_mem he
   rw[List.getElem?_zipWith]at hi
   cases h1:ps[i]? with
   | none=>rw[h1]at hi;cases hi
   | some p =>
    cases h2:(List.replicate ps.length (1:Int))[i]? with
    | none=>rw[h1,h2]at hi;cases hi
    | some w =>
     rw[h1,h2]at hi
     obtain rfl:=Option.some.inj hi
     exact List.eq_of_mem_replicate (List.mem_of_getElem? h2)
  have el:(ζ71 ps (List.replicate ps.length (1:Int))).length<=30:=by
   unfold ζ71
   rw[List.length_zipWith,List.length_replicate]
   omega
  have hM:(cutz L (k:Int)).map (fun l=>cutz l (k:Int))=(L.take k).map fun l=>l.take k:=by
   rw[ζg6 (by omega)]
   exact List.map_congr_left fun l hl=>ζg6 (by rw[hT.all l (List.mem_of_mem_take hl)];omega)
  rw[hM]at hZ
  have hMl:((L.take k).map fun l=>l.take k).length=k:=by rw[List.length_map,List.length_take];omega
  have hfn:∀ i j,i<k->j<k->fnL ((L.take k).map fun l=>l.take k) i j=lapE (ζ71 ps (List.replicate ps.length 1)) i j:=fun i j hi hj=>by
   rw[<- hf i j (by omega) (by omega)]
   obtain⟨l,hl⟩:∃ l,L[i]?=some l:=⟨_,List.getElem?_eq_getElem (by omega)⟩
   have hll:=hT.all l (List.mem_of_getElem? hl)
   obtain⟨x,hx⟩:∃ x,l[j]?=some x:=⟨_,List.getElem?_eq_getElem (by omega)⟩
   rw[ζO1 hl hx]
   exact ζO1 (l:=l.take k) (by rw[List.getElem?_map,List.getElem?_take,if_pos hi,hl];rfl) (by rw[List.getElem?_take,if_pos hj];exact hx)
  refine⟨r2,false,zs,(L.take k).map fun l=>l.take k,rfl,SqL.of hr2,hZ.imp (fun _ _ ⟨r',e,h⟩=>⟨r',false,e,SqL.of h⟩),by rw[hMl];omega,fun i j hi hj=>?_,fun _ H3 s3=>?_,fun h=>absurd (fun l hl=>?_) h⟩
  ·rw[hMl]at hi hj
   rw[hfn i j hi hj]
   exact Nat.le_trans (ζS7 w1 i j) (Nat.le_trans el (Nat.le_trans (by decide:30<=2 ^ 5) (Nat.pow_le_pow_right (by decide) (by decide))))
  ·have hd:det ((L.take k).map fun l=>l.take k).length (fnL ((L.take k).map fun l=>l.take k))=det (n - 1).toNat (lapE (ζ71 ps (List.replicate ps.length 1))):=by
    rw[hMl,show(n - 1).toNat=k by omega]
    exact ζa fun i j hi hj=>hfn i j hi hj
   obtain⟨c,M,a1,a2,a3⟩:∃ c,TC n ps c:=by
    obtain⟨M,a1,a2,_⟩:=ζD _ (n - 1).toNat (ζ71 ps (List.replicate ps.length 1)) rfl (ζ66 hG _)
    exact⟨M.length,M,a1,fun l=>by rw[a2,ζ83 g1 List.length_replicate],rfl⟩
   rw[hd,ζq8 hG a1 a2,a3]
   exact q c H3 ⟨M,a1,a2,a3⟩ (s1.trans (s2.trans s3))
  ·obtain⟨l0,h0,rfl⟩:=List.mem_map.mp hl
   rw[hMl,List.length_take,hT.all l0 (List.mem_of_mem_take h0)]
   omega
end
set_option maxHeartbeats 4000000
def spζt(K:PySem.W.Frag)(C:Addr):Sp:=fun vs H Q _=>∃(w a b:Addr) (n:Int) (ps:List (Int × Int)) (Is Os:List Int),vs=[.ref w,.ref a,.ref b]/\WebAt C H w n ps/\ζE n ps/\SqT K H a (IL Is)/\SqT K H b (IL Os)/\IsSet ps.length Is/\Os.length<=30/\(∀ z∈Is,z∉Os)/\∀(c:Nat) (H':Hp),PC n ps Is Os c->Same H H'->Q (.int c) H'
theorem ζr11{K:PySem.W.Frag}{H:Hp}{a b:Addr}{l m:List Int}{Q:VK}(ha:SqT K H a (IL l))(hb:SqT K H b (IL m))(hl:l.length+m.length<=1000)(k:∀(r:Addr) (H':Hp),Same H H'->SqT K H' r (IL (l++m))->Q (.ref r) H'):ζP12 K (.ref a) (.ref b) H Q:=by
 refine⟨a,b,_,_,rfl,rfl,ha,hb,by rw[ζ7,ζ7];exact Nat.le_trans hl (by decide),fun e=>?_,fun _ e=>?_,fun _ _ p hp=>?_⟩
 ·have el:l=[]:=List.map_eq_nil_iff.mp e
  rw[el,List.nil_append]at k
  exact k b H (Same.refl _) hb
 ·have em:m=[]:=List.map_eq_nil_iff.mp e
  rw[em,List.append_nil]at k
  exact k a H (Same.refl _) ha
 ·refine k p _ (same_at hp) (SqT.of ?_)
  rw[ζ1,ζ87]
theorem ζZ5{gone:List Int}(j:Nat):freT (j+1) gone=freT j gone++(if ((j:Int)∈gone) then [] else [(j:Int)]):=by
 unfold freT
 rw[ζj5,List.filter_append]
 congr 1
 by_cases c:(j:Int)∈gone
 ·rw[if_pos c,List.filter_cons,if_neg (by simp[c])];rfl
 ·rw[if_neg c,List.filter_cons,if_pos (by simp[c])];rfl
section
variable{P:Program}{w:World}{K:PySem.W.Frag}{mg:Str->Option Value}{base:Heap}{t:Adr}
theorem scζt:FnScope ["web","inside","outside","marks","firsts","numbers","gone","free"] ["web","inside","outside"] (ζ5 sζt):=⟨rfl,rfl,rfl,by decide +kernel,rfl,by decide +kernel,by decide +kernel⟩
theorem okζt (T:Txt K mg t):FnOk P w K mg base CX0 4 t.aζt t.dζt ["web","inside","outside"] (spζt K t.A_Web):=by
 refine T.fζt.ok scζt (fun vs H Q E h=>?_) (fun cdv A outer s H vs Q E hr h=>?_)
 ·obtain⟨w,a,b,n,ps,Is,Os,rfl,_⟩:=h
  rfl
 ·obtain⟨w,a,b,n,ps,Is,Os,rfl,hW,hG,hA,hB,hI,hO,hIO,q⟩:=h
  refine⟨_,(ζ2 (ζh (i:=3) scζt.nd rfl (Or.inl rfl) (ζ8 (okζi T) (hr.mono (by decide)) rfl T.mζi T.fζi.kp T.bζi .nil ζt (ζ0 (pv 0) (ζ0 (pv 1) ζ3))))
   (ζ2 (ζh (i:=4) scζt.nd rfl (Or.inr rfl) (ζv3 K rfl rfl T.n_sorted rfl T.n_set (ζ0 (pv 3) ζ3)))
   (ζ2 (ζe1 (ζp ζS8 (ζk ζS (ζb (ζi K) (by rfl) T.n_len Boot.«len» (ζ0 (pv 4) ζ3)) (ζb (ζi K) (by rfl) T.n_len Boot.«len» (ζ0 (pv 1) ζ3))) (ζP K (pv 0) rfl) (ζv _))
   (ζ6 (ζl ζ4))
   ζn)
   (ζ2 (ζh (i:=5) scζt.nd rfl (Or.inr rfl) (ζN4 rfl (sc0:=ζ5 sζt) (N0:=["web","inside","outside","marks","firsts","numbers","gone","free"]) (N':=["mark","firsts"]) (o:=1) (fr:=[4]) ⟨rfl,by decide +kernel,by decide +kernel,by decide +kernel,rfl,by decide +kernel⟩ (ζX K (pv 3)) (ζu (by decide)) (fun _ _ _ _=>(ζe (i:=0) (show List.Nodup (["mark","firsts"]:List Str) by decide +kernel) rfl (Or.inl rfl))) (fun _ _ _ _=>ζB) (fun _ _ _ _=>(ζB1 K PySem.F.plainAttrs_list PySem.F.slot_list_index PySem.F.type_list_index (ζY6 K) (pv 1) (ζ0 (pv 0) ζ3)))))
   (ζ2 (ζh (i:=6) scζt.nd rfl (Or.inr rfl) (ζk (ζJ7 K) (pv 1) (pv 2)))
   (ζ2 (ζL6 (i:=7) rfl scζt.nd rfl rfl (sc0:=ζ5 sζt) (N0:=["web","inside","outside","marks","firsts","numbers","gone","free"]) (N':=["tie","ends","gone"]) (o:=2) (fr:=[6]) ⟨rfl,by decide +kernel,by decide +kernel,by decide +kernel,rfl,by decide +kernel⟩ (ζA2 K rfl T.n_enumerate (ζ0 (ζP K (pv 0) rfl) ζ3)) (ζ54 (ζb1 (by decide) (ζb1 (by decide) ζ64))) (fun _ _ _ _=>(ζa1 (n:=2) K rfl (ζq (ζe (i:=0) (show List.Nodup (["tie","ends","gone"]:List Str) by decide +kernel) rfl (Or.inl rfl)) (ζq (ζe (i:=1) (show List.Nodup (["tie","ends","gone"]:List Str) by decide +kernel) rfl (Or.inl rfl)) ζ91)))) (fun _ _ _ _=>(ζE7 (ζp (ζR6 K) (pv 0) (pv 2) rfl))) (fun _ _ _ _=>(pv 1)))
   (ζ6 (ζl (ζ8 (okζs T) (hr.mono (by decide)) rfl T.mζs T.fζs.kp T.bζs .nil ζt (ζ0 (ζF7 T.k_Web (okζb T) (hr.mono (by decide)) rfl T.c_Web T.bζb .nil ζt (ζ0 (ζb (ζi K) (by rfl) T.n_len Boot.«len» (ζ0 (pv 4) ζ3)) (ζ0 (ζN4 rfl (sc0:=ζ5 sζt) (N0:=["web","inside","outside","marks","firsts","numbers","gone","free"]) (N':=["ends","numbers"]) (o:=1) (fr:=[5]) ⟨rfl,by decide +kernel,by decide +kernel,by decide +kernel,rfl,by decide +kernel⟩ (ζX K (pv 7)) (ζu (by decide)) (fun _ _ _ _=>(ζe (i:=0) (show List.Nodup (["ends","numbers"]:List Str) by decide +kernel) rfl (Or.inl rfl))) (fun _ _ _ _=>ζB) (fun _ _ _ _=>(ζq1 (ζ0 (ζr (ζd K) (pv 1) (ζr (ζj K) (pv 0) ζ4 (fun _ _=>rfl)) (fun _ _=>rfl)) (ζ0 (ζr (ζd K) (pv 1) (ζr (ζj K) (pv 0) ζ4 (fun _ _=>rfl)) (fun _ _=>rfl)) ζ3))))) ζ3))) ζ3)))))))))),?_⟩
  obtain⟨g1,g2,g3,g4⟩:=id hG
  have hIl:=hI.len
  refine⟨_,rfl,_,rfl,w,a,n,ps,Is,rfl,hW,hG,hA,hI.all,fun mA H1 s1 hm0 hm1=>?_⟩
  have hpl:=ζO n.toNat (ζc ps Is)
  have hin:=ζG1 (ns:=Is) hG hI.all
  have hel:(ζc ps Is).length=Is.length:=List.length_map ..
  refine nm ?_
  refine⟨_,rfl,mA,_,rfl,SqL.of hm1,by omega,fun F hF hFm fA hfA=>?_⟩
  have s2:=same_at (o:=.lst (IL F)) hfA
  have hf2:(upd H1 fA (.lst (IL F))) fA=some (.lst (IL F)):=ζ1
  have hm2:=s2 _ _ hm1
  have s02:=s1.trans s2
  refine nm ?_
  dsimp only
  generalize upd H1 fA (.lst (IL F))=H2 at *
  obtain⟨g,hfg,hfk,hgg⟩:=ζ29 hin hF hFm
  obtain⟨k1,kn,nk⟩:=ζF3 hin (by omega) hF hFm
  have hA2:=ζM s02 hA
  have hB2:=ζM s02 hB
  obtain⟨dx,tl,xs,h1,h2,h3⟩:=hW.same s02
  have hlx:=h3.1
  refine⟨_,rfl,fA,_,rfl,.inl (SqL.of hf2),_,rfl,a,_,rfl,.inr hA2,_,_,rfl,rfl,_,rfl,w,_,dx,_,_,rfl,h1,T.cl_Web,T.n_Web_places,ζ31 _ _,_,_,rfl,rfl,_,rfl,?_⟩
  rw[ζ7,ζ7]
  refine itd2 (fun hc=>?_) (fun hc=>?_)
  ·exact q 0 H2 (ζw10 hG hI hfg hfk hgg k1 kn (by omega)) s02
  refine⟨_,rfl,mA,rfl,⟨_,SqL.of hm2⟩,ζc1 (K:=K) (a:=mA) (xs:=IL (pms n.toNat (ζc ps Is))) (fun i zs H3=>H3=H2/\i<=n.toNat/\zs=IL (((pms n.toNat (ζc ps Is)).take i).map fun z=>(nix F z:Int))) ⟨rfl,Nat.zero_le _,rfl⟩ (ζm (by rw[ζ7,hpl];omega)) (fun i zs H3 _ ⟨e,hi,ez⟩=>⟨e ▸ SqL.of hm2,by rw[ez,ζ7,List.length_map,List.length_take];omega⟩) ?_ ?_⟩
  ·rintro i v zs H3 hi ⟨rfl,hin3,rfl⟩ S hSS
   obtain⟨z,rfl,hz⟩:=ζJ1 hi
   have hzF:z∈F:=(hFm z).mpr (List.mem_of_getElem? hz)
   have hlt:=(List.getElem?_eq_some_iff.mp hz).1
   refine nm ?_
   refine⟨_,rfl,.inl ⟨rfl,_,SqL.of hf2⟩,_,rfl,fA,F,z,nix F z,rfl,rfl,SqL.of hf2,ζ22 hzF,fun i hi e=>by have:=ζf1 (ζr1 hF) e (ζ22 hzF);omega,hSS _ _ ⟨rfl,by omega,?_⟩⟩
   rw[List.take_succ,hz,List.map_append]
   exact(ζl1 _ _).symm
  rintro zs H3 ⟨rfl,_,rfl⟩ nA hnA
  rw[ζ7,List.take_length]
  have s3:=same_at (o:=.lst (IL ((pms n.toNat (ζc ps Is)).map fun z=>(nix F z:Int)))) hnA
  have hn4:(upd H3 nA (.lst (IL ((pms n.toNat (ζc ps Is)).map fun z=>(nix F z:Int))))) nA=some (.lst (IL ((pms n.toNat (ζc ps Is)).map fun z=>(nix F z:Int)))):=ζ1
  have hf4:=s3 _ _ hf2
  have hA4:=ζM s3 hA2
  have hB4:=ζM s3 hB2
  have s04:=s02.trans s3
  generalize upd H3 nA (.lst (IL ((pms n.toNat (ζc ps Is)).map fun z=>(nix F z:Int))))=H4 at *
  have nAt:∀ x:Int,0<=x->x<n->((pms n.toNat (ζc ps Is)).map fun z=>(nix F z:Int))[x.toNat]?=some (nix F (mk (pms n.toNat (ζc ps Is)) x.toNat):Int):=fun x x0 x1=>by
   rw[List.getElem?_map,List.getElem?_eq_getElem (by omega)]
   unfold mk
   rw[List.getD_eq_getElem?_getD,List.getElem?_eq_getElem (by omega)]
   rfl
  refine nm ?_
  dsimp only
  refine⟨_,rfl,_,rfl,ζr11 hA4 hB4 (by omega) fun gA H5 s5 hg5=>?_⟩
  have s05:=s04.trans s5
  obtain⟨dx,tl,xs,h1,h2,h3⟩:=hW.same s05
  have hlx:=h3.1
  refine nm ?_
  dsimp only
  refine⟨_,rfl,w,_,dx,_,_,rfl,h1,T.cl_Web,T.n_Web_ties,ζM1 _ _,tl,rfl,⟨_,SqL.of h2⟩,ζQ7 (K:=K) (a:=tl) (xs:=xs) (fun j zs H6=>Same H5 H6/\j<=ps.length/\PairsV H6 zs ((freT j (Is++Os)).map fun z=>ps.getD z.toNat (0,0))) ⟨Same.refl _,Nat.zero_le _,PairsV.nil⟩ (ζm (by omega)) (fun j zs H6 hj ⟨e,hj2,ez⟩=>⟨e.seq (SqL.of h2),by
   rw[ez.1,List.length_map]
   refine Nat.le_trans (List.length_filter_le ..) ?_
   rw[ζ23]
   exact Nat.le_refl _⟩) ?_ ?_⟩
  ·rintro j v zs H6 pt hpt hj ⟨s6,hjl,hZ⟩ S hSS
   obtain⟨p,hp,tt,rfl,ht⟩:=h3.at hj
   have hjl':=(List.getElem?_eq_some_iff.mp hp).1
   have s7:=same_at (o:=.tup [.int j,.ref tt]) hpt
   refine⟨pt,_,rfl,SqT.of ζ1,rfl,_,_,rfl,_,_,rfl,rfl,?_⟩
   have hZ7:=hZ.same s7
   have s57:=s6.trans s7
   generalize upd H6 pt (.tup [.int j,.ref tt])=H7 at *
   refine⟨_,rfl,_,rfl,gA,_,rfl,.inr (ζM s57 hg5),rfl,ζi4 _,_,rfl,?_⟩
   rw[ζS5]
   refine itn2 (fun hin2=>?_) (fun hin2=>?_)
   ·refine hSS _ _ ⟨s57,hjl',?_⟩
    rw[ζZ5,if_pos hin2,List.append_nil]
    exact hZ7
   ·refine⟨_,rfl,hSS _ _ ⟨s57,hjl',?_⟩⟩
    rw[ζZ5,if_neg hin2,List.map_append]
    refine hZ7.app ?_
    show PairsV H7 [V.ref tt] [ps.getD ((j:Nat):Int).toNat (0,0)]
    rw[Int.toNat_natCast,ζK hp]
    exact PairsV.nil.snoc ⟨tt,rfl,s57 _ _ ht⟩
  rintro zs H6 ⟨s6,_,hZ⟩ rA hrA
  rw[hlx]at hZ
  have s7:=same_at (o:=.lst zs) hrA
  have hr7:(upd H6 rA (.lst zs)) rA=some (.lst zs):=ζ1
  have hZ7:=hZ.same s7
  have s57:=s6.trans s7
  generalize upd H6 rA (.lst zs)=H7 at *
  have hf7:=s57 _ _ (s5 _ _ hf4)
  have hn7:=s57 _ _ (s5 _ _ hn4)
  have hzl:=hZ7.1
  have hfl:(freT ps.length (Is++Os)).length<=30:=by
   refine Nat.le_trans (List.length_filter_le ..) ?_
   rw[ζ23]
   omega
  rw[List.length_map]at hzl
  refine nm ?_
  dsimp only
  refine⟨_,rfl,fA,_,rfl,.inl (SqL.of hf7),_,rfl,rA,rfl,⟨_,SqL.of hr7⟩,ζc1 (K:=K) (a:=rA) (xs:=zs) (fun i ws H8=>Same H7 H8/\i<=(freT ps.length (Is++Os)).length/\PairsV H8 ws (((freT ps.length (Is++Os)).take i).map fun z=>((nix F (mk (pms n.toNat (ζc ps Is)) (ζ21 ps z).1):Int),(nix F (mk (pms n.toNat (ζc ps Is)) (ζ21 ps z).2):Int)))) ⟨Same.refl _,Nat.zero_le _,PairsV.nil⟩ (ζm (by omega))
   (fun i ws H8 hi ⟨e,hi2,ew⟩=>⟨e.seq (SqL.of hr7),by rw[ew.1,List.length_map,List.length_take];omega⟩) ?_ ?_⟩
  ·rintro i v ws H8 hi ⟨s8,hil,hPw⟩ S hSS
   obtain⟨p,hp,tt,rfl,ht⟩:=hZ7.at hi
   rw[List.getElem?_map]at hp
   obtain⟨z,hz,ez⟩:∃ z,(freT ps.length (Is++Os))[i]?=some z/\ps.getD z.toNat (0,0)=p:=by
    cases hq:(freT ps.length (Is++Os))[i]? with
    | none=>rw[hq]at hp;cases hp
    | some z=>rw[hq]at hp;exact⟨z,rfl,Option.some.inj hp⟩
   have hz1:=(freT_mem.mp (List.mem_of_getElem? hz)).1
   obtain⟨p',hp'⟩:∃ p,ps[z.toNat]?=some p:=⟨_,List.getElem?_eq_getElem (by omega)⟩
   have epp:p'=p:=by rw[<- ez,ζK hp']
   rw[epp]at hp'
   obtain⟨e1,e2,e3,e4⟩:=g4 p (List.mem_of_getElem? hp')
   have ee:ζ21 ps z=(p.1.toNat,p.2.toNat):=by unfold ζ21;rw[ζK hp']
   have ht8:=s8 _ _ ht
   have hn8:=s8 _ _ hn7
   refine nm ?_
   refine⟨_,rfl,_,rfl,tt,_,0,.int p.1,rfl,rfl,SqT.of ht8,rfl,nA,_,_,_,rfl,rfl,SqL.of hn8,ζw (n:=p.1.toNat) (by omega) (ζ05 (nAt p.1 e1 e2)),?_⟩
   refine⟨_,rfl,_,rfl,tt,_,1,.int p.2,rfl,rfl,SqT.of ht8,rfl,nA,_,_,_,rfl,rfl,SqL.of hn8,ζw (n:=p.2.toNat) (by omega) (ζ05 (nAt p.2 e3 e4)),(by show 2<=sizeLine;decide),fun pp hpp=>?_⟩
   refine hSS _ _ ⟨s8.trans (same_at hpp),by have:=(List.getElem?_eq_some_iff.mp hz).1;omega,?_⟩
   rw[List.take_succ,hz,List.map_append]
   refine(hPw.same (same_at hpp)).snoc ⟨pp,rfl,?_⟩
   dsimp only
   rw[ee]
   exact ζ1
  rintro ws H8 ⟨s8,_,hPw⟩ la hla
  rw[hzl,List.take_length]at hPw
  have s9:=same_at (o:=.lst ws) hla
  have hla9:(upd H8 la (.lst ws)) la=some (.lst ws):=ζ1
  have hP9:=hPw.same s9
  have s79:=s8.trans s9
  generalize upd H8 la (.lst ws)=H9 at *
  have hGc:=ζm6 (f:=fun i=>nix F (mk (pms n.toNat (ζc ps Is)) i)) hG (Is++Os) hfk k1 kn
  intro x dx2 nx ndx nex
  have t1:Same H9 (upd (upd H9 dx2 (.own x)) x (.ins t.A_Web dx2 [])):=ζy (same_at ndx) (by rw[ζ9 (Ne.symm nex)];exact nx)
  refine⟨x,dx2,(F.length:Int),la,false,ws,_,by rw[ζ7];rfl,ζ1,fun o=>?_,hP9.same t1,hGc,fun H10 hV k10=>⟨rfl,?_⟩⟩
  ·exact SqL.of (by rw[ζ9 (ζf hla9 nx),ζ9 (ζf hla9 nx),ζ9 (ζf hla9 ndx)];exact hla9)
  have s10:Same H9 H10:=fun b o e=>k10 b o (t1 b o e) (ζf e nx)
  refine⟨x,_,_,rfl,hV,hGc,fun c H11 hc s11=>q c H11 (ζf13 hG hI hIO hfg hfk hgg (by omega) hc) (s05.trans (s57.trans (s79.trans (s10.trans s11))))⟩
end
set_option maxHeartbeats 4000000
def spζu(K:PySem.W.Frag)(C:Addr):Sp:=fun vs H Q _=>∃(w a:Addr) (n:Int) (ps:List (Int × Int)) (kd:Bool) (ns:List Int),vs=[.ref w,.ref a]/\WebAt C H w n ps/\ζE n ps/\SqK kd K H a (IL ns) /\
 IsSet ps.length ns/\ζk1 n ps/\∀(c d:Nat) (p q:Int) (r:Addr) (H':Hp),PC n ps ns [] c->TC n ps d->0<d->LowF c d p q->Same H H'->H' r=some (.tup [.int p,.int q])->Q (.ref r) H'
section
variable{P:Program}{w:World}{K:PySem.W.Frag}{mg:Str->Option Value}{base:Heap}{t:Adr}
theorem scζu:FnScope ["web","ties"] ["web","ties"] (ζ5 sζu):=⟨rfl,rfl,rfl,by decide +kernel,rfl,by decide +kernel,by decide +kernel⟩
theorem okζu (T:Txt K mg t):FnOk P w K mg base CX0 7 t.aζu t.dζu ["web","ties"] (spζu K t.A_Web):=by
 refine T.fζu.ok scζu (fun vs H Q E h=>?_) (fun cdv A outer s H vs Q E hr h=>?_)
 ·obtain⟨w,a,n,ps,kd,ns,rfl,_⟩:=h
  rfl
 ·obtain⟨w,a,n,ps,kd,ns,rfl,hW,hG,hA,hI,hJ,q⟩:=h
  refine⟨_,(ζ2 (ζh (i:=1) scζu.nd rfl (Or.inl rfl) (ζ8 (okζg T) (hr.mono (by decide)) rfl T.mζg T.fζg.kp T.bζg .nil ζt (ζ0 (pv 0) (ζ0 (pv 1) ζ3))))
   (ζ2 (ζ51 (ζ8 (okζl T) (hr.mono (by decide)) rfl T.mζl T.fζl.kp T.bζl .nil ζt (ζ0 (pv 0) ζ3)))
   (ζ6 (ζl (ζ8 (okζ7 T) (hr.mono (by decide)) rfl T.mζ7 T.fζ7.kp T.bζ7 .nil ζt (ζ0 (ζ8 (okζt T) (hr.mono (by decide)) rfl T.mζt T.fζt.kp T.bζt .nil ζt (ζ0 (pv 0) (ζ0 (pv 1) (ζ0 (ζq1 ζ3) ζ3)))) (ζ0 (ζ8 (okζs T) (hr.mono (by decide)) rfl T.mζs T.fζs.kp T.bζs .nil ζt (ζ0 (pv 0) ζ3)) ζ3))))))),?_⟩
  obtain⟨g1,g2,g3,g4⟩:=id hG
  refine⟨_,rfl,_,rfl,w,a,n,ps,kd,ns,rfl,hW,hA,hI,fun r1 H1 s1 hr1=>?_⟩
  have l1:=hI.len
  refine nm ?_
  dsimp only
  refine⟨_,rfl,w,n,ps,rfl,hW.same s1,hG,fun _ H2 s2=>?_,fun hno=>absurd hJ hno⟩
  have s12:=s1.trans s2
  refine⟨_,rfl,_,rfl,Nat.zero_le _,fun e he=>?_⟩
  have s3:=same_at (o:=.tup []) he
  have s13:=s12.trans s3
  refine⟨w,r1,e,n,ps,ns,[],rfl,hW.same s13,hG,ζM (s2.trans s3) hr1,SqT.of ζ1,hI,by show 0<=_;omega,fun z _ h=>(by cases h),fun c H4 hc s4=>?_⟩
  refine⟨_,rfl,w,n,ps,rfl,hW.same (s13.trans s4),hG,fun d H5 hd s5=>?_⟩
  have s15:=s13.trans (s4.trans s5)
  have dp:0<d:=by
   obtain⟨U,hU,_⟩:=ζa5 hG (ζy1 _) hJ
   obtain⟨L,_,hm,rfl⟩:=hd
   exact List.length_pos_of_mem ((hm U).mpr hU)
  have d20:=ζt2 hG hd
  have c20:c<=d:=ζG7 hc hd
  have big:∀ k:Nat,k<10 ^ 20->(k:Int).natAbs<2 ^ 9000:=fun k hk=>Nat.lt_of_lt_of_le (by omega:(k:Int).natAbs<10 ^ 20) (Nat.le_trans (show 10 ^ 20<=2 ^ 80 by decide) (Nat.pow_le_pow_right (by decide) (by decide)))
  refine⟨(c:Int),(d:Int),rfl,by omega,big c (by omega),big d d20,fun p q' hl r hr=>?_⟩
  exact q c d p q' r _ hc hd dp hl (s15.trans (same_at hr)) ζ1
end
set_option maxHeartbeats 4000000
def spζv(K:PySem.W.Frag)(C:Addr):Sp:=fun vs H Q _=>∃(w hl:Addr) (n:Int) (ps gs:List (Int × Int)) (xs:List V) (one o:Int),vs=[.ref w,.int one,.int o,.ref hl]/\WebAt C H w n ps/\ζE n ps/\-(10 ^ 70)<one/\one<10 ^ 70/\-(10 ^ 70)<o/\o<10 ^ 70/\H hl=some (.lst xs)/\PairsV H xs gs /\
 (0<=one/\one<n->0<=o/\o<n->ζk1 n ps->∀(fs:List (Int × Int)) (H':Hp),Same H H'->HtF n ps one.toNat o.toNat fs->Q (.bl (decide (gs=fs))) H') /\
 (¬ ((0<=one/\one<n)/\(0<=o/\o<n))->∀ H':Hp,Same H H'->False)/\(0<=one/\one<n->0<=o/\o<n->¬ ζk1 n ps->∀ H':Hp,Same H H'->False)
section
variable{P:Program}{w:World}{K:PySem.W.Frag}{mg:Str->Option Value}{base:Heap}{t:Adr}
theorem scζv:FnScope ["web","one","other","heights"] ["web","one","other","heights"] (ζ5 sζv):=⟨rfl,rfl,rfl,by decide +kernel,rfl,by decide +kernel,by decide +kernel⟩
theorem okζv (T:Txt K mg t):FnOk P w K mg base CX0 10 t.aζv t.dζv ["web","one","other","heights"] (spζv K t.A_Web):=by
 refine T.fζv.ok scζv (fun vs H Q E h=>?_) (fun cdv A outer s H vs Q E hr h=>?_)
 ·obtain⟨w,hl,n,ps,gs,xs,one,o,rfl,_⟩:=h
  rfl
 ·obtain⟨w,hl,n,ps,gs,xs,one,o,rfl,hW,hG,a0,a1,b0,b1,hL,hP,q,qn,qp⟩:=h
  refine⟨_,(ζ6 (ζl (ζA1 (ζv5 K (hu8 hr)) (ζo (ζL1 K) (by rfl) T.n_tuple Boot.«tuple» (ζ0 (pv 3) ζ3)) (ζ8 (okζo T) (hr.mono (by decide)) rfl T.mζo T.fζo.kp T.bζo .nil ζt (ζ0 (pv 0) (ζ0 (pv 1) (ζ0 (pv 2) ζ3)))) (ζv _)))),?_⟩
  refine⟨_,rfl,hl,xs,rfl,.inl ⟨SqL.of hL,fun tA htA=>?_⟩⟩
  have s1:=same_at (o:=.tup xs) htA
  have k1:=ζ1 (H:=H) (a:=tA) (o:=.tup xs)
  generalize upd H tA (.tup xs)=H1 at *
  refine⟨_,rfl,_,rfl,_,rfl,w,n,ps,one,o,rfl,hW.same s1,hG,a0,a1,b0,b1,fun h1 h2 hJ r1 zs fs H2 s2 hr2 hF hH=>?_,fun hI H2 s2=>qn hI H2 (s1.trans s2),fun h1 h2 hJ H2 s2=>qp h1 h2 hJ H2 (s1.trans s2)⟩
  refine⟨2,_,tA,r1,rfl,rfl,by decide,ζ56 (SqT.of (s2 _ _ k1)) (SqT.of hr2) (hP.same (s1.trans s2)) hF,?_⟩
  exact q h1 h2 hJ fs H2 (s1.trans s2) hH
end
set_option maxHeartbeats 4000000
def spζw(K:PySem.W.Frag):Sp:=fun vs H Q _=>∃(a b:Addr) (ns ms:List Int),vs=[.ref a,.ref b]/\SqT K H a (IL ns)/\SqT K H b (IL ms)/\ns.length<=1000/\∀(c:Bool) (H':Hp),(c=true↔∃ z∈ns,z∈ms)->Same H H'->Q (.bl c) H'
section
variable{P:Program}{w:World}{K:PySem.W.Frag}{mg:Str->Option Value}{base:Heap}{t:Adr}
theorem scζw:FnScope ["one","other"] ["one","other"] (ζ5 sζw):=⟨rfl,rfl,rfl,by decide +kernel,rfl,by decide +kernel,by decide +kernel⟩
theorem okζw (T:Txt K mg t):FnOk P w K mg base CX0 1 t.aζw t.dζw ["one","other"] (spζw K):=by
 refine T.fζw.ok scζw (fun vs H Q E h=>?_) (fun cdv A outer s H vs Q E hr h=>?_)
 ·obtain⟨a,b,ns,ms,rfl,_⟩:=h
  rfl
 ·obtain⟨a,b,ns,ms,rfl,hA,hB,hl,q⟩:=h
  refine⟨_,(ζ6 (ζl (ζb (ζz4 K rfl) (by rfl) T.n_any Boot.«any» (ζ0 (ζN4 rfl (sc0:=ζ5 sζw) (N0:=["one","other"]) (N':=["tie","other"]) (o:=1) (fr:=[1]) ⟨rfl,by decide +kernel,by decide +kernel,by decide +kernel,rfl,by decide +kernel⟩ (ζr5 K (pv 0)) (ζu (by decide)) (fun _ _ _ _=>(ζe (i:=0) (show List.Nodup (["tie","other"]:List Str) by decide +kernel) rfl (Or.inl rfl))) (fun _ _ _ _=>ζB) (fun _ _ _ _=>(ζA1 (ζl12 K) (pv 0) (pv 1) rfl))) ζ3)))),?_⟩
  refine⟨_,rfl,a,rfl,⟨_,hA⟩,ζI10 (K:=K) (a:=a) (xs:=IL ns) (fun i us H2=>H2=H/\i<=ns.length/\us=((ns.take i).map fun z=>decide (z∈ms)).map V.bl) ⟨rfl,Nat.zero_le _,rfl⟩ (ζm (by rw[ζ7];omega))
   (fun i us H2 hi ⟨e,hi2,ey⟩=>⟨e ▸ hA,by rw[ey,List.length_map,List.length_map,List.length_take];omega⟩) ?_ ?_⟩
  ·rintro i v us H2 hi ⟨rfl,hil,rfl⟩ S hSS
   obtain⟨z,rfl,hz⟩:=ζJ1 hi
   refine nm ?_
   refine⟨_,rfl,_,rfl,b,_,rfl,.inr hB,rfl,ζi4 _,?_⟩
   rw[ζS5]
   refine hSS _ _ ⟨rfl,(List.getElem?_eq_some_iff.mp hz).1,?_⟩
   rw[List.take_succ,hz,List.map_append,List.map_append]
   rfl
  ·rintro us H2 ⟨rfl,_,rfl⟩ p hp
   rw[ζ7,List.take_length]
   refine⟨p,_,rfl,SqL.of ζ1,?_⟩
   refine q _ _ ?_ (same_at hp)
   rw[List.any_map,List.any_eq_true]
   constructor
   ·rintro⟨z,h1,h2⟩
    exact⟨z,h1,of_decide_eq_true h2⟩
   ·rintro⟨z,h1,h2⟩
    exact⟨z,h1,decide_eq_true h2⟩
end
set_option maxHeartbeats 4000000
def spζx(K:PySem.W.Frag)(C:Addr):Sp:=fun vs H Q _=>∃(w a b:Addr) (n:Int) (ps:List (Int × Int)) (ka kb:Bool) (Is Os:List Int),vs=[.ref w,.ref a,.ref b]/\WebAt C H w n ps/\ζE n ps/\SqK ka K H a (IL Is)/\SqK kb K H b (IL Os)/\IsSet ps.length Is/\IsSet ps.length Os/\∀(c:Nat) (H':Hp),PC n ps Is Os c->Same H H'->Q (.int c) H'
section
variable{P:Program}{w:World}{K:PySem.W.Frag}{mg:Str->Option Value}{base:Heap}{t:Adr}
theorem scζx:FnScope ["web","inside","outside"] ["web","inside","outside"] (ζ5 sζx):=⟨rfl,rfl,rfl,by decide +kernel,rfl,by decide +kernel,by decide +kernel⟩
theorem okζx (T:Txt K mg t):FnOk P w K mg base CX0 5 t.aζx t.dζx ["web","inside","outside"] (spζx K t.A_Web):=by
 refine T.fζx.ok scζx (fun vs H Q E h=>?_) (fun cdv A outer s H vs Q E hr h=>?_)
 ·obtain⟨w,a,b,n,ps,ka,kb,Is,Os,rfl,_⟩:=h
  rfl
 ·obtain⟨w,a,b,n,ps,ka,kb,Is,Os,rfl,hW,hG,hA,hB,hI,hO,q⟩:=h
  refine⟨_,(ζ2 (ζh (i:=1) scζx.nd rfl (Or.inl rfl) (ζ8 (okζg T) (hr.mono (by decide)) rfl T.mζg T.fζg.kp T.bζg .nil ζt (ζ0 (pv 0) (ζ0 (pv 1) ζ3))))
   (ζ2 (ζh (i:=2) scζx.nd rfl (Or.inl rfl) (ζ8 (okζg T) (hr.mono (by decide)) rfl T.mζg T.fζg.kp T.bζg .nil ζt (ζ0 (pv 0) (ζ0 (pv 2) ζ3))))
   (ζ2 (ζe1 (ζN1 (ζ8 (okζw T) (hr.mono (by decide)) rfl T.mζw T.fζw.kp T.bζw .nil ζt (ζ0 (pv 1) (ζ0 (pv 2) ζ3))))
   (ζ6 (ζl ζ4))
   ζn)
   (ζ6 (ζl (ζ8 (okζt T) (hr.mono (by decide)) rfl T.mζt T.fζt.kp T.bζt .nil ζt (ζ0 (pv 0) (ζ0 (pv 1) (ζ0 (pv 2) ζ3))))))))),?_⟩
  have g3:=hG.2.2.1
  have l1:=hI.len
  have l2:=hO.len
  refine⟨_,rfl,_,rfl,w,a,n,ps,ka,Is,rfl,hW,hA,hI,fun r1 H1 s1 hr1=>?_⟩
  refine nm ?_
  refine⟨_,rfl,_,rfl,w,b,n,ps,kb,Os,rfl,hW.same s1,hB.same s1,hO,fun r2 H2 s2 hr2=>?_⟩
  refine nm ?_
  have hr12:=ζM s2 hr1
  have s02:=s1.trans s2
  refine⟨_,rfl,_,rfl,r1,r2,Is,Os,rfl,hr12,hr2,by omega,fun c H3 hc s3=>⟨_,rfl,?_⟩⟩
  have s03:=s02.trans s3
  refine itb (fun hb=>?_) (fun hb=>?_)
  ·obtain⟨z,h1,h2⟩:=hc.mp hb
   exact q 0 H3 (ζP6 h1 h2) s03
  ·exact⟨_,rfl,_,rfl,_,rfl,w,r1,r2,n,ps,Is,Os,rfl,hW.same s03,hG,ζM s3 hr12,ζM s3 hr2,hI,by omega,fun z h1 h2=>absurd (hc.mpr ⟨z,h1,h2⟩) (by rw[hb];decide),fun c H4 hc4 s4=>q c H4 hc4 (s03.trans s4)⟩
end
set_option maxHeartbeats 4000000
def spζy:Sp:=fun vs H Q _=>∃ w:Str,vs=[.str w]/\(w.cps.all fun c=>decide (c<128))=true/\w.length<=100000/\∀ H':Hp,Same H H'->Q (.bl (ζP5 w.cps.toList)) H'
theorem ζc8(x y:Str):decide (V.str x=V.str y)=decide (x.cps.toList=y.cps.toList):=decide_eq_decide.mpr ⟨fun e=>by cases e;rfl,fun e=>by rw[ζu7 e]⟩
theorem ζr9{cs:List Nat}{c:Nat}(h:c∈figs cs):c∈cs:=by
 unfold figs at h
 split at h
 ·exact List.mem_of_mem_tail h
 ·exact h
theorem ζs9(cs:List Nat):(figs cs).length<=cs.length:=by
 unfold figs
 split
 ·rw[List.length_tail];omega
 ·exact Nat.le_refl _
theorem any_not{l:List Nat}{f:Nat->Bool}:(l.map fun c=>!f c).any id=false↔∀ c∈l,f c=true:=by
 rw[List.any_eq_false]
 constructor
 ·intro h c hc
  have:=h (!f c) (List.mem_map.mpr ⟨c,hc,rfl⟩)
  cases e:f c with
  | true=>rfl
  | false=>rw[e]at this;exact absurd rfl this
 ·intro h b hb
  obtain⟨c,hc,rfl⟩:=List.mem_map.mp hb
  rw[h c hc]
  decide
section
variable{P:Program}{w:World}{K:PySem.W.Frag}{mg:Str->Option Value}{base:Heap}{t:Adr}
theorem scζy:FnScope ["word","figures"] ["word"] (ζ5 sζy):=⟨rfl,rfl,rfl,by decide +kernel,rfl,by decide +kernel,by decide +kernel⟩
theorem okζy (T:Txt K mg t):FnOk P w K mg base CX0 1 t.aζy t.dζy ["word"] spζy:=by
 refine T.fζy.ok scζy (fun vs H Q E h=>?_) (fun cdv A outer s H vs Q E hr h=>?_)
 ·obtain⟨w,rfl,_⟩:=h
  rfl
 ·obtain⟨w,rfl,ha,hl,q⟩:=h
  refine⟨_,(ζ2 (ζh (i:=1) scζy.nd rfl (Or.inl rfl) (ζs5 (ζN1 (ζB1 K PySem.F.plainAttrs_str PySem.F.slot_str_startswith PySem.F.type_str_startswith ζX6 (pv 0) (ζ0 ζ02 ζ3))) (ζG ζa10 (pv 0) (ζT ζ4) ζU) (pv 0)))
   (ζ2 (ζe1 (PW.pt (ζ912 (ζY1 (ζt3 ζI7 ζI7 ζ4 (ζb ζQ3 (by rfl) T.n_len Boot.«len» (ζ0 (pv 1) ζ3)) (ζ44 (v:=V.int 60) rfl T.g_MOST_FIGURES.choose_spec ⟨_,rfl⟩))) (ζF8 (ζN1 (ζb (ζz4 K rfl) (by rfl) T.n_any Boot.«any» (ζ0 (ζN4 rfl (sc0:=ζ5 sζy) (N0:=["word","figures"]) (N':=["sign"]) (o:=1) (fr:=[]) ⟨rfl,by decide +kernel,by decide +kernel,by decide +kernel,rfl,by decide +kernel⟩ (ζq10 (pv 1)) (ζu (by decide)) (fun _ _ _ _=>(ζe (i:=0) (show List.Nodup (["sign"]:List Str) by decide +kernel) rfl (Or.inl rfl))) (fun _ _ _ _=>ζB) (fun _ _ _ _=>(ζA1 ζx3 (pv 0) (ζ44 (v:=V.str "0123456789") rfl T.g_FIGURES.choose_spec ⟨_,rfl⟩) rfl))) ζ3))))))
   (ζ6 (ζl ζu5))
   ζn)
   (ζ6 (ζl (ζd13 (ζA1 ζT8 (pv 0) ζ02 (ζv _)) (ζt10 (ζA1 ζ74 (ζr ζy12 (pv 1) ζ4 (fun _ _=>rfl)) ζ02 (ζv _)))))))),?_⟩
  have hw:=ζt1 w
  have z1:100000<=sizeLine:=by decide
  refine ζX12 (fun σ H'=>H'=H/\∃ F:Str,σ=[some (.str w),some (.str F)]/\F.cps.toList=figs w.cps.toList) ?_ ?_
  rotate_left
  ·intro Kn hK
   refine⟨_,rfl,rfl,_,_,rfl,rfl,_,rfl,?_⟩
   rw[ζF6]
   refine itd2 (fun hs=>?_) (fun hs=>?_)
   ·have hpos:1<=w.cps.toList.length:=by
     cases e:w.cps.toList with
     | nil=>rw[e]at hs;cases hs
     | cons c r=>simp
    have et:=ζf5 hpos
    refine⟨_,rfl,_,rfl,w,rfl,?_,hK _ _ ⟨rfl,_,rfl,?_⟩⟩
    ·rw[ζt1,et,List.length_tail];omega
    ·rw[et];unfold figs;rw[if_pos hs]
   ·refine⟨_,rfl,hK _ _ ⟨rfl,_,rfl,?_⟩⟩
    unfold figs;rw[if_neg hs]
  rintro σ H' ⟨rfl,F,rfl,hF⟩
  have hFl:=ζt1 F
  have hfl:=ζs9 w.cps.toList
  have hFs:F.length<=100000:=by rw[hFl,hF];omega
  have hFa:(F.cps.all fun c=>decide (c<128))=true:=by
   rw[<- Array.all_toList,List.all_eq_true]at ha ⊢
   intro c hc
   rw[hF]at hc
   exact ha c (ζr9 hc)
  have bad:¬ (1<=(figs w.cps.toList).length/\(figs w.cps.toList).length<=60/\∀ c∈figs w.cps.toList,48<=c/\c<=57)->∀ H2:Hp,Same H' H2->Q (.bl false) H2:=fun h H2 s2=>by
   have e:ζP5 w.cps.toList=false:=decide_eq_false fun z=>h ⟨z.1,z.2.1,z.2.2.1⟩
   have:=q H2 s2
   rw[e]at this
   exact this
  refine⟨_,rfl,F,rfl,by omega,_,_,rfl,rfl,_,rfl,?_⟩
  refine itd2 (fun h1=>?_) (fun h1=>?_)
  rotate_left
  ·refine⟨_,rfl,?_⟩
   refine iteT ?_
   refine iteT ?_
   exact bad (fun z=>h1 (by have:=z.1;rw[<- hF,<- hFl]at this;omega)) _ (Same.refl _)
  refine⟨_,_,rfl,rfl,_,rfl,?_⟩
  refine itn2 (fun h60=>?_) (fun h60=>?_)
  rotate_left
  ·refine iteT ?_
   exact bad (fun z=>h60 (by have:=z.2.1;rw[<- hF,<- hFl]at this;omega)) _ (Same.refl _)
  refine⟨_,rfl,F,rfl,hFa,ζJ10 (fun i ys H2=>H2=H'/\ys=((F.cps.toList.take i).map fun c=>!decide (48<=c/\c<=57)).map V.bl) ⟨rfl,rfl⟩ (by show F.length<sizeLine;omega) (fun i ys H2 _ ⟨_,e⟩=>by rw[e,List.length_map,List.length_map,List.length_take];omega) ?_ ?_⟩
  ·rintro i c ys H2 hc ⟨rfl,rfl⟩ S hSS
   refine nmY ?_
   refine⟨_,rfl,_,_,rfl,rfl,?_⟩
   rw[ζe7]
   refine hSS _ _ ⟨rfl,?_⟩
   have hc':F.cps.toList[i]?=some c:=by rw[Array.getElem?_toList];exact hc
   rw[List.take_succ,hc',List.map_append,List.map_append]
   rfl
  rintro ys H2 ⟨rfl,rfl⟩ p hp
  rw[List.take_of_length_le (by rw[Array.length_toList];exact Nat.le_refl _)]
  refine⟨p,_,rfl,SqL.of ζ1,_,rfl,?_⟩
  have s3:=same_at (o:=.lst ((F.cps.toList.map fun c=>!decide (48<=c/\c<=57)).map V.bl)) hp
  generalize upd H2 p (.lst ((F.cps.toList.map fun c=>!decide (48<=c/\c<=57)).map V.bl))=H3 at *
  cases hb:(F.cps.toList.map fun c=>!decide (48<=c/\c<=57)).any id with
  | true =>
   refine iteT ?_
   refine bad (fun z=>?_) _ s3
   rw[<- hF]at z
   rw[any_not.mpr fun c hc=>decide_eq_true (z.2.2 c hc)]at hb
   cases hb
  | false =>
   refine iteF ?_
   have hall:=any_not.mp hb
   rw[hF]at hall hFl
   show(_:Prop)
   refine ζT6 ?_
   cases hf:figs w.cps.toList with
   | nil=>rw[hf]at hFl;simp at hFl;omega
   | cons c r =>
    have hF0:atI F.cps.toList 0=some c:=by rw[hF,hf];exact ζw (n:=0) (by decide) rfl
    refine⟨_,rfl,rfl,_,rfl,?_⟩
    rw[ζc8]
    have e0:(Str.ofString "0").cps.toList=[48]:=by rfl
    rw[e0]
    have fin:∀ b:Bool,(b=true↔w.cps.toList=[48]\/c≠48)->Q (.bl b) H3:=fun b hb2=>by
     have e:ζP5 w.cps.toList=b:=by
      rw[Bool.eq_iff_iff,hb2]
      unfold ζP5
      rw[decide_eq_true_iff]
      constructor
      ·rintro⟨_,_,_,h⟩
       rcases h with h | h
       ·exact .inl h
       ·exact .inr fun e=>h (by rw[hf,e];rfl)
      ·intro h
       refine⟨by omega,by omega,fun x hx=>of_decide_eq_true (hall x hx),?_⟩
       rcases h with h | h
       ·exact .inl h
       ·exact .inr fun e=>h (by rw[hf]at e;exact Option.some.inj e)
     have:=q H3 s3
     rw[e]at this
     exact this
    refine itd2 (fun h0=>?_) (fun h0=>?_)
    ·exact fin true ⟨fun _=>.inl h0,fun _=>rfl⟩
    ·refine⟨_,rfl,F,0,c,rfl,rfl,by omega,hF0,rfl,?_⟩
     rw[ζc8,e0]
     refine fin _ ⟨fun h=>.inr fun e=>?_,fun h=>?_⟩
     ·rw[e]at h;exact absurd h (by decide)
     ·rcases h with h | h
      ·exact absurd h h0
      ·rw[decide_eq_false (fun e=>h (List.cons.inj e).1)];rfl
end
set_option maxHeartbeats 4000000
def spζz:Sp:=fun vs H Q _=>∃ i:Int,vs=[.str (nT i)]/\-(10 ^ 60)<i/\i<10 ^ 60/\∀ H':Hp,Same H H'->Q (.int i) H'
section
variable{P:Program}{w:World}{K:PySem.W.Frag}{mg:Str->Option Value}{base:Heap}{t:Adr}
theorem scζz:FnScope ["word"] ["word"] (ζ5 sζz):=⟨rfl,rfl,rfl,by decide +kernel,rfl,by decide +kernel,by decide +kernel⟩
theorem okζz (T:Txt K mg t):FnOk P w K mg base CX0 2 t.aζz t.dζz ["word"] spζz:=by
 refine T.fζz.ok scζz (fun vs H Q E h=>?_) (fun cdv A outer s H vs Q E hr h=>?_)
 ·obtain⟨i,rfl,_⟩:=h
  rfl
 ·obtain⟨i,rfl,h1,h2,q⟩:=h
  refine⟨_,(ζ2 (ζe1 (ζY1 (ζN1 (ζ8 (okζy T) (hr.mono (by decide)) rfl T.mζy T.fζy.kp T.bζy .nil ζt (ζ0 (pv 0) ζ3))))
   (ζ6 ζJ)
   ζn)
   (ζ6 (ζl (ζo ζl7 (by rfl) T.n_int Boot.«int» (ζ0 (pv 0) ζ3))))),?_⟩
  have hl:=ζC5 (k:=60) (by decide) h1 h2
  refine⟨_,rfl,nT i,rfl,ζ09 i,by omega,fun H1 s1=>⟨_,rfl,?_⟩⟩
  rw[ζ43,ζW11 h1 h2]
  refine iteF ?_
  show(_:Prop)
  refine ζT6 ?_
  exact⟨_,rfl,nT i,i,rfl,ζZ8 (k:=60) (by decide) (by decide) h1 h2,by omega,q H1 s1⟩
end
set_option maxHeartbeats 4000000
def spζA(K:PySem.W.Frag):Sp:=fun vs H Q _=>∃(name:Str) (l:List Int),vs=[.str (Str.join ζP1 (name :: l.map nT)),.str name,.int l.length]/\32∉name.cps.toList/\name.length<=100/\l.length<=10/\Told l/\∀(r:Addr) (H':Hp),Same H H'->H' r=some (.lst (IL l))->Q (.ref r) H'
section
variable{P:Program}{w:World}{K:PySem.W.Frag}{mg:Str->Option Value}{base:Heap}{t:Adr}
theorem scζA:FnScope ["line","name","many","words"] ["line","name","many"] (ζ5 sζA):=⟨rfl,rfl,rfl,by decide +kernel,rfl,by decide +kernel,by decide +kernel⟩
theorem okζA (T:Txt K mg t):FnOk P w K mg base CX0 3 t.aζA t.dζA ["line","name","many"] (spζA K):=by
 refine T.fζA.ok scζA (fun vs H Q E h=>?_) (fun cdv A outer s H vs Q E hr h=>?_)
 ·obtain⟨name,l,rfl,_⟩:=h
  rfl
 ·obtain⟨name,l,rfl,hn,hnl,hll,hl,q⟩:=h
  refine⟨_,(ζ2 (ζh (i:=3) scζA.nd rfl (Or.inl rfl) (ζB1 K PySem.F.plainAttrs_str PySem.F.slot_str_split PySem.F.type_str_split ζD5 (pv 0) (ζ0 ζ02 ζ3)))
   (ζ2 (ζe1 (PW.pt (ζ912 (ζp ζ74 (ζr (ζd K) (pv 3) ζ4 (fun _ _=>rfl)) (pv 1) (ζv _)) (ζF8 (ζp ζ74 (ζb (ζi K) (by rfl) T.n_len Boot.«len» (ζ0 (pv 3) ζ3)) (ζk ζS (pv 2) ζ4) (ζv _)))))
   (ζ6 ζJ)
   ζn)
   (ζ6 (ζl (ζN4 rfl (sc0:=ζ5 sζA) (N0:=["line","name","many","words"]) (N':=["word"]) (o:=1) (fr:=[]) ⟨rfl,by decide +kernel,by decide +kernel,by decide +kernel,rfl,by decide +kernel⟩ (ζX K (ζG (ζN K) (pv 3) (ζT ζ4) ζU)) (ζu (by decide)) (fun _ _ _ _=>(ζe (i:=0) (show List.Nodup (["word"]:List Str) by decide +kernel) rfl (Or.inl rfl))) (fun _ _ _ _=>ζB) (fun _ _ _ _=>(ζ8 (okζz T) (hr.mono (by decide)) rfl T.mζz T.fζz.kp T.bζz .nil ζt (ζ0 (pv 0) ζ3)))))))),?_⟩
  have hsp:=ζk8 (l:=l) hn
  have hlen:(Str.join ζP1 (name :: l.map nT)).length<=2000:=by
   rw[ζf2]
   refine Nat.le_trans (ζC3 (B:=100) fun a ha=>?_) (by rw[List.length_cons,List.length_map];omega)
   rcases List.mem_cons.mp ha with e | e
   ·rw[e];exact hnl
   ·have:=ζm3 hl a e;omega
  have z1:2000<=sizeLine:=by decide
  refine⟨_,rfl,rfl,_,_,rfl,rfl,rfl,by omega,?_,fun p hp=>?_⟩
  ·show(Txt.split _ ζP1).length<=_
   rw[hsp,List.length_cons,List.length_map];omega
  have e:Txt.split (Str.join ζP1 (name :: l.map nT)) (Str.ofString " ")=name :: l.map nT:=hsp
  rw[e]
  have u1:=same_at (o:=.lst (TL (name :: l.map nT))) hp
  have hp1:(upd H p (.lst (TL (name :: l.map nT)))) p=some (.lst (TL (name :: l.map nT))):=ζ1
  generalize upd H p (.lst (TL (name :: l.map nT)))=H1 at *
  refine nm ?_
  dsimp only
  refine⟨_,rfl,p,_,0,.str name,rfl,rfl,SqL.of hp1,ζw (n:=0) (by decide) rfl,_,rfl,rfl,_,rfl,?_⟩
  refine itn rfl ?_
  refine⟨_,rfl,p,_,rfl,.inl (SqL.of hp1),_,rfl,_,_,rfl,rfl,rfl,_,rfl,?_⟩
  rw[ζd1,List.length_cons,List.length_map,ζI]
  refine itn (by omega) ?_
  show(_:Prop)
  refine ζT6 ?_
  refine⟨_,rfl,_,rfl,p,_,rfl,SqL.of hp1,fun p2 hp2=>?_⟩
  rw[ζU1 (by decide)]
  have e2:(TL (name :: l.map nT)).drop (1:Int).toNat=TL (l.map nT):=rfl
  rw[e2]
  have u2:=same_at (o:=.lst (TL (l.map nT))) hp2
  have hp3:(upd H1 p2 (.lst (TL (l.map nT)))) p2=some (.lst (TL (l.map nT))):=ζ1
  generalize upd H1 p2 (.lst (TL (l.map nT)))=H2 at *
  refine⟨p2,rfl,⟨_,SqL.of hp3⟩,ζc1 (K:=K) (a:=p2) (xs:=TL (l.map nT)) (fun i ys H3=>Same H2 H3/\ys=IL (l.take i)) ⟨Same.refl _,rfl⟩ (ζm (by rw[ζd1,List.length_map];omega)) (fun i ys H3 _ ⟨e,ey⟩=>⟨SqL.of (e _ _ hp3),by rw[ey,ζ7,List.length_take];omega⟩) ?_ ?_⟩
  ·rintro i v ys H3 hi ⟨s3,rfl⟩ S hSS
   obtain⟨x,rfl,hx⟩:=ζ110 hi
   rw[List.getElem?_map]at hx
   obtain⟨z,hz,rfl⟩:=Option.map_eq_some_iff.mp hx
   have hb:=hl z (List.mem_of_getElem? hz)
   refine nmY ?_
   refine⟨_,rfl,z,rfl,hb.1,hb.2,fun H4 s4=>hSS _ _ ⟨s3.trans s4,?_⟩⟩
   rw[List.take_succ,hz]
   show IL (l.take i)++[V.int z]=IL (l.take i++[z])
   rw[ζl1]
  rintro ys H3 ⟨s3,rfl⟩ p3 hp4
  rw[ζd1,List.length_map,List.take_length]
  exact q p3 _ (u1.trans (u2.trans (s3.trans (same_at hp4)))) ζ1
end
set_option maxHeartbeats 4000000
def spζB(K:PySem.W.Frag)(C:Addr):Sp:=fun vs H Q _=>∃(n:Int) (ps:List (Int × Int)) (ls:List Int),vs=[.str (ζr8 n ps ls)]/\ζE n ps/\ls.length=ps.length/\Told ls/\∀(t w a:Addr) (H':Hp),Same H H'->H a=none->H' t=some (.tup [.ref w,.ref a])->WebAt C H' w n ps->H' a=some (.lst (IL ls))->Q (.ref t) H'
section
variable{P:Program}{w:World}{K:PySem.W.Frag}{mg:Str->Option Value}{base:Heap}{t:Adr}
theorem scζB:FnScope ["text","lines","places","ties"] ["text"] (ζ5 sζB):=⟨rfl,rfl,rfl,by decide +kernel,rfl,by decide +kernel,by decide +kernel⟩
theorem okζB (T:Txt K mg t):FnOk P w K mg base CX0 4 t.aζB t.dζB ["text"] (spζB K t.A_Web):=by
 refine T.fζB.ok scζB (fun vs H Q E h=>?_) (fun cdv A outer s H vs Q E hr h=>?_)
 ·obtain⟨n,ps,ls,rfl,_⟩:=h
  rfl
 ·obtain⟨n,ps,ls,rfl,hG,hl,hT,q⟩:=h
  refine⟨_,(ζ2 (ζh (i:=1) scζB.nd rfl (Or.inl rfl) (ζB1 K PySem.F.plainAttrs_str PySem.F.slot_str_split PySem.F.type_str_split ζD5 (pv 0) (ζ0 ζ02 ζ3)))
   (ζ2 (ζh (i:=2) scζB.nd rfl (Or.inl rfl) (ζ8 (okζA T) (hr.mono (by decide)) rfl T.mζA T.fζA.kp T.bζA .nil ζt (ζ0 (ζr (ζd K) (pv 1) ζ4 (fun _ _=>rfl)) (ζ0 ζ02 (ζ0 ζ4 ζ3)))))
   (ζ2 (ζL6 (i:=3) rfl scζB.nd rfl rfl (sc0:=ζ5 sζB) (N0:=["text","lines","places","ties"]) (N':=["line"]) (o:=1) (fr:=[]) ⟨rfl,by decide +kernel,by decide +kernel,by decide +kernel,rfl,by decide +kernel⟩ (ζX K (ζG (ζN K) (pv 1) (ζT ζ4) ζU)) (ζu (by decide)) (fun _ _ _ _=>(ζe (i:=0) (show List.Nodup (["line"]:List Str) by decide +kernel) rfl (Or.inl rfl))) (fun _ _ _ _=>ζB) (fun _ _ _ _=>(ζ8 (okζA T) (hr.mono (by decide)) rfl T.mζA T.fζA.kp T.bζA .nil ζt (ζ0 (pv 0) (ζ0 ζ02 (ζ0 ζ4 ζ3))))))
   (ζ6 (ζl (ζq1 (ζ0 (ζF7 T.k_Web (okζb T) (hr.mono (by decide)) rfl T.c_Web T.bζb .nil ζt (ζ0 (ζr (ζd K) (pv 2) ζ4 (fun _ _=>rfl)) (ζ0 (ζN4 rfl (sc0:=ζ5 sζB) (N0:=["text","lines","places","ties"]) (N':=["tie"]) (o:=1) (fr:=[]) ⟨rfl,by decide +kernel,by decide +kernel,by decide +kernel,rfl,by decide +kernel⟩ (ζX K (pv 3)) (ζu (by decide)) (fun _ _ _ _=>(ζe (i:=0) (show List.Nodup (["tie"]:List Str) by decide +kernel) rfl (Or.inl rfl))) (fun _ _ _ _=>ζB) (fun _ _ _ _=>(ζq1 (ζ0 (ζr (ζd K) (pv 0) ζ4 (fun _ _=>rfl)) (ζ0 (ζr (ζd K) (pv 0) ζ4 (fun _ _=>rfl)) ζ3))))) ζ3))) (ζ0 (ζN4 rfl (sc0:=ζ5 sζB) (N0:=["text","lines","places","ties"]) (N':=["tie"]) (o:=1) (fr:=[]) ⟨rfl,by decide +kernel,by decide +kernel,by decide +kernel,rfl,by decide +kernel⟩ (ζX K (pv 3)) (ζu (by decide)) (fun _ _ _ _=>(ζe (i:=0) (show List.Nodup (["tie"]:List Str) by decide +kernel) rfl (Or.inl rfl))) (fun _ _ _ _=>ζB) (fun _ _ _ _=>(ζr (ζd K) (pv 0) ζ4 (fun _ _=>rfl)))) ζ3)))))))),?_⟩
  have hp30:=hG.2.2.1
  have hn1:=hG.1
  have hn2:=hG.2.1
  have two:2<=sizeLine:=by decide
  have z1:100000<=sizeLine:=by decide
  have wl:=ζ35 (n:=n) hl
  have hsp:=ζ79 (n:=n) (ps:=ps) (ls:=ls)
  have tlen:(ζr8 n ps ls).length<=100000:=by
   unfold ζr8
   rw[ζo12]
   refine Nat.le_trans (ζC3 (B:=400) (ζ25 hG hT)) (by rw[wl];omega)
  refine⟨_,rfl,rfl,_,_,rfl,rfl,rfl,by omega,?_,fun p hp=>?_⟩
  ·show(Txt.split _ nlS).length<=_
   rw[hsp,wl];omega
  have e:Txt.split (ζr8 n ps ls) (Str.ofString "\n")=webT n ps ls:=hsp
  rw[e]
  have u1:=same_at (o:=.lst (TL (webT n ps ls))) hp
  have hp1:(upd H p (.lst (TL (webT n ps ls)))) p=some (.lst (TL (webT n ps ls))):=ζ1
  generalize upd H p (.lst (TL (webT n ps ls)))=H1 at *
  refine nm ?_
  dsimp only
  refine⟨_,rfl,p,_,0,.str (Str.ofString "places "++nT n),rfl,rfl,SqL.of hp1,ζw (n:=0) (by decide) rfl,Str.ofString "places",[n],by rw [ζ24];rfl,by decide,by decide,(show 1<=10 by decide),fun z hz=>by rw [List.mem_singleton.mp hz];omega,fun pA H2 s2 hpA=>?_⟩
  refine nm ?_
  dsimp only
  have hp2:=s2 _ _ hp1
  refine⟨_,rfl,_,rfl,p,_,rfl,SqL.of hp2,fun p2 hp3=>?_⟩
  rw[ζU1 (by decide)]
  have e2:(TL (webT n ps ls)).drop (1:Int).toNat=TL (List.zipWith ζQ4 ps ls):=rfl
  rw[e2]
  have u3:=same_at (o:=.lst (TL (List.zipWith ζQ4 ps ls))) hp3
  have h3:(upd H2 p2 (.lst (TL (List.zipWith ζQ4 ps ls)))) p2=some (.lst (TL (List.zipWith ζQ4 ps ls))):=ζ1
  have hpA3:=u3 _ _ hpA
  generalize upd H2 p2 (.lst (TL (List.zipWith ζQ4 ps ls)))=H3 at *
  have zl:(List.zipWith ζQ4 ps ls).length=ps.length:=by rw[List.length_zipWith];omega
  obtain⟨R,hR⟩:∃ R,R=List.zipWith (fun(p:Int × Int) l=>[p.1,p.2,l]) ps ls:=⟨_,rfl⟩
  have Rl:R.length=ps.length:=by rw[hR,List.length_zipWith];omega
  have Rat:∀(i:Nat) (p:Int × Int) (l:Int),ps[i]?=some p->ls[i]?=some l->R[i]?=some [p.1,p.2,l]:=fun i p l h1 h2=>by rw[hR,List.getElem?_zipWith,h1,h2]
  refine⟨p2,rfl,⟨_,SqL.of h3⟩,ζc1 (K:=K) (a:=p2) (xs:=TL (List.zipWith ζQ4 ps ls)) (fun i ys H4=>Same H3 H4/\i<=ps.length/\Bears (ζT2 H4) ys (R.take i)) ⟨Same.refl _,Nat.zero_le _,⟨rfl,fun i a e=>by simp at e⟩⟩ (ζm (by rw[ζd1,zl];omega)) (fun i ys H4 _ ⟨e,hi,h⟩=>⟨SqL.of (e _ _ h3),by rw[h.1,List.length_take];omega⟩) ?_ ?_⟩
  ·rintro i v ys H4 hi ⟨s4,hil,hB⟩ S hSS
   obtain⟨x,rfl,hx⟩:=ζ110 hi
   have hi2:i<ps.length:=by rw[<- zl];exact(List.getElem?_eq_some_iff.mp hx).1
   obtain⟨pp,hpp⟩:∃ pp,ps[i]?=some pp:=⟨_,List.getElem?_eq_getElem hi2⟩
   obtain⟨l,hll⟩:∃ l,ls[i]?=some l:=⟨_,List.getElem?_eq_getElem (by omega)⟩
   rw[List.getElem?_zipWith,hpp,hll]at hx
   obtain rfl:ζQ4 pp l=x:=Option.some.inj hx
   refine nmY ?_
   refine⟨_,rfl,Str.ofString "tie",[pp.1,pp.2,l],rfl,by decide,by decide,(show 3<=10 by decide),ζj3 hG hT hpp hll,fun r H5 s5 hr=>hSS _ _ ⟨s4.trans s5,hi2,?_⟩⟩
   rw[List.take_succ,Rat i pp l hpp hll]
   exact(hB.imp fun _ _ ⟨r,e,h⟩=>⟨r,e,s5 _ _ h⟩).snoc ⟨r,rfl,hr⟩
  rintro ys H4 ⟨s4,_,hB⟩ p3 hp4
  rw[ζd1,zl,List.take_of_length_le (by omega)]at hB
  have u5:=same_at (o:=.lst ys) hp4
  have h5:(upd H4 p3 (.lst ys)) p3=some (.lst ys):=ζ1
  have hB5:Bears (ζT2 (upd H4 p3 (.lst ys))) ys R:=hB.imp fun _ _ ⟨r,e,h⟩=>⟨r,e,u5 _ _ h⟩
  have hpA5:=(s4.trans u5) _ _ hpA3
  have sH5:=u1.trans (s2.trans (u3.trans (s4.trans u5)))
  generalize upd H4 p3 (.lst ys)=H5 at *
  have hyl:=hB5.1
  refine nm ?_
  dsimp only
  have Rrow:∀(i:Nat) (row:List Int),R[i]?=some row->∃(p:Int × Int) (l:Int),ps[i]?=some p/\ls[i]?=some l/\row=[p.1,p.2,l]:=fun i row h=>by
   have hi2:i<ps.length:=by rw[<- Rl];exact(List.getElem?_eq_some_iff.mp h).1
   obtain⟨pp,hpp⟩:∃ pp,ps[i]?=some pp:=⟨_,List.getElem?_eq_getElem hi2⟩
   obtain⟨l,hll⟩:∃ l,ls[i]?=some l:=⟨_,List.getElem?_eq_getElem (by omega)⟩
   rw[Rat i pp l hpp hll]at h
   exact⟨pp,l,hpp,hll,(Option.some.inj h).symm⟩
  refine⟨_,rfl,pA,_,0,.int n,rfl,rfl,SqL.of hpA5,ζw (n:=0) (by decide) rfl,_,rfl,p3,rfl,⟨_,SqL.of h5⟩,ζc1 (K:=K) (a:=p3) (xs:=ys) (fun i us H6=>Same H5 H6/\i<=ys.length/\PairsV H6 us (ps.take i)) ⟨Same.refl _,Nat.zero_le _,PairsV.nil⟩ (ζm (by omega)) (fun i us H6 _ ⟨e,hi,h⟩=>⟨SqL.of (e _ _ h5),by rw[h.1,List.length_take];omega⟩) ?_ ?_⟩
  ·rintro i v us H6 hi ⟨s6,hil,hU⟩ S hSS
   obtain⟨row,hrow,r,rfl,hr⟩:=hB5.at hi
   obtain⟨pp,l,hpp,hll,rfl⟩:=Rrow i row hrow
   have hil':=(List.getElem?_eq_some_iff.mp hi).1
   refine nmY ?_
   refine⟨_,rfl,r,_,0,.int pp.1,rfl,rfl,SqL.of (s6 _ _ hr),ζw (n:=0) (by decide) rfl,_,rfl,r,_,1,.int pp.2,rfl,rfl,SqL.of (s6 _ _ hr),ζw (n:=1) (by decide) rfl,two,fun c hc=>hSS _ _ ⟨s6.trans (same_at hc),hil',?_⟩⟩
   rw[List.take_succ,hpp]
   exact(hU.same (same_at hc)).snoc ⟨c,rfl,ζ1⟩
  rintro us H6 ⟨s6,_,hU⟩ lA hlA
  rw[hyl,Rl,List.take_length]at hU
  have u7:=same_at (o:=.lst us) hlA
  have h7:(upd H6 lA (.lst us)) lA=some (.lst us):=ζ1
  have hU7:=hU.same u7
  have s57:=s6.trans u7
  generalize upd H6 lA (.lst us)=H7 at *
  intro x dx nx ndx nex
  have t1:Same H7 (upd (upd H7 dx (.own x)) x (.ins t.A_Web dx [])):=ζy (same_at ndx) (by rw[ζ9 (Ne.symm nex)];exact nx)
  refine⟨x,dx,n,lA,false,us,ps,rfl,ζ1,fun o=>?_,hU7.same t1,hG,fun H8 hW k3=>⟨rfl,?_⟩⟩
  ·exact(ζs nx t1).seq (SqL.of h7)
  have s8:Same H7 H8:=fun b o e=>k3 b o (t1 b o e) (ζf e nx)
  have h8:=(s57.trans s8) _ _ h5
  have hB8:Bears (ζT2 H8) ys R:=hB5.imp fun _ _ ⟨r,e,h⟩=>⟨r,e,(s57.trans s8) _ _ h⟩
  refine⟨_,rfl,p3,rfl,⟨_,SqL.of h8⟩,ζc1 (K:=K) (a:=p3) (xs:=ys) (fun i us H9=>H9=H8/\us=IL (ls.take i)) ⟨rfl,rfl⟩ (ζm (by omega)) (fun i us H9 _ ⟨e,h⟩=>⟨e ▸ SqL.of h8,by rw[h,ζ7,List.length_take];omega⟩) ?_ ?_⟩
  ·rintro i v us H9 hi ⟨rfl,rfl⟩ S hSS
   obtain⟨row,hrow,r,rfl,hr⟩:=hB8.at hi
   obtain⟨pp,l,hpp,hll,rfl⟩:=Rrow i row hrow
   refine nmY ?_
   refine⟨_,rfl,r,_,2,.int l,rfl,rfl,SqL.of hr,ζw (n:=2) (by decide) rfl,hSS _ _ ⟨rfl,?_⟩⟩
   rw[List.take_succ,hll]
   show IL (ls.take i)++[V.int l]=IL (ls.take i++[l])
   rw[ζl1]
  rintro us9 H9 ⟨rfl,rfl⟩ aA haA
  rw[hyl,Rl,<- hl,List.take_length]
  have u9:=same_at (o:=.lst (IL ls)) haA
  have sH9:=sH5.trans (s57.trans s8)
  refine⟨two,fun tA htA=>?_⟩
  have u10:=same_at (o:=.tup [.ref x,.ref aA]) htA
  exact q tA x aA _ (sH9.trans (u9.trans u10)) (sH9.free haA) ζ1 (hW.same (u9.trans u10)) (u10 _ _ ζ1)
end
set_option maxHeartbeats 4000000
def spζC(K:PySem.W.Frag):Sp:=fun vs H Q _=>∃(a:Addr) (ns:List Int) (k:Int),vs=[.ref a,.int k]/\SqL K H a (IL ns)/\0<=k/\∀ r:Int,0<=r->r<10 ^ 60->Q (.int r) H
section
variable{P:Program}{w:World}{K:PySem.W.Frag}{mg:Str->Option Value}{base:Heap}{t:Adr}
theorem scζC:FnScope ["script","k"] ["script","k"] (ζ5 sζC):=⟨rfl,rfl,rfl,by decide +kernel,rfl,by decide +kernel,by decide +kernel⟩
theorem okζC (T:Txt K mg t):FnOk P w K mg base CX0 1 t.aζC t.dζC ["script","k"] (spζC K):=by
 refine T.fζC.ok scζC (fun vs H Q E h=>?_) (fun cdv A outer s H vs Q E hr h=>?_)
 ·obtain⟨a,ns,k,rfl,_⟩:=h
  rfl
 ·obtain⟨a,ns,k,rfl,hS,hk,q⟩:=h
  refine⟨_,(ζ2 (ζe1 (ζp ζR8 (pv 1) (ζb (ζi K) (by rfl) T.n_len Boot.«len» (ζ0 (pv 0) ζ3)) (ζv _))
   (ζ6 (ζl (ζk ζz (ζr (ζd K) (pv 0) (pv 1) (fun _ _=>rfl)) (ζk ζw3 ζ4 ζ4))))
   ζn)
   (ζ6 (ζl ζ4))),?_⟩
  refine⟨_,rfl,_,rfl,a,_,rfl,.inl hS,_,_,rfl,rfl,_,rfl,?_⟩
  refine ite2 (fun hc=>?_) (fun _=>?_)
  ·have hc:=of_decide_eq_true hc
   rw[ζ7]at hc
   obtain⟨z,hz⟩:∃ z,ns[k.toNat]?=some z:=⟨_,List.getElem?_eq_getElem (by omega)⟩
   refine⟨_,rfl,_,rfl,a,_,k,.int z,rfl,rfl,hS,ζw (n:=k.toNat) (by omega) (by rw[List.getElem?_map,hz];rfl),_,_,rfl,rfl,⟨by decide,by decide,by decide⟩,_,_,rfl,rfl,?_,?_⟩
   ·show(0:Int)<10 ^ 60
    decide
   ·exact q _ (Int.emod_nonneg _ (by decide)) (Int.emod_lt_of_pos _ (by decide))
  ·exact q 0 (by decide) (by decide)
end
set_option maxHeartbeats 4000000
def spζD:Sp:=fun vs H Q _=>∃(c k:Int),vs=[.int c,.int k]/\∀ r:Int,0<=r->r<2147483587->Q (.int r) H
section
variable{P:Program}{w:World}{K:PySem.W.Frag}{mg:Str->Option Value}{base:Heap}{t:Adr}
theorem scζD:FnScope ["cell","k","first","second"] ["cell","k"] (ζ5 sζD):=⟨rfl,rfl,rfl,by decide +kernel,rfl,by decide +kernel,by decide +kernel⟩
theorem okζD (T:Txt K mg t):FnOk P w K mg base CX0 1 t.aζD t.dζD ["cell","k"] spζD:=by
 refine T.fζD.ok scζD (fun vs H Q E h=>?_) (fun cdv A outer s H vs Q E hr h=>?_)
 ·obtain⟨c,k,rfl,_⟩:=h
  rfl
 ·obtain⟨c,k,rfl,q⟩:=h
  refine⟨_,(ζ2 (ζh (i:=2) scζD.nd rfl (Or.inl rfl) (ζk ζz (ζk ζ12 (ζk ζS (ζk ζS (pv 0) (ζk ζ12 ζ4 (pv 1))) ζ4) ζ4) ζ4))
   (ζ2 (ζh (i:=3) scζD.nd rfl (Or.inl rfl) (ζk ζz (ζk ζS (ζk ζS (ζk ζ12 (pv 2) (pv 2)) (ζk ζ12 ζ4 (pv 1))) ζ4) ζ4))
   (ζ6 (ζl (ζk ζ61 (ζk ζz (ζk ζ12 (pv 3) (pv 3)) ζ4) ζ4))))),?_⟩
  refine⟨_,rfl,_,rfl,_,_,rfl,rfl,.inl ⟨by decide,by decide⟩,_,_,rfl,rfl,_,_,rfl,rfl,_,_,rfl,rfl,.inr ⟨by decide,by decide⟩,_,_,rfl,rfl,(by show(0:Int)<2147483647;decide),?_⟩
  have f0:0<=((c+7919 * k+1) * 48271) % 2147483647:=Int.emod_nonneg _ (by decide)
  have f1:((c+7919 * k+1) * 48271) % 2147483647<2147483647:=Int.emod_lt_of_pos _ (by decide)
  refine⟨_,rfl,_,rfl,_,_,rfl,rfl,.inl ⟨by omega,by omega⟩,_,rfl,_,_,rfl,rfl,.inl ⟨by decide,by decide⟩,_,_,rfl,rfl,_,_,rfl,rfl,_,_,rfl,rfl,(by show(0:Int)<2147483629;decide),?_⟩
  generalize ((c+7919 * k+1) * 48271) % 2147483647=u at *
  have g0:0<=(u * u+40692 * k+3) % 2147483629:=Int.emod_nonneg _ (by decide)
  have g1:(u * u+40692 * k+3) % 2147483629<2147483629:=Int.emod_lt_of_pos _ (by decide)
  refine⟨_,rfl,_,rfl,_,_,rfl,rfl,.inl ⟨by omega,by omega⟩,_,_,rfl,rfl,(by show(0:Int)<2147483587;decide),_,_,rfl,rfl,⟨by decide,by decide⟩,?_⟩
  generalize (u * u+40692 * k+3) % 2147483629=v at *
  have h0:0<=(v * v) % 2147483587:=Int.emod_nonneg _ (by decide)
  have h1:(v * v) % 2147483587<2147483587:=Int.emod_lt_of_pos _ (by decide)
  generalize (v * v) % 2147483587=x at *
  exact q _ (by omega) (by omega)
end
set_option maxHeartbeats 4000000
theorem ζS3{p:Int->Prop}{l:List Int}{x:Int}(h:∀ z∈l,p z)(hx:p x):∀ z∈l++[x],p z:=fun z hz=>by
 rcases List.mem_append.mp hz with q | q
 ·exact h z q
 ·rw[List.mem_singleton.mp q];exact hx
def spζE(K:PySem.W.Frag):Sp:=fun vs H Q _=>∃(a:Addr) (ns:List Int) (st c:Nat) (way:Int),vs=[.ref a,.int st,.int c,.int way]/\SqL K H a (IL ns)/\ns.length<=63/\st<=63/\c<=100 /\
 ∀(l:Addr) (ds:List Int) (H':Hp),Same H H'->H l=none->H' l=some (.lst (IL ds))->ds.length=c->(∀ z∈ds,0<=z)->Q (.ref l) H'
section
variable{P:Program}{w:World}{K:PySem.W.Frag}{mg:Str->Option Value}{base:Heap}{t:Adr}
theorem scζE:FnScope ["script","start","count","way","total","folded","k","at","told"] ["script","start","count","way"] (ζ5 sζE):=⟨rfl,rfl,rfl,by decide +kernel,rfl,by decide +kernel,by decide +kernel⟩
theorem okζE (T:Txt K mg t):FnOk P w K mg base CX0 2 t.aζE t.dζE ["script","start","count","way"] (spζE K):=by
 refine T.fζE.ok scζE (fun vs H Q E h=>?_) (fun cdv A outer s H vs Q E hr h=>?_)
 ·obtain⟨a,ns,st,c,way,rfl,_⟩:=h
  rfl
 ·obtain⟨a,ns,st,c,way,rfl,hS,hn,hst,hc,q⟩:=h
  refine⟨_,(ζ2 (ζh (i:=4) scζE.nd rfl (Or.inl rfl) (ζk ζz (ζb (ζx4 K rfl) (by rfl) T.n_sum Boot.«sum» (ζ0 (ζN4 rfl (sc0:=ζ5 sζE) (N0:=["script","start","count","way","total","folded","k","at","told"]) (N':=["cell"]) (o:=1) (fr:=[]) ⟨rfl,by decide +kernel,by decide +kernel,by decide +kernel,rfl,by decide +kernel⟩ (ζX K (ζG (ζN K) (pv 0) (ζT (pv 1)) ζU)) (ζu (by decide)) (fun _ _ _ _=>(ζe (i:=0) (show List.Nodup (["cell"]:List Str) by decide +kernel) rfl (Or.inl rfl))) (fun _ _ _ _=>ζB) (fun _ _ _ _=>(ζk ζz (pv 0) (ζk ζw3 ζ4 ζ4)))) ζ3)) (ζk ζw3 ζ4 ζ4)))
   (ζ2 (ζL6 (i:=5) rfl scζE.nd rfl rfl (sc0:=ζ5 sζE) (N0:=["script","start","count","way","total","folded","k","at","told"]) (N':=["k"]) (o:=1) (fr:=[]) ⟨rfl,by decide +kernel,by decide +kernel,by decide +kernel,rfl,by decide +kernel⟩ (ζF rfl T.n_range (ζ0 (pv 2) ζ3)) (ζu (by decide)) (fun _ _ _ _=>(ζe (i:=0) (show List.Nodup (["k"]:List Str) by decide +kernel) rfl (Or.inl rfl))) (fun _ _ _ _=>ζB) (fun _ _ _ _=>(ζk ζS (ζk ζ12 ζ4 (pv 0)) ζ4)))
   (ζ2 (ζ81 PassesOwn.never rfl (ζN6 rfl T.n_range (ζ0 (pv 1) (ζ0 (ζb (ζi K) (by rfl) T.n_len Boot.«len» (ζ0 (pv 0) ζ3)) ζ3))) (ζe (i:=6) scζE.nd rfl (Or.inl rfl))
   (ζ2 (ζh (i:=7) scζE.nd rfl (Or.inl rfl) (ζk ζz (pv 6) (ζb (ζX1 rfl) (by rfl) T.n_max Boot.«max» (ζ0 ζ4 (ζ0 (pv 2) ζ3)))))
   (ζ6 (ζe1 (ζp ζS8 (pv 2) ζ4 (ζv _))
   (ζ6 (ζu3 (ζk ζz (ζk ζS (ζk ζ12 (ζr (ζd K) (pv 5) (pv 7) (fun _ _=>rfl)) ζ4) (ζr (ζd K) (pv 0) (pv 6) (fun _ _=>rfl))) (ζk ζw3 ζ4 ζ4)) (ζN8 (pv 5) (pv 7) ζo1)))
   ζn))))
   (ζ2 (ζh (i:=8) scζE.nd rfl (Or.inl rfl) (ζR ζ3))
   (ζ2 (ζ81 PassesOwn.never rfl (ζF rfl T.n_range (ζ0 (pv 2) ζ3)) (ζe (i:=6) scζE.nd rfl (Or.inl rfl))
   (ζ6 (ζe1 (PW.pt (ζG8 (ζp ζT8 (pv 3) ζ4 (ζv _)) (ζm5 (ζp ζS8 (pv 4) ζ4 (ζv _)))))
   (ζ2 (ζ51 (ζB1 K PySem.F.plainAttrs_list PySem.F.slot_list_append PySem.F.type_list_append ζg1 (pv 8) (ζ0 (ζk ζz (pv 4) ζ4) ζ3)))
   (ζ6 (ζh (i:=4) scζE.nd rfl (Or.inl rfl) (ζk ζ61 (pv 4) ζ4))))
   (ζ6 (ζ51 (ζB1 K PySem.F.plainAttrs_list PySem.F.slot_list_append PySem.F.type_list_append ζg1 (pv 8) (ζ0 (ζ8 (okζD T) (hr.mono (by decide)) rfl T.mζD T.fζD.kp T.bζD .nil ζt (ζ0 (ζr (ζd K) (pv 5) (pv 6) (fun _ _=>rfl)) (ζ0 (pv 6) ζ3))) ζ3)))))))
   (ζ6 (ζl (pv 8)))))))),?_⟩
  refine⟨_,rfl,_,rfl,(st:Int),rfl,a,IL ns,rfl,hS,fun l1 hl1=>?_⟩
  have s1:Same H (upd H l1 (.lst (cutV (IL ns) (some (st:Int)) none))):=same_at hl1
  obtain⟨ms,hms,hml⟩:∃ ms:List Int,cutV (IL ns) (some (st:Int)) none=IL ms/\ms.length<=63:=by
   refine⟨(ns.drop (HT.sIx (IL ns).length 0 (some (st:Int)))).take (HT.sIx (IL ns).length (IL ns).length none - HT.sIx (IL ns).length 0 (some (st:Int))),?_,?_⟩
   ·unfold cutV
    rw[ζW10,ζX10]
   ·rw[List.length_take,List.length_drop]
    omega
  refine⟨l1,rfl,⟨_,SqL.of ζ1⟩,ζc1 (K:=K) (a:=l1) (xs:=cutV (IL ns) (some (st:Int)) none) (fun i ys H2=>H2=upd H l1 (.lst (cutV (IL ns) (some (st:Int)) none))/\∃ rs:List Int,ys=IL rs/\rs.length=i/\i<=ms.length) ⟨rfl,[],rfl,rfl,Nat.zero_le _⟩ (by rw[hms,ζ7];exact ζm (by omega))
   (fun i ys H2 _ ⟨e,rs,ey,el,_⟩=>⟨e ▸ SqL.of ζ1,by rw[ey,ζ7];omega⟩) ?_ ?_⟩
  ·rintro i x ys H2 hi ⟨rfl,rs,rfl,el,hil⟩ S hSS
   rw[hms]at hi
   obtain⟨z,rfl,hz⟩:=ζJ1 hi
   have hlt:=(List.getElem?_eq_some_iff.mp hz).1
   refine nmY ?_
   refine⟨_,rfl,_,_,rfl,rfl,⟨by decide,by decide,by decide⟩,_,_,rfl,rfl,(by show(0:Int)<10 ^ 60;decide),?_⟩
   refine hSS _ _ ⟨rfl,rs++[z % 10 ^ 60],?_,?_,hlt⟩
   ·exact(ζl1 _ _).symm
   ·rw[List.length_append,el];rfl
  ·rintro ys H2 ⟨rfl,rs,rfl,el,_⟩ l2 hl2
   have s2:=ζy (o:=.lst (IL rs)) s1 hl2
   refine⟨l2,rs,rfl,SqL.of ζ1,_,_,rfl,rfl,⟨by decide,by decide,by decide⟩,_,_,rfl,rfl,(by show(0:Int)<10 ^ 60;decide),?_⟩
   have t0:0<=rs.sum % (10:Int) ^ ((60:Int).toNat):=Int.emod_nonneg _ (by decide)
   refine⟨_,rfl,(c:Int),rfl,by omega,by omega,ζD2 (lo:=0) (n:=((c:Int)).toNat) (fun i ys H3=>H3=upd (upd H l1 (.lst (cutV (IL ns) (some (st:Int)) none))) l2 (.lst (IL rs))/\∃ fs:List Int,ys=IL fs/\fs.length=i) ⟨rfl,[],rfl,rfl⟩ (ζm (by omega))
    (fun i ys H3 _ ⟨_,fs,e,el⟩=>by rw[e,ζ7];omega) ?_ ?_⟩
   ·rintro i ys H3 hi ⟨rfl,fs,rfl,el2⟩ S hSS
    refine nmY ?_
    refine⟨_,rfl,_,_,rfl,rfl,.inl ⟨by decide,by decide⟩,_,_,rfl,rfl,?_⟩
    refine hSS _ _ ⟨rfl,fs++[7 * (0+(i:Int))+5],?_,?_⟩
    ·exact(ζl1 _ _).symm
    ·rw[List.length_append,el2];rfl
   ·rintro ys H3 ⟨rfl,fs,rfl,el2⟩ l3 hl3
    have s3:=ζy (o:=.lst (IL fs)) s2 hl3
    have hl30:H l3=none:=s2.free hl3
    refine⟨_,rfl,_,rfl,a,_,rfl,.inl (s3.seq hS),(st:Int),((IL ns).length:Int),rfl,⟨by omega,by omega,by omega,by rw[ζ7];omega⟩,?_⟩
    refine ζV (lo:=(st:Int)) (n:=(((IL ns).length:Int) - (st:Int)).toNat) (fun j σ H4=>∃(fs:List Int) (v6 v7:Option V),σ=[some (.ref a),some (.int st),some (.int c),some (.int way),some (.int (rs.sum % (10:Int) ^ ((60:Int).toNat))),some (.ref l3),v6,v7,none]/\Same H H4/\H4 l3=some (.lst (IL fs))/\fs.length=c)
     ⟨fs,none,none,rfl,s3,ζ1,by rw[el2];simp⟩ ?_ ?_
    ·rintro j σ H4 hj ⟨gs,v6,v7,rfl,s4,h4,eg⟩
     rw[ζ7]at hj
     refine⟨_,rfl,_,rfl,_,_,rfl,_,_,rfl,rfl,?_,?_⟩
     ·show(0:Int)<if (c:Int) > 1 then (c:Int) else 1
      split <;> omega
     ·refine⟨_,rfl,_,_,rfl,rfl,_,rfl,?_⟩
      refine itd2 (fun hc0=>?_) (fun hc0=>?_)
      ·have hmax:(if (c:Int) > 1 then (c:Int) else 1)=(c:Int):=by split <;> omega
       have at0:0<=((st:Int)+(j:Int)) % (c:Int):=Int.emod_nonneg _ (by omega)
       have at1:((st:Int)+(j:Int)) % (c:Int)<(c:Int):=Int.emod_lt_of_pos _ hc0
       rw[hmax]
       generalize hat:((st:Int)+(j:Int)) % (c:Int)=at' at *
       obtain⟨f,hf⟩:∃ f,gs[at'.toNat]?=some f:=⟨_,List.getElem?_eq_getElem (by omega)⟩
       obtain⟨z,hz⟩:∃ z,ns[st+j]?=some z:=⟨_,List.getElem?_eq_getElem (by omega)⟩
       refine⟨_,rfl,_,rfl,l3,_,_,_,rfl,rfl,SqL.of h4,ζw (n:=at'.toNat) (by omega) (by rw[List.getElem?_map,hf];rfl),_,_,rfl,rfl,.inr ⟨by decide,by decide⟩,_,rfl,_,rfl,a,_,_,_,rfl,rfl,s4.seq hS,ζw (n:=st+j) (by omega) (by rw[List.getElem?_map,hz];rfl),_,_,rfl,rfl,_,_,rfl,rfl,⟨by decide,by decide,by decide⟩,_,_,rfl,rfl,(by show(0:Int)<10 ^ 60;decide),?_⟩
       refine⟨_,rfl,_,rfl,l3,_,_,at'.toNat,rfl,rfl,h4,?_,?_⟩
       ·rw[hat]
        unfold ixN
        rw[if_pos at0,if_pos (by rw[ζ7];omega)]
       ·refine⟨gs.set at'.toNat ((f * 31+z) % (10:Int) ^ ((60:Int).toNat)),_,_,rfl,ζs hl30 s4,?_,by rw[List.length_set];exact eg⟩
        rw[ζ1,ζd9]
      ·exact⟨gs,_,_,rfl,s4,h4,eg⟩
    ·rintro σ H4 ⟨gs,v6,v7,rfl,s4,h4,eg⟩
     refine⟨Nat.zero_le _,fun l5 hl5=>?_⟩
     have hl50:H l5=none:=s4.free hl5
     have n35:l3≠l5:=ζf h4 hl5
     refine⟨_,rfl,(c:Int),rfl,by omega,by omega,ζV (lo:=0) (n:=((c:Int)).toNat) (fun j σ H6=>∃(tot:Int) (ds:List Int) (v6 v7:Option V),σ=[some (.ref a),some (.int st),some (.int c),some (.int way),some (.int tot),some (.ref l3),v6,v7,some (.ref l5)]/\Same H H6/\H6 l3=some (.lst (IL gs))/\H6 l5=some (.lst (IL ds))/\ds.length=j/\(∀ z∈ds,0<=z)/\0<=tot)
      ⟨_,[],_,_,rfl,ζy s4 hl5,by rw[ζ9 n35];exact h4,ζ1,rfl,fun z hz=>(by cases hz),t0⟩ ?_ ?_⟩
     ·rintro j σ H6 hj ⟨tot,ds,w6,w7,rfl,s6,h63,h65,edl,hds,htot⟩
      have jc:j<c:=by omega
      have app:∀ r:Int,(upd H6 l5 (.lst (IL ds++[.int r]))) l5=some (.lst (IL (ds++[r]))):=fun r=>by rw[ζ1,ζl1]
      have dlen:(IL ds).length<sizeLine:=by rw[ζ7];exact ζm (by omega)
      obtain⟨f,hf⟩:∃ f,gs[j]?=some f:=⟨_,List.getElem?_eq_getElem (by omega)⟩
      refine⟨_,rfl,rfl,_,rfl,?_⟩
      refine itd2 (fun hw=>?_) (fun hw=>?_)
      ·refine⟨_,rfl,_,_,rfl,rfl,_,rfl,?_⟩
       refine itd2 (fun htp=>?_) (fun htp=>?_)
       ·refine⟨_,rfl,.inl ⟨rfl,_,SqL.of h65⟩,_,rfl,_,_,rfl,rfl,(by show(0:Int)<210;decide),l5,_,_,rfl,rfl,h65,dlen,?_⟩
        refine⟨_,rfl,_,_,rfl,rfl,⟨by decide,by decide⟩,?_⟩
        refine⟨_,ds++[tot % 210],_,_,rfl,ζs hl50 s6,by rw[ζ9 n35];exact h63,app _,by rw[List.length_append,edl];rfl,ζS3 hds (Int.emod_nonneg _ (by decide)),?_⟩
        omega
       ·refine⟨_,rfl,.inl ⟨rfl,_,SqL.of h65⟩,_,rfl,_,rfl,l3,_,_,_,rfl,rfl,SqL.of h63,ζw (n:=j) (by omega) (by rw[List.getElem?_map,hf];rfl),_,rfl,_,_,rfl,fun r r0 r1=>?_⟩
        refine⟨l5,_,_,rfl,rfl,h65,dlen,?_⟩
        exact⟨_,ds++[r],_,_,rfl,ζs hl50 s6,by rw[ζ9 n35];exact h63,app _,by rw[List.length_append,edl];rfl,ζS3 hds r0,htot⟩
      ·refine⟨_,rfl,.inl ⟨rfl,_,SqL.of h65⟩,_,rfl,_,rfl,l3,_,_,_,rfl,rfl,SqL.of h63,ζw (n:=j) (by omega) (by rw[List.getElem?_map,hf];rfl),_,rfl,_,_,rfl,fun r r0 r1=>?_⟩
       refine⟨l5,_,_,rfl,rfl,h65,dlen,?_⟩
       exact⟨_,ds++[r],_,_,rfl,ζs hl50 s6,by rw[ζ9 n35];exact h63,app _,by rw[List.length_append,edl];rfl,ζS3 hds r0,htot⟩
     ·rintro σ H6 ⟨tot,ds,w6,w7,rfl,s6,h63,h65,edl,hds,htot⟩
      exact⟨_,rfl,q l5 ds H6 s6 hl50 h65 (by omega) hds⟩
end
set_option maxHeartbeats 4000000
theorem PairsV.good{H:Hp}{xs:List V}{ps:List (Int × Int)}{v:V}{p:Int × Int}{n:Int}(h:∀ p∈ps,0<=p.1/\p.1<n/\0<=p.2/\p.2<n)(hp:0<=p.1/\p.1<n/\0<=p.2/\p.2<n):∀ q∈ps++[p],0<=q.1/\q.1<n/\0<=q.2/\q.2<n:=fun q hq=>by
 rcases List.mem_append.mp hq with z | z
 ·exact h q z
 ·rw[List.mem_singleton.mp z];exact hp
def spζF(K:PySem.W.Frag):Sp:=fun vs H Q _=>∃(a:Addr) (ds:List Int) (n:Int) (hang:Bool),vs=[.ref a,.int n,.bl hang]/\SqL K H a (IL ds)/\ds.length<=100/\(∀ z∈ds,0<=z)/\1<=n/\n<=1000 /\
 ∀(l:Addr) (xs:List V) (ps:List (Int × Int)) (H':Hp),Same H H'->H l=none->H' l=some (.lst xs)->PairsV H' xs ps->ps.length=ds.length->(∀ p∈ps,0<=p.1/\p.1<n/\0<=p.2/\p.2<n)->Q (.ref l) H'
section
variable{P:Program}{w:World}{K:PySem.W.Frag}{mg:Str->Option Value}{base:Heap}{t:Adr}
theorem scζF:FnScope ["draws","places","hang","ties","k","one","other","ends","turn"] ["draws","places","hang"] (ζ5 sζF):=⟨rfl,rfl,rfl,by decide +kernel,rfl,by decide +kernel,by decide +kernel⟩
theorem okζF (T:Txt K mg t):FnOk P w K mg base CX0 1 t.aζF t.dζF ["draws","places","hang"] (spζF K):=by
 refine T.fζF.ok scζF (fun vs H Q E h=>?_) (fun cdv A outer s H vs Q E hr h=>?_)
 ·obtain⟨a,ds,n,hang,rfl,_⟩:=h
  rfl
 ·obtain⟨a,ds,n,hang,rfl,hS,hdl,hds,n1,n2,q⟩:=h
  refine⟨_,(ζ2 (ζh (i:=3) scζF.nd rfl (Or.inl rfl) (ζR ζ3))
   (ζ2 (ζ81 PassesOwn.never rfl (ζF rfl T.n_range (ζ0 (ζb (ζi K) (by rfl) T.n_len Boot.«len» (ζ0 (pv 0) ζ3)) ζ3)) (ζe (i:=4) scζF.nd rfl (Or.inl rfl))
   (ζ2 (ζh (i:=5) scζF.nd rfl (Or.inl rfl) (ζk ζz (ζr (ζd K) (pv 0) (pv 4) (fun _ _=>rfl)) (pv 1)))
   (ζ2 (ζh (i:=6) scζF.nd rfl (Or.inl rfl) (ζk ζz (ζk ζ61 (ζr (ζd K) (pv 0) (pv 4) (fun _ _=>rfl)) (pv 1)) (pv 1)))
   (ζ2 (ζe1 (PW.pt (ζG8 (ζN1 (pv 2)) (ζm5 (ζp ζR8 (pv 4) (ζk ζj2 (pv 1) ζ4) (ζv _)))))
   (ζ2 (ζh (i:=7) scζF.nd rfl (Or.inl rfl) (ζq1 (ζ0 (ζk ζz (ζr (ζd K) (pv 0) (pv 4) (fun _ _=>rfl)) (ζk ζS (pv 4) ζ4)) (ζ0 (ζk ζS (pv 4) ζ4) ζ3))))
   (ζ2 (ζh (i:=5) scζF.nd rfl (Or.inl rfl) (ζr (ζj K) (pv 7) (ζk ζz (ζk ζ61 (ζr (ζd K) (pv 0) (pv 4) (fun _ _=>rfl)) ζ4) ζ4) (fun _ _=>rfl)))
   (ζ6 (ζh (i:=6) scζF.nd rfl (Or.inl rfl) (ζr (ζj K) (pv 7) (ζk ζj2 ζ4 (ζk ζz (ζk ζ61 (ζr (ζd K) (pv 0) (pv 4) (fun _ _=>rfl)) ζ4) ζ4)) (fun _ _=>rfl))))))
   ζn)
   (ζ6 (ζ51 (ζB1 K PySem.F.plainAttrs_list PySem.F.slot_list_append PySem.F.type_list_append ζg1 (pv 3) (ζ0 (ζq1 (ζ0 (pv 5) (ζ0 (pv 6) ζ3))) ζ3))))))))
   (ζ2 (ζh (i:=8) scζF.nd rfl (Or.inl rfl) (ζk ζz (ζb (ζx4 K rfl) (by rfl) T.n_sum Boot.«sum» (ζ0 (pv 0) ζ3)) (ζb (ζX1 rfl) (by rfl) T.n_max Boot.«max» (ζ0 ζ4 (ζ0 (ζb (ζi K) (by rfl) T.n_len Boot.«len» (ζ0 (pv 3) ζ3)) ζ3)))))
   (ζ6 (ζl (ζk ζV8 (ζG (ζN K) (pv 3) (ζT (pv 8)) ζU) (ζG (ζN K) (pv 3) ζU (ζT (pv 8))))))))),?_⟩
  refine⟨Nat.zero_le _,fun l hl=>?_⟩
  refine⟨_,rfl,a,_,rfl,.inl ((same_at hl).seq hS),_,rfl,by omega,by rw[ζ7];omega,ζV (lo:=0) (n:=((IL ds).length:Int).toNat) (fun i σ H2=>∃(xs:List V) (ps:List (Int × Int)) (v4 v5 v6 v7:Option V),σ=[some (.ref a),some (.int n),some (.bl hang),some (.ref l),v4,v5,v6,v7,none]/\Same H H2/\H2 l=some (.lst xs)/\PairsV H2 xs ps/\ps.length=i/\∀ p∈ps,0<=p.1/\p.1<n/\0<=p.2/\p.2<n)
   ⟨[],[],none,none,none,none,rfl,same_at hl,ζ1,PairsV.nil,rfl,fun p hp=>(by cases hp)⟩ ?_ ?_⟩
  ·rintro i σ H2 hi ⟨xs,ps,v4,v5,v6,v7,rfl,s2,h2,hP,hlp,hb⟩
   have hi':i<ds.length:=by rw[ζ7]at hi;omega
   obtain⟨d,hd⟩:∃ d,ds[i]?=some d:=⟨_,List.getElem?_eq_getElem hi'⟩
   have d0:0<=d:=hds d (List.mem_of_getElem? hd)
   have iD:atI (IL ds) (0+(i:Int))=some (.int d):=ζw (n:=i) (by omega) (ζ05 hd)
   have xl:xs.length<sizeLine:=ζm (by rw[hP.1];omega)
   have put:∀(x y:Int) (H3:Hp) (r:Addr),Same H2 H3->H3 r=none->0<=x->x<n->0<=y->y<n->∀ u5 u6 u7:Option V,∃(xs':List V) (ps':List (Int × Int)) (v4 v5 v6 v7:Option V),
     ([some (.ref a),some (.int n),some (.bl hang),some (.ref l),some (.int (0+(i:Int))),u5,u6,u7,none]:List (Option V))=[some (.ref a),some (.int n),some (.bl hang),some (.ref l),v4,v5,v6,v7,none] /\
     Same H (upd (upd H3 r (.tup [.int x,.int y])) l (.lst (xs++[.ref r])))/\(upd (upd H3 r (.tup [.int x,.int y])) l (.lst (xs++[.ref r]))) l=some (.lst xs')/\PairsV (upd (upd H3 r (.tup [.int x,.int y])) l (.lst (xs++[.ref r]))) xs' ps'/\ps'.length=i+1/\∀ p∈ps',0<=p.1/\p.1<n/\0<=p.2/\p.2<n:=by
    intro x y H3 r s3 hr x0 x1 y0 y1 u5 u6 u7
    have h3:=s3 _ _ h2
    have s4:=ζy (o:=.tup [.int x,.int y]) s3 hr
    have nlr:l≠r:=ζf h3 hr
    refine⟨xs++[.ref r],ps++[(x,y)],_,_,_,_,rfl,ζs hl (s2.trans s4),ζ1,?_,by rw[List.length_append,hlp];rfl,PairsV.good (H:=H) (xs:=[]) (v:=.non) hb ⟨x0,x1,y0,y1⟩⟩
    have hP4:PairsV (upd H3 r (.tup [.int x,.int y])) (xs++[.ref r]) (ps++[(x,y)]):=(hP.same s4).snoc ⟨r,rfl,ζ1⟩
    refine⟨hP4.1,fun j p e=>?_⟩
    obtain⟨v,e1,tt,e2,e3⟩:=hP4.2 j p e
    exact⟨v,e1,tt,e2,by rw[ζ9 (ζV6 e3 (s4 _ _ h2) (fun z=>nomatch z))];exact e3⟩
   refine⟨_,rfl,_,rfl,a,_,_,_,rfl,rfl,s2.seq hS,iD,_,rfl,_,_,rfl,rfl,(by show 0<n;omega),?_⟩
   refine⟨_,rfl,_,rfl,a,_,_,_,rfl,rfl,s2.seq hS,iD,_,rfl,_,_,rfl,rfl,⟨by show 0<n;omega,by show n<1073741824;omega⟩,_,rfl,_,_,rfl,rfl,(by show 0<n;omega),?_⟩
   have o0:0<=d % n:=Int.emod_nonneg _ (by omega)
   have o1:d % n<n:=Int.emod_lt_of_pos _ (by omega)
   have q0:0<=d / n % n:=Int.emod_nonneg _ (by omega)
   have q1:d / n % n<n:=Int.emod_lt_of_pos _ (by omega)
   refine⟨_,rfl,_,rfl,?_⟩
   refine itb (fun hh=>?_) (fun hh=>?_)
   ·refine⟨_,rfl,_,rfl,_,_,rfl,rfl,_,_,rfl,rfl,_,rfl,?_⟩
    refine itd2 (fun hk=>?_) (fun hk=>?_)
    ·have k1:(0:Int)<0+(i:Int)+1:=by omega
     have r0:0<=d % (0+(i:Int)+1):=Int.emod_nonneg _ (by omega)
     have r1:d % (0+(i:Int)+1)<0+(i:Int)+1:=Int.emod_lt_of_pos _ k1
     refine⟨_,rfl,_,rfl,a,_,_,_,rfl,rfl,s2.seq hS,iD,_,rfl,_,_,rfl,rfl,_,_,rfl,rfl,k1,_,rfl,_,_,rfl,rfl,(by show 2<=sizeLine;decide),fun e he=>?_⟩
     have se:=same_at (o:=.tup [.int (d % (0+(i:Int)+1)),.int (0+(i:Int)+1)]) he
     have m0:0<=d / 105 % 2:=Int.emod_nonneg _ (by decide)
     have m1:d / 105 % 2<2:=Int.emod_lt_of_pos _ (by decide)
     obtain⟨x,hx,x0,x1⟩:∃ x:Int,atI ([.int (d % (0+(i:Int)+1)),.int (0+(i:Int)+1)]:List V) (d / 105 % 2)=some (.int x)/\0<=x/\x<n:=by
      rcases(by omega:d / 105 % 2=0\/d / 105 % 2=1) with e | e
      ·rw[e];exact⟨_,rfl,r0,by omega⟩
      ·rw[e];exact⟨_,rfl,by omega,by omega⟩
     obtain⟨y,hy,y0,y1⟩:∃ y:Int,atI ([.int (d % (0+(i:Int)+1)),.int (0+(i:Int)+1)]:List V) (1 - d / 105 % 2)=some (.int y)/\0<=y/\y<n:=by
      rcases(by omega:d / 105 % 2=0\/d / 105 % 2=1) with e | e
      ·rw[e];exact⟨_,rfl,by omega,by omega⟩
      ·rw[e];exact⟨_,rfl,r0,by omega⟩
     have c2:CDiv d 105:=⟨by decide,by decide⟩
     refine⟨_,rfl,_,rfl,_,rfl,a,_,_,_,rfl,rfl,(s2.trans se).seq hS,iD,_,_,rfl,rfl,c2,_,_,rfl,rfl,(by show(0:Int)<2;decide),e,_,_,_,rfl,rfl,SqT.of ζ1,hx,?_⟩
     refine⟨_,rfl,_,rfl,_,rfl,a,_,_,_,rfl,rfl,(s2.trans se).seq hS,iD,_,_,rfl,rfl,c2,_,_,rfl,rfl,(by show(0:Int)<2;decide),_,_,rfl,rfl,e,_,_,_,rfl,rfl,SqT.of ζ1,hy,?_⟩
     refine⟨_,rfl,.inl ⟨rfl,_,SqL.of (se _ _ h2)⟩,_,rfl,_,rfl,(by show 2<=sizeLine;decide),fun r hr=>?_⟩
     exact⟨l,xs,_,rfl,rfl,(ζy se hr) _ _ h2,xl,put x y _ r se hr x0 x1 y0 y1 _ _ _⟩
    ·refine⟨_,rfl,.inl ⟨rfl,_,SqL.of h2⟩,_,rfl,_,rfl,(by show 2<=sizeLine;decide),fun r hr=>?_⟩
     exact⟨l,xs,_,rfl,rfl,(same_at hr) _ _ h2,xl,put _ _ _ r (Same.refl _) hr o0 o1 q0 q1 _ _ _⟩
   ·refine⟨_,rfl,.inl ⟨rfl,_,SqL.of h2⟩,_,rfl,_,rfl,(by show 2<=sizeLine;decide),fun r hr=>?_⟩
    exact⟨l,xs,_,rfl,rfl,(same_at hr) _ _ h2,xl,put _ _ _ r (Same.refl _) hr o0 o1 q0 q1 _ _ _⟩
  ·rintro σ H2 ⟨xs,ps,v4,v5,v6,v7,rfl,s2,h2,hP,hlp,hb⟩
   have hlp:ps.length=ds.length:=by rw[hlp,ζ7];simp
   refine⟨_,rfl,a,ds,rfl,s2.seq hS,_,rfl,l,xs,rfl,.inl (SqL.of h2),_,_,rfl,_,_,rfl,rfl,?_,?_⟩
   ·show(0:Int)<if (xs.length:Int) > 1 then (xs.length:Int) else 1
    split <;> omega
   ·generalize hT:ds.sum % (if (xs.length:Int) > 1 then (xs.length:Int) else 1)=T0
    have T1:0<=T0:=by rw[<- hT];exact Int.emod_nonneg _ (by split <;> omega)
    have T2:T0.toNat<=xs.length:=by
     have:T0<(if (xs.length:Int) > 1 then (xs.length:Int) else 1):=by rw[<- hT];exact Int.emod_lt_of_pos _ (by split <;> omega)
     split at this <;> omega
    have e1:cutV xs (some T0) none=xs.drop T0.toNat:=ζL3 T1 T2
    have e2:cutV xs none (some T0)=xs.take T0.toNat:=ζD12 T1 T2
    refine⟨_,rfl,_,rfl,T0,congrArg V.int hT,l,xs,rfl,SqL.of h2,fun r1 hr1=>?_⟩
    have s3:=same_at (o:=.lst (cutV xs (some T0) none)) hr1
    refine⟨_,rfl,_,rfl,T0,congrArg V.int hT,l,xs,rfl,SqL.of (s3 _ _ h2),fun r2 hr2=>?_⟩
    have s4:=ζy (o:=.lst (cutV xs none (some T0))) s3 hr2
    have n12:r1≠r2:=ζf ζ1 hr2
    refine⟨r1,r2,_,_,rfl,rfl,by rw[ζ9 n12,ζ1],ζ1,?_,fun r hr=>?_⟩
    ·rw[e1,e2,List.length_drop,List.length_take]
     exact ζu1 (by rw[hP.1];omega)
    ·have s5:=ζy (o:=.lst (cutV xs (some T0) none++cutV xs none (some T0))) s4 hr
     refine q r _ (ps.drop T0.toNat++ps.take T0.toNat) _ (s2.trans s5) ((s2.trans s4).free hr) ζ1 ?_ ?_ fun p hp=>?_
     ·have z:=((hP.same s5).drop T0.toNat).app ((hP.same s5).take T0.toNat)
      rw[<- e1,<- e2]at z
      exact z
     ·rw[List.length_append,List.length_drop,List.length_take,<- hP.1]
      have:=hP.1
      omega
     ·rcases List.mem_append.mp hp with z | z
      ·exact hb p (List.mem_of_mem_drop z)
      ·exact hb p (List.mem_of_mem_take z)
end
set_option maxHeartbeats 4000000
def spζG(K:PySem.W.Frag):Sp:=fun vs H Q _=>∃(a:Addr) (ns:List Int) (most count:Int),vs=[.ref a,.int most,.int count]/\SqL K H a (IL ns)/\ns.length<=63/\1<=most/\most<=14/\0<=count/\count<=30 /\
 ∀(r l:Addr) (n:Int) (xs:List V) (ps:List (Int × Int)) (H':Hp),Same H H'->H' r=some (.tup [.int n,.ref l])->H l=none->H' l=some (.lst xs)->PairsV H' xs ps->ζE n ps->n<=most->(ps.length:Int)<=count->Q (.ref r) H'
section
variable{P:Program}{w:World}{K:PySem.W.Frag}{mg:Str->Option Value}{base:Heap}{t:Adr}
theorem scζG:FnScope ["script","most","count","head","places","many","draws"] ["script","most","count"] (ζ5 sζG):=⟨rfl,rfl,rfl,by decide +kernel,rfl,by decide +kernel,by decide +kernel⟩
theorem okζG (T:Txt K mg t):FnOk P w K mg base CX0 3 t.aζG t.dζG ["script","most","count"] (spζG K):=by
 refine T.fζG.ok scζG (fun vs H Q E h=>?_) (fun cdv A outer s H vs Q E hr h=>?_)
 ·obtain⟨a,ns,most,count,rfl,_⟩:=h
  rfl
 ·obtain⟨a,ns,most,count,rfl,hS,hn,m1,m2,c1,c2,q⟩:=h
  refine⟨_,(ζ2 (ζh (i:=3) scζG.nd rfl (Or.inl rfl) (ζ8 (okζC T) (hr.mono (by decide)) rfl T.mζC T.fζC.kp T.bζC .nil ζt (ζ0 (pv 0) (ζ0 ζ4 ζ3))))
   (ζ2 (ζh (i:=4) scζG.nd rfl (Or.inl rfl) (ζk ζS ζ4 (ζk ζz (pv 3) (pv 1))))
   (ζ2 (ζh (i:=5) scζG.nd rfl (Or.inl rfl) (ζb (ζP2 rfl) (by rfl) T.n_min Boot.«min» (ζ0 (pv 2) (ζ0 (ζk ζS (ζk ζz (ζk ζ61 (pv 3) (pv 1)) (ζk ζS (pv 2) ζ4)) (ζk ζ12 (ζk ζz (ζk ζ61 (pv 3) ζ4) ζ4) (pv 4))) ζ3))))
   (ζ2 (ζh (i:=6) scζG.nd rfl (Or.inl rfl) (ζ8 (okζE T) (hr.mono (by decide)) rfl T.mζE T.fζE.kp T.bζE .nil ζt (ζ0 (pv 0) (ζ0 ζ4 (ζ0 (pv 5) (ζ0 (ζk ζz (ζk ζ61 (pv 3) ζ4) ζ4) ζ3))))))
   (ζ6 (ζl (ζq1 (ζ0 (pv 4) (ζ0 (ζ8 (okζF T) (hr.mono (by decide)) rfl T.mζF T.fζF.kp T.bζF .nil ζt (ζ0 (pv 6) (ζ0 (pv 4) (ζ0 (ζA1 ζS8 (ζk ζz (ζk ζ61 (pv 3) ζ4) ζ4) ζ4 (ζv _)) ζ3)))) ζ3))))))))),?_⟩
  refine⟨_,rfl,a,ns,0,rfl,hS,by decide,fun hd h0 h1=>?_⟩
  have n0:0<=hd % most:=Int.emod_nonneg _ (by omega)
  have n1:hd % most<most:=Int.emod_lt_of_pos _ (by omega)
  refine⟨_,rfl,_,rfl,_,_,rfl,rfl,(by show 0<most;omega),_,_,rfl,rfl,?_⟩
  refine⟨_,rfl,_,rfl,_,rfl,_,_,rfl,rfl,⟨by show 0<most;omega,by show most<1073741824;omega⟩,_,rfl,_,_,rfl,rfl,_,_,rfl,rfl,(by show 0<count+1;omega),_,rfl,_,_,rfl,rfl,⟨by decide,by decide⟩,_,_,rfl,rfl,(by show(0:Int)<2;decide),_,rfl,_,_,rfl,rfl,.inr ⟨by show -(2 ^ 64)<1+hd % most;omega,by show 1+hd % most<2 ^ 64;omega⟩,_,_,rfl,rfl,_,_,rfl,?_⟩
  have e0:0<=hd / most % (count+1):=Int.emod_nonneg _ (by omega)
  have f0:0<=hd / 97 % 2:=Int.emod_nonneg _ (by decide)
  have g0:0<=hd / 97 % 2 * (1+hd % most):=Int.mul_nonneg f0 (by omega)
  obtain⟨c,hc⟩:∃ c:Nat,(if hd / most % (count+1)+hd / 97 % 2 * (1+hd % most)<count then hd / most % (count+1)+hd / 97 % 2 * (1+hd % most) else count)=(c:Int) :=
   ⟨(if hd / most % (count+1)+hd / 97 % 2 * (1+hd % most)<count then hd / most % (count+1)+hd / 97 % 2 * (1+hd % most) else count).toNat,by split <;> omega⟩
  have k1:(c:Int)<=count:=by rw[<- hc];split <;> omega
  refine⟨_,rfl,_,rfl,_,rfl,_,_,rfl,rfl,⟨by decide,by decide⟩,_,_,rfl,rfl,(by show(0:Int)<2;decide),a,ns,1,c,_,congrArg (fun z:Int=>[V.ref a,V.int 1,V.int z,V.int (hd / 194 % 2)]) hc,hS,hn,by decide,by omega,fun l ds H1 s1 hl0 hl1 edl hds=>?_⟩
  refine⟨_,rfl,_,rfl,_,rfl,_,rfl,_,_,rfl,rfl,⟨by decide,by decide⟩,_,_,rfl,rfl,(by show(0:Int)<3;decide),_,_,rfl,rfl,l,ds,_,_,rfl,SqL.of hl1,by omega,hds,(by show 1<=1+hd % most;omega),(by show 1+hd % most<=1000;omega),fun l2 xs ps H2 s2 hl20 hl21 hP ePl hb=>?_⟩
  refine⟨(by show 2<=sizeLine;decide),fun r hr=>?_⟩
  have s3:=same_at (o:=.tup [.int (1+hd % most),.ref l2]) hr
  exact q r l2 (1+hd % most) xs ps _ ((s1.trans s2).trans s3) ζ1 (s1.free hl20) (s3 _ _ hl21) (hP.same s3) ⟨by omega,by omega,by omega,hb⟩ (by omega) (by omega)
end
set_option maxHeartbeats 4000000
def spζH(K:PySem.W.Frag):Sp:=fun vs H Q _=>∃(a:Addr) (ns:List Int) (c:Nat),vs=[.ref a,.int c]/\SqL K H a (IL ns)/\ns.length<=63/\c<=30 /\
 ∀(r:Addr) (l:List Int) (H':Hp),Same H H'->H r=none->H' r=some (.lst (IL l))->l.length=c->Told l->Q (.ref r) H'
section
variable{P:Program}{w:World}{K:PySem.W.Frag}{mg:Str->Option Value}{base:Heap}{t:Adr}
theorem scζH:FnScope ["script","count","folded","k","told","m"] ["script","count"] (ζ5 sζH):=⟨rfl,rfl,rfl,by decide +kernel,rfl,by decide +kernel,by decide +kernel⟩
theorem okζH (T:Txt K mg t):FnOk P w K mg base CX0 2 t.aζH t.dζH ["script","count"] (spζH K):=by
 refine T.fζH.ok scζH (fun vs H Q E h=>?_) (fun cdv A outer s H vs Q E hr h=>?_)
 ·obtain⟨a,ns,c,rfl,_⟩:=h
  rfl
 ·obtain⟨a,ns,c,rfl,hA,hn63,hc,q⟩:=h
  refine⟨_,(ζ2 (ζL6 (i:=2) rfl scζH.nd rfl rfl (sc0:=ζ5 sζH) (N0:=["script","count","folded","k","told","m"]) (N':=["k"]) (o:=1) (fr:=[]) ⟨rfl,by decide +kernel,by decide +kernel,by decide +kernel,rfl,by decide +kernel⟩ (ζF rfl T.n_range (ζ0 (pv 1) ζ3)) (ζu (by decide)) (fun _ _ _ _=>(ζe (i:=0) (show List.Nodup (["k"]:List Str) by decide +kernel) rfl (Or.inl rfl))) (fun _ _ _ _=>ζB) (fun _ _ _ _=>(ζk ζS (ζk ζ12 ζ4 (pv 0)) ζ4)))
   (ζ2 (ζ81 PassesOwn.never rfl (ζF rfl T.n_range (ζ0 (ζb (ζi K) (by rfl) T.n_len Boot.«len» (ζ0 (pv 0) ζ3)) ζ3)) (ζe (i:=3) scζH.nd rfl (Or.inl rfl))
   (ζ6 (ζe1 (ζp ζS8 (pv 1) ζ4 (ζv _))
   (ζ6 (ζu3 (ζk ζz (ζk ζS (ζk ζ12 (ζr (ζd K) (pv 2) (ζk ζz (pv 3) (pv 1)) (fun _ _=>rfl)) ζ4) (ζr (ζd K) (pv 0) (pv 3) (fun _ _=>rfl))) (ζk ζw3 ζ4 ζ4)) (ζN8 (pv 2) (ζk ζz (pv 3) (pv 1)) ζo1)))
   ζn)))
   (ζ2 (ζh (i:=4) scζH.nd rfl (Or.inl rfl) (ζR ζ3))
   (ζ2 (ζ81 PassesOwn.never rfl (ζF rfl T.n_range (ζ0 (pv 1) ζ3)) (ζe (i:=3) scζH.nd rfl (Or.inl rfl))
   (ζ2 (ζh (i:=5) scζH.nd rfl (Or.inl rfl) (ζ8 (okζD T) (hr.mono (by decide)) rfl T.mζD T.fζD.kp T.bζD .nil ζt (ζ0 (ζr (ζd K) (pv 2) (pv 3) (fun _ _=>rfl)) (ζ0 (ζk ζS ζ4 (pv 3)) ζ3))))
   (ζ6 (ζ51 (ζB1 K PySem.F.plainAttrs_list PySem.F.slot_list_append PySem.F.type_list_append ζg1 (pv 4) (ζ0 (ζr (ζd K) (ζR (ζ0 (ζk ζz (ζk ζ61 (pv 5) ζ4) ζ4) (ζ0 (ζk ζj2 (ζk ζz (ζk ζ61 (pv 5) ζ4) ζ4) ζ4) (ζ0 ζ4 (ζ0 (ζk ζj2 (ζk ζz (ζr (ζd K) (pv 2) (pv 3) (fun _ _=>rfl)) (ζk ζ12 ζ4 (ζk ζw3 ζ4 ζ4))) (ζk ζw3 ζ4 ζ4)) ζ3))))) (ζk ζz (pv 5) ζ4) (fun _ _=>rfl)) ζ3))))))
   (ζ6 (ζl (pv 4))))))),?_⟩
  have four:4<=sizeLine:=by decide
  refine⟨_,rfl,(c:Int),rfl,by omega,by omega,ζD2 (lo:=0) (n:=((c:Int)).toNat) (fun i ys H3=>H3=H/\∃ fs:List Int,ys=IL fs/\fs.length=i) ⟨rfl,[],rfl,rfl⟩ (ζm (by omega)) (fun i ys H3 _ ⟨_,fs,e,el⟩=>by rw[e,ζ7];omega) ?_ ?_⟩
  ·rintro i ys H3 hi ⟨rfl,fs,rfl,el2⟩ S hSS
   refine nmY ?_
   refine⟨_,rfl,_,_,rfl,rfl,.inl ⟨by decide,by decide⟩,_,_,rfl,rfl,?_⟩
   refine hSS _ _ ⟨rfl,fs++[5 * (0+(i:Int))+2],?_,?_⟩
   ·exact(ζl1 _ _).symm
   ·rw[List.length_append,el2];rfl
  rintro ys H3 ⟨rfl,fs,rfl,el2⟩ l3 hl3
  have s3:=same_at (o:=.lst (IL fs)) hl3
  refine nm ?_
  dsimp only
  refine⟨_,rfl,a,_,rfl,.inl (s3.seq hA),_,rfl,by omega,by rw[ζ7];omega,ζV (lo:=0) (n:=((IL ns).length:Int).toNat) (fun j σ H4=>∃(fs:List Int) (v3:Option V),σ=[some (.ref a),some (.int c),some (.ref l3),v3,none,none]/\Same H3 H4/\H4 l3=some (.lst (IL fs))/\fs.length=c) ⟨fs,none,rfl,s3,ζ1,by rw[el2];omega⟩ ?_ ?_⟩
  ·rintro j σ H4 hj ⟨gs,v3,rfl,s4,h4,eg⟩
   rw[ζ7]at hj
   refine nm ?_
   dsimp only
   refine⟨_,rfl,_,_,rfl,rfl,_,rfl,?_⟩
   refine itd2 (fun hc0=>?_) (fun _=>⟨gs,_,rfl,s4,h4,eg⟩)
   have at0:0<=(0+(j:Int)) % (c:Int):=Int.emod_nonneg _ (by omega)
   have at1:(0+(j:Int)) % (c:Int)<(c:Int):=Int.emod_lt_of_pos _ hc0
   generalize hat:(0+(j:Int)) % (c:Int)=at' at *
   obtain⟨f,hf⟩:∃ f,gs[at'.toNat]?=some f:=⟨_,List.getElem?_eq_getElem (by omega)⟩
   obtain⟨z,hz⟩:∃ z,ns[j]?=some z:=⟨_,List.getElem?_eq_getElem (by omega)⟩
   refine⟨_,rfl,_,rfl,_,rfl,_,_,rfl,rfl,hc0,l3,_,_,_,rfl,rfl,SqL.of h4,by rw[hat];exact ζw (n:=at'.toNat) (by omega) (ζ05 hf),_,_,rfl,rfl,.inr ⟨by decide,by decide⟩,_,rfl,_,rfl,a,_,_,_,rfl,rfl,s4.seq hA,ζw (n:=j) (by omega) (ζ05 hz),_,_,rfl,rfl,_,_,rfl,rfl,⟨by decide,by decide,by decide⟩,_,_,rfl,rfl,(by show(0:Int)<10 ^ 60;decide),?_⟩
   refine⟨_,rfl,_,rfl,_,rfl,_,_,rfl,rfl,hc0,l3,_,_,at'.toNat,rfl,rfl,h4,?_,?_⟩
   ·rw[hat]
    unfold ixN
    rw[if_pos at0,if_pos (by rw[ζ7];omega)]
   ·refine⟨gs.set at'.toNat ((f * 7+z) % (10:Int) ^ ((60:Int).toNat)),_,rfl,ζs hl3 s4,?_,by rw[List.length_set];exact eg⟩
    rw[ζ1,ζd9]
  rintro σ H4 ⟨gs,v3,rfl,s4,h4,eg⟩
  refine⟨Nat.zero_le _,fun l5 hl5=>?_⟩
  have n35:l3≠l5:=ζf h4 hl5
  have hl50:H3 l5=none:=s4.free hl5
  have u5:=same_at (o:=.lst []) hl5
  have s5:=s4.trans u5
  have h35:=u5 _ _ h4
  have h55:(upd H4 l5 (.lst [])) l5=some (.lst (IL [])):=ζ1
  generalize upd H4 l5 (.lst [])=H5 at *
  refine nm ?_
  dsimp only
  refine⟨_,rfl,_,rfl,by omega,by omega,ζV (lo:=0) (n:=((c:Int)).toNat) (fun j σ H6=>∃(L:List Int) (v3 v5:Option V),σ=[some (.ref a),some (.int c),some (.ref l3),v3,some (.ref l5),v5]/\Same H3 H6/\H6 l3=some (.lst (IL gs))/\H6 l5=some (.lst (IL L))/\L.length=j/\Told L) ⟨[],v3,none,rfl,s5,h35,h55,rfl,fun z hz=>(by cases hz)⟩ ?_ ?_⟩
  rotate_left
  ·rintro σ H6 ⟨L,w3,w5,rfl,s6,_,h56,hL,hT⟩
   exact⟨_,rfl,q l5 L H6 s6 hl50 h56 (by omega) hT⟩
  rintro j σ H6 hj ⟨L,w3,w5,rfl,s6,h36,h56,hL,hT⟩
  obtain⟨f,hf⟩:∃ f,gs[j]?=some f:=⟨_,List.getElem?_eq_getElem (by omega)⟩
  have hfa:atI (IL gs) (0+(j:Int))=some (.int f):=ζw (n:=j) (by omega) (ζ05 hf)
  refine nm ?_
  dsimp only
  refine⟨_,rfl,_,rfl,l3,_,_,_,rfl,rfl,SqL.of h36,hfa,_,rfl,_,_,rfl,rfl,_,_,rfl,fun m m0 m1=>?_⟩
  refine nm ?_
  dsimp only
  have d8:0<=m / 8:=by omega
  refine⟨_,rfl,.inl ⟨rfl,_,SqL.of h56⟩,_,rfl,_,_,rfl,rfl,⟨by decide,by decide⟩,_,_,rfl,rfl,(by show(0:Int)<5;decide),_,rfl,_,_,rfl,rfl,⟨by decide,by decide⟩,_,_,rfl,rfl,(by show(0:Int)<19;decide),_,_,rfl,rfl,_,rfl,_,rfl,l3,_,_,_,rfl,rfl,SqL.of h36,hfa,_,_,rfl,rfl,⟨by decide,by decide,by decide⟩,_,_,rfl,rfl,.inl ⟨by decide,by decide⟩,_,_,rfl,rfl,(by show(0:Int)<2 * 10 ^ 59;decide),_,_,rfl,rfl,⟨by decide,by decide,by decide⟩,_,_,rfl,rfl,four,fun c4 hc4=>?_⟩
  obtain⟨x,hx,hxb⟩:∃ x:Int,atI (IL [m / 8 % 5,m / 8 % 19 - 9,1,f % (2 * 10 ^ (59:Int).toNat) - 10 ^ (59:Int).toNat]) (m % 4)=some (.int x)/\(-(10 ^ 60)<x/\x<(10:Int) ^ 60):=by
   have p59:(10:Int) ^ (59:Int).toNat=10 ^ 59:=rfl
   have e4:0<=f % (2 * 10 ^ 59)/\f % (2 * 10 ^ 59)<2 * 10 ^ 59:=⟨Int.emod_nonneg _ (by decide),Int.emod_lt_of_pos _ (by decide)⟩
   rcases(by omega:m % 4=0\/m % 4=1\/m % 4=2\/m % 4=3) with e | e | e | e <;> rw[e]
   ·exact⟨_,rfl,by omega⟩
   ·exact⟨_,rfl,by omega⟩
   ·exact⟨_,rfl,by omega⟩
   ·refine⟨_,rfl,?_⟩
    rw[p59]
    omega
  have w1:=same_at (o:=.lst (IL [m / 8 % 5,m / 8 % 19 - 9,1,f % (2 * 10 ^ (59:Int).toNat) - 10 ^ (59:Int).toNat])) hc4
  refine⟨_,rfl,_,_,rfl,rfl,(by show(0:Int)<4;decide),c4,_,_,.int x,rfl,rfl,SqL.of ζ1,hx,?_⟩
  refine⟨l5,_,_,rfl,rfl,w1 _ _ h56,ζm (by rw[ζ7];omega),L++[x],_,_,rfl,ζs hl50 (s6.trans w1),?_,by rw[ζ1,ζl1],by rw[List.length_append,hL];rfl,fun z hz=>(List.mem_append.mp hz).elim (hT z) fun h=>by rw[List.mem_singleton.mp h];exact hxb⟩
  rw[ζ9 n35]
  exact w1 _ _ h36
end
set_option maxHeartbeats 4000000
def spζI(K:PySem.W.Frag):Sp:=fun vs H Q _=>∃(n:Int) (a b:Addr) (xs:List V) (ps:List (Int × Int)) (ls:List Int),vs=[.int n,.ref a,.ref b]/\SqL K H a xs/\PairsV H xs ps/\SqL K H b (IL ls)/\ζE n ps/\ls.length=ps.length/\Told ls/\∀ H':Hp,Same H H'->Q (.str (ζr8 n ps ls)) H'
section
variable{P:Program}{w:World}{K:PySem.W.Frag}{mg:Str->Option Value}{base:Heap}{t:Adr}
theorem scζI:FnScope ["places","ties","lengths","lines","k","words"] ["places","ties","lengths"] (ζ5 sζI):=⟨rfl,rfl,rfl,by decide +kernel,rfl,by decide +kernel,by decide +kernel⟩
theorem okζI (T:Txt K mg t):FnOk P w K mg base CX0 1 t.aζI t.dζI ["places","ties","lengths"] (spζI K):=by
 refine T.fζI.ok scζI (fun vs H Q E h=>?_) (fun cdv A outer s H vs Q E hr h=>?_)
 ·obtain⟨n,a,b,xs,ps,ls,rfl,_⟩:=h
  rfl
 ·obtain⟨n,a,b,xs,ps,ls,rfl,hA,hP,hB,hG,hl,hT,q⟩:=h
  refine⟨_,(ζ2 (ζh (i:=3) scζI.nd rfl (Or.inl rfl) (ζR (ζ0 (ζk ζw5 ζ02 (ζo ζW1 (by rfl) T.n_str Boot.«str» (ζ0 (pv 0) ζ3))) ζ3)))
   (ζ2 (ζ81 PassesOwn.never rfl (ζF rfl T.n_range (ζ0 (ζb (ζi K) (by rfl) T.n_len Boot.«len» (ζ0 (pv 1) ζ3)) ζ3)) (ζe (i:=4) scζI.nd rfl (Or.inl rfl))
   (ζ2 (ζh (i:=5) scζI.nd rfl (Or.inl rfl) (ζR (ζ0 ζ02 (ζ0 (ζo ζW1 (by rfl) T.n_str Boot.«str» (ζ0 (ζr (ζj K) (ζr (ζd K) (pv 1) (pv 4) (fun _ _=>rfl)) ζ4 (fun _ _=>rfl)) ζ3)) (ζ0 (ζo ζW1 (by rfl) T.n_str Boot.«str» (ζ0 (ζr (ζj K) (ζr (ζd K) (pv 1) (pv 4) (fun _ _=>rfl)) ζ4 (fun _ _=>rfl)) ζ3)) ζ3)))))
   (ζ6 (ζ51 (ζB1 K PySem.F.plainAttrs_list PySem.F.slot_list_append PySem.F.type_list_append ζg1 (pv 3) (ζ0 (ζB1 K PySem.F.plainAttrs_str PySem.F.slot_str_join PySem.F.type_str_join (ζE5 K) ζ02 (ζ0 (ζk ζV8 (pv 5) (ζR (ζ0 (ζo ζW1 (by rfl) T.n_str Boot.«str» (ζ0 (ζr (ζd K) (pv 2) (pv 4) (fun _ _=>rfl)) ζ3)) ζ3))) ζ3)) ζ3))))))
   (ζ6 (ζl (ζB1 K PySem.F.plainAttrs_str PySem.F.slot_str_join PySem.F.type_str_join (ζE5 K) ζ02 (ζ0 (pv 3) ζ3)))))),?_⟩
  have hxl:=hP.1
  have hp30:=hG.2.2.1
  have hn1:=hG.1
  have hn2:=hG.2.1
  have one:1<=sizeLine:=by decide
  have three:3<=sizeLine:=by decide
  have z1:100000<=sizeLine:=by decide
  have nl:=ζC5 (i:=n) (k:=60) (by decide) (by omega) (by omega)
  refine⟨_,rfl,n,rfl,by omega,by omega,_,_,rfl,rfl,?_,one,fun d hd=>?_⟩
  ·show 7+(nT n).length<=_
   omega
  have u1:=same_at (o:=.lst (TL (webT n (ps.take 0) (ls.take 0)))) hd
  refine nm ?_
  dsimp only
  refine⟨_,rfl,a,_,rfl,.inl (u1.seq hA),_,rfl,by omega,by omega,ζV (lo:=0) (n:=(xs.length:Int).toNat) (fun i σ H4=>∃(v4 v5:Option V),σ=[some (.int n),some (.ref a),some (.ref b),some (.ref d),v4,v5]/\Same H H4/\H4 d=some (.lst (TL (webT n (ps.take i) (ls.take i))))) ⟨none,none,rfl,u1,ζ1⟩ ?_ ?_⟩
  ·rintro i σ H4 hi ⟨v4,v5,rfl,s4,h4⟩
   have hi2:i<ps.length:=by omega
   obtain⟨v,hv⟩:∃ v,xs[i]?=some v:=⟨_,List.getElem?_eq_getElem (by omega)⟩
   obtain⟨p,hp,tt,rfl,htt⟩:=hP.at hv
   obtain⟨l,hll⟩:∃ l,ls[i]?=some l:=⟨_,List.getElem?_eq_getElem (by omega)⟩
   have htold:=ζj3 hG hT hp hll
   have b1:=htold p.1 (by simp)
   have b2:=htold p.2 (by simp)
   have b3:=htold l (by simp)
   refine nm ?_
   dsimp only
   have ia:atI xs (0+(i:Int))=some (.ref tt):=ζw (n:=i) (by omega) hv
   refine⟨_,rfl,_,rfl,a,_,_,.ref tt,rfl,rfl,s4.seq hA,ia,tt,_,0,.int p.1,rfl,rfl,SqT.of (s4 _ _ htt),rfl,p.1,rfl,by omega,by omega,_,rfl,_,rfl,a,_,_,.ref tt,rfl,rfl,s4.seq hA,ia,tt,_,1,.int p.2,rfl,rfl,SqT.of (s4 _ _ htt),rfl,p.2,rfl,by omega,by omega,three,fun c hc=>?_⟩
   have u2:=same_at (o:=.lst (TL [Str.ofString "tie",nT p.1,nT p.2])) hc
   have s5:=s4.trans u2
   have h5:=u2 _ _ h4
   have hc5:(upd H4 c (.lst (TL [Str.ofString "tie",nT p.1,nT p.2]))) c=some (.lst (TL [Str.ofString "tie",nT p.1,nT p.2])):=ζ1
   refine nm ?_
   dsimp only
   change ζM12 _ _ _ (upd H4 c (.lst (TL [Str.ofString "tie",nT p.1,nT p.2])))
   generalize upd H4 c (.lst (TL [Str.ofString "tie",nT p.1,nT p.2]))=H5 at *
   refine⟨_,rfl,.inl ⟨rfl,_,SqL.of h5⟩,rfl,_,rfl,_,rfl,_,rfl,b,_,_,.int l,rfl,rfl,s5.seq hB,ζw (n:=i) (by omega) (ζ05 hll),l,rfl,by omega,by omega,one,fun c2 hc2=>?_⟩
   have u3:=same_at (o:=.lst (TL [nT l])) hc2
   refine⟨c,c2,_,TL [nT l],rfl,rfl,u3 _ _ hc5,ζ1,(show 3+1<=sizeLine by decide),fun c3 hc3=>?_⟩
   have u4:=same_at (o:=.lst (TL [Str.ofString "tie",nT p.1,nT p.2]++TL [nT l])) hc3
   have u34:=u3.trans u4
   have wl:(webT n (ps.take i) (ls.take i)).length<=31:=by rw[ζ35 (by rw[List.length_take,List.length_take];omega),List.length_take];omega
   refine⟨_,c3,[Str.ofString "tie",nT p.1,nT p.2,nT l],rfl,rfl,SqL.of ζ1,?_,?_⟩
   ·show JoinOk ζP1 _=true
    rw[ζf2]
    refine ζU7 (B:=61) (fun a ha=>?_) (by show 4 * 61+4<=_;decide)
    rcases List.mem_cons.mp ha with e | e
    ·rw[e];decide
    ·exact ζm3 htold a e
   refine⟨d,_,_,rfl,rfl,u34 _ _ h5,ζm (by rw[ζd1];omega),_,_,rfl,ζs hd (s5.trans u34),?_⟩
   rw[ζ1]
   show some (HO.lst (TL (webT n (ps.take i) (ls.take i))++[.str (ζQ4 p l)]))=_
   rw[ζ010,ζy6 hp hll]
  rintro σ H4 ⟨v4,v5,rfl,s4,h4⟩
  rw[show(xs.length:Int).toNat=ps.length by omega,List.take_length,<- hl,List.take_length]at h4
  refine⟨rfl,_,rfl,_,d,_,rfl,rfl,SqL.of h4,?_,q H4 s4⟩
  show JoinOk nlS _=true
  rw[ζo12]
  exact ζU7 (B:=400) (ζ25 hG hT) (by rw[ζ35 hl];omega)
end
set_option maxHeartbeats 4000000
def spζJ(K:PySem.W.Frag)(C:Addr):Sp:=fun vs H Q _=>∃(w l:Addr) (n:Int) (xs:List V) (ps:List (Int × Int)) (i d:Nat),vs=[.ref w,.ref l,.int i,.int d]/\WebAt C H w n ps/\ζE n ps/\H l=some (.lst xs)/\PairsV H xs ps/\i<ps.length/\ζk1 n ps/\TC n ps d/\0<d/\∀ H':Hp,Same H H'->Q (.bl true) H'
section
variable{P:Program}{w:World}{K:PySem.W.Frag}{mg:Str->Option Value}{base:Heap}{t:Adr}
theorem scζJ:FnScope ["web","ties","tie","many","top","bottom","one","other","heights"] ["web","ties","tie","many"] (ζ5 sζJ):=⟨rfl,rfl,rfl,by decide +kernel,rfl,by decide +kernel,by decide +kernel⟩
theorem okζJ (T:Txt K mg t):FnOk P w K mg base CX0 11 t.aζJ t.dζJ ["web","ties","tie","many"] (spζJ K t.A_Web):=by
 refine T.fζJ.ok scζJ (fun vs H Q E h=>?_) (fun cdv A outer s H vs Q E hr h=>?_)
 ·obtain⟨w,l,n,xs,ps,i,d,rfl,_⟩:=h
  rfl
 ·obtain⟨w,l,n,xs,ps,i,d,rfl,hW,hG,hl,hP,hi,hJ,hTC,d0,q⟩:=h
  refine⟨_,(ζ2 (ζu3 (ζ8 (okζu T) (hr.mono (by decide)) rfl T.mζu T.fζu.kp T.bζu .nil ζt (ζ0 (pv 0) (ζ0 (ζR (ζ0 (pv 2) ζ3)) ζ3))) (ζa1 (n:=2) K rfl (ζq (ζe (i:=4) scζJ.nd rfl (Or.inl rfl)) (ζq (ζe (i:=5) scζJ.nd rfl (Or.inl rfl)) ζ91))))
   (ζ2 (ζe1 (ζp ζ74 (ζk ζC (pv 4) (pv 3)) (ζk ζC (pv 5) (ζ8 (okζx T) (hr.mono (by decide)) rfl T.mζx T.fζx.kp T.bζx .nil ζt (ζ0 (pv 0) (ζ0 (ζR (ζ0 (pv 2) ζ3)) (ζ0 (ζR ζ3) ζ3))))) (ζv _))
   (ζ6 (ζl ζu5))
   ζn)
   (ζ2 (ζu3 (ζr (ζd K) (pv 1) (pv 2) (fun _ _=>rfl)) (ζa1 (n:=2) K rfl (ζq (ζe (i:=6) scζJ.nd rfl (Or.inl rfl)) (ζq (ζe (i:=7) scζJ.nd rfl (Or.inl rfl)) ζ91))))
   (ζ2 (ζh (i:=8) scζJ.nd rfl (Or.inl rfl) (ζ8 (okζo T) (hr.mono (by decide)) rfl T.mζo T.fζo.kp T.bζo .nil ζt (ζ0 (pv 0) (ζ0 (pv 6) (ζ0 (pv 7) ζ3)))))
   (ζ6 (ζl (ζh12 (ζA1 (ζv5 K (hu8 hr)) (ζr (ζj K) (pv 8) (pv 6) (fun _ _=>rfl)) (ζq1 (ζ0 (pv 4) (ζ0 (pv 5) ζ3))) (ζv _)) (ζt10 (ζ8 (okζv T) (hr.mono (by decide)) rfl T.mζv T.fζv.kp T.bζv .nil ζt (ζ0 (pv 0) (ζ0 (pv 6) (ζ0 (pv 7) (ζ0 (ζo (ζ01 K) (by rfl) T.n_list Boot.«list» (ζ0 (pv 8) ζ3)) ζ3))))))))))))),?_⟩
  have one':1<=sizeLine:=by decide
  have two:2<=sizeLine:=by decide
  obtain⟨g1,g2,g3,g4⟩:=id hG
  have n70:n<10 ^ 70:=Int.lt_of_le_of_lt g2 (by decide)
  have z70:∀ z:Int,0<=z->-(10 ^ 70)<z:=fun z hz=>Int.lt_of_lt_of_le (by decide) hz
  have iset:IsSet ps.length [(i:Int)]:=isSet_iff.mpr ⟨fun z hz=>by rw[List.mem_singleton.mp hz];omega,List.pairwise_singleton _ _⟩
  obtain⟨e,he⟩:∃ e,ps[i]?=some e:=⟨_,List.getElem?_eq_getElem hi⟩
  obtain⟨e1,e2,e3,e4⟩:=g4 e (List.mem_of_getElem? he)
  have d20:=ζt2 hG hTC
  have p9:(10:Nat) ^ 20<2 ^ 9000:=Nat.lt_of_le_of_lt (show 10 ^ 20<=2 ^ 80 by decide) (Nat.pow_lt_pow_right (by decide) (by decide))
  have b9:∀ z:Int,z.natAbs<=d->z.natAbs<2 ^ 9000:=fun z hz=>Nat.lt_of_le_of_lt (Nat.le_trans hz (Nat.le_of_lt d20)) p9
  refine⟨_,rfl,_,rfl,one',fun b1 hb1=>?_⟩
  have u1:=same_at (o:=.lst (IL [(i:Int)])) hb1
  refine⟨w,b1,n,ps,false,[(i:Int)],rfl,hW.same u1,hG,SqL.of ζ1,iset,hJ,fun c d' tp bt r H1 hc hd' _ lowS s1 hr=>?_⟩
  obtain rfl:=hd'.uniq hTC
  have s01:=u1.trans s1
  refine⟨r,_,rfl,SqT.of hr,rfl,_,_,rfl,_,_,rfl,rfl,?_⟩
  have cd:=ζG7 hc hTC
  obtain⟨bd,tc⟩:=ζ42 (show(0:Int)<(d':Int) by omega) lowS
  have bt0:=lowS.1
  refine⟨_,rfl,_,rfl,_,_,rfl,rfl,⟨b9 _ (by omega),b9 _ (by omega)⟩,_,rfl,_,rfl,_,rfl,one',fun b2 hb2=>⟨Nat.zero_le _,fun b3 hb3=>?_⟩⟩
  have u2:=same_at (o:=.lst (IL [(i:Int)])) hb2
  have u3:=same_at (o:=.lst (IL [])) hb3
  have s03:=s01.trans (u2.trans u3)
  refine⟨w,b2,b3,n,ps,false,false,[(i:Int)],[],rfl,hW.same s03,hG,SqL.of (u3 _ _ ζ1),SqL.of ζ1,iset,IsSet.nil _,fun c' H2 hc' s2=>⟨_,_,rfl,rfl,⟨b9 _ (by omega),b9 _ (by have:=ζG7 hc' hTC;omega)⟩,rfl,_,rfl,?_⟩⟩
  obtain rfl:=hc'.uniq hc
  rw[ζI]
  refine itn (by rw[Int.mul_comm bt];exact lowS.2.2) ?_
  show(_:Prop)
  refine ζT6 ?_
  have s02:=s03.trans s2
  have hP2:=hP.same s02
  obtain⟨x1,hx1,t1,rfl,ht1⟩:=hP2.2 _ _ he
  have aU:=ζw (xs:=xs) (i:=(i:Int)) (n:=i) (by omega) hx1
  refine⟨_,rfl,_,rfl,l,xs,i,_,rfl,rfl,SqL.of (s02 _ _ hl),aU,t1,_,rfl,SqT.of ht1,rfl,_,_,rfl,_,_,rfl,rfl,?_⟩
  refine⟨_,rfl,_,rfl,_,rfl,w,n,ps,e.1,e.2,rfl,hW.same s02,hG,z70 _ e1,Int.lt_trans e2 n70,z70 _ e3,Int.lt_trans e4 n70,fun _ _ _ r7 zs fs H7 s7 hr7 hF hH=>?_,fun hno=>absurd ⟨⟨e1,e2⟩,⟨e3,e4⟩⟩ hno,fun _ _ hnJ=>absurd hJ hnJ⟩
  obtain⟨fl,W,h,W0,Wb,ho,hb,low,bal⟩:=hH
  have zl:=hF.1
  obtain⟨gq,hg⟩:∃ g,fs[e.1.toNat]?=some g:=⟨_,List.getElem?_eq_getElem (by omega)⟩
  obtain⟨vv,hv,u1',rfl,hu1⟩:=hF.2 _ _ hg
  have at1:=ζw (xs:=zs) (i:=e.1) (n:=e.1.toNat) (by omega) hv
  have cu:=ζL2 hG he hc hTC bal
  have eg:(tp,bt)=gq:=by
   rw[ho,Int.sub_zero]at cu
   obtain⟨x1,x2⟩:=ζA3 (by omega) (ζC2 (by omega) cu.symm lowS) (low _ _ hg)
   exact Prod.ext x1 x2
  subst eg
  refine nm ?_
  dsimp only
  have s07:=s02.trans s7
  refine⟨_,rfl,_,rfl,r7,_,e.1,_,rfl,rfl,SqT.of hr7,at1,_,rfl,_,rfl,two,fun b4 hb4=>?_⟩
  have u8:=same_at (o:=.tup [.int tp,.int bt]) hb4
  refine⟨1,_,u1',b4,rfl,rfl,by decide,ζG3 (n:=0) (a:=(tp,bt)) (b:=(tp,bt)) ⟨u1',rfl,u8 _ _ hu1⟩ ⟨b4,rfl,ζ1⟩,_,rfl,?_⟩
  rw[decide_eq_true (rfl:(tp,bt)=(tp,bt))]
  refine iteT ?_
  refine⟨_,rfl,_,rfl,_,rfl,_,rfl,r7,_,rfl,.inr (SqT.of (u8 _ _ hr7)),fun lA hlA=>?_⟩
  have u9:=same_at (o:=.lst zs) hlA
  have s09:=s07.trans (u8.trans u9)
  refine⟨w,lA,n,ps,fs,zs,e.1,e.2,rfl,hW.same s09,hG,z70 _ e1,Int.lt_trans e2 n70,z70 _ e3,Int.lt_trans e4 n70,ζ1,hF.same (u8.trans u9),fun _ _ _ gs H9 s9 hH2=>?_,fun hno=>absurd ⟨⟨e1,e2⟩,⟨e3,e4⟩⟩ hno,fun _ _ hnJ=>absurd hJ hnJ⟩
  have eq:fs=gs:=(ζi9 hG hJ (by omega) (by omega) W0 hH2 low).mpr ⟨fl,ho,bal⟩
  rw[decide_eq_true eq]
  exact q _ (s09.trans s9)
end
set_option maxHeartbeats 4000000
def spζK(K:PySem.W.Frag)(C:Addr):Sp:=fun vs H Q _=>∃(w:Addr) (n:Int) (ps:List (Int × Int)) (b y d:Nat),vs=[.ref w,.int b,.int y,.int d]/\WebAt C H w n ps/\ζE n ps/\b<ps.length/\y<ps.length/\b≠y/\ζk1 n ps/\TC n ps d/\0<d/\∀ H':Hp,Same H H'->Q (.bl true) H'
theorem ζL11{d cy cz cyz W l p1 q1 p2 q2 p6 q6 pl ql:Int}(d0:0<d)(W0:0<W)(h:d * (W * W) * cyz=W * W * (cy * cz) - d * d * (l * l))(h1:p1 * d=cy * q1)(h2:p2 * d=cz * q2)(h6:p6 * d=cyz * q6)(hl:pl * W=l * ql):p6 * (q1 * q2) * (ql * ql)=(p1 * p2 * (ql * ql) - pl * pl * (q1 * q2)) * q6:=by
 have x1:p6 * (q1 * q2) * (ql * ql) * (d * d * (W * W))=(p6 * d) * ((d * (W * W)) * (q1 * q2 * (ql * ql))):=by grind
 have x2:(cyz * q6) * ((d * (W * W)) * (q1 * q2 * (ql * ql)))=q6 * (q1 * q2 * (ql * ql)) * (d * (W * W) * cyz):=by grind
 have y1:(p1 * p2 * (ql * ql) - pl * pl * (q1 * q2)) * q6 * (d * d * (W * W))=q6 * ((p1 * d) * (p2 * d) * ((ql * ql) * (W * W)) - (pl * W) * (pl * W) * ((d * d) * (q1 * q2))):=by grind
 have y2:q6 * ((cy * q1) * (cz * q2) * ((ql * ql) * (W * W)) - (l * ql) * (l * ql) * ((d * d) * (q1 * q2)))=q6 * (q1 * q2 * (ql * ql)) * (W * W * (cy * cz) - d * d * (l * l)):=by grind
 refine Int.eq_of_mul_eq_mul_right (a:=d * d * (W * W)) (Int.ne_of_gt (Int.mul_pos (Int.mul_pos d0 d0) (Int.mul_pos W0 W0))) ?_
 rw[x1,h6,x2,h,y1,h1,h2,hl,y2]
section
variable{P:Program}{w:World}{K:PySem.W.Frag}{mg:Str->Option Value}{base:Heap}{t:Adr}
theorem scζK:FnScope ["web","one","other","many","first","second","pair","lean","product","square","top"] ["web","one","other","many"] (ζ5 sζK):=⟨rfl,rfl,rfl,by decide +kernel,rfl,by decide +kernel,by decide +kernel⟩
theorem okζK (T:Txt K mg t):FnOk P w K mg base CX0 11 t.aζK t.dζK ["web","one","other","many"] (spζK K t.A_Web):=by
 refine T.fζK.ok scζK (fun vs H Q E h=>?_) (fun cdv A outer s H vs Q E hr h=>?_)
 ·obtain⟨w,n,ps,b,y,d,rfl,_⟩:=h
  rfl
 ·obtain⟨w,n,ps,b,y,d,rfl,hW,hG,hb,hy,hby,hJ,hTC,d0,q⟩:=h
  refine⟨_,(ζ2 (ζh (i:=4) scζK.nd rfl (Or.inl rfl) (ζ8 (okζu T) (hr.mono (by decide)) rfl T.mζu T.fζu.kp T.bζu .nil ζt (ζ0 (pv 0) (ζ0 (ζR (ζ0 (pv 1) ζ3)) ζ3))))
   (ζ2 (ζh (i:=5) scζK.nd rfl (Or.inl rfl) (ζ8 (okζu T) (hr.mono (by decide)) rfl T.mζu T.fζu.kp T.bζu .nil ζt (ζ0 (pv 0) (ζ0 (ζR (ζ0 (pv 2) ζ3)) ζ3))))
   (ζ2 (ζh (i:=6) scζK.nd rfl (Or.inl rfl) (ζ8 (okζu T) (hr.mono (by decide)) rfl T.mζu T.fζu.kp T.bζu .nil ζt (ζ0 (pv 0) (ζ0 (ζb (ζe2 K) (by rfl) T.n_sorted Boot.«sorted» (ζ0 (ζR (ζ0 (pv 1) (ζ0 (pv 2) ζ3))) ζ3)) ζ3))))
   (ζ2 (ζh (i:=7) scζK.nd rfl (Or.inl rfl) (ζ8 (okζr T) (hr.mono (by decide)) rfl T.mζr T.fζr.kp T.bζr .nil ζt (ζ0 (pv 0) (ζ0 (pv 1) (ζ0 (pv 2) ζ3)))))
   (ζ2 (ζe1 (ζp ζ74 (ζk ζC (ζr (ζj K) (pv 6) ζ4 (fun _ _=>rfl)) (pv 3)) (ζk ζC (ζr (ζj K) (pv 6) ζ4 (fun _ _=>rfl)) (ζ8 (okζx T) (hr.mono (by decide)) rfl T.mζx T.fζx.kp T.bζx .nil ζt (ζ0 (pv 0) (ζ0 (ζb (ζe2 K) (by rfl) T.n_sorted Boot.«sorted» (ζ0 (ζR (ζ0 (pv 1) (ζ0 (pv 2) ζ3))) ζ3)) (ζ0 (ζR ζ3) ζ3))))) (ζv _))
   (ζ6 (ζl ζu5))
   ζn)
   (ζ2 (ζh (i:=8) scζK.nd rfl (Or.inl rfl) (ζq1 (ζ0 (ζk ζC (ζr (ζj K) (pv 4) ζ4 (fun _ _=>rfl)) (ζr (ζj K) (pv 5) ζ4 (fun _ _=>rfl))) (ζ0 (ζk ζC (ζr (ζj K) (pv 4) ζ4 (fun _ _=>rfl)) (ζr (ζj K) (pv 5) ζ4 (fun _ _=>rfl))) ζ3))))
   (ζ2 (ζh (i:=9) scζK.nd rfl (Or.inl rfl) (ζq1 (ζ0 (ζk ζC (ζr (ζj K) (pv 7) ζ4 (fun _ _=>rfl)) (ζr (ζj K) (pv 7) ζ4 (fun _ _=>rfl))) (ζ0 (ζk ζC (ζr (ζj K) (pv 7) ζ4 (fun _ _=>rfl)) (ζr (ζj K) (pv 7) ζ4 (fun _ _=>rfl))) ζ3))))
   (ζ2 (ζh (i:=10) scζK.nd rfl (Or.inl rfl) (ζk ζj2 (ζk ζC (ζr (ζj K) (pv 8) ζ4 (fun _ _=>rfl)) (ζr (ζj K) (pv 9) ζ4 (fun _ _=>rfl))) (ζk ζC (ζr (ζj K) (pv 9) ζ4 (fun _ _=>rfl)) (ζr (ζj K) (pv 8) ζ4 (fun _ _=>rfl)))))
   (ζ2 (ζe1 (ζp ζ74 (ζk ζC (ζk ζC (ζr (ζj K) (pv 6) ζ4 (fun _ _=>rfl)) (ζr (ζj K) (pv 8) ζ4 (fun _ _=>rfl))) (ζr (ζj K) (pv 9) ζ4 (fun _ _=>rfl))) (ζk ζC (pv 10) (ζr (ζj K) (pv 6) ζ4 (fun _ _=>rfl))) (ζv _))
   (ζ6 (ζl ζu5))
   ζn)
   (ζ6 (ζl (ζA1 (ζv5 K (hu8 hr)) (ζ8 (okζr T) (hr.mono (by decide)) rfl T.mζr T.fζr.kp T.bζr .nil ζt (ζ0 (pv 0) (ζ0 (pv 2) (ζ0 (pv 1) ζ3)))) (pv 7) (ζv _))))))))))))),?_⟩
  have one':1<=sizeLine:=by decide
  have two:2<=sizeLine:=by decide
  obtain⟨g1,g2,g3,g4⟩:=id hG
  have n70:n<10 ^ 70:=Int.lt_of_le_of_lt g2 (by decide)
  have z70:∀ z:Int,0<=z->-(10 ^ 70)<z:=fun z hz=>Int.lt_of_lt_of_le (by decide) hz
  have l70:(ps.length:Int)<10 ^ 70:=Int.lt_of_le_of_lt (show(ps.length:Int)<=30 by omega) (by decide)
  obtain⟨e,he⟩:∃ e,ps[b]?=some e:=⟨_,List.getElem?_eq_getElem hb⟩
  obtain⟨f,hf⟩:∃ f,ps[y]?=some f:=⟨_,List.getElem?_eq_getElem hy⟩
  have heM:=List.mem_of_getElem? he
  have hfM:=List.mem_of_getElem? hf
  have bset:IsSet ps.length [(b:Int)]:=isSet_iff.mpr ⟨fun z hz=>by rw[List.mem_singleton.mp hz];omega,List.pairwise_singleton _ _⟩
  have yset:IsSet ps.length [(y:Int)]:=isSet_iff.mpr ⟨fun z hz=>by rw[List.mem_singleton.mp hz];omega,List.pairwise_singleton _ _⟩
  have bR:(0:Int)<=(b:Int)/\(b:Int)<(ps.length:Int):=by omega
  have yR:(0:Int)<=(y:Int)/\(y:Int)<(ps.length:Int):=by omega
  have d20:=ζt2 hG hTC
  have p300:(10:Nat) ^ 20<=2 ^ 300:=Nat.le_trans (show 10 ^ 20<=2 ^ 80 by decide) (Nat.pow_le_pow_right (by decide) (by decide))
  have cB:∀ z:Int,z.natAbs<=d->z.natAbs<=2 ^ 300:=fun z hz=>Nat.le_trans (by omega) p300
  have b3:∀ z:Int,z.natAbs<=2 ^ 300->z.natAbs<2 ^ 9000:=fun z hz=>Nat.lt_of_le_of_lt hz (Nat.pow_lt_pow_right (by decide) (by decide))
  have b6:∀ z:Int,z.natAbs<=2 ^ 600->z.natAbs<2 ^ 9000:=fun z hz=>Nat.lt_of_le_of_lt hz (Nat.pow_lt_pow_right (by decide) (by decide))
  have b12:∀ z:Int,z.natAbs<=2 ^ 1200->z.natAbs<2 ^ 9000:=fun z hz=>Nat.lt_of_le_of_lt hz (Nat.pow_lt_pow_right (by decide) (by decide))
  have mul:∀ y z:Int,y.natAbs<=2 ^ 300->z.natAbs<=2 ^ 300->(y * z).natAbs<=2 ^ 600:=fun y z h1 h2=>by
   rw[Int.natAbs_mul]
   refine Nat.le_trans (Nat.mul_le_mul h1 h2) ?_
   rw[<- Nat.pow_add]
   exact Nat.le_refl _
  have mul2:∀ y z:Int,y.natAbs<=2 ^ 600->z.natAbs<=2 ^ 600->(y * z).natAbs<=2 ^ 1200:=fun y z h1 h2=>by
   rw[Int.natAbs_mul]
   refine Nat.le_trans (Nat.mul_le_mul h1 h2) ?_
   rw[<- Nat.pow_add]
   exact Nat.le_refl _
  have D0:(0:Int)<(d:Int):=by omega
  refine⟨_,rfl,_,rfl,one',fun b1 hb1=>?_⟩
  have u1:=same_at (o:=.lst (IL [(b:Int)])) hb1
  refine⟨w,b1,n,ps,false,[(b:Int)],rfl,hW.same u1,hG,SqL.of ζ1,bset,hJ,fun cy d' p1 q1 r1 H1 hcy hd' _ low1 s1 hr1=>?_⟩
  obtain rfl:=hd'.uniq hTC
  have s01:=u1.trans s1
  refine nm ?_
  dsimp only
  refine⟨_,rfl,_,rfl,one',fun b2 hb2=>?_⟩
  have u2:=same_at (o:=.lst (IL [(y:Int)])) hb2
  refine⟨w,b2,n,ps,false,[(y:Int)],rfl,hW.same (s01.trans u2),hG,SqL.of ζ1,yset,hJ,fun cz d'' p2 q2 r2 H2 hcz hd'' _ low2 s2 hr2=>?_⟩
  obtain rfl:=hd''.uniq hTC
  have s12:=u2.trans s2
  have s02:=s01.trans s12
  refine nm ?_
  dsimp only
  refine⟨_,rfl,_,rfl,_,rfl,two,fun b3' hb3=>⟨b3',[(b:Int),(y:Int)],rfl,SqL.of ζ1,(show 2<64 by decide),fun ms hpm hpw b4 hb4=>?_⟩⟩
  have u3:=(same_at (o:=.lst (IL [(b:Int),(y:Int)])) hb3).trans (same_at (o:=.lst (IL ms)) hb4)
  have mnd:ms.Nodup:=hpm.nodup_iff.mpr (List.nodup_cons.mpr ⟨fun h=>by have:=List.mem_singleton.mp h;omega,by simp⟩)
  have mmem:∀ z,z∈ms↔z∈[(b:Int),(y:Int)]:=fun z=>hpm.mem_iff
  have mset:IsSet ps.length ms:=isSet_iff.mpr ⟨fun z hz=>by
   rcases List.mem_cons.mp ((mmem z).mp hz) with c | c
   ·rw[c];omega
   ·rw[List.mem_singleton.mp c];omega,srt_strict hpw mnd⟩
  refine⟨w,b4,n,ps,false,ms,rfl,hW.same (s02.trans u3),hG,SqL.of ζ1,mset,hJ,fun cyz d3 p6 q6 r6 H3 hcyz hd3 _ low6 s3 hr6=>?_⟩
  obtain rfl:=hd3.uniq hTC
  have s23:=u3.trans s3
  have s03:=s02.trans s23
  refine nm ?_
  dsimp only
  refine⟨_,rfl,_,rfl,_,rfl,w,n,ps,b,y,rfl,hW.same s03,hG,z70 _ bR.1,Int.lt_trans bR.2 l70,z70 _ yR.1,Int.lt_trans yR.2 l70,fun _ _ _ r7 pl ql H4 s4 hr7 hLn=>?_,fun hno=>absurd ⟨bR,yR⟩ hno,fun _ _ hnJ=>absurd hJ hnJ⟩
  rw[Int.toNat_natCast,Int.toNat_natCast,ζK he,ζK hf]at hLn
  have hLn0:=hLn
  obtain⟨W,h,W0,Wb,hbd,bal,lowL⟩:=hLn
  obtain⟨X,k',X0,balK⟩:=ζY10 hG hJ (c:=f.1.toNat) (d:=f.2.toNat) (by have:=g4 f hfM;omega) (by have:=g4 f hfM;omega)
  refine nm ?_
  dsimp only
  have WB:W.natAbs<=2 ^ 300:=Nat.le_trans Wb (Nat.pow_le_pow_right (by decide) (by decide))
  have lB:(h f.1.toNat - h f.2.toNat).natAbs<=2 ^ 300:=by
   have b1:=hbd f.1.toNat (by have:=g4 f hfM;omega)
   have b2:=hbd f.2.toNat (by have:=g4 f hfM;omega)
   have e:(2:Nat) ^ 200+2 ^ 200<=2 ^ 300:=by
    rw[show(2:Nat) ^ 200+2 ^ 200=2 ^ 201 by rw[Nat.pow_succ 2 200,Nat.mul_two]]
    exact Nat.pow_le_pow_right (by decide) (by decide)
   generalize (2:Nat) ^ 200=B at *
   generalize (2:Nat) ^ 300=C at *
   omega
  have hc1:=ζG7 hcy hTC
  have hc2:=ζG7 hcz hTC
  have hc3:=ζG7 hcyz hTC
  obtain⟨q1d,p1c⟩:=ζ42 D0 low1
  obtain⟨q2d,p2c⟩:=ζ42 D0 low2
  obtain⟨q6d,p6c⟩:=ζ42 D0 low6
  obtain⟨qlW,pll⟩:=ζ42 W0 lowL
  have q10:=low1.1
  have q20:=low2.1
  have q60:=low6.1
  have ql0:=lowL.1
  have P1:=cB p1 (by omega)
  have P2:=cB p2 (by omega)
  have P6:=cB p6 (by omega)
  have Q1:=cB q1 (by omega)
  have Q2:=cB q2 (by omega)
  have Q6:=cB q6 (by omega)
  have PL:pl.natAbs<=2 ^ 300:=Nat.le_trans pll lB
  have QL:ql.natAbs<=2 ^ 300:=Nat.le_trans (by omega) WB
  have hcyz':PC n ps [(b:Int),(y:Int)] [] cyz:=by
   obtain⟨Lq,l1,l2,l3⟩:=hcyz
   exact⟨Lq,l1,fun U=>by rw[l2];exact⟨fun⟨a1,a2,a3⟩=>⟨a1,fun z hz=>a2 z ((mmem z).mpr hz),a3⟩,fun⟨a1,a2,a3⟩=>⟨a1,fun z hz=>a2 z ((mmem z).mp hz),a3⟩⟩,l3⟩
  have cu:=ζp11 hG he hf hby hcy hcz hcyz' hTC (by omega) W0 X0 bal balK
  generalize hl:h f.1.toNat - h f.2.toNat=l' at *
  have i0:∀ a b:Int,atI ([.int a,.int b]:List V) 0=some (.int a):=fun _ _=>rfl
  have i1:∀ a b:Int,atI ([.int a,.int b]:List V) 1=some (.int b):=fun _ _=>rfl
  have hr64:=s4 _ _ hr6
  refine⟨_,rfl,r6,_,0,_,rfl,rfl,SqT.of hr64,i0 _ _,_,rfl,_,_,rfl,rfl,⟨b3 _ P6,b3 _ (cB _ (by omega))⟩,_,rfl,r6,_,1,_,rfl,rfl,SqT.of hr64,i1 _ _,_,rfl,_,rfl,_,rfl,two,fun b5 hb5=>⟨b5,[(b:Int),(y:Int)],rfl,SqL.of ζ1,(show 2<64 by decide),fun ms2 hpm2 hpw2 b6' hb6=>⟨Nat.zero_le _,fun b7 hb7=>?_⟩⟩⟩
  have v1:=same_at (o:=.lst (IL [(b:Int),(y:Int)])) hb5
  have v2:=same_at (o:=.lst (IL ms2)) hb6
  have v3:=same_at (o:=.lst (IL [])) hb7
  have v13:=v1.trans (v2.trans v3)
  obtain rfl:ms2=ms:=ζI4 (srt_strict hpw2 (hpm2.nodup_iff.mpr (hpm.nodup_iff.mp mnd))) (srt_strict hpw mnd) fun z=>by rw[hpm2.mem_iff,hpm.mem_iff]
  have s34:=s03.trans s4
  refine⟨w,b6',b7,n,ps,false,false,ms2,[],rfl,hW.same (s34.trans v13),hG,SqL.of (v3 _ _ ζ1),SqL.of ζ1,mset,IsSet.nil _,fun c' H5 hc' s5=>⟨_,_,rfl,rfl,⟨b3 _ Q6,b3 _ (cB _ (by have:=ζG7 hc' hTC;omega))⟩,rfl,_,rfl,?_⟩⟩
  obtain rfl:=hc'.uniq hcyz
  rw[ζI]
  refine itn (by rw[Int.mul_comm q6];exact low6.2.2) ?_
  show(_:Prop)
  refine ζT6 ?_
  have s45:=v13.trans s5
  have hr1':=(s12.trans (s23.trans (s4.trans s45))) _ _ hr1
  have hr2':=(s23.trans (s4.trans s45)) _ _ hr2
  have hr65:=s45 _ _ hr64
  have hr75:=s45 _ _ hr7
  refine⟨_,rfl,r1,_,0,_,rfl,rfl,SqT.of hr1',i0 _ _,_,rfl,r2,_,0,_,rfl,rfl,SqT.of hr2',i0 _ _,_,_,rfl,rfl,⟨b3 _ P1,b3 _ P2⟩,_,rfl,r1,_,1,_,rfl,rfl,SqT.of hr1',i1 _ _,_,rfl,r2,_,1,_,rfl,rfl,SqT.of hr2',i1 _ _,_,_,rfl,rfl,⟨b3 _ Q1,b3 _ Q2⟩,two,fun r8 hr8=>?_⟩
  have w1:=same_at (o:=.tup [.int (p1 * p2),.int (q1 * q2)]) hr8
  have k8:(upd H5 r8 (.tup [.int (p1 * p2),.int (q1 * q2)])) r8=some (.tup [.int (p1 * p2),.int (q1 * q2)]):=ζ1
  refine nm ?_
  dsimp only
  generalize upd H5 r8 (.tup [.int (p1 * p2),.int (q1 * q2)])=H6 at *
  have hr76:=w1 _ _ hr75
  refine⟨_,rfl,r7,_,0,_,rfl,rfl,SqT.of hr76,i0 _ _,_,rfl,r7,_,0,_,rfl,rfl,SqT.of hr76,i0 _ _,_,_,rfl,rfl,⟨b3 _ PL,b3 _ PL⟩,_,rfl,r7,_,1,_,rfl,rfl,SqT.of hr76,i1 _ _,_,rfl,r7,_,1,_,rfl,rfl,SqT.of hr76,i1 _ _,_,_,rfl,rfl,⟨b3 _ QL,b3 _ QL⟩,two,fun r9 hr9=>?_⟩
  have w2:=same_at (o:=.tup [.int (pl * pl),.int (ql * ql)]) hr9
  have k9:(upd H6 r9 (.tup [.int (pl * pl),.int (ql * ql)])) r9=some (.tup [.int (pl * pl),.int (ql * ql)]):=ζ1
  refine nm ?_
  dsimp only
  generalize upd H6 r9 (.tup [.int (pl * pl),.int (ql * ql)])=H7 at *
  have k87:=w2 _ _ k8
  have hr67:=(w1.trans w2) _ _ hr65
  have A1:=mul _ _ P1 P2
  have A2:=mul _ _ Q1 Q2
  have A3:=mul _ _ PL PL
  have A4:=mul _ _ QL QL
  refine⟨_,rfl,r8,_,0,_,rfl,rfl,SqT.of k87,i0 _ _,_,rfl,r9,_,1,_,rfl,rfl,SqT.of k9,i1 _ _,_,_,rfl,rfl,⟨b6 _ A1,b6 _ A4⟩,_,rfl,r9,_,0,_,rfl,rfl,SqT.of k9,i0 _ _,_,rfl,r8,_,1,_,rfl,rfl,SqT.of k87,i1 _ _,_,_,rfl,rfl,⟨b6 _ A3,b6 _ A2⟩,_,_,rfl,rfl,?_⟩
  refine nm ?_
  dsimp only
  have B1:=mul2 _ _ A1 A4
  have B2:=mul2 _ _ A3 A2
  have B3:(p1 * p2 * (ql * ql) - pl * pl * (q1 * q2)).natAbs<2 ^ 9000:=by
   refine Nat.lt_of_le_of_lt (m:=2 ^ 1200+2 ^ 1200) (by omega) ?_
   rw[<- Nat.mul_two,<- Nat.pow_succ]
   exact Nat.pow_lt_pow_right (by decide) (by decide)
  have B4:(p6 * (q1 * q2)).natAbs<=2 ^ 900:=by
   rw[Int.natAbs_mul]
   refine Nat.le_trans (Nat.mul_le_mul P6 A2) ?_
   rw[<- Nat.pow_add]
   exact Nat.le_refl _
  have B5:(p6 * (q1 * q2)).natAbs<2 ^ 9000:=Nat.lt_of_le_of_lt B4 (Nat.pow_lt_pow_right (by decide) (by decide))
  refine⟨_,rfl,r6,_,0,_,rfl,rfl,SqT.of hr67,i0 _ _,_,rfl,r8,_,1,_,rfl,rfl,SqT.of k87,i1 _ _,_,_,rfl,rfl,⟨b3 _ P6,b6 _ A2⟩,_,rfl,r9,_,1,_,rfl,rfl,SqT.of k9,i1 _ _,_,_,rfl,rfl,⟨B5,b6 _ A4⟩,_,rfl,_,rfl,r6,_,1,_,rfl,rfl,SqT.of hr67,i1 _ _,_,_,rfl,rfl,⟨B3,b3 _ Q6⟩,rfl,_,rfl,?_⟩
  rw[ζI]
  refine itn (ζL11 D0 W0 cu low1.2.2 low2.2.2 low6.2.2 lowL.2.2) ?_
  show(_:Prop)
  refine ζT6 ?_
  have s07:=s34.trans (s45.trans (w1.trans w2))
  refine⟨_,rfl,_,rfl,_,rfl,w,n,ps,y,b,rfl,hW.same s07,hG,z70 _ yR.1,Int.lt_trans yR.2 l70,z70 _ bR.1,Int.lt_trans bR.2 l70,fun _ _ _ r10 pl2 ql2 H8 s8 hr10 hLn2=>?_,fun hno=>absurd ⟨yR,bR⟩ hno,fun _ _ hnJ=>absurd hJ hnJ⟩
  rw[Int.toNat_natCast,Int.toNat_natCast,ζK he,ζK hf]at hLn2
  obtain⟨rfl,rfl⟩:=ζs12 hG heM hfM hLn0 hLn2
  refine⟨_,rfl,1,_,r10,r7,rfl,rfl,by decide,ζG3 (n:=0) (a:=(pl,ql)) (b:=(pl,ql)) ⟨r10,rfl,hr10⟩ ⟨r7,rfl,(w2.trans s8) _ _ hr76⟩,?_⟩
  rw[decide_eq_true (rfl:(pl,ql)=(pl,ql))]
  exact q _ (s07.trans s8)
end
set_option maxHeartbeats 4000000
def spζL(K:PySem.W.Frag):Sp:=fun vs H Q _=>∃(a:Addr) (ns:List Int),vs=[.ref a]/\SqL K H a (IL ns)/\ns.length<=63/\∀ H',Q (.bl true) H'
def cnS(L:List (List Int))(k:Nat):Int:=((rgL k).map fun t=>((L.filter fun T=>decide (t∈T)).length:Int)).sum
theorem ζH9{L:List (List Int)}{k:Nat}:cnS L (k+1)=cnS L k+((L.filter fun T=>decide ((k:Int)∈T)).length:Int):=by
 unfold cnS
 rw[ζj5,List.map_append]
 exact ζC6 _ _
section
variable{P:Program}{w:World}{K:PySem.W.Frag}{mg:Str->Option Value}{base:Heap}{t:Adr}
theorem scζL:FnScope ["script","places","ties","web","lengths","many","told","tie","k","m","one","other"] ["script"] (ζ5 sζL):=⟨rfl,rfl,rfl,by decide +kernel,rfl,by decide +kernel,by decide +kernel⟩
theorem okζL (T:Txt K mg t):FnOk P w K mg base CX0 13 t.aζL t.dζL ["script"] (spζL K):=by
 refine T.fζL.ok scζL (fun vs H Q E h=>?_) (fun cdv A outer s H vs Q E hr h=>?_)
 ·obtain⟨a,ns,rfl,_⟩:=h
  rfl
 ·obtain⟨a,ns,rfl,hS,hn63,k⟩:=h
  refine⟨_,(ζ2 (ζu3 (ζ8 (okζG T) (hr.mono (by decide)) rfl T.mζG T.fζG.kp T.bζG .nil ζt (ζ0 (pv 0) (ζ0 ζ4 (ζ0 ζ4 ζ3)))) (ζa1 (n:=2) K rfl (ζq (ζe (i:=1) scζL.nd rfl (Or.inl rfl)) (ζq (ζe (i:=2) scζL.nd rfl (Or.inl rfl)) ζ91))))
   (ζ2 (ζu3 (ζ8 (okζB T) (hr.mono (by decide)) rfl T.mζB T.fζB.kp T.bζB .nil ζt (ζ0 (ζ8 (okζI T) (hr.mono (by decide)) rfl T.mζI T.fζI.kp T.bζI .nil ζt (ζ0 (pv 1) (ζ0 (pv 2) (ζ0 (ζ8 (okζH T) (hr.mono (by decide)) rfl T.mζH T.fζH.kp T.bζH .nil ζt (ζ0 (pv 0) (ζ0 (ζb (ζi K) (by rfl) T.n_len Boot.«len» (ζ0 (pv 2) ζ3)) ζ3))) ζ3)))) ζ3)) (ζa1 (n:=2) K rfl (ζq (ζe (i:=3) scζL.nd rfl (Or.inl rfl)) (ζq (ζe (i:=4) scζL.nd rfl (Or.inl rfl)) ζ91))))
   (ζ2 (ζh (i:=5) scζL.nd rfl (Or.inl rfl) (ζ8 (okζs T) (hr.mono (by decide)) rfl T.mζs T.fζs.kp T.bζs .nil ζt (ζ0 (pv 3) ζ3)))
   (ζ2 (ζe1 (ζp ζT8 (pv 5) ζ4 (ζv _))
   (ζ6 (ζl ζu5))
   ζn)
   (ζ2 (ζh (i:=6) scζL.nd rfl (Or.inl rfl) ζ4)
   (ζ2 (ζ81 PassesOwn.never rfl (ζF rfl T.n_range (ζ0 (ζb (ζi K) (by rfl) T.n_len Boot.«len» (ζ0 (pv 2) ζ3)) ζ3)) (ζe (i:=7) scζL.nd rfl (Or.inl rfl))
   (ζ6 (ζh (i:=6) scζL.nd rfl (Or.inl rfl) (ζk ζS (pv 6) (ζ8 (okζx T) (hr.mono (by decide)) rfl T.mζx T.fζx.kp T.bζx .nil ζt (ζ0 (pv 3) (ζ0 (ζR (ζ0 (pv 7) ζ3)) (ζ0 (ζR ζ3) ζ3))))))))
   (ζ2 (ζe1 (ζp ζ74 (pv 6) (ζk ζC (pv 5) (ζk ζj2 (pv 1) ζ4)) (ζv _))
   (ζ6 (ζl ζu5))
   ζn)
   (ζ2 (ζ81 PassesOwn.never rfl (ζF rfl T.n_range (ζ0 (ζb (ζP2 rfl) (by rfl) T.n_min Boot.«min» (ζ0 (ζb (ζi K) (by rfl) T.n_len Boot.«len» (ζ0 (pv 2) ζ3)) (ζ0 ζ4 ζ3))) ζ3)) (ζe (i:=8) scζL.nd rfl (Or.inl rfl))
   (ζ2 (ζh (i:=9) scζL.nd rfl (Or.inl rfl) (ζ8 (okζD T) (hr.mono (by decide)) rfl T.mζD T.fζD.kp T.bζD .nil ζt (ζ0 (ζ8 (okζC T) (hr.mono (by decide)) rfl T.mζC T.fζC.kp T.bζC .nil ζt (ζ0 (pv 0) (ζ0 (pv 8) ζ3))) (ζ0 (ζk ζS ζ4 (pv 8)) ζ3))))
   (ζ2 (ζh (i:=10) scζL.nd rfl (Or.inl rfl) (ζk ζz (pv 9) (ζb (ζi K) (by rfl) T.n_len Boot.«len» (ζ0 (pv 2) ζ3))))
   (ζ2 (ζh (i:=11) scζL.nd rfl (Or.inl rfl) (ζk ζz (ζk ζS (ζk ζS (pv 10) ζ4) (ζk ζz (ζk ζ61 (pv 9) ζ4) (ζb (ζX1 rfl) (by rfl) T.n_max Boot.«max» (ζ0 ζ4 (ζ0 (ζk ζj2 (ζb (ζi K) (by rfl) T.n_len Boot.«len» (ζ0 (pv 2) ζ3)) ζ4) ζ3))))) (ζb (ζi K) (by rfl) T.n_len Boot.«len» (ζ0 (pv 2) ζ3))))
   (ζ2 (ζe1 (ζY1 (ζN1 (ζ8 (okζJ T) (hr.mono (by decide)) rfl T.mζJ T.fζJ.kp T.bζJ .nil ζt (ζ0 (pv 3) (ζ0 (pv 2) (ζ0 (pv 10) (ζ0 (pv 5) ζ3)))))))
   (ζ6 (ζl ζu5))
   ζn)
   (ζ6 (ζe1 (PW.pt (ζG8 (ζp ζ74 (pv 10) (pv 11) (ζv _)) (ζm5 (ζY1 (ζN1 (ζ8 (okζK T) (hr.mono (by decide)) rfl T.mζK T.fζK.kp T.bζK .nil ζt (ζ0 (pv 3) (ζ0 (pv 10) (ζ0 (pv 11) (ζ0 (pv 5) ζ3))))))))))
   (ζ6 (ζl ζu5))
   ζn)))))))
   (ζ6 (ζl ζu5)))))))))),?_⟩
  have one':1<=sizeLine:=by decide
  refine⟨_,rfl,a,ns,10,20,rfl,hS,hn63,by decide,by decide,by decide,by decide,fun r l n xs ps H1 s1 hr1 hl0 hl1 hP hG hnm hcc=>?_⟩
  refine⟨r,_,rfl,SqT.of hr1,rfl,_,_,rfl,_,_,rfl,rfl,?_⟩
  have hxl:=hP.1
  have hp30:=hG.2.2.1
  have gn1:=hG.1
  have gn2:=hG.2.1
  refine⟨_,rfl,_,rfl,_,rfl,_,rfl,l,xs,rfl,.inl (SqL.of hl1),a,ns,xs.length,rfl,s1.seq hS,hn63,by omega,fun b ls H2 s2 hb0 hb hll hT=>?_⟩
  have heq:ls.length=ps.length:=by omega
  refine⟨n,l,b,xs,ps,ls,rfl,SqL.of (s2 _ _ hl1),hP.same s2,SqL.of hb,hG,heq,hT,fun H3 s3=>?_⟩
  refine⟨n,ps,ls,rfl,hG,heq,hT,fun tA w2 aA H4 s4 ha0 htA hW haA=>?_⟩
  refine⟨tA,_,rfl,SqT.of htA,rfl,_,_,rfl,_,_,rfl,rfl,?_⟩
  have s14:=s2.trans (s3.trans s4)
  have s04:=s1.trans s14
  have hl4:=s14 _ _ hl1
  have hP4:=hP.same s14
  refine⟨_,rfl,w2,n,ps,rfl,hW,hG,fun d H5 hTC s5=>?_⟩
  refine nm ?_
  dsimp only
  refine⟨_,rfl,rfl,_,rfl,?_⟩
  rw[ζI]
  refine itd2 (fun _=>k _) (fun hd0=>?_)
  have d0:0<d:=by omega
  have d20:=ζt2 hG hTC
  have hW5:=hW.same s5
  have hl5:=s5 _ _ hl4
  have hP5:=hP4.same s5
  have s05:=s04.trans s5
  obtain⟨L,l1,l2,rfl⟩:=id hTC
  obtain⟨U,hU⟩:∃ U,U∈L:=List.exists_mem_of_length_pos d0
  have hUT:=(l2 U).mp hU
  have hJ:ζk1 n ps:=fun i j hi hj=>(hUT.2.2 i j hi hj).mono (ζJ2 fun z hz=>rgL_mem.mpr (hUT.1.all z hz))
  show(_:Prop)
  refine ζT6 ?_
  refine asgC ?_
  try dsimp only
  refine⟨_,rfl,l,xs,rfl,.inl (SqL.of hl5),_,rfl,by omega,by omega,ζV (lo:=0) (n:=(xs.length:Int).toNat) (fun i σ H6=>∃ v7:Option V,σ=[some (.ref a),some (.int n),some (.ref l),some (.ref w2),some (.ref aA),some (.int (L.length:Int)),some (.int (cnS L i)),v7,none,none,none,none]/\Same H5 H6) ⟨none,rfl,Same.refl _⟩ ?_ ?_⟩
  ·rintro i σ H6 hi ⟨v7,rfl,s6⟩
   have hi2:i<ps.length:=by omega
   have iset:IsSet ps.length [(i:Int)]:=isSet_iff.mpr ⟨fun z hz=>by rw[List.mem_singleton.mp hz];omega,List.pairwise_singleton _ _⟩
   refine nm ?_
   dsimp only
   rw[Int.zero_add]
   refine⟨_,rfl,_,rfl,_,rfl,one',fun b2 hb2=>⟨Nat.zero_le _,fun b3 hb3=>?_⟩⟩
   have u2:=same_at (o:=.lst (IL [(i:Int)])) hb2
   have u3:=same_at (o:=.lst (IL [])) hb3
   have u23:=u2.trans u3
   refine⟨w2,b2,b3,n,ps,false,false,[(i:Int)],[],rfl,hW5.same (s6.trans u23),hG,SqL.of (u3 _ _ ζ1),SqL.of ζ1,iset,IsSet.nil _,fun c' H7 hc' s7=>⟨_,_,rfl,rfl,?_⟩⟩
   refine⟨some (.int (i:Int)),?_,s6.trans (u23.trans s7)⟩
   rw[ζH9,<- hc'.uniq (ζO6 l1 l2)]
   rfl
  rintro σ H6 ⟨v7,rfl,s6⟩
  have tot:cnS L ps.length=(L.length:Int) * (n - 1):=by
   unfold cnS
   rw[ζc5 (k:=n - 1) fun T hT=>⟨((l2 T).mp hT).1,((l2 T).mp hT).2.1⟩,Int.mul_comm]
  rw[show(xs.length:Int).toNat=ps.length by omega,tot]
  have p9:(10:Nat) ^ 20<2 ^ 9000:=Nat.lt_of_le_of_lt (show 10 ^ 20<=2 ^ 80 by decide) (Nat.pow_lt_pow_right (by decide) (by decide))
  refine⟨_,rfl,_,rfl,_,rfl,_,_,rfl,rfl,_,_,rfl,rfl,⟨Nat.lt_of_le_of_lt (by omega) p9,Nat.lt_of_le_of_lt (show(n - 1).natAbs<=10 ^ 20 by omega) p9⟩,rfl,_,rfl,?_⟩
  refine itn rfl ?_
  show(_:Prop)
  refine ζT6 ?_
  have hlo:-(2 ^ 62)<=(if (5:Int)<(xs.length:Int) then (5:Int) else (xs.length:Int)):=by split <;> omega
  have hhi:(if (5:Int)<(xs.length:Int) then (5:Int) else (xs.length:Int))<2 ^ 62:=by split <;> omega
  have hW6:=hW5.same s6
  have hl6:=s6 _ _ hl5
  have hP6:=hP5.same s6
  have s06:=s05.trans s6
  refine⟨_,rfl,l,xs,rfl,.inl (SqL.of hl6),_,_,rfl,_,rfl,hlo,hhi,ζV (lo:=0) (n:=(if (5:Int)<(xs.length:Int) then (5:Int) else (xs.length:Int)).toNat) (fun i σ H7=>∃ v8 v9 v10 v11:Option V,σ=[some (.ref a),some (.int n),some (.ref l),some (.ref w2),some (.ref aA),some (.int (L.length:Int)),some (.int ((L.length:Int) * (n - 1))),v7,v8,v9,v10,v11]/\Same H6 H7) ⟨none,none,none,none,rfl,Same.refl _⟩ ?_ (fun σ H7 ⟨_,_,_,_,e,_⟩=>by rw[e];exact k _)⟩
  rintro i σ H7 hi ⟨v8,v9,v10,v11,rfl,s7⟩
  have xpos:(0:Int)<(xs.length:Int):=by
   have:0<(if (5:Int)<(xs.length:Int) then (5:Int) else (xs.length:Int)).toNat:=by omega
   split at this <;> omega
  have hl7:=s7 _ _ hl6
  refine nm ?_
  dsimp only
  refine⟨_,rfl,_,rfl,a,ns,_,rfl,(s06.trans s7).seq hS,by omega,fun c c0 c1=>⟨_,rfl,_,_,rfl,rfl,_,_,rfl,fun m m0 m1=>?_⟩⟩
  refine nm ?_
  dsimp only
  refine⟨_,rfl,_,rfl,l,xs,rfl,.inl (SqL.of hl7),_,_,rfl,rfl,xpos,?_⟩
  have o1:0<=m % (xs.length:Int):=Int.emod_nonneg _ (by omega)
  have o2:m % (xs.length:Int)<(xs.length:Int):=Int.emod_lt_of_pos _ xpos
  refine nm ?_
  dsimp only
  obtain⟨y,hy⟩:∃ y:Nat,m % (xs.length:Int)=(y:Int):=⟨(m % (xs.length:Int)).toNat,by omega⟩
  rw[hy]
  have yl:y<ps.length:=by omega
  have mxp:(0:Int)<(if (xs.length:Int) - 1 > 1 then (xs.length:Int) - 1 else 1):=by split <;> omega
  refine⟨_,rfl,_,_,rfl,rfl,_,rfl,_,_,rfl,rfl,⟨by decide,by decide⟩,_,rfl,l,xs,rfl,.inl (SqL.of hl7),_,_,rfl,rfl,_,_,rfl,_,_,rfl,rfl,mxp,_,_,rfl,rfl,_,rfl,l,xs,rfl,.inl (SqL.of hl7),_,_,rfl,rfl,xpos,?_⟩
  refine nm ?_
  dsimp only
  generalize ((y:Int)+1+m / 31 % (if (xs.length:Int) - 1 > 1 then (xs.length:Int) - 1 else 1))=q0
  have o3:0<=q0 % (xs.length:Int):=Int.emod_nonneg _ (by omega)
  have o4:q0 % (xs.length:Int)<(xs.length:Int):=Int.emod_lt_of_pos _ xpos
  obtain⟨z,hz⟩:∃ z:Nat,q0 % (xs.length:Int)=(z:Int):=⟨(q0 % (xs.length:Int)).toNat,by omega⟩
  rw[hz]
  have zl:z<ps.length:=by omega
  refine⟨_,rfl,_,rfl,_,rfl,_,rfl,w2,l,n,xs,ps,y,L.length,rfl,hW6.same s7,hG,hl7,hP6.same s7,yl,hJ,hTC,d0,fun H8 s8=>⟨_,rfl,?_⟩⟩
  refine iteF ?_
  show(_:Prop)
  refine ζT6 ?_
  have s78:=s7.trans s8
  refine⟨_,rfl,_,rfl,rfl,_,rfl,?_⟩
  rw[ζI]
  refine itn2 (fun e=>?_) (fun e=>?_)
  ·exact iteF ⟨_,_,_,_,rfl,s78⟩
  ·refine⟨_,rfl,_,rfl,_,rfl,_,rfl,w2,n,ps,y,z,L.length,rfl,hW6.same s78,hG,yl,zl,fun h=>e (by rw[h]),hJ,hTC,d0,fun H9 s9=>⟨_,rfl,?_⟩⟩
   exact iteF ⟨_,_,_,_,rfl,s78.trans s9⟩
end
end My
namespace My
open PySem L2
theorem law_binds {K:PySem.W.Frag} {f:Addr} {fd:FuncData} (F:Fun K "law" "law" sζL f fd) (s:Shared) (u:Value):BindsTo s fd ⟨[u],[]⟩ [("script",u)]:=by
 obtain⟨oc,od,kV,doc,pm,an,cdv,ct,osl,rfl,lk,hcd⟩:=F.ex
 exact .of_eq rfl
end My
open PySem PySem.W PyProof.Rows
set_option maxRecDepth 100000 in
set_option maxHeartbeats 0 in
theorem PySem.Challenge.cw_spanrow_k93_whole_shares_and_counts_holds : PySem.Challenge.rw_spanrow_k93_whole_shares_and_counts.Holds := by
 w_on;o_law;k_head;(case hw=>w_witness2)
 k_fill
 refine L2.walk_ofK (l:=PySem.Challenge.rw_spanrow_k93_whole_shares_and_counts) (n:=63) (k:=13) (x:="script") (CX:=L2.CX0) (sp:=My.spζL) rfl (by decide) rfl ⟨rfl,by decide,by decide⟩ (fun w h Y=>PySem.W.kIn_of Y) ?F (fun _ H a ns hl _ hS=>⟨a,ns,rfl,hS,hl,fun _=>rfl⟩) (fun _ _ _ _ z=>z)
 case F =>
  intro w mg fa h KX G hmg
  have hζ0:My.FX (L2.KOf KX) mg "refuse_not_square" "refuse_not_square" My.sζ0:=by
   dsimp only [L2.KOf]
   refine' My.fx_mk KX G ?a ?l ?c ?k
   (case a=>k_is);(case l=>k_is);(case c=>k_is);(case k=>k_is)
  have hζ1:My.FX (L2.KOf KX) mg "row_taken_off" "row_taken_off" My.sζ1:=by
   dsimp only [L2.KOf]
   refine' My.fx_mk KX G ?a ?l ?c ?k
   (case a=>k_is);(case l=>k_is);(case c=>k_is);(case k=>k_is)
  have hζ2:My.FX (L2.KOf KX) mg "first_with_some" "first_with_some" My.sζ2:=by
   dsimp only [L2.KOf]
   refine' My.fx_mk KX G ?a ?l ?c ?k
   (case a=>k_is);(case l=>k_is);(case c=>k_is);(case k=>k_is)
  have hζ3:My.FX (L2.KOf KX) mg "determinant" "determinant" My.sζ3:=by
   dsimp only [L2.KOf]
   refine' My.fx_mk KX G ?a ?l ?c ?k
   (case a=>k_is);(case l=>k_is);(case c=>k_is);(case k=>k_is)
  have hζ4:My.FX (L2.KOf KX) mg "row_without" "row_without" My.sζ4:=by
   dsimp only [L2.KOf]
   refine' My.fx_mk KX G ?a ?l ?c ?k
   (case a=>k_is);(case l=>k_is);(case c=>k_is);(case k=>k_is)
  have hζ5:My.FX (L2.KOf KX) mg "table_without" "table_without" My.sζ5:=by
   dsimp only [L2.KOf]
   refine' My.fx_mk KX G ?a ?l ?c ?k
   (case a=>k_is);(case l=>k_is);(case c=>k_is);(case k=>k_is)
  have hζ6:My.FX (L2.KOf KX) mg "common_divisor" "common_divisor" My.sζ6:=by
   dsimp only [L2.KOf]
   refine' My.fx_mk KX G ?a ?l ?c ?k
   (case a=>k_is);(case l=>k_is);(case c=>k_is);(case k=>k_is)
  have hζ7:My.FX (L2.KOf KX) mg "fraction" "fraction" My.sζ7:=by
   dsimp only [L2.KOf]
   refine' My.fx_mk KX G ?a ?l ?c ?k
   (case a=>k_is);(case l=>k_is);(case c=>k_is);(case k=>k_is)
  have hζ8:My.FX (L2.KOf KX) mg "with_column" "with_column" My.sζ8:=by
   dsimp only [L2.KOf]
   refine' My.fx_mk KX G ?a ?l ?c ?k
   (case a=>k_is);(case l=>k_is);(case c=>k_is);(case k=>k_is)
  have hζ9:My.FX (L2.KOf KX) mg "solved" "solved" My.sζ9:=by
   dsimp only [L2.KOf]
   refine' My.fx_mk KX G ?a ?l ?c ?k
   (case a=>k_is);(case l=>k_is);(case c=>k_is);(case k=>k_is)
  have hζa:My.FX (L2.KOf KX) mg "refuse_bad_web" "refuse_bad_web" My.sζa:=by
   dsimp only [L2.KOf]
   refine' My.fx_mk KX G ?a ?l ?c ?k
   (case a=>k_is);(case l=>k_is);(case c=>k_is);(case k=>k_is)
  have hζc:My.FX (L2.KOf KX) mg "is_place" "is_place" My.sζc:=by
   dsimp only [L2.KOf]
   refine' My.fx_mk KX G ?a ?l ?c ?k
   (case a=>k_is);(case l=>k_is);(case c=>k_is);(case k=>k_is)
  have hζd:My.FX (L2.KOf KX) mg "is_tie" "is_tie" My.sζd:=by
   dsimp only [L2.KOf]
   refine' My.fx_mk KX G ?a ?l ?c ?k
   (case a=>k_is);(case l=>k_is);(case c=>k_is);(case k=>k_is)
  have hζe:My.FX (L2.KOf KX) mg "all_ties" "all_ties" My.sζe:=by
   dsimp only [L2.KOf]
   refine' My.fx_mk KX G ?a ?l ?c ?k
   (case a=>k_is);(case l=>k_is);(case c=>k_is);(case k=>k_is)
  have hζf:My.FX (L2.KOf KX) mg "is_set" "is_set" My.sζf:=by
   dsimp only [L2.KOf]
   refine' My.fx_mk KX G ?a ?l ?c ?k
   (case a=>k_is);(case l=>k_is);(case c=>k_is);(case k=>k_is)
  have hζg:My.FX (L2.KOf KX) mg "made_set" "made_set" My.sζg:=by
   dsimp only [L2.KOf]
   refine' My.fx_mk KX G ?a ?l ?c ?k
   (case a=>k_is);(case l=>k_is);(case c=>k_is);(case k=>k_is)
  have hζh:My.FX (L2.KOf KX) mg "merged_marks" "merged_marks" My.sζh:=by
   dsimp only [L2.KOf]
   refine' My.fx_mk KX G ?a ?l ?c ?k
   (case a=>k_is);(case l=>k_is);(case c=>k_is);(case k=>k_is)
  have hζi:My.FX (L2.KOf KX) mg "piece_marks" "piece_marks" My.sζi:=by
   dsimp only [L2.KOf]
   refine' My.fx_mk KX G ?a ?l ?c ?k
   (case a=>k_is);(case l=>k_is);(case c=>k_is);(case k=>k_is)
  have hζj:My.FX (L2.KOf KX) mg "pieces_of" "pieces_of" My.sζj:=by
   dsimp only [L2.KOf]
   refine' My.fx_mk KX G ?a ?l ?c ?k
   (case a=>k_is);(case l=>k_is);(case c=>k_is);(case k=>k_is)
  have hζk:My.FX (L2.KOf KX) mg "is_joined" "is_joined" My.sζk:=by
   dsimp only [L2.KOf]
   refine' My.fx_mk KX G ?a ?l ?c ?k
   (case a=>k_is);(case l=>k_is);(case c=>k_is);(case k=>k_is)
  have hζl:My.FX (L2.KOf KX) mg "refuse_parted" "refuse_parted" My.sζl:=by
   dsimp only [L2.KOf]
   refine' My.fx_mk KX G ?a ?l ?c ?k
   (case a=>k_is);(case l=>k_is);(case c=>k_is);(case k=>k_is)
  have hζm:My.FX (L2.KOf KX) mg "weighted_table" "weighted_table" My.sζm:=by
   dsimp only [L2.KOf]
   refine' My.fx_mk KX G ?a ?l ?c ?k
   (case a=>k_is);(case l=>k_is);(case c=>k_is);(case k=>k_is)
  have hζn:My.FX (L2.KOf KX) mg "pull_table" "pull_table" My.sζn:=by
   dsimp only [L2.KOf]
   refine' My.fx_mk KX G ?a ?l ?c ?k
   (case a=>k_is);(case l=>k_is);(case c=>k_is);(case k=>k_is)
  have hζo:My.FX (L2.KOf KX) mg "heights_of" "heights_of" My.sζo:=by
   dsimp only [L2.KOf]
   refine' My.fx_mk KX G ?a ?l ?c ?k
   (case a=>k_is);(case l=>k_is);(case c=>k_is);(case k=>k_is)
  have hζp:My.FX (L2.KOf KX) mg "refuse_no_tie" "refuse_no_tie" My.sζp:=by
   dsimp only [L2.KOf]
   refine' My.fx_mk KX G ?a ?l ?c ?k
   (case a=>k_is);(case l=>k_is);(case c=>k_is);(case k=>k_is)
  have hζq:My.FX (L2.KOf KX) mg "fraction_less" "fraction_less" My.sζq:=by
   dsimp only [L2.KOf]
   refine' My.fx_mk KX G ?a ?l ?c ?k
   (case a=>k_is);(case l=>k_is);(case c=>k_is);(case k=>k_is)
  have hζr:My.FX (L2.KOf KX) mg "lean_of" "lean_of" My.sζr:=by
   dsimp only [L2.KOf]
   refine' My.fx_mk KX G ?a ?l ?c ?k
   (case a=>k_is);(case l=>k_is);(case c=>k_is);(case k=>k_is)
  have hζs:My.FX (L2.KOf KX) mg "tree_count" "tree_count" My.sζs:=by
   dsimp only [L2.KOf]
   refine' My.fx_mk KX G ?a ?l ?c ?k
   (case a=>k_is);(case l=>k_is);(case c=>k_is);(case k=>k_is)
  have hζt:My.FX (L2.KOf KX) mg "part_count" "part_count" My.sζt:=by
   dsimp only [L2.KOf]
   refine' My.fx_mk KX G ?a ?l ?c ?k
   (case a=>k_is);(case l=>k_is);(case c=>k_is);(case k=>k_is)
  have hζu:My.FX (L2.KOf KX) mg "share_of" "share_of" My.sζu:=by
   dsimp only [L2.KOf]
   refine' My.fx_mk KX G ?a ?l ?c ?k
   (case a=>k_is);(case l=>k_is);(case c=>k_is);(case k=>k_is)
  have hζv:My.FX (L2.KOf KX) mg "heights_hold" "heights_hold" My.sζv:=by
   dsimp only [L2.KOf]
   refine' My.fx_mk KX G ?a ?l ?c ?k
   (case a=>k_is);(case l=>k_is);(case c=>k_is);(case k=>k_is)
  have hζw:My.FX (L2.KOf KX) mg "have_common" "have_common" My.sζw:=by
   dsimp only [L2.KOf]
   refine' My.fx_mk KX G ?a ?l ?c ?k
   (case a=>k_is);(case l=>k_is);(case c=>k_is);(case k=>k_is)
  have hζx:My.FX (L2.KOf KX) mg "count_with" "count_with" My.sζx:=by
   dsimp only [L2.KOf]
   refine' My.fx_mk KX G ?a ?l ?c ?k
   (case a=>k_is);(case l=>k_is);(case c=>k_is);(case k=>k_is)
  have hζy:My.FX (L2.KOf KX) mg "is_number" "is_number" My.sζy:=by
   dsimp only [L2.KOf]
   refine' My.fx_mk KX G ?a ?l ?c ?k
   (case a=>k_is);(case l=>k_is);(case c=>k_is);(case k=>k_is)
  have hζz:My.FX (L2.KOf KX) mg "read_number" "read_number" My.sζz:=by
   dsimp only [L2.KOf]
   refine' My.fx_mk KX G ?a ?l ?c ?k
   (case a=>k_is);(case l=>k_is);(case c=>k_is);(case k=>k_is)
  have hζA:My.FX (L2.KOf KX) mg "read_line" "read_line" My.sζA:=by
   dsimp only [L2.KOf]
   refine' My.fx_mk KX G ?a ?l ?c ?k
   (case a=>k_is);(case l=>k_is);(case c=>k_is);(case k=>k_is)
  have hζB:My.FX (L2.KOf KX) mg "read_web" "read_web" My.sζB:=by
   dsimp only [L2.KOf]
   refine' My.fx_mk KX G ?a ?l ?c ?k
   (case a=>k_is);(case l=>k_is);(case c=>k_is);(case k=>k_is)
  have hζC:My.FX (L2.KOf KX) mg "_law_cell" "_law_cell" My.sζC:=by
   dsimp only [L2.KOf]
   refine' My.fx_mk KX G ?a ?l ?c ?k
   (case a=>k_is);(case l=>k_is);(case c=>k_is);(case k=>k_is)
  have hζD:My.FX (L2.KOf KX) mg "_law_mixed" "_law_mixed" My.sζD:=by
   dsimp only [L2.KOf]
   refine' My.fx_mk KX G ?a ?l ?c ?k
   (case a=>k_is);(case l=>k_is);(case c=>k_is);(case k=>k_is)
  have hζE:My.FX (L2.KOf KX) mg "_law_draws" "_law_draws" My.sζE:=by
   dsimp only [L2.KOf]
   refine' My.fx_mk KX G ?a ?l ?c ?k
   (case a=>k_is);(case l=>k_is);(case c=>k_is);(case k=>k_is)
  have hζF:My.FX (L2.KOf KX) mg "_law_ties" "_law_ties" My.sζF:=by
   dsimp only [L2.KOf]
   refine' My.fx_mk KX G ?a ?l ?c ?k
   (case a=>k_is);(case l=>k_is);(case c=>k_is);(case k=>k_is)
  have hζG:My.FX (L2.KOf KX) mg "_law_web" "_law_web" My.sζG:=by
   dsimp only [L2.KOf]
   refine' My.fx_mk KX G ?a ?l ?c ?k
   (case a=>k_is);(case l=>k_is);(case c=>k_is);(case k=>k_is)
  have hζH:My.FX (L2.KOf KX) mg "_law_lengths" "_law_lengths" My.sζH:=by
   dsimp only [L2.KOf]
   refine' My.fx_mk KX G ?a ?l ?c ?k
   (case a=>k_is);(case l=>k_is);(case c=>k_is);(case k=>k_is)
  have hζI:My.FX (L2.KOf KX) mg "_law_text" "_law_text" My.sζI:=by
   dsimp only [L2.KOf]
   refine' My.fx_mk KX G ?a ?l ?c ?k
   (case a=>k_is);(case l=>k_is);(case c=>k_is);(case k=>k_is)
  have hζJ:My.FX (L2.KOf KX) mg "_law_tie_good" "_law_tie_good" My.sζJ:=by
   dsimp only [L2.KOf]
   refine' My.fx_mk KX G ?a ?l ?c ?k
   (case a=>k_is);(case l=>k_is);(case c=>k_is);(case k=>k_is)
  have hζK:My.FX (L2.KOf KX) mg "_law_two_good" "_law_two_good" My.sζK:=by
   dsimp only [L2.KOf]
   refine' My.fx_mk KX G ?a ?l ?c ?k
   (case a=>k_is);(case l=>k_is);(case c=>k_is);(case k=>k_is)
  have hζL:My.FX (L2.KOf KX) mg "law" "law" My.sζL:=by
   dsimp only [L2.KOf]
   refine' My.fx_mk KX G ?a ?l ?c ?k
   (case a=>k_is);(case l=>k_is);(case c=>k_is);(case k=>k_is)
  have h_Web:My.CXF (L2.KOf KX) mg "Web" "Web.__init__" My.sζb ["places","ties"]:=by
   dsimp only [L2.KOf]
   refine' My.cx_mk KX G ?aC ?a ?i ?l ?c ?k ?pg ?hd ?po ?sa ?mk ?kc ?na
   (case aC=>k_is);(case a=>k_is);(case i=>k_is);(case l=>k_is);(case c=>k_is);(case k=>k_is)
   (case pg=>k_is);(case hd=>k_is);(case po=>k_is);(case sa=>k_is);(case mk=>k_is);(case kc=>k_is)
   (case na=>(intro f hf;simp only [List.mem_cons,List.not_mem_nil,or_false]at hf;rcases hf with rfl | rfl <;> k_is))
  have h_MOST_PLACES:∃ tk,mg "MOST_PLACES"=some (.int 14 tk):=by
   refine' My.const_mk KX G ?a ?b
   (case a=>k_is);(case b=>exact⟨_,rfl⟩)
  have h_MOST_TIES:∃ tk,mg "MOST_TIES"=some (.int 30 tk):=by
   refine' My.const_mk KX G ?a ?b
   (case a=>k_is);(case b=>exact⟨_,rfl⟩)
  have h_FIGURES:∃ tk,mg "FIGURES"=some (.str "0123456789" tk):=by
   refine' My.const_mkS KX G ?a ?b
   (case a=>k_is);(case b=>exact⟨_,rfl⟩)
  have h_MOST_FIGURES:∃ tk,mg "MOST_FIGURES"=some (.int 60 tk):=by
   refine' My.const_mk KX G ?a ?b
   (case a=>k_is);(case b=>exact⟨_,rfl⟩)
  have h_abs:mg "abs"=none:=by
   refine' PySem.W.mg_none_of KX G ?a
   (case a=>k_is)
  have h_any:mg "any"=none:=by
   refine' PySem.W.mg_none_of KX G ?a
   (case a=>k_is)
  have h_enumerate:mg "enumerate"=none:=by
   refine' PySem.W.mg_none_of KX G ?a
   (case a=>k_is)
  have h_int:mg "int"=none:=by
   refine' PySem.W.mg_none_of KX G ?a
   (case a=>k_is)
  have h_len:mg "len"=none:=by
   refine' PySem.W.mg_none_of KX G ?a
   (case a=>k_is)
  have h_list:mg "list"=none:=by
   refine' PySem.W.mg_none_of KX G ?a
   (case a=>k_is)
  have h_max:mg "max"=none:=by
   refine' PySem.W.mg_none_of KX G ?a
   (case a=>k_is)
  have h_min:mg "min"=none:=by
   refine' PySem.W.mg_none_of KX G ?a
   (case a=>k_is)
  have h_range:mg "range"=none:=by
   refine' PySem.W.mg_none_of KX G ?a
   (case a=>k_is)
  have h_set:mg "set"=none:=by
   refine' PySem.W.mg_none_of KX G ?a
   (case a=>k_is)
  have h_sorted:mg "sorted"=none:=by
   refine' PySem.W.mg_none_of KX G ?a
   (case a=>k_is)
  have h_str:mg "str"=none:=by
   refine' PySem.W.mg_none_of KX G ?a
   (case a=>k_is)
  have h_sum:mg "sum"=none:=by
   refine' PySem.W.mg_none_of KX G ?a
   (case a=>k_is)
  have h_tuple:mg "tuple"=none:=by
   refine' PySem.W.mg_none_of KX G ?a
   (case a=>k_is)
  have h_zip:mg "zip"=none:=by
   refine' PySem.W.mg_none_of KX G ?a
   (case a=>k_is)
  obtain⟨aζ0,dζ0,mζ0,fζ0⟩:=hζ0
  obtain⟨aζ1,dζ1,mζ1,fζ1⟩:=hζ1
  obtain⟨aζ2,dζ2,mζ2,fζ2⟩:=hζ2
  obtain⟨aζ3,dζ3,mζ3,fζ3⟩:=hζ3
  obtain⟨aζ4,dζ4,mζ4,fζ4⟩:=hζ4
  obtain⟨aζ5,dζ5,mζ5,fζ5⟩:=hζ5
  obtain⟨aζ6,dζ6,mζ6,fζ6⟩:=hζ6
  obtain⟨aζ7,dζ7,mζ7,fζ7⟩:=hζ7
  obtain⟨aζ8,dζ8,mζ8,fζ8⟩:=hζ8
  obtain⟨aζ9,dζ9,mζ9,fζ9⟩:=hζ9
  obtain⟨aζa,dζa,mζa,fζa⟩:=hζa
  obtain⟨aζc,dζc,mζc,fζc⟩:=hζc
  obtain⟨aζd,dζd,mζd,fζd⟩:=hζd
  obtain⟨aζe,dζe,mζe,fζe⟩:=hζe
  obtain⟨aζf,dζf,mζf,fζf⟩:=hζf
  obtain⟨aζg,dζg,mζg,fζg⟩:=hζg
  obtain⟨aζh,dζh,mζh,fζh⟩:=hζh
  obtain⟨aζi,dζi,mζi,fζi⟩:=hζi
  obtain⟨aζj,dζj,mζj,fζj⟩:=hζj
  obtain⟨aζk,dζk,mζk,fζk⟩:=hζk
  obtain⟨aζl,dζl,mζl,fζl⟩:=hζl
  obtain⟨aζm,dζm,mζm,fζm⟩:=hζm
  obtain⟨aζn,dζn,mζn,fζn⟩:=hζn
  obtain⟨aζo,dζo,mζo,fζo⟩:=hζo
  obtain⟨aζp,dζp,mζp,fζp⟩:=hζp
  obtain⟨aζq,dζq,mζq,fζq⟩:=hζq
  obtain⟨aζr,dζr,mζr,fζr⟩:=hζr
  obtain⟨aζs,dζs,mζs,fζs⟩:=hζs
  obtain⟨aζt,dζt,mζt,fζt⟩:=hζt
  obtain⟨aζu,dζu,mζu,fζu⟩:=hζu
  obtain⟨aζv,dζv,mζv,fζv⟩:=hζv
  obtain⟨aζw,dζw,mζw,fζw⟩:=hζw
  obtain⟨aζx,dζx,mζx,fζx⟩:=hζx
  obtain⟨aζy,dζy,mζy,fζy⟩:=hζy
  obtain⟨aζz,dζz,mζz,fζz⟩:=hζz
  obtain⟨aζA,dζA,mζA,fζA⟩:=hζA
  obtain⟨aζB,dζB,mζB,fζB⟩:=hζB
  obtain⟨aζC,dζC,mζC,fζC⟩:=hζC
  obtain⟨aζD,dζD,mζD,fζD⟩:=hζD
  obtain⟨aζE,dζE,mζE,fζE⟩:=hζE
  obtain⟨aζF,dζF,mζF,fζF⟩:=hζF
  obtain⟨aζG,dζG,mζG,fζG⟩:=hζG
  obtain⟨aζH,dζH,mζH,fζH⟩:=hζH
  obtain⟨aζI,dζI,mζI,fζI⟩:=hζI
  obtain⟨aζJ,dζJ,mζJ,fζJ⟩:=hζJ
  obtain⟨aζK,dζK,mζK,fζK⟩:=hζK
  obtain⟨aζL,dζL,mζL,fζL⟩:=hζL
  obtain⟨A_Web,aζb,dζb,c_Web,fζb,cl_Web,k_Web,na_Web⟩:=h_Web
  have T:My.Txt (L2.KOf KX) mg ⟨aζ0,dζ0,aζ1,dζ1,aζ2,dζ2,aζ3,dζ3,aζ4,dζ4,aζ5,dζ5,aζ6,dζ6,aζ7,dζ7,aζ8,dζ8,aζ9,dζ9,aζa,dζa,aζb,dζb,aζc,dζc,aζd,dζd,aζe,dζe,aζf,dζf,aζg,dζg,aζh,dζh,aζi,dζi,aζj,dζj,aζk,dζk,aζl,dζl,aζm,dζm,aζn,dζn,aζo,dζo,aζp,dζp,aζq,dζq,aζr,dζr,aζs,dζs,aζt,dζt,aζu,dζu,aζv,dζv,aζw,dζw,aζx,dζx,aζy,dζy,aζz,dζz,aζA,dζA,aζB,dζB,aζC,dζC,aζD,dζD,aζE,dζE,aζF,dζF,aζG,dζG,aζH,dζH,aζI,dζI,aζJ,dζJ,aζK,dζK,aζL,dζL,A_Web⟩:=⟨fζ0,fζ0.binds (fun _ _ _ _ _ _ us hl=>by obtain⟨_,rfl⟩:=My.len1 hl;rfl),mζ0,fζ1,fζ1.binds (fun _ _ _ _ _ _ us hl=>by obtain⟨_,_,_,rfl⟩:=My.len3 hl;rfl),mζ1,fζ2,fζ2.binds (fun _ _ _ _ _ _ us hl=>by obtain⟨_,rfl⟩:=My.len1 hl;rfl),mζ2,fζ3,fζ3.binds (fun _ _ _ _ _ _ us hl=>by obtain⟨_,rfl⟩:=My.len1 hl;rfl),mζ3,fζ4,fζ4.binds (fun _ _ _ _ _ _ us hl=>by obtain⟨_,_,rfl⟩:=My.len2 hl;rfl),mζ4,fζ5,fζ5.binds (fun _ _ _ _ _ _ us hl=>by obtain⟨_,_,rfl⟩:=My.len2 hl;rfl),mζ5,fζ6,fζ6.binds (fun _ _ _ _ _ _ us hl=>by obtain⟨_,_,rfl⟩:=My.len2 hl;rfl),mζ6,fζ7,fζ7.binds (fun _ _ _ _ _ _ us hl=>by obtain⟨_,_,rfl⟩:=My.len2 hl;rfl),mζ7,fζ8,fζ8.binds (fun _ _ _ _ _ _ us hl=>by obtain⟨_,_,_,rfl⟩:=My.len3 hl;rfl),mζ8,fζ9,fζ9.binds (fun _ _ _ _ _ _ us hl=>by obtain⟨_,_,rfl⟩:=My.len2 hl;rfl),mζ9,fζa,fζa.binds (fun _ _ _ _ _ _ us hl=>by obtain⟨_,_,rfl⟩:=My.len2 hl;rfl),mζa,fζb,fζb.binds (fun _ _ _ _ _ _ us hl=>by obtain⟨_,_,_,rfl⟩:=My.len3 hl;rfl),fζc,fζc.binds (fun _ _ _ _ _ _ us hl=>by obtain⟨_,_,rfl⟩:=My.len2 hl;rfl),mζc,fζd,fζd.binds (fun _ _ _ _ _ _ us hl=>by obtain⟨_,_,rfl⟩:=My.len2 hl;rfl),mζd,fζe,fζe.binds (fun _ _ _ _ _ _ us hl=>by obtain⟨_,rfl⟩:=My.len1 hl;rfl),mζe,fζf,fζf.binds (fun _ _ _ _ _ _ us hl=>by obtain⟨_,_,rfl⟩:=My.len2 hl;rfl),mζf,fζg,fζg.binds (fun _ _ _ _ _ _ us hl=>by obtain⟨_,_,rfl⟩:=My.len2 hl;rfl),mζg,fζh,fζh.binds (fun _ _ _ _ _ _ us hl=>by obtain⟨_,_,_,rfl⟩:=My.len3 hl;rfl),mζh,fζi,fζi.binds (fun _ _ _ _ _ _ us hl=>by obtain⟨_,_,rfl⟩:=My.len2 hl;rfl),mζi,fζj,fζj.binds (fun _ _ _ _ _ _ us hl=>by obtain⟨_,_,rfl⟩:=My.len2 hl;rfl),mζj,fζk,fζk.binds (fun _ _ _ _ _ _ us hl=>by obtain⟨_,_,rfl⟩:=My.len2 hl;rfl),mζk,fζl,fζl.binds (fun _ _ _ _ _ _ us hl=>by obtain⟨_,rfl⟩:=My.len1 hl;rfl),mζl,fζm,fζm.binds (fun _ _ _ _ _ _ us hl=>by obtain⟨_,_,rfl⟩:=My.len2 hl;rfl),mζm,fζn,fζn.binds (fun _ _ _ _ _ _ us hl=>by obtain⟨_,rfl⟩:=My.len1 hl;rfl),mζn,fζo,fζo.binds (fun _ _ _ _ _ _ us hl=>by obtain⟨_,_,_,rfl⟩:=My.len3 hl;rfl),mζo,fζp,fζp.binds (fun _ _ _ _ _ _ us hl=>by obtain⟨_,_,rfl⟩:=My.len2 hl;rfl),mζp,fζq,fζq.binds (fun _ _ _ _ _ _ us hl=>by obtain⟨_,_,rfl⟩:=My.len2 hl;rfl),mζq,fζr,fζr.binds (fun _ _ _ _ _ _ us hl=>by obtain⟨_,_,_,rfl⟩:=My.len3 hl;rfl),mζr,fζs,fζs.binds (fun _ _ _ _ _ _ us hl=>by obtain⟨_,rfl⟩:=My.len1 hl;rfl),mζs,fζt,fζt.binds (fun _ _ _ _ _ _ us hl=>by obtain⟨_,_,_,rfl⟩:=My.len3 hl;rfl),mζt,fζu,fζu.binds (fun _ _ _ _ _ _ us hl=>by obtain⟨_,_,rfl⟩:=My.len2 hl;rfl),mζu,fζv,fζv.binds (fun _ _ _ _ _ _ us hl=>by obtain⟨_,_,_,_,rfl⟩:=My.len4 hl;rfl),mζv,fζw,fζw.binds (fun _ _ _ _ _ _ us hl=>by obtain⟨_,_,rfl⟩:=My.len2 hl;rfl),mζw,fζx,fζx.binds (fun _ _ _ _ _ _ us hl=>by obtain⟨_,_,_,rfl⟩:=My.len3 hl;rfl),mζx,fζy,fζy.binds (fun _ _ _ _ _ _ us hl=>by obtain⟨_,rfl⟩:=My.len1 hl;rfl),mζy,fζz,fζz.binds (fun _ _ _ _ _ _ us hl=>by obtain⟨_,rfl⟩:=My.len1 hl;rfl),mζz,fζA,fζA.binds (fun _ _ _ _ _ _ us hl=>by obtain⟨_,_,_,rfl⟩:=My.len3 hl;rfl),mζA,fζB,fζB.binds (fun _ _ _ _ _ _ us hl=>by obtain⟨_,rfl⟩:=My.len1 hl;rfl),mζB,fζC,fζC.binds (fun _ _ _ _ _ _ us hl=>by obtain⟨_,_,rfl⟩:=My.len2 hl;rfl),mζC,fζD,fζD.binds (fun _ _ _ _ _ _ us hl=>by obtain⟨_,_,rfl⟩:=My.len2 hl;rfl),mζD,fζE,fζE.binds (fun _ _ _ _ _ _ us hl=>by obtain⟨_,_,_,_,rfl⟩:=My.len4 hl;rfl),mζE,fζF,fζF.binds (fun _ _ _ _ _ _ us hl=>by obtain⟨_,_,_,rfl⟩:=My.len3 hl;rfl),mζF,fζG,fζG.binds (fun _ _ _ _ _ _ us hl=>by obtain⟨_,_,_,rfl⟩:=My.len3 hl;rfl),mζG,fζH,fζH.binds (fun _ _ _ _ _ _ us hl=>by obtain⟨_,_,rfl⟩:=My.len2 hl;rfl),mζH,fζI,fζI.binds (fun _ _ _ _ _ _ us hl=>by obtain⟨_,_,_,rfl⟩:=My.len3 hl;rfl),mζI,fζJ,fζJ.binds (fun _ _ _ _ _ _ us hl=>by obtain⟨_,_,_,_,rfl⟩:=My.len4 hl;rfl),mζJ,fζK,fζK.binds (fun _ _ _ _ _ _ us hl=>by obtain⟨_,_,_,_,rfl⟩:=My.len4 hl;rfl),mζK,fζL,fζL.binds (fun _ _ _ _ _ _ us hl=>by obtain⟨_,rfl⟩:=My.len1 hl;rfl),mζL,c_Web,cl_Web,k_Web,na_Web _ (by simp),na_Web _ (by simp),h_MOST_PLACES,h_MOST_TIES,h_FIGURES,h_MOST_FIGURES,h_abs,h_any,h_enumerate,h_int,h_len,h_list,h_max,h_min,h_range,h_set,h_sorted,h_str,h_sum,h_tuple,h_zip⟩
  have e0:=hmg.symm.trans mζL
  cases e0
  exact⟨dζL,fun s u=>My.law_binds fζL s u,fun base _ _=>My.okζL T⟩
#print axioms PySem.Challenge.cw_spanrow_k93_whole_shares_and_counts_holds
