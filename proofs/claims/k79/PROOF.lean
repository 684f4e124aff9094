import PyProof.Rows.All
import Wide.All
import OpenK.AllK
import Wide.FinOn
import Lean
import PyProof.EqAt
import PyProof.EqKinds
import PyProof.TupleCall
import PySem.Challenge.RW_spanrow_k79_whole_trees_of_the_other_web
set_option Elab.async false
set_option linter.all false
set_option maxRecDepth 100000
namespace PySem.W.Fast
def tw1719734496156551470:=0
def tw887492431606411852:=0
def tw10433455350503811627:=0
def tw6215523121784792032:=0
def tw1809051311402265649:=0
def tw6533669706342350009:=0
def tw16393418005942915466:=0
def tw5998696550124510948:=0
def tw2240542198564894412:=0
def tw15086464760315963420:=0
def tw11664943648336863726:=0
def tw5578663077399507368:=0
def tw2820000367472042396:=0
def tw3886077714269533612:=0
def tw2061125327103311407:=0
def tw12763221572222042798:=0
def tw8066014147885163254:=0
def tw7023476724251933321:=0
def tw3806579854785753346:=0
def tw4550170050054961800:=0
def tw14799997434704442546:=0
def tw1172751146944429116:=0
def tw9600760142473555088:=0
def tw4954136754679701987:=0
def tw317548203663709728:=0
def tw17025014339565934610:=0
def tw1409318566479744600:=0
def tw16019988962641146423:=0
def tw9870104270871864706:=0
def tw1963016287375148120:=0
def tw13073618277237672148:=0
def tw13808440703166898022:=0
def tw10620478803050651423:=0
def tw2647899131548548308:=0
def tw17512179992900025869:=0
def tw5747918260372071058:=0
def tw5933312835954665051:=0
def tw18343006672805870285:=0
def tw14679050562573942694:=0
def tw17853019674597265407:=0
def tw4262594919489873940:=0
def tw13440036555192450578:=0
def tw9872228241753462859:=0
def tw2175007884750221991:=0
def tw10140284903739972008:=0
def tw1713345716959090083:=0
def tw18038764949588800128:=0
def tw13991079131858801732:=0
def tw4112311617709277208:=0
def tw8674578032095079367:=0
def tw7630563653237432556:=0
def tw12282955602920214663:=0
def tw9589568312664138252:=0
def tw2843057955980107332:=0
def tw11136486638719435609:=0
def tw4570339401343784:=0
def tw3269353863009301907:=0
def tw2684645653513089941:=0
def tw4926362373112751390:=0
def tw11692243401613453697:=0
def tw4381532354615855115:=0
def tw16388855494602954520:=0
def tw18233771444625259307:=0
def tw6196018057576598694:=0
def tw6128374508968387854:=0
def tw692060232539605404:=0
def tw3104927347864604846:=0
def tw7907289784248860044:=0
def tw17051528063486891849:=0
def tw1154916761595426025:=0
def tw8499296608103828258:=0
def tw7727693987077700691:=0
def tw1391561255270776908:=0
def tw15775667190549628131:=0
def tw6548431392920542181:=0
def tw1123895744059818003:=0
def tw5206712650458620700:=0
def tw1214386520012167249:=0
def tw905337826677755747:=0
def tw9079374458367706317:=0
def tw3022828884550540828:=0
def tw17853867390280337802:=0
def tw16046595332030716884:=0
def tw1169312883386970809:=0
def tw9312427733761457128:=0
def tw13236732038913955776:=0
def tw9769022019548238322:=0
def tw9685987243268759379:=0
def tw90580940660117073:=0
def tw702419257157141159:=0
def tw16313431994848036827:=0
def tw25452439950231676:=0
def tw8568321031782464341:=0
def tw5047611303956100896:=0
def tw12116230403816496167:=0
def tw1141836124287425694:=0
def tw17139461984865593133:=0
def tw14713923235543250131:=0
def tw7047859372037332025:=0
def tw15278922540502270747:=0
def tw17702785744157020237:=0
def tw10330895198391946792:=0
def tw5623800846271328150:=0
def tw5611419940168998534:=0
def tw11313509802854557868:=0
def tw6425533889080066288:=0
def tw395938563518216638:=0
def tw4282186429921544923:=0
def tw1879793832429895912:=0
def tw3628430782742065784:=0
def tw14122629734204829307:=0
def tw11200131299259036854:=0
def tw5193097924575153950:=0
def tw13271850562534930054:=0
def tw4102191862148862209:=0
def tw798126970831095340:=0
def tw9215989928983021206:=0
def tw15618136747217375617:=0
def tw3567711515313259959:=0
def tw7402072891253042687:=0
def tw17638042461464863841:=0
def tw3460344724086744522:=0
def tw12237020216452299045:=0
def tw17889652595950916685:=0
def tw13169921291711764274:=0
def tw12304812955147283953:=0
def tw17382499568918058207:=0
def tw7499929824918933038:=0
def tw15361511755744294647:=0
def tw15965522988292070950:=0
def tw17402399568242941643:=0
def tw4019045834738764932:=0
def tw4634100347349212528:=0
def tw10584052387084286621:=0
def tw12506635067584468449:=0
def tw8268139440478232033:=0
def tw15388501909572030320:=0
def tw7944507369042808630:=0
def tw13387799828568763376:=0
def tw8986773251223453009:=0
def tw8094220809818099193:=0
def tw18011038912012985447:=0
def tw6811909549524868851:=0
def tw9311143292848256376:=0
def tw18167109517414932809:=0
def tw4436529204513136251:=0
def tw3394276425220064001:=0
def tw16373009728629960608:=0
def tw14999455716754149192:=0
def tw12368776178866004580:=0
def tw7550636942050021226:=0
def tw9992801392247846626:=0
def tw5572453326188723676:=0
def tw14927046046894079535:=0
def tw5271588436012819879:=0
def tw4193339235094794396:=0
def tw17119133422321494992:=0
def tw13762244564933331142:=0
def tw12955688191467879184:=0
def tw11761259122930006247:=0
def tw8934915351666797534:=0
def tw10300974581812258241:=0
def tw5996426528411193755:=0
def tw2800842878298494775:=0
def tw14556200537534914697:=0
def tw13613716588528614587:=0
def tw17238698954805995687:=0
def tw15389274712802441794:=0
def tw7434464207080116273:=0
def tw9146548347062294373:=0
def tw4172963767128583409:=0
def tw7710454219806793685:=0
def tw15799327318966891706:=0
def tw754417750690079549:=0
def tw16066682414755896592:=0
def tw121429712990016145:=0
def tw10715549173450802300:=0
def tw17695613117882541185:=0
def tw4640321396830012663:=0
def tw15527853057757349569:=0
def tw470042921209646897:=0
def tw5880271625631633037:=0
def tw2777415621607481888:=0
def tw2237306571108132026:=0
def tw10598918908726028492:=0
def tw12068204421679684711:=0
def tw15719891612646408240:=0
def tw14767070889846523695:=0
def tw16952280742623768152:=0
def tw14146947310220625239:=0
def tw11329142015328151917:=0
def tw3815670451634768665:=0
def tw13133324426478452774:=0
def tw7182376133293068254:=0
def tw14861716349249650765:=0
def tw6017804827063960920:=0
def tw782468416977457916:=0
def tw398914653865281889:=0
def tw13909519884319820391:=0
def tw1377959094540401475:=0
def tw12825732315443075773:=0
def tw13824936136924207052:=0
def tw13568606604525394787:=0
def tw11041028724234877982:=0
def tw5537586889894776842:=0
def tw10715017799819955044:=0
def tw16655890221807350682:=0
def tw50273230049191754:=0
def tw17860245748835213137:=0
def tw1752071107680289544:=0
def tw9945496910520432030:=0
def tw17953141293365013184:=0
def tw13227274240896756113:=0
def tw17598615286606373210:=0
def tw12880706879497878011:=0
def tw8598103758111252917:=0
def tw12785655081085800066:=0
def tw10530196871263478201:=0
def tw17940117285737530497:=0
def tw7749674570193136701:=0
def tw15443431895293910609:=0
def tw3616848044745390282:=0
def tw3226470997119652338:=0
def tw13325709249827415989:=0
def tw13197560398806448188:=0
def tw2083908535721356376:=0
def tw569775397527719330:=0
def tw12747212890384091528:=0
def tw4303670557037187121:=0
def tw2892440298110376463:=0
def tw12264180227735672582:=0
def tw8095404604227607328:=0
def tw2207767106770499434:=0
def tw17887648564192437422:=0
def tw11903706643335239503:=0
def tw5279891039013535352:=0
def tw4917042187978852345:=0
def tw17699878571151622439:=0
def tw1981853408679300980:=0
def tw14733202440088849647:=0
def tw1292650343769376307:=0
def tw1028233024434317911:=0
def tw15127739353126505011:=0
def tw16051017271516870339:=0
def tw15065584383452144090:=0
def tw18170707521953940072:=0
def tw17958222570459918658:=0
def tw4803743992284255753:=0
def tw13151875740394601584:=0
def tw13462621991404039164:=0
def tw18314490132517127196:=0
def tw4392913893202270817:=0
def tw8320883687737904482:=0
def tw134855304639739117:=0
def tw14839786024251208330:=0
def tw10464027063098069735:=0
def tw7209455667333033543:=0
def tw12829589831280967629:=0
def tw520741822559914900:=0
def tw4060701121174237107:=0
def tw6858766136413174735:=0
def tw12629225934147589717:=0
def tw5722695408255333468:=0
def tw16379943695167206185:=0
def tw7566277129662574198:=0
def tw13247946135853418985:=0
def tw5947478270214820713:=0
def tw4633490210256721599:=0
def tw15382320163534050932:=0
def tw8746298240053441175:=0
def tw2963953326577846765:=0
def tw11270442410942886668:=0
def tw9201701600261671103:=0
def tw9184379347909385216:=0
def tw7368438054139492498:=0
def tw5778692217309548922:=0
def tw3014881502520993252:=0
def tw203477080034327585:=0
def tw16803886518993696994:=0
def tw12883273017216969486:=0
def tw1278353134463978921:=0
def tw5894133953303370207:=0
def tw4531306801483371950:=0
def tw5034919455698540173:=0
def tw3371746555634205104:=0
def tw15916375946548972590:=0
def tw10629839339741735390:=0
def tw1826898816514039944:=0
def tw5707059760235911220:=0
def tw1710152106135686593:=0
def tw15337096964792282188:=0
def tw1575926238770496470:=0
def tw8665333326532142901:=0
def tw7839098788723552947:=0
def tw5033392748456173776:=0
def tw16865035483017892878:=0
def tw14640005340420958073:=0
def tw12919417591799398470:=0
def tw950902117581650770:=0
def tw7816421471898087854:=0
def tw4299066970582901554:=0
def tw17819210557040193563:=0
def tw17317148843225949688:=0
def tw16647106542377896664:=0
def tw15374772365874013887:=0
def tw11779835095777275153:=0
def tw11493539016693084410:=0
def tw10866958537326271949:=0
def tw10123969991183519770:=0
def tw8050443792888270750:=0
def tw4131599133078901208:=0
def tw17238218879434690305:=0
def tw165822821760351737:=0
def tw15226486094074470295:=0
def tw14707437239142574691:=0
def tw14665463614050820812:=0
def tw13941477456113102310:=0
def tw13818250380154635157:=0
def tw12764894687997823197:=0
def tw7609923878336429636:=0
def tw8805270860527587023:=0
def tw7476031323899334820:=0
def tw4248075298568915834:=0
def tw2825589036615198181:=0
def tw17834692751365143929:=0
def tw16963306433986715945:=0
def tw16033587413363880792:=0
def tw13117621594155626071:=0
def tw9377004139845291570:=0
def tw9144321317665231022:=0
def tw6098069723643348670:=0
def tw5055426118479769579:=0
def tw3746097818554977410:=0
def tw1913483614000134242:=0
def tw15869875538183736399:=0
def tw15324414181701948180:=0
def tw10750817840679962912:=0
def tw105694338776817993:=0
def tw9838316611776588392:=0
def tw9813526375896757052:=0
def tw9602610690157798050:=0
def tw9589295061173170044:=0
def tw917733136933695073:=0
def tw91351541766368510:=0
def tw8997684378352929360:=0
def tw8992153568246013850:=0
def tw8805566937668509645:=0
def tw8749774293232239448:=0
def tw8517239657930168682:=0
def tw8453571169664785561:=0
def tw8446823387005260847:=0
def tw8417584244609924913:=0
def tw827442550823984661:=0
def tw8261034139517340588:=0
def tw8260658294239341005:=0
def tw7869423087887638472:=0
def tw7753720074455481281:=0
def tw7656197194078845657:=0
def tw7624628661690019106:=0
def tw7606773014097059135:=0
def tw7320083229881035038:=0
def tw7260789313539774419:=0
def tw7241606818318812884:=0
def tw7163140923610139740:=0
def tw7011739935486325956:=0
def tw694228189170184297:=0
def tw6597747787426933954:=0
def tw6537323688709467251:=0
def tw6341042695649213287:=0
def tw6268462157339532849:=0
def tw5884228696278613195:=0
def tw5805272856461308015:=0
def tw5735008703494194359:=0
def tw5554837675879497774:=0
def tw531078574696438473:=0
def tw5237818477644393932:=0
def tw4941918903710536230:=0
def tw4388610658836670278:=0
def tw4300658311164159852:=0
def tw4013742901980305035:=0
def tw3916952827196978022:=0
def tw3846605293604437689:=0
def tw3689583728793111138:=0
def tw3624797031988478799:=0
def tw3352078071816675333:=0
def tw3235284386663444781:=0
def tw3128896996672057884:=0
def tw3114545049743678092:=0
def tw2861695519338914068:=0
def tw2724403426780799516:=0
def tw2600569926527481405:=0
def tw2154474737684302191:=0
def tw2108612132380639690:=0
def tw2032292214535837846:=0
def tw1902941283139269399:=0
def tw1899805731479332768:=0
def tw1895860207679381056:=0
def tw1773518828726694911:=0
def tw17555414060368913633:=0
def tw17450624011486868193:=0
def tw17308790485391029799:=0
def tw17305247046963004393:=0
def tw17117126180172805607:=0
def tw1710233081391512383:=0
def tw17051840435427293481:=0
def tw16909505260509449183:=0
def tw16885483109904695539:=0
def tw16688686717371378196:=0
def tw16671758854661633223:=0
def tw16127239041076070392:=0
def tw16108466359499747433:=0
def tw15825729840696803353:=0
def tw15797469229167381256:=0
def tw15730081934834140222:=0
def tw15706342746569753207:=0
def tw15370010113725152770:=0
def tw15283419744048082797:=0
def tw15171982846852638080:=0
def tw14977519014374509612:=0
def tw14815823593258417561:=0
def tw1457226745512946690:=0
def tw14181212658574205505:=0
def tw13970373698602609991:=0
def tw13644776094953007711:=0
def tw13596191630804858373:=0
def tw13444264367280908403:=0
def tw13411777225815796278:=0
def tw13374261720103534317:=0
def tw13256482470533075105:=0
def tw13025780461761782316:=0
def tw12551659924371269064:=0
def tw12106807013142787819:=0
def tw11986783224034476845:=0
def tw11946345853925391339:=0
def tw11939818346546951154:=0
def tw11841656956454288917:=0
def tw11810994967522935082:=0
def tw1136977317290996460:=0
def tw10552455302456742565:=0
def tw10490331338804094111:=0
def tw10317556306662832599:=0
def tw10134416703875216951:=0
end PySem.W.Fast
/-! THE HAND LAYER,for ints,bools,texts,own classes,LISTS and tuples (index,slices,in,append,pop ..),calls,loops. Paste it whole ahead of your own text;what your proof does not reach may be deleted. -/
namespace L2
open PySem PySem.Spec PyProof.Rows
abbrev Key:=Sum Int Str
def keyIs:Key->Value->Bool
 | .inl k,v=>Value.isInt k v
 | .inr x,v=>Value.isStrOf x v
def keyH(w:World):Key->Int
 | .inl k=>hashInt k
 | .inr x=>hashStr w x
theorem keyIs_shape:∀ {k:Key} {v:Value},keyIs k v=true->(∃ i t,k=Sum.inl i/\v=Value.int i t)\/(∃ x t,k=Sum.inr x/\v=Value.str x t)
 | .inl i,v,h=>by
  obtain⟨t,e⟩:=Value.isInt_shape (k:=i) (v:=v) h
  exact .inl ⟨i,t,rfl,e⟩
 | .inr x,v,h=>by
  obtain⟨t,e⟩:=Value.isStrOf_shape (x:=x) (v:=v) h
  exact .inr ⟨x,t,rfl,e⟩
theorem keyIs_int(i:Int)(t:Tok):keyIs (.inl i) (.int i t)=true:=by simp[keyIs,Value.isInt]
theorem keyIs_str(x:Str)(t:Tok):keyIs (.inr x) (.str x t)=true:=by simp[keyIs,Value.isStrOf]
theorem key_ll(a b:Int):decide ((Sum.inl a:Key)=Sum.inl b)=(a == b):=by
 by_cases e:a=b
 ·subst e;simp
 ·have h:¬ (Sum.inl a:Key)=Sum.inl b:=fun q=>e (Sum.inl.inj q)
  rw[decide_eq_false h]
  exact(beq_eq_false_iff_ne.mpr e).symm
theorem key_rr(a b:Str):decide ((Sum.inr a:Key)=Sum.inr b)=decide (a=b):=by
 by_cases e:a=b
 ·subst e;simp
 ·have h:¬ (Sum.inr a:Key)=Sum.inr b:=fun q=>e (Sum.inr.inj q)
  rw[decide_eq_false h,decide_eq_false e]
theorem key_lr(a:Int)(b:Str):decide ((Sum.inl a:Key)=Sum.inr b)=false:=decide_eq_false (fun q=>nomatch q)
theorem key_rl(a:Str)(b:Int):decide ((Sum.inr a:Key)=Sum.inl b)=false:=decide_eq_false (fun q=>nomatch q)
def mixKind(prog:Program)(w:World):PySem.KeyKind prog w Key where
 is:=keyIs
 hash:=keyH w
 inj:=fun v a b ha hb=>by
  rcases keyIs_shape ha with ⟨i,t,rfl,rfl⟩ | ⟨x,t,rfl,rfl⟩
  ·rcases keyIs_shape hb with ⟨j,u,rfl,e⟩ | ⟨y,u,rfl,e⟩
   ·injection e with e1 _;rw[e1]
   ·exact nomatch e
  ·rcases keyIs_shape hb with ⟨j,u,rfl,e⟩ | ⟨y,u,rfl,e⟩
   ·exact nomatch e
   ·injection e with e1 _;rw[e1]
 byValue:=fun k v h=>by
  rcases keyIs_shape h with ⟨i,t,rfl,rfl⟩ | ⟨x,t,rfl,rfl⟩ <;> rfl
 pyHash:=fun hv h=>by
  rcases keyIs_shape hv with ⟨i,t,rfl,rfl⟩ | ⟨x,t,rfl,rfl⟩
  ·exact wpAny_pyHash_int h
  ·exact wpAny_pyHash_str h
 eqBool:=fun hu hv h=>by
  rcases keyIs_shape hu with ⟨i,t,rfl,rfl⟩ | ⟨x,t,rfl,rfl⟩
  ·rcases keyIs_shape hv with ⟨j,u,rfl,rfl⟩ | ⟨y,u,rfl,rfl⟩
   ·rw[key_ll]at h;exact wpAny_eqBool_int h
   ·rw[key_lr]at h;exact SeqAt.EqAt.int_str i t y u _ _ _ _ h
  ·rcases keyIs_shape hv with ⟨j,u,rfl,rfl⟩ | ⟨y,u,rfl,rfl⟩
   ·rw[key_rl]at h;exact SeqAt.EqAt.str_int x t j u _ _ _ _ h
   ·rw[key_rr]at h;exact wpAny_eqBool_str h
 «strs»:=fun k x t v h=>by
  rcases keyIs_shape h with ⟨i,u,rfl,e⟩ | ⟨y,u,rfl,e⟩
  ·exact nomatch e
  ·injection e with e1 _
   subst e1
   cases v <;> rfl
theorem mixKind_int(prog:Program)(w:World)(i:Int)(t:Tok):(mixKind prog w).is (.inl i) (.int i t)=true:=keyIs_int i t
theorem mixKind_str(prog:Program)(w:World)(x:Str)(t:Tok):(mixKind prog w).is (.inr x) (.str x t)=true:=keyIs_str x t
inductive V where
 | non | bl (b:Bool) | int (i:Int) | str (x:Str) | byt (b:Array UInt8) | flt (b:UInt64) | ref (a:Addr) | ty (n:String)
 deriving DecidableEq
def RelV:V->Value->Prop
 | .non,u=>u=Value.none
 | .bl b,u=>u=Value.bool b
 | .int i,u=>∃ t,u=Value.int i t
 | .str x,u=>∃ t,u=Value.str x t
 | .byt b,u=>∃ t,u=Value.bytes b t
 | .flt b,u=>∃ t,u=Value.float b t
 | .ref a,u=>u=Value.ref a
 | .ty n,u=>u=Value.type n
abbrev Vals:List V->List Value->Prop:=Paired RelV
theorem Vals.length{xs:List V}{us:List Value}(r:Vals xs us):xs.length=us.length:=Paired.length r
theorem Vals.get:∀ {xs:List V} {us:List Value} {i:Nat} {x:V},Vals xs us->xs[i]?=some x->∃ u,us[i]?=some u/\RelV x u
 | _,_,_,_,.nil,e=>by simp at e
 | _,_,0,_,.cons r _,e=>by simp at e;subst e;exact⟨_,rfl,r⟩
 | _,_,i+1,x,.cons _ t,e=>by
  obtain⟨u,h1,h2⟩:=Vals.get (i:=i) (x:=x) t (by simpa using e)
  exact⟨u,by simpa using h1,h2⟩
theorem Vals.set{x:V}{u:Value}(r:RelV x u):∀ {xs:List V} {us:List Value} (i:Nat),Vals xs us->Vals (xs.set i x) (us.set i u)
 | _,_,_,.nil=>.nil
 | _,_,0,.cons _ t=>.cons r t
 | _,_,i+1,.cons q t=>.cons q (Vals.set r i t)
theorem Vals.append:∀ {xs ys:List V} {us ws:List Value},Vals xs us->Vals ys ws->Vals (xs++ys) (us++ws)
 | _,_,_,_,.nil,s=>s
 | _,_,_,_,.cons r t,s=>.cons r (Vals.append t s)
theorem Vals.take:∀ {xs:List V} {us:List Value} (n:Nat),Vals xs us->Vals (xs.take n) (us.take n)
 | _,_,0,_=>.nil
 | _,_,_+1,.nil=>.nil
 | _,_,n+1,.cons r t=>.cons r (Vals.take n t)
theorem Vals.drop:∀ {xs:List V} {us:List Value} (n:Nat),Vals xs us->Vals (xs.drop n) (us.drop n)
 | _,_,0,r=>r
 | _,_,_+1,.nil=>.nil
 | _,_,n+1,.cons _ t=>Vals.drop n t
def RelO:Option V->Option Value->Prop
 | some v,some u=>RelV v u
 | none,none=>True
 | _,_=>False
def KV{κ:Type}:List (κ × V)->List (κ × Value)->Prop:=Paired fun(p:κ × V) (q:κ × Value)=>p.1=q.1/\RelV p.2 q.2
def kV:Key->V
 | .inl i=>.int i
 | .inr x=>.str x
inductive HO where
 | lst (xs:List V)
 | tup (xs:List V)
 | dK (kvs:List (Key × V)) | dT (kvs:List (List Key × V))
 | set (S:Int->Bool) (n:Nat)
 | ins (C dx:Addr) (fs:List (Str × V))
 | own (x:Addr)
 | xd (fs:List (Str × V))
 | met (f x:Addr)
 | rng (lo hi:Int)
 | frz (o:Obj) (u:HO)
 | tbl (ps:Array Value)
 | ext (φ:Heap->Prop)
abbrev Hp:=Addr->Option HO
def upd(H:Hp)(a:Addr)(o:HO):Hp:=fun b=>if b=a then some o else H b
theorem ζ1{H:Hp}{a:Addr}{o:HO}:upd H a o a=some o:=by unfold upd;rw[if_pos rfl]
theorem upd_ne{H:Hp}{a b:Addr}{o:HO}(h:b≠a):upd H a o b=H b:=by unfold upd;rw[if_neg h]
theorem ne_of{H:Hp}{a b:Addr}{o u:HO}(h:H a=some o)(h':H b=some u)(d:o≠u):a≠b:=by
 intro e;subst e;rw[h]at h';exact d (Option.some.inj h')
theorem ne_of_none{H:Hp}{a b:Addr}{o:HO}(h:H a=some o)(h':H b=none):a≠b:=by
 intro e;subst e;rw[h]at h';cases h'
section
variable(P:Program)(w:World)
def ObjOk(H:Hp)(h:Heap)(a:Addr):HO->Prop
 | .lst xs=>xs.length<=sizeLine/\∃(its:List Value) (n:Nat),Vals xs its/\h.get? a=some { cls:=.type "list",data:=.seq its.toArray n }
 | .tup xs=>xs.length<=sizeLine/\∃ its:List Value,Vals xs its/\IsTup h a its.toArray
 | .dK kvs=>kvs.length<=sizeLine/\(a == sysModules)=false/\∃ vs,KV kvs vs/\h.DictOf (mixKind P w) a vs
 | .dT kvs=>kvs.length<=sizeLine/\(a == sysModules)=false/\∃ xs:List (List Key × Addr × Value),
   Paired (fun(p:List Key × V) (q:List Key × Addr × Value)=>p.1=q.1/\H q.2.1=some (.tup (p.1.map kV))/\RelV p.2 q.2.2) kvs xs /\
   ∃ o es ep,h.get? a=some o/\o.ExactDict/\o.data=.dict es ep/\es.toList=xs.map (entryOfKey (tupleKind (mixKind P w)))/\(xs.map (·.1)).Nodup
 | .set S n=>h.SetOf (intKind P w) a S n
 | .ins C dx fs=>H dx=some (.own a)/\fs.length<=1000/\dx≠a/\h.get? a=some (PySem.W.instObj C dx) /\
   ∃ mA,h.Ns1 dx mA/\(∀ f,RelO (fs.lookup f) (mA f))/\PySem.Within mA (fs.map (·.1))
 | .own _=>∃ o,h.get? a=some o
 | .xd fs=>∃ mA,h.Ns1 a mA/\∀ f,RelO (fs.lookup f) (mA f)
 | .rng lo hi=>∃ t u v,h.get? a=some { cls:=.type "range",data:=.fields #[.int lo t,.int hi u,.int 1 v] }
 | .frz o u=>h.get? a=some o/\ObjOk H h a u
 | .tbl ps=>h.get? a=some { cls:=.none,data:=.fields ps }
 | .met f x=>h.get? a=some (PySem.W.methodObj (.ref f) (.ref x))
 | .ext φ=>φ h/\(∃ o,h.get? a=some o)/\∀ h1 h2:Heap,φ h1->(∀ o,h1.get? a=some o->h2.get? a=some o)->φ h2
def HOk(H:Hp)(h:Heap):Prop:=∀ a o,H a=some o->ObjOk P w H h a o
end
section
variable{P:Program}{w:World}{H H':Hp}{h h':Heap}{a:Addr}{o:HO}
theorem ObjOk.lt(x:ObjOk P w H h a o):a<h.objs.size:=by
 cases o with
 | lst xs=>obtain⟨_,_,_,_,e⟩:=x;exact Heap.lt_size e
 | tup xs=>obtain⟨_,_,_,p⟩:=x;exact p.lt
 | dK kvs=>obtain⟨_,_,_,_,o,_,_,e,_⟩:=x;exact Heap.lt_size e
 | dT kvs=>obtain⟨_,_,_,_,o,_,_,e,_⟩:=x;exact Heap.lt_size e
 | set S n=>obtain⟨o,_,_,_,e,_⟩:=x;exact Heap.lt_size e
 | ins C dx fs=>obtain⟨_,_,_,e,_⟩:=x;exact Heap.lt_size e
 | own y=>obtain⟨_,e⟩:=x;exact Heap.lt_size e
 | xd fs=>obtain⟨_,⟨_,_,_,e,_⟩,_⟩:=x;exact Heap.lt_size e
 | rng lo hi=>obtain⟨_,_,_,e⟩:=x;exact Heap.lt_size e
 | frz ob u=>obtain⟨e,_⟩:=x;exact Heap.lt_size e
 | tbl ps=>exact Heap.lt_size (show h.get? a=some _ from x)
 | met f y=>exact Heap.lt_size (show h.get? a=some _ from x)
 | ext φ=>obtain⟨_,⟨_,e⟩,_⟩:=x;exact Heap.lt_size e
theorem Paired.mapP{α β:Type}{F G:α->β->Prop}:∀ {l₁:List α} {l₂:List β},Paired F l₁ l₂->(∀ a b,F a b->G a b)->Paired G l₁ l₂
 | _,_,.nil,_=>.nil
 | _,_,.cons r t,f=>.cons (f _ _ r) (Paired.mapP t f)
theorem ObjOk.stay(x:ObjOk P w H h a o)(k:∀ b u,(b=a\/H b=some (.own a))->h.get? b=some u->h'.get? b=some u)
  (ho:∀ b,H b=some (.own a)->H' b=some (.own a)) (ht:∀ b xs,H b=some (.tup xs)->H' b=some (.tup xs)):ObjOk P w H' h' a o:=by
 induction o with
 | lst xs=>obtain⟨z,its,n,r,e⟩:=x;exact⟨z,its,n,r,k _ _ (.inl rfl) e⟩
 | tup xs=>obtain⟨z,its,r,ob,e,c⟩:=x;exact⟨z,its,r,ob,k _ _ (.inl rfl) e,c⟩
 | dK kvs=>obtain⟨z,y,vs,r,ob,es,ep,e,c⟩:=x;exact⟨z,y,vs,r,ob,es,ep,k _ _ (.inl rfl) e,c⟩
 | dT kvs =>
  obtain⟨z,y,xs,r,ob,es,ep,e,c⟩:=x
  exact⟨z,y,xs,Paired.mapP r fun p q z=>⟨z.1,ht _ _ z.2.1,z.2.2⟩,ob,es,ep,k _ _ (.inl rfl) e,c⟩
 | set S n=>obtain⟨ob,es,ep,t,e,c⟩:=x;exact⟨ob,es,ep,t,k _ _ (.inl rfl) e,c⟩
 | ins C dx fs =>
  obtain⟨d,z,ne,e,mA,⟨od,es,ep,e2,c⟩,r⟩:=x
  exact⟨ho _ d,z,ne,k _ _ (.inl rfl) e,mA,⟨od,es,ep,k _ _ (.inr d) e2,c⟩,r⟩
 | own y=>obtain⟨ob,e⟩:=x;exact⟨ob,k _ _ (.inl rfl) e⟩
 | xd fs=>obtain⟨mA,⟨od,es,ep,e,c⟩,r⟩:=x;exact⟨mA,⟨od,es,ep,k _ _ (.inl rfl) e,c⟩,r⟩
 | rng lo hi=>obtain⟨t,u,v,e⟩:=x;exact⟨t,u,v,k _ _ (.inl rfl) e⟩
 | frz ob u ih=>obtain⟨e,q⟩:=x;exact⟨k _ _ (.inl rfl) e,ih q⟩
 | tbl ps =>
  have e:h.get? a=some { cls:=.none,data:=.fields ps }:=x
  show h'.get? a=some { cls:=.none,data:=.fields ps }
  exact k a _ (.inl rfl) e
 | met f y =>
  have e:h.get? a=some (PySem.W.methodObj (.ref f) (.ref y)):=x
  show h'.get? a=some (PySem.W.methodObj (.ref f) (.ref y))
  exact k a _ (.inl rfl) e
 | ext φ=>obtain⟨p,⟨o,e⟩,st⟩:=x;exact⟨st _ _ p fun o q=>k _ _ (.inl rfl) q,⟨o,k _ _ (.inl rfl) e⟩,st⟩
theorem HOk.lt(x:HOk P w H h)(e:H a=some o):a<h.objs.size:=(x a o e).lt
theorem HOk.fresh(x:HOk P w H h)(e:h.objs.size<=a):H a=none:=by
 cases q:H a with
 | none=>rfl
 | some u=>exact absurd (Nat.lt_of_lt_of_le (x.lt q) e) (Nat.lt_irrefl _)
theorem HOk.kept(x:HOk P w H h)(k:∀ b u,h.get? b=some u->h'.get? b=some u):HOk P w H h':=fun a o e =>
 (x a o e).stay (fun b u _ q=>k b u q) (fun _ q=>q) fun _ _ q=>q
theorem HOk.laid(x:HOk P w H h)(k:∀ b u,h.get? b=some u->h'.get? b=some u)(hp:h.objs.size<=a)(new:ObjOk P w (upd H a o) h' a o):HOk P w (upd H a o) h':=fun b u e=>by
 have hn:=x.fresh hp
 by_cases hb:b=a
 ·subst hb;rw[ζ1]at e;cases e;exact new
 ·rw[upd_ne hb]at e
  exact(x b u e).stay (fun c v _ q=>k c v q) (fun c q=>by rw[upd_ne (ne_of_none q hn)];exact q) fun c xs q=>by rw[upd_ne (ne_of_none q hn)];exact q
end
def Rd(H:Hp)(a:Addr)(u:HO):Prop:=H a=some u\/∃ o,H a=some (.frz o u)
theorem Rd.ok{P:Program}{w:World}{H:Hp}{h:Heap}{a:Addr}{u:HO}(r:Rd H a u)(x:HOk P w H h):ObjOk P w H h a u:=by
 rcases r with r | ⟨o,r⟩
 ·exact x a u r
 ·obtain⟨_,q⟩:=x a _ r
  exact q
def Mut:Option HO->Prop
 | some (.lst _)=>True
 | some (.dK _)=>True
 | some (.dT _)=>True
 | some (.set _ _)=>True
 | some (.ins _ _ _)=>True
 | some (.ext _)=>True
 | _=>False
section
variable{P:Program}{w:World}{H:Hp}{h h':Heap}{x e:Addr}{o':HO}
theorem HOk.write(ok:HOk P w H h)(mu:Mut (H x))(he:e=x\/H e=some (.own x))(k:∀ b u,b≠e->h.get? b=some u->h'.get? b=some u)(heo:∃ u,h'.get? e=some u)
  (new:ObjOk P w (upd H x o') h' x o'):HOk P w (upd H x o') h':=fun b u q=>by
 have nown:∀ c y,H c=some (.own y)->c≠x:=fun c y r z=>by subst z;rw[r]at mu;exact mu
 have ntup:∀ c xs,H c=some (.tup xs)->c≠x:=fun c xs r z=>by subst z;rw[r]at mu;exact mu
 by_cases hb:b=x
 ·subst hb;rw[ζ1]at q;cases q;exact new
 ·rw[upd_ne hb]at q
  by_cases hbe:b=e
  ·have q':H b=some (.own x):=by
    rcases he with z | z
    ·exact absurd (hbe.trans z) hb
    ·rw[hbe];exact z
   rw[q]at q';cases q'
   obtain⟨v,hv⟩:=heo
   exact⟨v,by rw[hbe];exact hv⟩
  ·refine(ok b u q).stay (fun c v hc r=>k c v ?_ r) (fun c r=>by rw[upd_ne (nown c b r)];exact r) fun c xs r=>by rw[upd_ne (ntup c xs r)];exact r
   rcases hc with rfl | hc
   ·exact hbe
   ·rintro rfl
    rcases he with z | z
    ·exact nown c b hc z
    ·rw[hc]at z;cases z;exact hb rfl
end
structure Un (fs ex:List Addr) (H H':Hp) (h h':Heap):Prop where
 keep:∀ b o,h.get? b=some o->H b=none->b∉fs->b∉ex->h'.get? b=some o
 slot:∀ b o,h.get? b=some o->H b=none->b∈fs->b∉ex->∃ sl,h'.get? b=some { o with slots:=sl }
 free:∀ b o,h.get? b=some o->H b=none->b∉ex->H' b=none
 there:∀ b o,h.get? b=some o->b∉ex->∃ o',h'.get? b=some o'
 tups:∀ b xs,H b=some (.tup xs)->H' b=some (.tup xs)
 frzs:∀ b o u,H b=some (.frz o u)->H' b=some (.frz o u)
 tbls:∀ b ps,H b=some (.tbl ps)->∃ more,H' b=some (.tbl (ps++more))
section
variable{fs fs' ex ex':List Addr}{H H1 H2:Hp}{h h1 h2 h':Heap}{a x e:Addr}{o:HO}
theorem Un.any(u:Un fs ex H H1 h h1){b:Addr}{ob:Obj}(q:h.get? b=some ob)(n:H b=none)(hx:b∉ex):∃ sl,h1.get? b=some { ob with slots:=sl }:=by
 by_cases hb:b∈fs
 ·exact u.slot b ob q n hb hx
 ·exact⟨ob.slots,u.keep b ob q n hb hx⟩
theorem Un.trans(a:Un fs ex H H1 h h1)(b:Un fs ex H1 H2 h1 h2):Un fs ex H H2 h h2 where
 keep:=fun c ob q n hc hx=>b.keep c ob (a.keep c ob q n hc hx) (a.free c ob q n hx) hc hx
 slot:=fun c ob q n hc hx=>by
  obtain⟨sl,e1⟩:=a.slot c ob q n hc hx
  obtain⟨sl',e2⟩:=b.slot c _ e1 (a.free c ob q n hx) hc hx
  exact⟨sl',e2⟩
 free:=fun c ob q n hx=>by
  obtain⟨o',e1⟩:=a.there c ob q hx
  exact b.free c o' e1 (a.free c ob q n hx) hx
 there:=fun c ob q hx=>by
  obtain⟨o',e1⟩:=a.there c ob q hx
  exact b.there c o' e1 hx
 tups:=fun c xs q=>b.tups c xs (a.tups c xs q)
 frzs:=fun c ob xs q=>b.frzs c ob xs (a.frzs c ob xs q)
 tbls:=fun c ps q=>by
  obtain⟨m1,e1⟩:=a.tbls c ps q
  obtain⟨m2,e2⟩:=b.tbls c _ e1
  exact⟨m1++m2,by rw[e2,Array.append_assoc]⟩
theorem Un.kept(k:∀ b u,h.get? b=some u->h'.get? b=some u):Un fs ex H H h h' :=
 ⟨fun b ob q _ _ _=>k b ob q,fun b ob q _ _ _=>⟨ob.slots,k b ob q⟩,fun _ _ _ n _=>n,fun b ob q _=>⟨ob,k b ob q⟩,fun _ _ q=>q,fun _ _ _ q=>q,fun _ ps q=>⟨#[],by rw[q];simp⟩⟩
theorem Un.refl:Un fs ex H H h h:=Un.kept fun _ _ q=>q
theorem Un.laid(k:∀ b u,h.get? b=some u->h'.get? b=some u)(hp:h.objs.size<=a)(hn:H a=none):Un fs ex H (upd H a o) h h' where
 keep:=fun b u q _ _ _=>k b u q
 slot:=fun b u q _ _ _=>⟨u.slots,k b u q⟩
 free:=fun b u q n _=>by rw[upd_ne (Nat.ne_of_lt (Nat.lt_of_lt_of_le (Heap.lt_size q) hp))];exact n
 there:=fun b u q _=>⟨u,k b u q⟩
 tups:=fun b xs q=>by rw[upd_ne (ne_of_none q hn)];exact q
 frzs:=fun b u xs q=>by rw[upd_ne (ne_of_none q hn)];exact q
 tbls:=fun b ps q=>⟨#[],by rw[upd_ne (ne_of_none q hn),q];simp⟩
theorem Un.write(mu:Mut (H x))(he:e=x\/H e=some (.own x))(k:∀ b u,b≠e->h.get? b=some u->h'.get? b=some u)(heo:∃ u,h'.get? e=some u):Un fs ex H (upd H x o) h h':=by
 have hx:∀ b,H b=none->b≠x:=fun b n z=>by subst z;rw[n]at mu;exact mu
 have hb:∀ b,H b=none->b≠e:=fun b n z=>by
  subst z
  rcases he with r | r
  ·exact hx b n r
  ·rw[n]at r;cases r
 have hm:∀ b u,H b=some u->¬ Mut (some u)->b≠x:=fun b u q nm z=>by subst z;rw[q]at mu;exact nm mu
 refine⟨fun b u q n _ _=>k b u (hb b n) q,fun b u q n _ _=>⟨u.slots,k b u (hb b n) q⟩,fun b u q n _=>by rw[upd_ne (hx b n)];exact n,fun b u q _=>?_,
  fun b xs q=>by rw[upd_ne (hm b _ q fun z=>z)];exact q,fun b u xs q=>by rw[upd_ne (hm b _ q fun z=>z)];exact q,fun b ps q=>⟨#[],by rw[upd_ne (hm b _ q fun z=>z),q];simp⟩⟩
 by_cases hbe:b=e
 ·subst hbe;exact heo
 ·exact⟨u,k b u hbe q⟩
end
def trk(h:Heap)(H:Hp):List Addr:=(List.range h.objs.size).filter fun a=>(H a).isSome
def hidT(h:Heap)(H:Hp):Heap:=PySem.W.hideAll h (trk h H)
theorem hidT_size(h:Heap)(H:Hp):(hidT h H).objs.size=h.objs.size:=PySem.W.hideAll_size _ _
theorem hidT_get{h:Heap}{H:Hp}{b:Addr}{o:Obj}(e:h.get? b=some o)(n:H b=none):(hidT h H).get? b=some o :=
 PySem.W.hideAll_get _ e fun hm=>by
  have q:(H b).isSome=true:=(List.mem_filter.mp hm).2
  rw[n]at q;simp at q
theorem of_hidT{h:Heap}{H:Hp}{b:Addr}{o:Obj}(e:(hidT h H).get? b=some o):h.get? b=some o/\H b=none:=by
 have e':h.get? b=some o:=PySem.W.of_hideAll (trk h H) e
 refine⟨e',?_⟩
 cases q:H b with
 | none=>rfl
 | some x =>
  have hm:b∈trk h H:=List.mem_filter.mpr ⟨List.mem_range.mpr (Heap.lt_size e'),by simp[q]⟩
  have z:(hidT h H).get? b=none:=PySem.W.hideAll_none (trk h H) hm
  rw[z]at e;cases e
def allNews(g h:Heap)(L:Addr):List (Addr × Obj):=(List.range h.objs.size).filterMap fun a=>if a=L\/(g.get? a).isSome=true then none else (h.get? a).map fun o=>(a,o)
def rest(g h:Heap)(L d:Addr):List (Addr × Obj):=(allNews g h L).filter fun p=>decide (p.1≠d)
structure Mod (K:PySem.W.Frag) (mg:Str->Option Value) (base:Heap):Prop where
 kin:K.In base
 glob:base.Ns mainGlobals mg
 blt:∃ mb,base.Ns builtinsNs mb/\∀ x:Str,x≠"__name__"->mb x=bootBuiltins x
 nolimit:base.NoLimit
structure Cx where
 prog:Program
 w:World
 K:PySem.W.Frag
 mg:Str->Option Value
 base:Heap
 A:Around
 N:List Str
 s₀:Shared
 H₀:Hp
 env:Env
 outer:List Env
 stack:List Env
 ex:List Addr
 fn:Str->Bool
 calm:Bool
 pn:List (Addr × Obj)
 xe:Value->Shared->Prop
def frs(l:List Env):List Addr:=l.filterMap (·.frame)
abbrev Cx.fs(X:Cx):List Addr:=frs X.outer
def Vis(sc:Scope)(x:Str):Prop:=sc.names.lookup x=some .local\/sc.names.lookup x=some .cell\/sc.names.lookup x=some .free
def Loc(sc:Scope)(x:Str):Prop:=sc.names.lookup x=some .local\/sc.names.lookup x=some .cell
def Look(env:Env)(h:Heap)(m:Str->Option Value)(x:Str)(u:Value):Prop :=
 (env.kindOf x=some .local/\m x=some u)\/((env.kindOf x=some .cell\/env.kindOf x=some .free)/\∃ c,env.cells.lookup x=some c/\h.IsCell c (some u))
structure Cx.Ok (X:Cx):Prop where
 mod:Mod X.K X.mg X.base
 kind:X.env.scope.kind=.function
 glob:X.env.globals=mainGlobals
 blt:X.env.builtins=builtinsNs
 above:X.s₀.heap.objs.size<=X.env.locals
 inj:∀ x y c,X.env.cells.lookup x=some c->X.env.cells.lookup y=some c->x=y
 has:∀ x,(X.env.kindOf x=some .cell\/X.env.kindOf x=some .free)->∃ c,X.env.cells.lookup x=some c
 cab:∀ x c,X.fn x=true->X.env.cells.lookup x=some c->X.s₀.heap.objs.size<=c
 hd:X.calm=true->X.A.handled=none
 frames:X.A.frames=some X.stack
 stk:X.stack=X.outer\/(X.stack=X.env :: X.outer/\X.env.frame=some X.env.locals)
 exf:∀ b∈X.ex,b≠X.env.locals/\∀ x c,X.env.cells.lookup x=some c->c≠b
 bs:∀ b o,X.base.get? b=some o->X.s₀.heap.get? b=some o/\X.H₀ b=none
 bsz:X.base.objs.size<=X.s₀.heap.objs.size
 noex:∀ b o,X.base.get? b=some o->b∉X.ex
 exfs:∀ b∈X.ex,b∉X.fs
 funs:X.s₀.heap.FunFrames X.base X.outer
 frf:∀ b∈X.fs,X.H₀ b=none
structure Inv (X:Cx) (pins:List (Addr × Obj)) (σ:List (Option V)) (H:Hp) (s:Shared):Prop where
 ok:X.Ok
 os:s.os=X.s₀.os
 bare:AllBare s.gens
 base:Un X.fs X.ex X.H₀ H X.s₀.heap s.heap
 loc:∃ m,s.heap.Ns X.env.locals m/\∀(i:Nat) (x:Str) (v:V),X.N[i]?=some x->σ[i]?=some (some v)->Vis X.env.scope x->∃ u,RelV v u/\Look X.env s.heap m x u
 cell:∀ x c,X.env.cells.lookup x=some c->∃ v,s.heap.IsCell c v
 free:H X.env.locals=none
 freeC:∀ x c,X.env.cells.lookup x=some c->H c=none
 pin:∀ p∈X.pn++pins,s.heap.get? p.1=some p.2/\H p.1=none/\p.1≠X.env.locals/\p.1∉X.fs/\∀ v,p.2.data≠.cell v
 hok:HOk X.prog X.w H s.heap
 len:σ.length=X.N.length
section
variable{X:Cx}{pins:List (Addr × Obj)}{σ:List (Option V)}{H H':Hp}{s:Shared}{h':Heap}
theorem Cx.Ok.nofr(ok:X.Ok){b:Addr}{o:Obj}(e:X.base.get? b=some o):b∉X.fs:=fun hb=>by
 have:=(ok.funs.mem hb).1
 rw[e]at this;cases this
theorem Inv.bs(I:Inv X pins σ H s):∀ b o,X.base.get? b=some o->s.heap.get? b=some o/\H b=none:=fun b o e =>
 ⟨I.base.keep b o (I.ok.bs b o e).1 (I.ok.bs b o e).2 (I.ok.nofr e) (I.ok.noex b o e),I.base.free b o (I.ok.bs b o e).1 (I.ok.bs b o e).2 (I.ok.noex b o e)⟩
theorem Inv.bk(I:Inv X pins σ H s):∀ b o,X.base.get? b=some o->s.heap.get? b=some o:=fun b o e=>(I.bs b o e).1
theorem Inv.mod(I:Inv X pins σ H s):Mod X.K X.mg X.base:=I.ok.mod
theorem Inv.kIn(I:Inv X pins σ H s):X.K.In s.heap:=I.ok.mod.kin.keeps I.bk
theorem Inv.lt(I:Inv X pins σ H s):X.env.locals<s.heap.objs.size:=let ⟨_,hn,_⟩:=I.loc;hn.lt
theorem Inv.sz(I:Inv X pins σ H s):X.s₀.heap.objs.size<=s.heap.objs.size:=Nat.le_trans I.ok.above (Nat.le_of_lt I.lt)
theorem Inv.nofs(I:Inv X pins σ H s){a:Addr}(h:s.heap.objs.size<=a):a∉X.fs:=fun hb=>by
 obtain⟨_,o,ho,_⟩:=I.ok.funs.mem hb
 exact absurd (Nat.lt_of_lt_of_le (Heap.lt_size ho) (Nat.le_trans I.sz h)) (Nat.lt_irrefl _)
theorem Inv.cne(I:Inv X pins σ H s):∀ x c,X.env.cells.lookup x=some c->c≠X.env.locals:=fun x c e z=>by
 obtain⟨v,o,ho,hd⟩:=I.cell x c e
 obtain⟨m,⟨o',es,ep,ho',hd',_⟩,_⟩:=I.loc
 rw[z,ho']at ho;cases ho;rw[hd']at hd;cases hd
theorem Inv.funs(I:Inv X pins σ H s):s.heap.FunFrames X.base X.outer:=by
 have all:∀(l:List Env),(∀ b∈frs l,b∈X.fs)->X.s₀.heap.FunFrames X.base l->s.heap.FunFrames X.base l:=by
  intro l
  induction l with
  | nil=>intro _ _;trivial
  | cons env r ih =>
   intro hs hl
   obtain⟨hk,⟨L,o,hf,hn,ho,hd⟩,hr⟩:=hl
   have hL:L∈X.fs:=hs L (by unfold frs;rw[List.filterMap_cons,hf];exact List.mem_cons_self)
   obtain⟨sl,e⟩:=I.base.slot L o ho (I.ok.frf L hL) hL fun z=>I.ok.exfs L z hL
   exact⟨hk,⟨L,_,hf,hn,e,hd⟩,ih (fun b hb=>hs b (by unfold frs;rw[List.filterMap_cons,hf];exact List.mem_cons_of_mem _ hb)) hr⟩
 exact all X.outer (fun _ hb=>hb) I.ok.funs
theorem Inv.stack(I:Inv X pins σ H s):s.heap.FunFrames X.base X.stack:=by
 rcases I.ok.stk with e | ⟨e,hf⟩
 ·rw[e];exact I.funs
 ·rw[e]
  obtain⟨m,hn,_⟩:=I.loc
  refine .cons (by rw[I.ok.kind];decide) hf hn ?_ I.funs
  exact Heap.get?_none_of_le (Nat.le_trans I.ok.bsz I.ok.above)
theorem Inv.stkSub(I:Inv X pins σ H s):∀ b∈frs X.stack,b∈X.env.locals :: X.fs:=fun b hb=>by
 rcases I.ok.stk with e | ⟨e,hf⟩
 ·rw[e]at hb;exact List.mem_cons_of_mem _ hb
 ·rw[e]at hb
  unfold frs at hb
  rw[List.filterMap_cons,hf]at hb
  exact hb
theorem Inv.stkFree(I:Inv X pins σ H s):∀ b∈frs X.stack,H b=none:=fun b hb=>by
 rcases List.mem_cons.mp (I.stkSub b hb) with e | hb
 ·rw[e];exact I.free
 ·obtain⟨_,o,ho,_⟩:=I.ok.funs.mem hb
  exact I.base.free b o ho (I.ok.frf b hb) fun z=>I.ok.exfs b z hb
theorem Inv.step{g':Array GenState}{t':Nat}{d':Drawn}{ch:List Addr}(I:Inv X pins σ H s)
  (hch:∀ b∈ch,(b∈X.ex\/X.s₀.heap.objs.size<=b)/\b≠X.env.locals/\(∀ x c,X.env.cells.lookup x=some c->c≠b)/\∀ p∈X.pn++pins,p.1≠b)
  (keep:∀ b o,b≠X.env.locals->b∉X.fs->b∉ch->s.heap.get? b=some o->H b=none->h'.get? b=some o)
  (slot:∀ b o,b≠X.env.locals->b∈X.fs->b∉ch->s.heap.get? b=some o->H b=none->∃ sl,h'.get? b=some { o with slots:=sl }) (free:∀ b o,b∉ch->s.heap.get? b=some o->H b=none->H' b=none)
  (there:∀ b o,b∉ch->s.heap.get? b=some o->∃ o',h'.get? b=some o')
  (tups:∀ b xs,H b=some (.tup xs)->H' b=some (.tup xs)) (frzs:∀ b o u,H b=some (.frz o u)->H' b=some (.frz o u)) (tbls:∀ b ps,H b=some (.tbl ps)->∃ more,H' b=some (.tbl (ps++more)))
  (ns:∀ m,s.heap.Ns X.env.locals m->h'.Ns X.env.locals m) (hok:HOk X.prog X.w H' h') (hg:AllBare g') :
  Inv X pins σ H' { s with heap:=h',gens:=g',drawn:=d',toks:=t' }:=by
 have neL:∀ b o,X.s₀.heap.get? b=some o->b≠X.env.locals:=fun b o e=>Nat.ne_of_lt (Nat.lt_of_lt_of_le (Heap.lt_size e) I.ok.above)
 have neC:∀ b o,X.s₀.heap.get? b=some o->b∉X.ex->b∉ch:=fun b o e hx hb=>by
  rcases(hch b hb).1 with z | z
  ·exact hx z
  ·exact absurd (Nat.lt_of_lt_of_le (Heap.lt_size e) z) (Nat.lt_irrefl _)
 have cellK:∀ x c,X.env.cells.lookup x=some c->∀ v,s.heap.IsCell c v->h'.IsCell c v:=fun x c e v ⟨o,ho,hd⟩=>by
  have nch:c∉ch:=fun z=>(hch c z).2.2.1 x c e rfl
  by_cases hc:c∈X.fs
  ·obtain⟨sl,q⟩:=slot c o (I.cne x c e) hc nch ho (I.freeC x c e)
   exact⟨_,q,hd⟩
  ·exact⟨o,keep c o (I.cne x c e) hc nch ho (I.freeC x c e),hd⟩
 refine⟨I.ok,I.os,hg,⟨fun b o e n hb hx=>?_,fun b o e n hb hx=>?_,fun b o e n hx=>?_,fun b o e hx=>?_,fun b xs e=>tups b xs (I.base.tups b xs e),fun b o xs e=>frzs b o xs (I.base.frzs b o xs e),fun b ps e=>?_⟩,?_,fun x c e=>?_,?_,fun x c e=>?_,fun p hp=>?_,hok,I.len⟩
 ·exact keep b o (neL b o e) hb (neC b o e hx) (I.base.keep b o e n hb hx) (I.base.free b o e n hx)
 ·obtain⟨sl,e1⟩:=I.base.slot b o e n hb hx
  obtain⟨sl',e2⟩:=slot b _ (neL b o e) hb (neC b o e hx) e1 (I.base.free b o e n hx)
  exact⟨sl',e2⟩
 ·obtain⟨o',e1⟩:=I.base.there b o e hx
  exact free b o' (neC b o e hx) e1 (I.base.free b o e n hx)
 ·obtain⟨o',e1⟩:=I.base.there b o e hx
  exact there b o' (neC b o e hx) e1
 ·obtain⟨m1,e1⟩:=I.base.tbls b ps e
  obtain⟨m2,e2⟩:=tbls b _ e1
  exact⟨m1++m2,by rw[e2,Array.append_assoc]⟩
 ·obtain⟨m,hn,hl⟩:=I.loc
  refine⟨m,ns m hn,fun i x v e1 e2 e3=>?_⟩
  obtain⟨u,r,l⟩:=hl i x v e1 e2 e3
  refine⟨u,r,?_⟩
  rcases l with l | ⟨k,c,e,z⟩
  ·exact .inl l
  ·exact .inr ⟨k,c,e,cellK x c e _ z⟩
 ·obtain⟨v,z⟩:=I.cell x c e
  exact⟨v,cellK x c e v z⟩
 ·obtain⟨m,⟨o,_,_,ho,_⟩,_⟩:=I.loc
  exact free _ o (fun z=>(hch _ z).2.1 rfl) ho I.free
 ·obtain⟨v,o,ho,hd⟩:=I.cell x c e
  exact free c o (fun z=>(hch c z).2.2.1 x c e rfl) ho (I.freeC x c e)
 ·obtain⟨e,n,ne,nf,d⟩:=I.pin p hp
  have nch:p.1∉ch:=fun z=>(hch p.1 z).2.2.2 p hp rfl
  exact⟨keep p.1 p.2 ne nf nch e n,free p.1 p.2 nch e n,ne,nf,d⟩
theorem Inv.un{t':Nat}(I:Inv X pins σ H s)(u:Un X.fs [] H H' s.heap h')(hok:HOk X.prog X.w H' h'):Inv X pins σ H' { s with heap:=h',toks:=t' }:=by
 obtain⟨m,⟨o,es,ep,ho,r⟩,_⟩:=id I.loc
 obtain⟨sl,hL⟩:=u.any ho I.free (by simp)
 exact I.step (g':=s.gens) (d':=s.drawn) (ch:=[]) (fun _ z=>nomatch z) (fun b o _ hb _ e n=>u.keep b o e n hb (by simp)) (fun b o _ hb _ e n=>u.slot b o e n hb (by simp)) (fun b o _ e n=>u.free b o e n (by simp)) (fun b o _ e=>u.there b o e (by simp)) u.tups u.frzs u.tbls (fun m' hm=>by
  obtain⟨o',es',ep',ho',r'⟩:=hm
  rw[ho]at ho';cases ho'
  exact⟨_,es',ep',hL,r'⟩) hok I.bare
theorem Inv.call{g':Array GenState}{t':Nat}{d':Drawn}{ch:List Addr}(I:Inv X pins σ H s)(u:Un (frs X.stack) ch H H' s.heap h')(hok:HOk X.prog X.w H' h')(hg:AllBare g')
  (hch:∀ b∈ch,(b∈X.ex\/X.s₀.heap.objs.size<=b)/\b≠X.env.locals/\(∀ x c,X.env.cells.lookup x=some c->c≠b)/\∀ p∈X.pn++pins,p.1≠b) :
  Inv X pins σ H' { s with heap:=h',gens:=g',drawn:=d',toks:=t' }:=by
 obtain⟨m,⟨o,es,ep,ho,r⟩,_⟩:=id I.loc
 obtain⟨sl,hL⟩:=u.any ho I.free fun z=>(hch _ z).2.1 rfl
 exact I.step (ch:=ch) hch (fun b o hL hb hc e n=>u.keep b o e n (fun z=>(List.mem_cons.mp (I.stkSub b z)).elim hL hb) hc) (fun b o _ _ hc e n=>u.any e n hc) (fun b o hc e n=>u.free b o e n hc) (fun b o hc e=>u.there b o e hc) u.tups u.frzs u.tbls (fun m' hm=>by
  obtain⟨o',es',ep',ho',r'⟩:=hm
  rw[ho]at ho';cases ho'
  exact⟨_,es',ep',hL,r'⟩) hok hg
theorem Inv.turned{t':Nat}{it:Addr}(I:Inv X pins σ H s)(k:∀ b o,b≠it->s.heap.get? b=some o->h'.get? b=some o)(hn:H it=none)(hL:it≠X.env.locals)
  (h1:it∈X.ex\/X.s₀.heap.objs.size<=it) (h2:∀ x c,X.env.cells.lookup x=some c->c≠it) (h3:∀ p∈X.pn++pins,p.1≠it):Inv X pins σ H { s with heap:=h',toks:=t' }:=by
 have nit:∀ b u,H b=some u->b≠it:=fun b u e z=>by rw[z,hn]at e;cases e
 refine I.step (g':=s.gens) (d':=s.drawn) (ch:=[it]) (fun b hb=>?_) (fun b o _ _ hc e _=>k b o (fun z=>hc (by simp[z])) e) (fun b o _ _ hc e _=>⟨o.slots,k b o (fun z=>hc (by simp[z])) e⟩) (fun _ _ _ _ n=>n)
  (fun b o hc e=>⟨o,k b o (fun z=>hc (by simp[z])) e⟩) (fun _ _ e=>e) (fun _ _ _ e=>e) (fun b ps e=>⟨#[],by rw[e];simp⟩) (fun m hm=>?_) (fun b u e=>?_) I.bare
 ·have e:b=it:=by simpa using hb
  subst e
  exact⟨h1,hL,h2,h3⟩
 ·obtain⟨o,es,ep,ho,r⟩:=hm
  exact⟨o,es,ep,k _ o (Ne.symm hL) ho,r⟩
 ·refine(I.hok b u e).stay (fun c v hc q=>k c v ?_ q) (fun _ q=>q) fun _ _ q=>q
  rcases hc with z | z
  ·rw[z];exact nit b u e
  ·exact nit c _ z
theorem Inv.tok(I:Inv X pins σ H s)(t:Nat):Inv X pins σ H { s with toks:=t }:=I.un (h':=s.heap) (t':=t) Un.refl I.hok
theorem Inv.kept{t':Nat}(I:Inv X pins σ H s)(k:∀ b u,s.heap.get? b=some u->h'.get? b=some u):Inv X pins σ H { s with heap:=h',toks:=t' }:=I.un (Un.kept k) (I.hok.kept k)
theorem Inv.laid{a:Addr}{o:HO}{t':Nat}(I:Inv X pins σ H s)(k:∀ b u,s.heap.get? b=some u->h'.get? b=some u)(hp:s.heap.objs.size<=a)(new:ObjOk X.prog X.w (upd H a o) h' a o) :
  Inv X pins σ (upd H a o) { s with heap:=h',toks:=t' }:=I.un (Un.laid k hp (I.hok.fresh hp)) (I.hok.laid k hp new)
theorem Inv.write{x e:Addr}{o:HO}{t':Nat}(I:Inv X pins σ H s)(mu:Mut (H x))(he:e=x\/H e=some (.own x))(k:∀ b u,b≠e->s.heap.get? b=some u->h'.get? b=some u)(heo:∃ u,h'.get? e=some u)
  (new:ObjOk X.prog X.w (upd H x o) h' x o):Inv X pins σ (upd H x o) { s with heap:=h',toks:=t' }:=I.un (Un.write mu he k heo) (I.hok.write mu he k heo new)
theorem Inv.weak{σ':List (Option V)}(I:Inv X pins σ H s)(hl:σ'.length=σ.length)(w:∀(i:Nat) v,σ'[i]?=some (some v)->σ[i]?=some (some v)):Inv X pins σ' H s :=
 ⟨I.ok,I.os,I.bare,I.base,let ⟨m,hn,hl'⟩:=I.loc;⟨m,hn,fun i x v e1 e2 e3=>hl' i x v e1 (w i v e2) e3⟩,I.cell,I.free,I.freeC,I.pin,I.hok,hl.trans I.len⟩
theorem Inv.pins_of{pins':List (Addr × Obj)}(I:Inv X pins σ H s)(h:∀ p∈pins',s.heap.get? p.1=some p.2/\H p.1=none/\p.1≠X.env.locals/\p.1∉X.fs/\∀ v,p.2.data≠.cell v):Inv X pins' σ H s :=
 ⟨I.ok,I.os,I.bare,I.base,I.loc,I.cell,I.free,I.freeC,fun p hp=>(List.mem_append.mp hp).elim (fun z=>I.pin p (List.mem_append_left _ z)) (h p),I.hok,I.len⟩
theorem nodup_ix{N:List Str}(hN:N.Nodup){i j:Nat}{x:Str}(a:N[i]?=some x)(b:N[j]?=some x):i=j:=by
 obtain⟨h1,e1⟩:=List.getElem?_eq_some_iff.mp a
 obtain⟨h2,e2⟩:=List.getElem?_eq_some_iff.mp b
 exact(List.getElem_inj hN).mp (e1.trans e2.symm)
theorem store_ok2{M:Model}{A:Around}{E:Value->Shared->Prop}{i:Nat}{x:Str}{v:V}{u:Value}{Q:Unit->Shared->Prop}(I:Inv X pins σ H s)(hN:X.N.Nodup)(hi:X.N[i]?=some x)(hx:Loc X.env.scope x)(r:RelV v u)
  (h:∀ s',Inv X pins (σ.set i (some v)) H s'->(∃ a,Heap.SameBut a s.heap s'.heap/\(a=X.env.locals\/X.env.cells.lookup x=some a))->Q () s') (hf:X.fn x=true\/X.env.scope.names.lookup x=some .local:=by first | exact .inl rfl | exact .inr rfl | assumption):wpAny M A (storeName X.env x u) Q E s:=by
 obtain⟨m,hn,hl⟩:=id I.loc
 have hcls:(X.env.scope.kind == .class || (X.env.scope.kind == .module && X.env.locals != X.env.globals))=false:=by rw[I.ok.kind];rfl
 have hiσ:i<σ.length:=by rw[I.len];exact(List.getElem?_eq_some_iff.mp hi).1
 have cne:=I.cne
 have tracked:∀ {a:Addr} {h':Heap},(∃ o,s.heap.get? a=some o/\H a=none)->Heap.SameBut a s.heap h'->HOk X.prog X.w H h':=fun {a h'} ha hs b ob e=>by
  obtain⟨_,_,hfree⟩:=ha
  refine(I.hok b ob e).stay (fun c w' hc q=>(hs.2 c ?_).trans q) (fun _ q=>q) fun _ _ q=>q
  rintro rfl
  rcases hc with rfl | hc
  ·rw[hfree]at e;cases e
  ·rw[hfree]at hc;cases hc
 rcases hx with hk | hk
 ·refine wpAny_storeName_local hk hn (fun h' hn' hs=>?_) hcls
  obtain⟨oL,_,_,hoL,_⟩:=id hn
  refine h _ ⟨I.ok,I.os,I.bare,⟨fun b o e n hb hx=>?_,fun b o e n hb hx=>?_,I.base.free,fun b o e hx=>?_,I.base.tups,I.base.frzs,I.base.tbls⟩,⟨_,hn',fun j y v' e1 e2 e3=>?_⟩,fun y c e=>?_,I.free,I.freeC,fun p hp=>?_,tracked ⟨oL,hoL,I.free⟩ hs,by simpa using I.len⟩ ⟨_,hs,.inl rfl⟩
  ·exact(hs.2 b (Nat.ne_of_lt (Nat.lt_of_lt_of_le (Heap.lt_size e) I.ok.above))).trans (I.base.keep b o e n hb hx)
  ·obtain⟨sl,e1⟩:=I.base.slot b o e n hb hx
   exact⟨sl,(hs.2 b (Nat.ne_of_lt (Nat.lt_of_lt_of_le (Heap.lt_size e) I.ok.above))).trans e1⟩
  ·obtain⟨o',e1⟩:=I.base.there b o e hx
   exact⟨o',(hs.2 b (Nat.ne_of_lt (Nat.lt_of_lt_of_le (Heap.lt_size e) I.ok.above))).trans e1⟩
  ·by_cases hj:j=i
   ·subst hj
    rw[hi]at e1;cases e1
    rw[List.getElem?_set_self hiσ]at e2
    cases e2
    exact⟨u,r,.inl ⟨hk,by simp⟩⟩
   ·rw[List.getElem?_set_ne (Ne.symm hj)]at e2
    obtain⟨u',r',q⟩:=hl j y v' e1 e2 e3
    refine⟨u',r',?_⟩
    rcases q with ⟨k,e⟩ | ⟨k,c,e,z⟩
    ·refine .inl ⟨k,?_⟩
     have:y≠x:=fun e=>hj (nodup_ix hN e1 (e ▸ hi))
     simp[this,e]
    ·exact .inr ⟨k,c,e,z.sameBut hs (cne y c e)⟩
  ·obtain⟨w',z⟩:=I.cell y c e
   exact⟨w',z.sameBut hs (cne y c e)⟩
  ·obtain⟨e,n,ne,nf,d⟩:=I.pin p hp
   exact⟨(hs.2 p.1 ne).trans e,n,ne,nf,d⟩
 ·have hfn:X.fn x=true:=by
   rcases hf with z | z
   ·exact z
   ·rw[z]at hk;cases hk
  obtain⟨c,hc⟩:=I.ok.has x (.inl hk)
  obtain⟨w',z⟩:=I.cell x c hc
  refine wpAny_storeName_cell I.ok.kind hk hc z (fun h' hc' hs=>?_)
  obtain⟨oc,hoc,hocd⟩:=id z
  refine h { s with heap:=h' } ⟨I.ok,I.os,I.bare,⟨fun b o e n hb hx=>?_,fun b o e n hb hx=>?_,I.base.free,fun b o e hx=>?_,I.base.tups,I.base.frzs,I.base.tbls⟩,⟨m,hn.sameBut hs (Ne.symm (cne x c hc)),fun j y v' e1 e2 e3=>?_⟩,fun y c' e=>?_,I.free,I.freeC,fun p hp=>?_,tracked ⟨oc,hoc,I.freeC x c hc⟩ hs,by simpa using I.len⟩ ⟨c,hs,.inr hc⟩
  ·exact(hs.2 b (Nat.ne_of_lt (Nat.lt_of_lt_of_le (Heap.lt_size e) (I.ok.cab x c hfn hc)))).trans (I.base.keep b o e n hb hx)
  ·obtain⟨sl,e1⟩:=I.base.slot b o e n hb hx
   exact⟨sl,(hs.2 b (Nat.ne_of_lt (Nat.lt_of_lt_of_le (Heap.lt_size e) (I.ok.cab x c hfn hc)))).trans e1⟩
  ·obtain⟨o',e1⟩:=I.base.there b o e hx
   exact⟨o',(hs.2 b (Nat.ne_of_lt (Nat.lt_of_lt_of_le (Heap.lt_size e) (I.ok.cab x c hfn hc)))).trans e1⟩
  ·by_cases hj:j=i
   ·subst hj
    rw[hi]at e1;cases e1
    rw[List.getElem?_set_self hiσ]at e2
    cases e2
    exact⟨u,r,.inr ⟨.inl hk,c,hc,hc'⟩⟩
   ·rw[List.getElem?_set_ne (Ne.symm hj)]at e2
    obtain⟨u',r',q⟩:=hl j y v' e1 e2 e3
    refine⟨u',r',?_⟩
    rcases q with q | ⟨k,c',e,z'⟩
    ·exact .inl q
    ·refine .inr ⟨k,c',e,z'.sameBut hs ?_⟩
     rintro rfl
     exact hj (nodup_ix hN e1 (I.ok.inj _ _ _ e hc ▸ hi))
  ·by_cases hcc:c'=c
   ·subst hcc;exact⟨_,hc'⟩
   ·obtain⟨w2,z2⟩:=I.cell y c' e
    exact⟨w2,z2.sameBut hs hcc⟩
  ·obtain⟨e,n,ne,nf,d⟩:=I.pin p hp
   refine⟨(hs.2 p.1 ?_).trans e,n,ne,nf,d⟩
   intro q
   rw[q,hoc]at e
   have q':oc=p.2:=Option.some.inj e
   exact d w' (by rw[<- q'];exact hocd)
theorem store_ok{M:Model}{A:Around}{E:Value->Shared->Prop}{i:Nat}{x:Str}{v:V}{u:Value}{Q:Unit->Shared->Prop}(I:Inv X pins σ H s)(hN:X.N.Nodup)(hi:X.N[i]?=some x)(hx:Loc X.env.scope x)(r:RelV v u)
  (h:∀ s',Inv X pins (σ.set i (some v)) H s'->Q () s') (hf:X.fn x=true\/X.env.scope.names.lookup x=some .local:=by first | exact .inl rfl | exact .inr rfl | assumption):wpAny M A (storeName X.env x u) Q E s :=
 store_ok2 I hN hi hx r (fun s' I' _=>h s' I') hf
theorem Inv.call'{s':Shared}{ch:List Addr}(I:Inv X pins σ H s)(ho:s'.os=s.os)(u:Un (frs X.stack) ch H H' s.heap s'.heap)(hok:HOk X.prog X.w H' s'.heap)(hg:AllBare s'.gens)
  (hch:∀ b∈ch,(b∈X.ex\/X.s₀.heap.objs.size<=b)/\b≠X.env.locals/\(∀ x c,X.env.cells.lookup x=some c->c≠b)/\∀ p∈X.pn++pins,p.1≠b):Inv X pins σ H' s':=by
 obtain⟨h',g',d',t',o'⟩:=s'
 have e:o'=s.os:=ho
 subst e
 exact I.call (g':=g') (t':=t') (d':=d') u hok hg hch
end
abbrev XK:=Value->Option Addr->Hp->Prop
abbrev St:=List (Option V)
abbrev VK:=V->Hp->Prop
abbrev TE:=St->Hp->VK->Prop
abbrev TT:=St->Hp->(Bool->Hp->Prop)->Prop
abbrev TA:=St->Hp->(List V->Hp->Prop)->Prop
structure Ends where
 nx:St->Hp->Prop
 rt:VK
 bk:St->Hp->Prop:=fun _ _=>False
 ct:St->Hp->Prop:=fun _ _=>False
abbrev TS:=Ends->St->Hp->Prop
def EP(X:Cx)(pins:List (Addr × Obj))(σ:St)(Q:VK)(u:Value)(s':Shared):Prop:=∃ v H',Inv X pins σ H' s'/\RelV v u/\Q v H'
def TP(X:Cx)(pins:List (Addr × Obj))(σ:St)(Q:Bool->Hp->Prop)(b:Bool)(s':Shared):Prop:=∃ H',Inv X pins σ H' s'/\Q b H'
def AP(X:Cx)(pins:List (Addr × Obj))(σ:St)(Q:List V->Hp->Prop)(us:List Value)(s':Shared):Prop:=∃ vs H',Inv X pins σ H' s'/\Vals vs us/\Q vs H'
def SP(X:Cx)(pins:List (Addr × Obj))(D:Ends)(f:Flow)(s':Shared):Prop :=
 match f with
 | .next=>∃ σ' H',Inv X pins σ' H' s'/\D.nx σ' H'
 | .brk=>∃ σ' H',Inv X pins σ' H' s'/\D.bk σ' H'
 | .cont=>∃ σ' H',Inv X pins σ' H' s'/\D.ct σ' H'
 | .ret u=>∃ v σ' H',Inv X pins σ' H' s'/\RelV v u/\D.rt v H'
def PE(X:Cx)(e:Expr)(t:TE):Prop :=
 ∀(pins:List (Addr × Obj)) (s:Shared) (σ:St) (H:Hp) (Q:VK),Inv X pins σ H s->t σ H Q->wpAny (model X.prog X.w) X.A (eval e X.env) (EP X pins σ Q) X.xe s
def PT(X:Cx)(e:Expr)(t:TT):Prop :=
 ∀(pins:List (Addr × Obj)) (s:Shared) (σ:St) (H:Hp) (Q:Bool->Hp->Prop),Inv X pins σ H s->t σ H Q->wpAny (model X.prog X.w) X.A (isTrue e X.env (eval e X.env)) (TP X pins σ Q) X.xe s
def PW(X:Cx)(e:Expr)(t:TT):Prop :=
 ∀(whole:Sem Value) (pins:List (Addr × Obj)) (s:Shared) (σ:St) (H:Hp) (Q:Bool->Hp->Prop),Inv X pins σ H s->t σ H Q->wpAny (model X.prog X.w) X.A (isTrue e X.env whole) (TP X pins σ Q) X.xe s
theorem PW.pt{X:Cx}{e:Expr}{t:TT}(h:PW X e t):PT X e t:=h _
def PA(X:Cx)(es:List Expr)(t:TA):Prop :=
 ∀(pos:Pos) (pins:List (Addr × Obj)) (s:Shared) (σ:St) (H:Hp) (Q:List V->Hp->Prop),Inv X pins σ H s->t σ H Q->wpAny (model X.prog X.w) X.A (spliced (backTo pos (starEach es X.env))) (AP X pins σ Q) X.xe s
def PS(X:Cx)(st:Stmt)(t:TS):Prop :=
 ∀(pins:List (Addr × Obj)) (s:Shared) (σ:St) (H:Hp) (D:Ends),Inv X pins σ H s->t D σ H->wpAny (model X.prog X.w) X.A (exec st X.env) (SP X pins D) X.xe s
def PSs(X:Cx)(st:List Stmt)(t:TS):Prop :=
 ∀(pins:List (Addr × Obj)) (s:Shared) (σ:St) (H:Hp) (D:Ends),Inv X pins σ H s->t D σ H->wpAny (model X.prog X.w) X.A (execs st X.env) (SP X pins D) X.xe s
theorem thn{α:Type}{t:Sem α}{Q Q':α->Shared->Prop}{M:Model}{A:Around}{E:Value->Shared->Prop}{s:Shared}(h:wpAny M A t Q E s)(hQ:∀ a s,Q a s->Q' a s):wpAny M A t Q' E s:=wpAny_mono h hQ fun _ _ x=>x
section
variable{X:Cx}
def tVar(i:Nat):TE:=fun σ H Q=>∃ v,σ[i]?=some (some v)/\Q v H
def tC(v:V):TE:=fun _ H Q=>Q v H
theorem pe_var {i:Nat} {x:Str} {pos:Pos} (hN:X.N[i]?=some x) (hv:Vis X.env.scope x) (hd:(x == ("__debug__":Str))=false:=by decide) (hcd:(x == ("__classdict__":Str))=false:=by decide):PE X (.Name x pos) (tVar i):=by
 intro pins s σ H Q I h
 obtain⟨v,e,h⟩:=h
 obtain⟨m,hn,hl⟩:=I.loc
 obtain⟨u,r,l⟩:=hl i x v hN e hv
 have fin:EP X pins σ Q u s:=⟨v,H,I,r,h⟩
 rcases l with ⟨hk,hm⟩ | ⟨hk,c,hc,hcell⟩
 ·exact wpAny_Name (wpAny_loadName_local I.ok.kind hk hn hm fin) hd
 ·rcases hk with hk | hk
  ·exact wpAny_Name (wpAny_loadName_cell I.ok.kind hk hc hcell fin) hd
  ·exact wpAny_Name (wpAny_loadName_free I.ok.kind hk hc hcell fin hcd) hd
theorem pe_int{i j pos}:PE X (.Constant (.int i) j pos) (tC (.int i)):=fun _ _ _ H _ I h=>wpAny_Constant_int ⟨.int i,H,I.tok _,⟨_,rfl⟩,h⟩
theorem pe_bl{b j pos}:PE X (.Constant (.bool b) j pos) (tC (.bl b)):=fun _ _ _ H _ I h=>Constant_bool ⟨.bl b,H,I,rfl,h⟩
theorem pe_non{j pos}:PE X (.Constant .none j pos) (tC .non):=fun _ _ _ H _ I h=>Constant_none ⟨.non,H,I,rfl,h⟩
theorem pe_str{x j pos}:PE X (.Constant (.str x) j pos) (tC (.str x)):=fun _ _ _ H _ I h=>Calls.Constant_str ⟨.str x,H,I.tok _,⟨_,rfl⟩,h⟩
def Gl(X:Cx)(x:Str):Prop:=X.env.kindOf x=some .globalImplicit
theorem ld_glob{E:Value->Shared->Prop}{pins:List (Addr × Obj)}{s:Shared}{σ:St}{H:Hp}{x:Str}{u:Value}{pos:Pos}{Q:Value->Shared->Prop}(I:Inv X pins σ H s)(hg:Gl X x)(hm:X.mg x=some u)(h:Q u s)
  (hd:(x == ("__debug__":Str))=false:=by decide):wpAny (model X.prog X.w) X.A (eval (.Name x pos) X.env) Q E s :=
 Calls.Name_function_global I.ok.kind hg (Calls.loadGlobal_global (by rw[I.ok.glob];exact I.mod.glob.keeps I.bk) hm h) hd
theorem ld_blt{E:Value->Shared->Prop}{pins:List (Addr × Obj)}{s:Shared}{σ:St}{H:Hp}{x:Str}{u:Value}{pos:Pos}{Q:Value->Shared->Prop}(I:Inv X pins σ H s)(hg:Gl X x)(hm:X.mg x=none)(hv:bootBuiltins x=some u)(h:Q u s)
  (hn:x≠"__name__":=by decide) (hd:(x == ("__debug__":Str))=false:=by decide):wpAny (model X.prog X.w) X.A (eval (.Name x pos) X.env) Q E s:=by
 obtain⟨mb,h1,h2⟩:=I.mod.blt
 exact Calls.Name_function_global I.ok.kind hg (Calls.loadGlobal_builtin (by rw[I.ok.glob];exact I.mod.glob.keeps I.bk) hm (by rw[I.ok.blt];exact h1.keeps I.bk) ((h2 x hn).trans hv) h) hd
theorem pe_glob {x:Str} {v:V} {u:Value} {pos:Pos} (hg:Gl X x) (hm:X.mg x=some u) (r:RelV v u) (hd:(x == ("__debug__":Str))=false:=by decide):PE X (.Name x pos) (tC v) :=
 fun _ _ _ H _ I h=>ld_glob I hg hm ⟨v,H,I,r,h⟩ hd
variable{a b:Expr}{ta tb:TE}{pos:Pos}
def PC(X:Cx)(op:CmpOp)(a b:Expr)(t:TE):Prop :=
 ∀(pins:List (Addr × Obj)) (s:Shared) (σ:St) (H:Hp) (Q:VK),Inv X pins σ H s->t σ H Q ->
  wpAny (model X.prog X.w) X.A (eval a X.env) (fun v s₁=>wpAny (model X.prog X.w) X.A (eval b X.env) (fun u s₂=>wpAny (model X.prog X.w) X.A (compareOp op v u) (EP X pins σ Q) X.xe s₂) X.xe s₁) X.xe s
theorem nobehind(b:Expr){op:CmpOp}(h:op≠.In)(h2:op≠.NotIn):behindInMarks op b=false:=by
 have e1:(op == CmpOp.In)=false:=by cases op <;> first | rfl | exact absurd rfl h
 have e2:(op == CmpOp.NotIn)=false:=by cases op <;> first | rfl | exact absurd rfl h2
 cases b <;> simp[behindInMarks,e1,e2]
def tB(t:TE):TT:=fun σ H Q=>t σ H fun x H1=>∃ c,x=.bl c/\Q c H1
theorem pt_cmp{op:CmpOp}{t:TE}(h:PC X op a b t)(h1:behindInMarks op b=false:=by first | exact nobehind _ (by decide) (by decide) | rfl):PT X (.Compare a [op] [b] pos) (tB t):=by
 intro pins s σ H Q I hw
 refine wpAny_isTrue_Compare1 (thn (h pins s σ H _ I hw) fun v s1 h1=>thn h1 fun u s2 h2=>thn h2 fun c s3 ⟨x,H1,I1,r1,q1⟩=>?_) h1
 obtain⟨d,rfl,q⟩:=q1
 cases r1
 exact wpAny_truthy_bool ⟨H1,I1,q⟩
theorem pt_val{e:Expr}{t:TE}(h:PE X e t)(he:∀ whole,isTrue e X.env whole=(do let v <- whole;standAt e.pos;holding [v] (truthy v)):=by intro _;rfl):PT X e (tB t):=by
 intro pins s σ H Q I hw
 refine isTrue_plain (thn (h pins s σ H _ I hw) fun v s1 ⟨x,H1,I1,r1,q1⟩=>?_) (he _)
 obtain⟨d,rfl,q⟩:=q1
 cases r1
 exact wpAny_truthy_bool ⟨H1,I1,q⟩
variable{tA tB':TT}{rest:List Expr}
def tAnd(t u:TT):TT:=fun σ H Q=>t σ H fun c H1=>if c=true then u σ H1 Q else Q false H1
def tOr(t u:TT):TT:=fun σ H Q=>t σ H fun c H1=>if c=true then Q true H1 else u σ H1 Q
def tNot(t:TT):TT:=fun σ H Q=>t σ H fun c H1=>Q (!c) H1
theorem pw_and1(ha:PT X a tA):PW X (.BoolOp .And [a] pos) tA:=by
 intro wh pins s σ H Q I h
 refine isTrue_and (thn (ha pins s σ H Q I h) fun c s1 e=>?_)
 cases c with
 | true=>exact isTrue_and_nil e
 | false=>exact e
theorem pw_or1(ha:PT X a tA):PW X (.BoolOp .Or [a] pos) tA:=by
 intro wh pins s σ H Q I h
 refine isTrue_or (thn (ha pins s σ H Q I h) fun c s1 e=>?_)
 cases c with
 | false=>exact isTrue_or_nil e
 | true=>exact e
theorem pw_and(ha:PT X a tA)(hb:PW X (.BoolOp .And (b :: rest) pos) tB'):PW X (.BoolOp .And (a :: b :: rest) pos) (tAnd tA tB'):=by
 intro wh pins s σ H Q I h
 refine isTrue_and (thn (ha pins s σ H _ I h) fun c s1 ⟨H1,I1,q1⟩=>?_)
 cases c with
 | true=>exact hb wh pins s1 σ H1 Q I1 q1
 | false=>exact⟨H1,I1,q1⟩
theorem pw_or(ha:PT X a tA)(hb:PW X (.BoolOp .Or (b :: rest) pos) tB'):PW X (.BoolOp .Or (a :: b :: rest) pos) (tOr tA tB'):=by
 intro wh pins s σ H Q I h
 refine isTrue_or (thn (ha pins s σ H _ I h) fun c s1 ⟨H1,I1,q1⟩=>?_)
 cases c with
 | true=>exact⟨H1,I1,q1⟩
 | false=>exact hb wh pins s1 σ H1 Q I1 q1
theorem pt_not(ha:PT X a tA):PT X (.UnaryOp .Not a pos) (tNot tA):=by
 intro pins s σ H Q I h
 exact isTrue_not (ha pins s σ H (fun c H1=>Q (!c) H1) I h)
def tAndV(ta tb:TE):TE:=fun σ H Q=>ta σ H fun x H1=>∃ c,x=.bl c/\if c=true then tb σ H1 Q else Q (.bl false) H1
def tOrV(ta tb:TE):TE:=fun σ H Q=>ta σ H fun x H1=>∃ c,x=.bl c/\if c=true then Q (.bl true) H1 else tb σ H1 Q
def tNotV(ta:TE):TE:=fun σ H Q=>ta σ H fun x H1=>∃ c,x=.bl c/\Q (.bl (!c)) H1
theorem pe_one{op}{t:TE}(h:PE X a t):PE X (.BoolOp op [a] pos) t:=fun pins s σ H Q I hw=>BoolOp_one (h pins s σ H Q I hw)
theorem pe_and(ha:PE X a ta)(hb:PE X (.BoolOp .And (b :: rest) pos) tb):PE X (.BoolOp .And (a :: b :: rest) pos) (tAndV ta tb):=by
 intro pins s σ H Q I h
 refine BoolOp_and (thn (ha pins s σ H _ I h) fun v s1 ⟨x,H1,I1,r1,q1⟩=>?_)
 obtain⟨c,rfl,q1⟩:=q1
 cases r1
 refine wpAny_truthy_bool ?_
 cases c with
 | true=>exact hb pins s1 σ H1 Q I1 q1
 | false=>exact⟨.bl false,H1,I1,rfl,q1⟩
theorem pe_or(ha:PE X a ta)(hb:PE X (.BoolOp .Or (b :: rest) pos) tb):PE X (.BoolOp .Or (a :: b :: rest) pos) (tOrV ta tb):=by
 intro pins s σ H Q I h
 refine BoolOp_or (thn (ha pins s σ H _ I h) fun v s1 ⟨x,H1,I1,r1,q1⟩=>?_)
 obtain⟨c,rfl,q1⟩:=q1
 cases r1
 refine wpAny_truthy_bool ?_
 cases c with
 | false=>exact hb pins s1 σ H1 Q I1 q1
 | true=>exact⟨.bl true,H1,I1,rfl,q1⟩
theorem pe_not(ha:PE X a ta):PE X (.UnaryOp .Not a pos) (tNotV ta):=by
 intro pins s σ H Q I h
 refine UnaryOp_ (thn (ha pins s σ H _ I h) fun v s1 ⟨x,H1,I1,r1,q1⟩=>?_)
 obtain⟨c,rfl,q1⟩:=q1
 cases r1
 exact not_of (wpAny_truthy_bool ⟨.bl (!c),H1,I1,rfl,q1⟩)
def tIf(t:TT)(ta tb:TE):TE:=fun σ H Q=>t σ H fun c H1=>if c=true then ta σ H1 Q else tb σ H1 Q
theorem pe_ifExp{c:Expr}(hc:PT X c tA)(ha:PE X a ta)(hb:PE X b tb):PE X (.IfExp c a b pos) (tIf tA ta tb):=by
 intro pins s σ H Q I h
 refine wpAny_IfExp (thn (hc pins s σ H _ I h) fun d s1 ⟨H1,I1,q1⟩=>?_)
 cases d with
 | true=>exact ha pins s1 σ H1 Q I1 q1
 | false=>exact hb pins s1 σ H1 Q I1 q1
end
def SqL(K:PySem.W.Frag)(H:Hp)(a:Addr)(xs:List V):Prop :=
 Rd H a (.lst xs) \/
  ∃(o:Obj) (its:Array Value) (n:Nat),K.lookup a=some o/\o.cls=.type "list"/\o.dict=none/\o.data=.seq its n/\its.size<=sizeLine/\Vals xs its.toList
def SqT(K:PySem.W.Frag)(H:Hp)(a:Addr)(xs:List V):Prop :=
 Rd H a (.tup xs) \/
  ∃(o:Obj) (its:Array Value) (n:Nat),K.lookup a=some o/\o.cls=.type "tuple"/\o.data=.seq its n/\its.size<=sizeLine/\Vals xs its.toList
def absV:Value->Option V
 | .none=>some .non
 | .bool b=>some (.bl b)
 | .int i _=>some (.int i)
 | .str x _=>some (.str x)
 | .bytes b _=>some (.byt b)
 | .float b _=>some (.flt b)
 | .ref a=>some (.ref a)
 | .type n=>some (.ty n)
 | _=>none
theorem RelV.abs{x:V}{u:Value}(r:RelV x u):absV u=some x:=by
 cases x with
 | non=>cases r;rfl
 | bl _=>cases r;rfl
 | int _=>obtain⟨t,rfl⟩:=r;rfl
 | str _=>obtain⟨t,rfl⟩:=r;rfl
 | byt _=>obtain⟨t,rfl⟩:=r;rfl
 | flt _=>obtain⟨t,rfl⟩:=r;rfl
 | ref _=>cases r;rfl
 | ty _=>cases r;rfl
theorem RelV.inj{x y:V}{u:Value}(r:RelV x u)(q:RelV y u):x=y:=Option.some.inj (r.abs.symm.trans q.abs)
theorem Vals.inj:∀ {xs ys:List V} {us:List Value},Vals xs us->Vals ys us->xs=ys
 | _,_,_,.nil,.nil=>rfl
 | _,_,_,.cons r t,.cons r' t'=>by rw[r.inj r',Vals.inj t t']
section
variable{X:Cx}{pins:List (Addr × Obj)}{σ:St}{H:Hp}{s:Shared}{a:Addr}{xs ys:List V}
theorem SqL.of{K:PySem.W.Frag}(h:H a=some (.lst xs)):SqL K H a xs:=.inl (.inl h)
theorem SqT.of{K:PySem.W.Frag}(h:H a=some (.tup xs)):SqT K H a xs:=.inl (.inl h)
theorem Inv.list(I:Inv X pins σ H s)(h:SqL X.K H a xs):∃ its:List Value,Vals xs its/\PlainL s.heap a its.toArray/\xs.length<=sizeLine:=by
 rcases h with h | ⟨o,its,n,hk,hc,hd,hs,hz,r⟩
 ·obtain⟨z,its,n,r,e⟩:=h.ok I.hok
  exact⟨its,r,⟨_,n,e,rfl,rfl,rfl⟩,z⟩
 ·refine⟨its.toList,r,⟨o,n,I.kIn a o hk,hc,hd,by simpa using hs⟩,?_⟩
  have e:=r.length
  simp only [Array.length_toList]at e
  omega
theorem Inv.tuple(I:Inv X pins σ H s)(h:SqT X.K H a xs):∃ its:List Value,Vals xs its/\IsTup s.heap a its.toArray/\xs.length<=sizeLine:=by
 rcases h with h | ⟨o,its,n,hk,hc,hs,hz,r⟩
 ·obtain⟨z,its,r,p⟩:=h.ok I.hok
  exact⟨its,r,p,z⟩
 ·refine⟨its.toList,r,⟨o,I.kIn a o hk,hc,n,by simpa using hs⟩,?_⟩
  have e:=r.length
  simp only [Array.length_toList]at e
  omega
theorem Inv.list_inj(I:Inv X pins σ H s)(h:SqL X.K H a xs)(h':SqL X.K H a ys):xs=ys:=by
 obtain⟨its,r,⟨o,n,e,_,_,d⟩,_⟩:=I.list h
 obtain⟨its',r',⟨o',n',e',_,_,d'⟩,_⟩:=I.list h'
 rw[e]at e';cases e'
 rw[d]at d'
 injection d' with d1 _
 have:its=its':=by simpa using congrArg Array.toList d1
 subst this
 exact r.inj r'
theorem Inv.tuple_inj(I:Inv X pins σ H s)(h:SqT X.K H a xs)(h':SqT X.K H a ys):xs=ys:=by
 obtain⟨its,r,⟨o,e,_,n,d⟩,_⟩:=I.tuple h
 obtain⟨its',r',⟨o',e',_,n',d'⟩,_⟩:=I.tuple h'
 rw[e]at e';cases e'
 rw[d]at d'
 injection d' with d1 _
 have:its=its':=by simpa using congrArg Array.toList d1
 subst this
 exact r.inj r'
end
abbrev Cx.wish(X:Cx)(E:Value->Shared->Prop):Cx:={ X with xe:=E }
abbrev Cx.nox(X:Cx):Cx:=X.wish fun _ _=>False
theorem Cx.Ok.wish{X:Cx}(ok:X.Ok)(E:Value->Shared->Prop):(X.wish E).Ok :=
 ⟨ok.mod,ok.kind,ok.glob,ok.blt,ok.above,ok.inj,ok.has,ok.cab,ok.hd,ok.frames,ok.stk,ok.exf,ok.bs,ok.bsz,ok.noex,ok.exfs,ok.funs,ok.frf⟩
theorem Cx.Ok.unwish{X:Cx}{E:Value->Shared->Prop}(ok:(X.wish E).Ok):X.Ok :=
 ⟨ok.mod,ok.kind,ok.glob,ok.blt,ok.above,ok.inj,ok.has,ok.cab,ok.hd,ok.frames,ok.stk,ok.exf,ok.bs,ok.bsz,ok.noex,ok.exfs,ok.funs,ok.frf⟩
section
variable{X:Cx}{pins:List (Addr × Obj)}{σ:St}{H:Hp}{s:Shared}{E:Value->Shared->Prop}
theorem Inv.wish(I:Inv X pins σ H s)(E:Value->Shared->Prop):Inv (X.wish E) pins σ H s:=⟨I.ok.wish E,I.os,I.bare,I.base,I.loc,I.cell,I.free,I.freeC,I.pin,I.hok,I.len⟩
theorem Inv.unwish(I:Inv (X.wish E) pins σ H s):Inv X pins σ H s:=⟨I.ok.unwish,I.os,I.bare,I.base,I.loc,I.cell,I.free,I.freeC,I.pin,I.hok,I.len⟩
theorem SP.unwish{D:Ends}{f:Flow}{s':Shared}(h:SP (X.wish E) pins D f s'):SP X pins D f s':=by
 cases f with
 | next=>obtain⟨σ',H',I,q⟩:=h;exact⟨σ',H',I.unwish,q⟩
 | brk=>obtain⟨σ',H',I,q⟩:=h;exact⟨σ',H',I.unwish,q⟩
 | cont=>obtain⟨σ',H',I,q⟩:=h;exact⟨σ',H',I.unwish,q⟩
 | ret u=>obtain⟨v,σ',H',I,r,q⟩:=h;exact⟨v,σ',H',I.unwish,r,q⟩
theorem PSs.nox{st:List Stmt}{t:TS}(h:PSs X.nox st t):PSs X st t:=fun pins s σ H D I hw =>
 wpAny_mono (h pins s σ H D (I.wish _) hw) (fun _ _ q=>q.unwish) fun _ _ z=>False.elim z
end
section
variable{X:Cx}{st:Stmt}{rest:List Stmt}{t u:TS}{e:Expr}{te:TE}{pos:Pos}
def tNext:TS:=fun D σ H=>D.nx σ H
def tSeq(t u:TS):TS:=fun D σ H=>t { D with nx:=u D } σ H
theorem pss_nil:PSs X [] tNext:=fun _ _ σ H _ I h=>wpAny_execs_nil ⟨σ,H,I,h⟩
theorem ζ2(h1:PS X st t)(h2:PSs X rest u):PSs X (st :: rest) (tSeq t u):=by
 intro pins s σ H D I h
 refine wpAny_execs_cons (thn (h1 pins s σ H { D with nx:=u D } I h) fun f s1 q=>?_)
 cases f with
 | next =>
  obtain⟨σ',H',I',q⟩:=q
  exact h2 pins s1 σ' H' D I' q
 | ret v=>exact q
 | brk=>exact q
 | cont=>exact q
theorem ζ5(h1:PS X st t):PSs X [st] t:=by
 intro pins s σ H D I h
 refine wpAny_execs_cons (thn (h1 pins s σ H D I h) fun f s1 q=>?_)
 cases f with
 | next=>exact wpAny_execs_nil q
 | ret v=>exact q
 | brk=>exact q
 | cont=>exact q
theorem Inv.quiet{pins:List (Addr × Obj)}{σ:St}{H:Hp}{s:Shared}(I:Inv X pins σ H s):interactive X.env=false:=by simp[interactive,I.ok.kind]
def tDrop(te:TE):TS:=fun D σ H=>te σ H fun _ H1=>D.nx σ H1
theorem ps_expr(he:PE X e te)(hs:swapsWith e none pos.line X.env=pure false:=by rfl):PS X (.Expr e pos) (tDrop te):=by
 intro pins s σ H D I h
 exact wpAny_Expr_any (thn (he pins s σ H _ I h) fun v s1 ⟨x,H1,I1,r1,q1⟩=>⟨σ,H1,I1,q1⟩) I.quiet hs
def tRet(te:TE):TS:=fun D σ H=>te σ H D.rt
theorem ps_ret(he:PE X e te):PS X (.Return (some e) pos) (tRet te):=by
 intro pins s σ H D I h
 exact wpAny_Return_some (thn (he pins s σ H _ I h) fun v s1 ⟨x,H1,I1,r1,q1⟩=>⟨x,σ,H1,I1,r1,q1⟩)
def tIfS(c:TT)(t u:TS):TS:=fun D σ H=>c σ H fun b H1=>if b=true then t D σ H1 else u D σ H1
theorem ps_if{c:Expr}{a b:List Stmt}{tc:TT}(hc:PT X c tc)(ha:PSs X a t)(hb:PSs X b u):PS X (.If c a b pos) (tIfS tc t u):=by
 intro pins s σ H D I h
 refine wpAny_If (thn (hc pins s σ H _ I h) fun d s1 ⟨H1,I1,q1⟩=>?_)
 cases d with
 | true=>exact ha pins s1 σ H1 D I1 q1
 | false=>exact hb pins s1 σ H1 D I1 q1
def tNever:TS:=fun _ _ _=>False
theorem ps_never:PS X st tNever:=fun _ _ _ _ _ _ h=>h.elim
end
abbrev TG:=V->St->Hp->(St->Hp->Prop)->Prop
abbrev TGs:=List V->St->Hp->(St->Hp->Prop)->Prop
def PG(X:Cx)(target:Expr)(t:TG):Prop :=
 ∀(pins:List (Addr × Obj)) (s:Shared) (σ:St) (H:Hp) (v:V) (u:Value) (Q:St->Hp->Prop),Inv X pins σ H s->RelV v u->t v σ H Q ->
  wpAny (model X.prog X.w) X.A (assign target X.env u) (fun _ s'=>∃ σ' H',Inv X pins σ' H' s'/\Q σ' H') X.xe s
def PGs(X:Cx)(ts:List Expr)(t:TGs):Prop :=
 ∀(pins:List (Addr × Obj)) (s:Shared) (σ:St) (H:Hp) (vs:List V) (us:List Value) (Q:St->Hp->Prop),Inv X pins σ H s->Vals vs us->t vs σ H Q ->
  wpAny (model X.prog X.w) X.A (assignInOrder ((assignEach ts X.env).map (·.2)) us) (fun _ s'=>∃ σ' H',Inv X pins σ' H' s'/\Q σ' H') X.xe s
abbrev TSet:=V->V->V->Hp->(Hp->Prop)->Prop
def PSet(X:Cx)(t:TSet):Prop :=
 ∀(pins:List (Addr × Obj)) (s:Shared) (σ:St) (H:Hp) (o i v:V) (ov iv u:Value) (Q:Hp->Prop),Inv X pins σ H s->RelV o ov->RelV i iv->RelV v u->t o i v H Q ->
  wpAny (model X.prog X.w) X.A (setItem ov iv u) (fun _ s'=>∃ H',Inv X pins σ H' s'/\Q H') X.xe s
abbrev TIp:=V->V->Hp->VK->Prop
def PIp(X:Cx)(op:Operator)(t:TIp):Prop :=
 ∀(pins:List (Addr × Obj)) (s:Shared) (σ:St) (H:Hp) (x y:V) (v u:Value) (Q:VK),Inv X pins σ H s->RelV x v->RelV y u->t x y H Q ->
  wpAny (model X.prog X.w) X.A (inplaceOp op v u) (EP X pins σ Q) X.xe s
section
variable{X:Cx}{pos:Pos}
def gName(i:Nat):TG:=fun v σ H Q=>Q (σ.set i (some v)) H
theorem pg_name{i:Nat}{x:Str}(hN:X.N.Nodup)(hi:X.N[i]?=some x)(hx:Loc X.env.scope x)(hf:X.fn x=true\/X.env.scope.names.lookup x=some .local:=by first | exact .inl rfl | exact .inr rfl | assumption):PG X (.Name x pos) (gName i):=by
 intro pins s σ H v u Q I r h
 exact wpAny_assign_Name (store_ok I hN hi hx r (fun s' I'=>⟨_,H,I',h⟩) hf)
def gNil:TGs:=fun vs σ H Q=>vs=[]/\Q σ H
def gCons(t:TG)(u:TGs):TGs:=fun vs σ H Q=>∃ v r,vs=v :: r/\t v σ H fun σ' H'=>u r σ' H' Q
theorem pgs_nil:PGs X [] gNil:=by
 intro pins s σ H vs us Q I r h
 obtain⟨e,h⟩:=h
 subst e
 cases r
 exact assignInOrder_nil ⟨σ,H,I,h⟩
theorem pgs_cons{e:Expr}{es:List Expr}{t:TG}{u:TGs}(h1:PG X e t)(h2:PGs X es u)
  (hs:(assignEach (e :: es) X.env).map (·.2)=assign e X.env :: (assignEach es X.env).map (·.2):=by rfl):PGs X (e :: es) (gCons t u):=by
 intro pins s σ H vs us Q I r h
 obtain⟨v,vr,e1,h⟩:=h
 subst e1
 cases r with
 | cons r rr =>
  rw[hs]
  refine assignInOrder_cons (thn (h1 pins s σ H _ _ _ I r h) fun _ s1 ⟨σ1,H1,I1,q1⟩=>?_)
  exact h2 pins s1 σ1 H1 _ _ Q I1 rr q1
def gTup(K:PySem.W.Frag)(n:Nat)(t:TGs):TG:=fun v σ H Q=>∃ a xs,v=.ref a/\SqT K H a xs/\xs.length=n/\t xs σ H Q
theorem pg_tup{es:List Expr}{k:Nat}{t:TGs}{n:Nat}(hc:X.calm=true)(h:PGs X es t)
  (hn:(assignEach es X.env).length=n:=by rfl) (hst:(assignEach es X.env).findIdx? (·.1)=none:=by rfl):PG X (.Tuple es k pos) (gTup X.K n t):=by
 intro pins s σ H v u Q I r hw
 obtain⟨a,xs,e1,hq,hl,hw⟩:=hw
 subst e1
 cases r
 obtain⟨its,rv,ht,hz⟩:=I.tuple hq
 refine assign_Tuple_tuple (I.ok.hd hc) ht (by simp[hn,<- hl,rv.length]) hst fun h' hx=>?_
 have I1:Inv X pins σ H { s with heap:=h' }:=I.kept (t':=s.toks) fun b o e=>hx b o (Nat.ne_of_lt (Heap.lt_size e)) e
 exact h pins _ σ H xs _ Q I1 (by simpa using rv) hw
def gSub(to ti:TE)(t:TSet):TG:=fun v σ H Q=>to σ H fun o H1=>ti σ H1 fun i H2=>t o i v H2 fun H3=>Q σ H3
theorem pg_sub{o i:Expr}{to ti:TE}{t:TSet}(ho:PE X o to)(hi:PE X i ti)(hs:PSet X t)
  (ha:∀ v,assign (.Subscript o i pos) X.env v=(do
   let ov <- holding [v] (eval o X.env)
   let iv <- holding [v,ov] (eval i X.env)
   standAt pos
   holding [v,ov,iv] (setItem ov iv v)
   release [v,ov,iv] []):=by intro _;rfl):PG X (.Subscript o i pos) (gSub to ti t):=by
 intro pins s σ H v u Q I r h
 rw[ha]
 refine wpAny_bind (wpAny_holding (thn (ho pins s σ H _ I h) fun ov s1 ⟨x,H1,I1,r1,q1⟩=>?_))
 refine wpAny_bind (wpAny_holding (thn (hi pins s1 σ H1 _ I1 q1) fun iv s2 ⟨y,H2,I2,r2,q2⟩=>?_))
 refine wpAny_bind (wpAny_standAt (wpAny_bind (wpAny_holding (thn (hs pins s2 σ H2 x y v ov iv u _ I2 r1 r2 r q2) fun _ s3 ⟨H3,I3,q3⟩=>?_))))
 exact wpAny_release ⟨σ,H3,I3,q3⟩
def tAsg(te:TE)(g:TG):TS:=fun D σ H=>te σ H fun x H1=>g x σ H1 D.nx
theorem ps_asg{tg e:Expr}{te:TE}{g:TG}(he:PE X e te)(hg:PG X tg g)(hs:swapsWithSole [tg] e pos.line X.env=pure false:=by rfl)(hw:swappedStores [tg] e X.env=pure none:=by rfl)
  (h1:(assignEach [tg] X.env).map (·.2)=[assign tg X.env]:=by rfl):PS X (.Assign [tg] e pos) (tAsg te g):=by
 intro pins s σ H D I h
 refine wpAny_Assign_stores (thn (he pins s σ H _ I h) fun v s1 ⟨x,H1,I1,r1,q1⟩=>?_) hs hw
 rw[h1]
 exact thn (hg pins s1 σ H1 x v _ I1 r1 q1) fun _ s2 q=>q
theorem ps_set{i:Nat}{x:Str}{e:Expr}{te:TE}{pos':Pos}(hN:X.N.Nodup)(hi:X.N[i]?=some x)(hx:Loc X.env.scope x)(he:PE X e te)(hs:swapsWith e (some (.Name x pos')) pos.line X.env=pure false:=by rfl)(hf:X.fn x=true\/X.env.scope.names.lookup x=some .local:=by first | exact .inl rfl | exact .inr rfl | assumption) :
  PS X (.Assign [.Name x pos'] e pos) (tAsg te (gName i)):=by
 intro pins s σ H D I h
 refine wpAny_Assign_Name (thn (he pins s σ H _ I h) fun v s1 ⟨y,H1,I1,r1,q1⟩=>?_) hs
 exact store_ok I1 hN hi hx r1 (fun s2 I2=>⟨_,H1,I2,q1⟩) hf
def tAugS(to ti te:TE)(tget:V->V->Hp->VK->Prop)(tip:TIp)(tset:TSet):TS:=fun D σ H=>to σ H fun o H1=>ti σ H1 fun i H2=>tget o i H2 fun x H3=>te σ H3 fun y H4=>tip x y H4 fun z H5=>tset o i z H5 fun H6=>D.nx σ H6
def PGet(X:Cx)(t:V->V->Hp->VK->Prop):Prop :=
 ∀(pins:List (Addr × Obj)) (s:Shared) (σ:St) (H:Hp) (o i:V) (ov iv:Value) (Q:VK),Inv X pins σ H s->RelV o ov->RelV i iv->t o i H Q ->
  wpAny (model X.prog X.w) X.A (getItem ov iv) (EP X pins σ Q) X.xe s
theorem ps_augS{o i e:Expr}{to ti te:TE}{tget:V->V->Hp->VK->Prop}{tip:TIp}{tset:TSet}{op:Operator}{tpos:Pos}(ho:PE X o to)(hi:PE X i ti)(hg:PGet X tget)(he:PE X e te)(hp:PIp X op tip)(hs:PSet X tset)
  (ha:∀ ov iv new,augStore i ov iv new=(do holding [new,ov,iv] (setItem ov iv new);release [new,ov,iv] [];pure .next):=by intros;rfl):PS X (.AugAssign (.Subscript o i tpos) op e pos) (tAugS to ti te tget tip tset):=by
 intro pins s σ H D I h
 refine wpAny_AugAssign_SubscriptAny (thn (ho pins s σ H _ I h) fun ov s1 ⟨x1,H1,I1,r1,q1⟩=>?_) ha
 refine thn (hi pins s1 σ H1 _ I1 q1) fun iv s2 ⟨x2,H2,I2,r2,q2⟩=>?_
 refine thn (hg pins s2 σ H2 x1 x2 ov iv _ I2 r1 r2 q2) fun old s3 ⟨x3,H3,I3,r3,q3⟩=>?_
 refine thn (he pins s3 σ H3 _ I3 q3) fun v s4 ⟨x4,H4,I4,r4,q4⟩=>?_
 refine thn (hp pins s4 σ H4 x3 x4 old v _ I4 r3 r4 q4) fun new s5 ⟨x5,H5,I5,r5,q5⟩=>?_
 exact thn (hs pins s5 σ H5 x1 x2 x5 ov iv new _ I5 r1 r2 r5 q5) fun _ s6 ⟨H6,I6,q6⟩=>⟨σ,H6,I6,q6⟩
def ipI(f:Int->Int->Int):TIp:=fun x y H Q=>∃ i j,x=.int i/\y=.int j/\Q (.int (f i j)) H
theorem ip_add:PIp X .Add (ipI fun i j=>i+j):=by
 intro pins s σ H x y v u Q I r1 r2 h
 obtain⟨i,j,e1,e2,q⟩:=h
 subst e1;subst e2
 obtain⟨t,rfl⟩:=r1
 obtain⟨t',rfl⟩:=r2
 exact iadd_int ⟨.int _,H,I.tok _,⟨_,rfl⟩,q⟩
theorem ip_sub:PIp X .Sub (ipI fun i j=>i - j):=by
 intro pins s σ H x y v u Q I r1 r2 h
 obtain⟨i,j,e1,e2,q⟩:=h
 subst e1;subst e2
 obtain⟨t,rfl⟩:=r1
 obtain⟨t',rfl⟩:=r2
 exact isub_int ⟨.int _,H,I.tok _,⟨_,rfl⟩,q⟩
def tWhile(c:TT)(tb:TS):TS:=fun D σ H=>∃ W:Nat->St->Hp->Prop,(∃ m,W m σ H)/\∀ m σ H,W m σ H ->
 c σ H fun b H1=>if b=true then ∃ N:St->Hp->Prop,(∀ σ' H',N σ' H'->∃ m',m'<m/\W m' σ' H')/\tb { D with nx:=N,ct:=N,bk:=D.nx } σ H1 else D.nx σ H1
theorem ps_while{c:Expr}{body:List Stmt}{tc:TT}{tb:TS}(hp:PassesOwn (model X.prog X.w) X.A X.env X.xe)(hc:PT X c tc)(hb:PSs X body tb):PS X (.While c body [] pos) (tWhile tc tb):=by
 intro pins s σ H D I h
 obtain⟨W,⟨m0,w0⟩,turn⟩:=h
 refine wpAny_While (codeAny_whileLoop (fun n s'=>∃ σ' H',Inv X pins σ' H' s'/\W n σ' H') ?_ m0 ⟨σ,H,I,w0⟩)
 rintro n s1 ⟨σ1,H1,I1,w1⟩
 refine wpAny_passesOwn hp (thn (hc pins s1 σ1 H1 _ I1 (turn n σ1 H1 w1)) fun b s2 ⟨H2,I2,q2⟩=>?_)
 cases b with
 | true =>
  obtain⟨N,hN,q2⟩:=q2
  rw[if_pos rfl]
  refine wpAny_passesOwn hp (thn (hb pins s2 σ1 H2 _ I2 q2) fun f s3 q3=>?_)
  cases f with
  | next =>
   obtain⟨σ3,H3,I3,n3⟩:=q3
   obtain⟨m',hm,w3⟩:=hN σ3 H3 n3
   exact⟨m',hm,σ3,H3,I3,w3⟩
  | cont =>
   obtain⟨σ3,H3,I3,n3⟩:=q3
   obtain⟨m',hm,w3⟩:=hN σ3 H3 n3
   exact⟨m',hm,σ3,H3,I3,w3⟩
  | brk=>exact q3
  | ret v=>exact q3
 | false =>
  rw[if_neg Bool.false_ne_true]
  exact wpAny_execs_nil ⟨σ1,H2,I2,q2⟩
end
structure It where
 go:Nat->Hp->Prop
 yld:Nat->Hp->V->Hp->Prop
 stop:Nat->Hp->Prop
def FpOk(X:Cx)(pins:List (Addr × Obj))(H:Hp)(b:Addr):Prop :=
 H b=none/\b≠X.env.locals/\b∉X.fs/\(b∈X.ex\/X.s₀.heap.objs.size<=b)/\(∀ x c,X.env.cells.lookup x=some c->c≠b)/\∀ p∈X.pn++pins,p.1≠b
theorem Inv.fpOk{X:Cx}{pins:List (Addr × Obj)}{σ:St}{H H':Hp}{s:Shared}{b:Addr}(I:Inv X pins σ H s)(hb:s.heap.objs.size<=b)(hn:H' b=none):FpOk X pins H' b:=by
 refine⟨hn,Nat.ne_of_gt (Nat.lt_of_lt_of_le I.lt hb),I.nofs hb,.inr (Nat.le_trans I.sz hb),fun x c e z=>?_,fun p hp z=>?_⟩
 ·obtain⟨v,q⟩:=I.cell x c e
  exact absurd (Nat.lt_of_lt_of_le q.lt (by rw[z];exact hb)) (Nat.lt_irrefl _)
 ·exact absurd (Nat.lt_of_lt_of_le (Heap.lt_size (I.pin p hp).1) (by rw[z];exact hb)) (Nat.lt_irrefl _)
structure Turn (P:Program) (w:World) (K:PySem.W.Frag) (tg:Expr) (J:It) (fp:List Addr) (it:Addr) (tn:Nat->Heap->Prop):Prop where
 mem:it∈fp
 obj:∀ i h,tn i h->∀ b∈fp,∃ o,h.get? b=some o/\∀ v,o.data≠.cell v
 keep:∀ i h h',tn i h->(∀ b∈fp,∀ o,h.get? b=some o->h'.get? b=some o)->tn i h'
 item:∀(X:Cx),X.prog=P->X.w=w->X.K=K->X.calm=true->∀(i:Nat) (pins:List (Addr × Obj)) (s:Shared) (σ:St) (H:Hp) (E:Value->Shared->Prop),Inv X pins σ H s->(∀ b∈fp,FpOk X pins H b)->tn i s.heap->J.go i H ->
  wpAny (model P w) X.A (pyNext (.ref it)) (fun r s1=>∃ u,r=some u /\
   wpAny (model P w) X.A (letOwnedTupleGo tg (.ref it) u) (fun _ s2=>∃ x H',Inv X pins σ H' s2/\RelV x u/\J.yld i H x H'/\tn (i+1) s2.heap/\∀ b∈fp,H' b=none) E s1) E s
 done:∀(X:Cx),X.prog=P->X.w=w->X.K=K->X.calm=true->∀(i:Nat) (pins:List (Addr × Obj)) (s:Shared) (σ:St) (H:Hp) (E:Value->Shared->Prop),Inv X pins σ H s->(∀ b∈fp,FpOk X pins H b)->tn i s.heap->J.stop i H ->
  wpAny (model P w) X.A (pyNext (.ref it)) (fun r s1=>r=none/\Inv X pins σ H s1) E s
 self:∀(A:Around) (i:Nat) (s:Shared) (Q:Value->Shared->Prop) (E:Value->Shared->Prop),tn i s.heap->Q (.ref it) s->wpAny (model P w) A (pyIter (.ref it)) Q E s
abbrev TI:=St->Hp->(It->Hp->Prop)->Prop
def PIE(X:Cx)(pins:List (Addr × Obj))(σ:St)(tg:Expr)(R:It->Hp->Prop)(itv:Value)(s2:Shared):Prop :=
 ∃(it:Addr) (fp:List Addr) (tn:Nat->Heap->Prop) (J:It) (H':Hp),itv=.ref it/\Inv X pins σ H' s2/\Turn X.prog X.w X.K tg J fp it tn/\tn 0 s2.heap/\(∀ b∈fp,FpOk X pins H' b)/\R J H'
def PI(X:Cx)(tg iter:Expr)(wi:TI):Prop :=
 ∀(pins:List (Addr × Obj)) (s:Shared) (σ:St) (H:Hp) (R:It->Hp->Prop),Inv X pins σ H s->wi σ H R ->
  wpAny (model X.prog X.w) X.A (eval iter X.env) (fun v s1=>wpAny (model X.prog X.w) X.A (pyIter v) (PIE X pins σ tg R) X.xe s1) X.xe s
theorem go_of{M:Model}{A:Around}{E:Value->Shared->Prop}{s:Shared}{tg:Expr}{it:Addr}{u:Value}{o:Obj}{n:String}{vs:Array Value}{Q:Unit->Shared->Prop}(ho:s.heap.get? it=some o)(hc:o.cls=.type n)(hd:o.data=.fields vs)
  (hn:["enumerate","zip","dict_itemiterator","dict_reverseitemiterator","odict_iterator","itertools.zip_longest","itertools.pairwise"].contains n=false) (hQ:Q () s):wpAny M A (letOwnedTupleGo tg (.ref it) u) Q E s:=by
 unfold letOwnedTupleGo
 cases tg <;> first
  | exact wpAny_pure hQ
  | (cases u <;> first
    | exact wpAny_pure hQ
    | (refine wpAny_bind (wpAny_load ho ?_)
       rw[hc,hd]
       show wpAny M A (if (["enumerate","zip","dict_itemiterator","dict_reverseitemiterator","odict_iterator","itertools.zip_longest","itertools.pairwise"].contains n && vs[0]? == some (rawInt _))=true then _ else _) Q E s
       rw[if_neg (by intro h;rw[hn,Bool.false_and]at h;cases h)]
       exact wpAny_pure hQ))
def Itl(K:PySem.W.Frag)(a:Addr):It :=
 ⟨fun i H=>∃ xs x,SqL K H a xs/\xs[i]?=some x,fun i H x H'=>H'=H/\∀ xs,SqL K H a xs->xs[i]?=some x,fun i H=>∃ xs,SqL K H a xs/\xs.length<=i⟩
def Itt(K:PySem.W.Frag)(a:Addr):It :=
 ⟨fun i H=>∃ xs x,SqT K H a xs/\xs[i]?=some x,fun i H x H'=>H'=H/\∀ xs,SqT K H a xs->xs[i]?=some x,fun i H=>∃ xs,SqT K H a xs/\xs.length<=i⟩
def Itr(lo:Int)(n:Nat):It:=⟨fun i _=>i<n,fun i H x H'=>H'=H/\x=.int (lo+i),fun i _=>n<=i⟩
theorem turn_list{P:Program}{w:World}{K:PySem.W.Frag}{tg:Expr}(a it:Addr):Turn P w K tg (Itl K a) [it] it (fun i h=>h.IsListIter it a i) where
 mem:=by simp
 obj:=fun i h st b hb=>by
  have e:b=it:=by simpa using hb
  subst e
  obtain⟨o,e,c,d⟩:=st
  exact⟨o,e,fun v z=>by rw[d]at z;cases z⟩
 keep:=fun i h h' st k=>st.at fun o e=>k it (by simp) o e
 item:=by
  intro X hP hw hK hc i pins s σ H E I hf st hg
  subst hP hw hK
  obtain⟨xs,x,hq,hx⟩:=hg
  obtain⟨its,rv,p,hz⟩:=I.list hq
  obtain⟨u,hu,ru⟩:=rv.get hx
  obtain⟨f0,f1,f2,f3,f4,f5⟩:=hf it (by simp)
  refine wpAny_pyNext_list_item st p.isList (x:=u) (by simpa using hu) fun h' st' sb=>?_
  have I1:Inv X pins σ H { s with heap:=h' }:=I.turned (t':=s.toks) (fun b o hb e=>(sb.2 b hb).trans e) f0 f1 f3 f4 f5
  obtain⟨o,e,c,d⟩:=id st'
  exact⟨u,rfl,go_of (s:={ s with heap:=h' }) e c d (by decide) ⟨x,H,I1,ru,⟨rfl,fun ys hy=>by rw[I.list_inj hy hq];exact hx⟩,st',fun b hb=>(hf b hb).1⟩⟩
 done:=by
  intro X hP hw hK hc i pins s σ H E I hf st hg
  subst hP hw hK
  obtain⟨xs,hq,hx⟩:=hg
  obtain⟨its,rv,p,hz⟩:=I.list hq
  obtain⟨f0,f1,f2,f3,f4,f5⟩:=hf it (by simp)
  have hl:=rv.length
  exact wpAny_pyNext_list_end (I.ok.hd hc) st p.isList (by simp;omega) fun h' eb=>⟨rfl,I.turned (t':=s.toks) (fun b o hb e=>eb b o hb e) f0 f1 f3 f4 f5⟩
 self:=fun _ _ _ _ _ st h=>wpAny_pyIter_listiter st h
theorem turn_tuple{P:Program}{w:World}{K:PySem.W.Frag}{tg:Expr}(a it:Addr):Turn P w K tg (Itt K a) [it] it (fun i h=>h.IsTupleIter it a i) where
 mem:=by simp
 obj:=fun i h st b hb=>by
  have e:b=it:=by simpa using hb
  subst e
  obtain⟨o,e,c,d⟩:=st
  exact⟨o,e,fun v z=>by rw[d]at z;cases z⟩
 keep:=fun i h h' st k=>st.at fun o e=>k it (by simp) o e
 item:=by
  intro X hP hw hK hc i pins s σ H E I hf st hg
  subst hP hw hK
  obtain⟨xs,x,hq,hx⟩:=hg
  obtain⟨its,rv,p,hz⟩:=I.tuple hq
  obtain⟨u,hu,ru⟩:=rv.get hx
  obtain⟨f0,f1,f2,f3,f4,f5⟩:=hf it (by simp)
  refine wpAny_pyNext_tuple_item st (show s.heap.IsTuple a its.toArray from p) (x:=u) (by simpa using hu) fun h' st' sb=>?_
  have I1:Inv X pins σ H { s with heap:=h' }:=I.turned (t':=s.toks) (fun b o hb e=>(sb.2 b hb).trans e) f0 f1 f3 f4 f5
  obtain⟨o,e,c,d⟩:=id st'
  exact⟨u,rfl,go_of (s:={ s with heap:=h' }) e c d (by decide) ⟨x,H,I1,ru,⟨rfl,fun ys hy=>by rw[I.tuple_inj hy hq];exact hx⟩,st',fun b hb=>(hf b hb).1⟩⟩
 done:=by
  intro X hP hw hK hc i pins s σ H E I hf st hg
  subst hP hw hK
  obtain⟨xs,hq,hx⟩:=hg
  obtain⟨its,rv,p,hz⟩:=I.tuple hq
  obtain⟨f0,f1,f2,f3,f4,f5⟩:=hf it (by simp)
  have hl:=rv.length
  exact wpAny_pyNext_tuple_end (I.ok.hd hc) st (show s.heap.IsTuple a its.toArray from p) (by simp;omega) fun h' eb=>⟨rfl,I.turned (t':=s.toks) (fun b o hb e=>eb b o hb e) f0 f1 f3 f4 f5⟩
 self:=fun _ _ _ _ _ st h=>wpAny_pyIter_tupleiter st h
theorem turn_range{P:Program}{w:World}{K:PySem.W.Frag}{tg:Expr}(it:Addr)(lo:Int)(n:Nat):Turn P w K tg (Itr lo n) [it] it (fun i h=>IsRangeIter h it (lo+(i:Nat) * 1) ((n:Int) - (i:Nat)) 1) where
 mem:=by simp
 obj:=fun i h st b hb=>by
  have e:b=it:=by simpa using hb
  subst e
  exact⟨_,st,fun v z=>by
   have z':Data.fields _=Data.cell v:=z
   cases z'⟩
 keep:=fun i h h' st k=>k it (by simp) _ st
 item:=by
  intro X hP hw hK hc i pins s σ H E I hf st hg
  subst hP hw hK
  obtain⟨f0,f1,f2,f3,f4,f5⟩:=hf it (by simp)
  have W:=Walks.range (prog:=X.prog) (w:=X.w) (I.ok.hd hc) it lo 1 n
  refine W.item i s _ _ hg st fun v h' tk hv st' kk=>?_
  obtain⟨t,rfl⟩:=hv
  have I1:Inv X pins σ H { s with heap:=h',toks:=tk }:=I.turned (fun b o hb e=>kk b o (by simpa using hb) e) f0 f1 f3 f4 f5
  refine⟨_,rfl,go_of (s:={ s with heap:=h',toks:=tk }) (n:="range_iterator") st' rfl rfl (by decide) ⟨.int (lo+i),H,I1,⟨t,?_⟩,⟨rfl,rfl⟩,st',fun b hb=>(hf b hb).1⟩⟩
  rw[Int.mul_one]
 done:=by
  intro X hP hw hK hc i pins s σ H E I hf st hg
  subst hP hw hK
  obtain⟨f0,f1,f2,f3,f4,f5⟩:=hf it (by simp)
  exact wpAny_pyNext_range_end (I.ok.hd hc) st (by have:n<=i:=hg;omega) fun h' eb=>⟨rfl,I.turned (t':=s.toks) (fun b o hb e=>eb b o hb e) f0 f1 f3 f4 f5⟩
 self:=fun _ _ _ _ _ st h=>wpAny_pyIter_rangeiter st h
section
variable{X:Cx}{tg:Expr}
def iList(K:PySem.W.Frag)(tl:TE):TI:=fun σ H R=>tl σ H fun x H1=>∃ a,x=.ref a/\(∃ xs,SqL K H1 a xs)/\R (Itl K a) H1
def iTup(K:PySem.W.Frag)(tl:TE):TI:=fun σ H R=>tl σ H fun x H1=>∃ a,x=.ref a/\(∃ xs,SqT K H1 a xs)/\R (Itt K a) H1
theorem pi_list{l:Expr}{tl:TE}(hl:PE X l tl):PI X tg l (iList X.K tl):=by
 intro pins s σ H R I h
 refine thn (hl pins s σ H _ I h) fun v s1 ⟨x,H1,I1,r1,q1⟩=>?_
 obtain⟨a,e,⟨xs,hq⟩,q⟩:=q1
 subst e
 cases r1
 obtain⟨its,rv,p,hz⟩:=I1.list hq
 refine wpAny_pyIter_list p.isList ?_
 refine⟨s1.heap.objs.size,[s1.heap.objs.size],_,_,H1,rfl,I1.kept (t':=s1.toks) fun b o e=>Heap.get?_push_of_some _ e,turn_list a _,⟨_,Heap.get?_push_size _ rfl,rfl,rfl⟩,fun b hb=>?_,q⟩
 have e:b=s1.heap.objs.size:=by simpa using hb
 subst e
 exact I1.fpOk (Nat.le_refl _) (I1.hok.fresh (Nat.le_refl _))
theorem pi_tup{l:Expr}{tl:TE}(hl:PE X l tl):PI X tg l (iTup X.K tl):=by
 intro pins s σ H R I h
 refine thn (hl pins s σ H _ I h) fun v s1 ⟨x,H1,I1,r1,q1⟩=>?_
 obtain⟨a,e,⟨xs,hq⟩,q⟩:=q1
 subst e
 cases r1
 obtain⟨its,rv,p,hz⟩:=I1.tuple hq
 refine wpAny_pyIter_tuple (show s1.heap.IsTuple a its.toArray from p) ?_
 refine⟨s1.heap.objs.size,[s1.heap.objs.size],_,_,H1,rfl,I1.kept (t':=s1.toks) fun b o e=>Heap.get?_push_of_some _ e,turn_tuple a _,⟨_,Heap.get?_push_size _ rfl,rfl,rfl⟩,fun b hb=>?_,q⟩
 have e:b=s1.heap.objs.size:=by simpa using hb
 subst e
 exact I1.fpOk (Nat.le_refl _) (I1.hok.fresh (Nat.le_refl _))
theorem range_it{pins:List (Addr × Obj)}{σ:St}{H:Hp}{s:Shared}{R:It->Hp->Prop}{E:Value->Shared->Prop}{lo hi:Int}{t u v:Tok}{tk:Nat}(I:Inv X pins σ H s)(h1:-(2 ^ 62)<=lo)(h2:lo<2 ^ 62)(h3:-(2 ^ 62)<=hi)(h4:hi<2 ^ 62)
  (q:R (Itr lo (hi - lo).toNat) H):wpAny (model X.prog X.w) X.A (pyIter (.ref s.heap.objs.size)) (PIE X pins σ tg R) E { s with heap:=s.heap.push { cls:=.type "range",data:=.fields #[.int lo t,.int hi u,.int 1 v] },toks:=tk }:=by
 refine wpAny_pyIter_range (IsRange.new ..) (small_one h1 h2 h3 h4) ?_
 have I1:Inv X pins σ H { s with heap:=s.heap.push { cls:=.type "range",data:=.fields #[.int lo t,.int hi u,.int 1 v] },toks:=tk }:=I.kept fun b o e=>Heap.get?_push_of_some _ e
 refine⟨(s.heap.push { cls:=.type "range",data:=.fields #[.int lo t,.int hi u,.int 1 v] }).objs.size,[(s.heap.push { cls:=.type "range",data:=.fields #[.int lo t,.int hi u,.int 1 v] }).objs.size],_,_,H,rfl,
  I1.kept (t':=tk) fun b o e=>Heap.get?_push_of_some _ e,turn_range _ lo (hi - lo).toNat,?_,fun b hb=>?_,q⟩
 ·have e1:lo+((0:Nat):Int) * 1=lo:=by simp
  have e2:(((hi - lo).toNat:Nat):Int) - ((0:Nat):Int)=Builtin.Range.rangeSize lo hi 1:=by rw[rangeSize_one];split <;> omega
  show IsRangeIter _ _ (lo+((0:Nat):Int) * 1) ((((hi - lo).toNat:Nat):Int) - ((0:Nat):Int)) 1
  rw[e1,e2]
  exact Heap.get?_push_size _ rfl
 ·have e:b=(s.heap.push { cls:=.type "range",data:=.fields #[.int lo t,.int hi u,.int 1 v] }).objs.size:=by simpa using hb
  subst e
  exact I1.fpOk (Nat.le_refl _) (I1.hok.fresh (Nat.le_refl _))
def iRng1(ta:TA):TI:=fun σ H R=>ta σ H fun vs H1=>∃ j:Int,vs=[.int j]/\-(2 ^ 62)<=j/\j<2 ^ 62/\R (Itr 0 j.toNat) H1
theorem pi_range1 {a:Expr} {ta:TA} {p pos:Pos} (hg:Gl X "range") (hm:X.mg "range"=none) (ha:PA X [a] ta) (hs:starEach [a] X.env=[(false,eval a X.env)]:=by rfl):PI X tg (.Call (.Name "range" p) [a] [] pos) (iRng1 ta):=by
 intro pins s σ H R I h
 refine Call_ (ld_blt I hg hm boot_range (PyProof.Rows.callWith_type1 (thn (ha pos pins s σ H _ I h) fun us s1 ⟨vs,H1,I1,r1,q1⟩=>?_) hs rfl))
 obtain⟨j,e,q1,q2,q⟩:=q1
 subst e
 cases r1 with
 | cons r rr =>
  cases rr
  obtain⟨t,rfl⟩:=r
  exact call_range_1 (range_it I1 (by omega) (by omega) q1 q2 (by simpa using q))
def tFor(wi:TI)(g:TG)(tb:TS):TS:=fun D σ H=>wi σ H fun J H1=>∃ W:Nat->Nat->St->Hp->Prop,(∃ m,W 0 m σ H1)/\∀ i m σ H,W i m σ H ->
 (J.stop i H/\D.nx σ H)\/(J.go i H/\∃ N:St->Hp->Prop,(∀ σ' H',N σ' H'->∃ m',m'<m/\W (i+1) m' σ' H')/\∀ x H',J.yld i H x H'->g x σ H' fun σ2 H2=>tb { D with nx:=N,ct:=N,bk:=D.nx } σ2 H2)
def pinsAt(fp:List Addr)(h:Heap):List (Addr × Obj):=fp.filterMap fun b=>(h.get? b).map fun o=>(b,o)
theorem mem_pinsAt{fp:List Addr}{h:Heap}{b:Addr}{o:Obj}(hb:b∈fp)(e:h.get? b=some o):(b,o)∈pinsAt fp h:=List.mem_filterMap.mpr ⟨b,hb,by rw[e];rfl⟩
theorem of_pinsAt{fp:List Addr}{h:Heap}{p:Addr × Obj}(hp:p∈pinsAt fp h):p.1∈fp/\h.get? p.1=some p.2:=by
 obtain⟨b,hb,e⟩:=List.mem_filterMap.mp hp
 cases q:h.get? b with
 | none=>rw[q]at e;cases e
 | some o =>
  rw[q]at e
  have e':(b,o)=p:=Option.some.inj e
  subst e'
  exact⟨hb,q⟩
theorem Inv.pinned{pins:List (Addr × Obj)}{σ:St}{H:Hp}{s:Shared}{fp:List Addr}(I:Inv X pins σ H s)(hf:∀ b∈fp,FpOk X pins H b)(ho:∀ b∈fp,∃ o,s.heap.get? b=some o/\∀ v,o.data≠.cell v):Inv X (pins++pinsAt fp s.heap) σ H s :=
 I.pins_of fun p hp=>(List.mem_append.mp hp).elim (fun z=>I.pin p (List.mem_append_right _ z)) fun z=>by
  obtain⟨hb,e⟩:=of_pinsAt z
  obtain⟨f0,f1,f2,_⟩:=hf p.1 hb
  obtain⟨o,e',d⟩:=ho p.1 hb
  rw[e]at e';cases e'
  exact⟨e,f0,f1,f2,d⟩
theorem Inv.unpinned{pins pl:List (Addr × Obj)}{σ:St}{H:Hp}{s:Shared}(I:Inv X (pins++pl) σ H s):Inv X pins σ H s:=I.pins_of fun p hp=>I.pin p (List.mem_append_right _ (List.mem_append_left _ hp))
theorem ps_for{iter:Expr}{body:List Stmt}{wi:TI}{g:TG}{tb:TS}{pos:Pos}(hp:PassesOwn (model X.prog X.w) X.A X.env X.xe)(hc:X.calm=true)(hi:PI X tg iter wi)(hg:PG X tg g)(hb:PSs X body tb)
  (hs:∀ x,foldedSetIterable iter X.env x=pure x:=by intro _;rfl):PS X (.For tg iter body [] pos) (tFor wi g tb):=by
 intro pins s σ H D I h
 refine wpAny_For (thn (hi pins s σ H _ I h) fun v s1 h1=>thn h1 fun itv s2 h2=>?_) hs
 obtain⟨it,fp,tn,J,H2,e,I2,T,st2,f2,W,⟨m0,w0⟩,turn⟩:=h2
 subst e
 have stat:∀ {H':Hp},(∀ b∈fp,H' b=none)->∀ b∈fp,FpOk X pins H' b:=fun hn b hb=>⟨hn b hb,(f2 b hb).2⟩
 refine codeAny_forLoop_any (fun n s'=>∃ i σ' H',Inv X pins σ' H' s'/\tn i s'.heap/\(∀ b∈fp,H' b=none)/\W i n σ' H') ?_ m0 ⟨0,σ,H2,I2,st2,fun b hb=>(f2 b hb).1,w0⟩
 rintro n s3 ⟨i,σ3,H3,I3,st3,fr3,w3⟩
 rcases turn i n σ3 H3 w3 with ⟨stop,qn⟩ | ⟨go,N,hN,step⟩
 ·refine wpAny_passesOwn hp (thn (T.done X rfl rfl rfl hc i pins s3 σ3 H3 X.xe I3 (stat fr3) st3 stop) fun r s4 ⟨hr,I4⟩=>?_)
  subst hr
  exact wpAny_execs_nil ⟨σ3,H3,I4,qn⟩
 ·refine wpAny_passesOwn hp (thn (T.item X rfl rfl rfl hc i pins s3 σ3 H3 X.xe I3 (stat fr3) st3 go) fun r s4 ⟨u,hr,h4⟩=>?_)
  subst hr
  refine wpAny_passesOwn hp (thn h4 fun _ s5 ⟨x,H5,I5,r5,y5,st5,fr5⟩=>?_)
  have I5':=I5.pinned (stat fr5) (T.obj _ _ st5)
  refine wpAny_passesOwn hp (thn (hg _ s5 σ3 H5 x u _ I5' r5 (step x H5 y5)) fun _ s6 ⟨σ6,H6,I6,q6⟩=>?_)
  refine wpAny_passesOwn hp (thn (hb _ s6 σ6 H6 _ I6 q6) fun f s7 q7=>?_)
  have again:∀ {σ7:St} {H7:Hp},Inv X (pins++pinsAt fp s5.heap) σ7 H7 s7->N σ7 H7->∃ m,m<n/\∃ i σ' H',Inv X pins σ' H' s7/\tn i s7.heap/\(∀ b∈fp,H' b=none)/\W i m σ' H':=fun {σ7 H7} I7 n7=>by
   obtain⟨m',hm,w7⟩:=hN σ7 H7 n7
   refine⟨m',hm,i+1,σ7,H7,I7.unpinned,T.keep _ _ _ st5 fun b hb o e=>(I7.pin (b,o) (List.mem_append_right _ (List.mem_append_right _ (mem_pinsAt hb e)))).1,fun b hb=>?_,w7⟩
   obtain⟨o,e,d⟩:=T.obj _ _ st5 b hb
   exact(I7.pin (b,o) (List.mem_append_right _ (List.mem_append_right _ (mem_pinsAt hb e)))).2.1
  cases f with
  | next=>obtain⟨σ7,H7,I7,n7⟩:=q7;exact again I7 n7
  | cont=>obtain⟨σ7,H7,I7,n7⟩:=q7;exact again I7 n7
  | brk=>obtain⟨σ7,H7,I7,q7⟩:=q7;exact⟨σ7,H7,I7.unpinned,q7⟩
  | ret v=>obtain⟨x7,σ7,H7,I7,r7,q7⟩:=q7;exact⟨x7,σ7,H7,I7.unpinned,r7,q7⟩
end
theorem for_list{K:PySem.W.Frag}{a:Addr}{xs:List V}{g:TG}{tb:TS}{D:Ends}{σ:St}{H:Hp}(Pv:Nat->St->Hp->Prop)(h0:Pv 0 σ H)(hl:∀ i σ H,i<=xs.length->Pv i σ H->SqL K H a xs)
  (hs:∀ i x σ H,xs[i]?=some x->Pv i σ H->g x σ H fun σ2 H2=>tb { D with nx:=Pv (i+1),ct:=Pv (i+1),bk:=D.nx } σ2 H2) (hd:∀ σ H,Pv xs.length σ H->D.nx σ H) :
  ∃ W:Nat->Nat->St->Hp->Prop,(∃ m,W 0 m σ H)/\∀ i m σ H,W i m σ H ->
   ((Itl K a).stop i H/\D.nx σ H)\/((Itl K a).go i H/\∃ N:St->Hp->Prop,(∀ σ' H',N σ' H'->∃ m',m'<m/\W (i+1) m' σ' H')/\∀ x H',(Itl K a).yld i H x H'->g x σ H' fun σ2 H2=>tb { D with nx:=N,ct:=N,bk:=D.nx } σ2 H2):=by
 refine⟨fun i m σ H=>m=xs.length - i/\i<=xs.length/\Pv i σ H,⟨xs.length,by simp,Nat.zero_le _,h0⟩,?_⟩
 rintro i m σ H ⟨rfl,hi,p⟩
 have q:=hl i σ H hi p
 by_cases hlt:i<xs.length
 ·refine .inr ⟨⟨xs,xs[i],q,by simp[hlt]⟩,Pv (i+1),fun σ' H' p'=>⟨xs.length - (i+1),by omega,rfl,hlt,p'⟩,fun x H' y=>?_⟩
  obtain⟨e,y⟩:=y
  subst e
  exact hs i x σ _ (y xs q) p
 ·have e:i=xs.length:=by omega
  subst e
  exact .inl ⟨⟨xs,q,Nat.le_refl _⟩,hd σ H p⟩
theorem for_tup{K:PySem.W.Frag}{a:Addr}{xs:List V}{g:TG}{tb:TS}{D:Ends}{σ:St}{H:Hp}(Pv:Nat->St->Hp->Prop)(h0:Pv 0 σ H)(hl:∀ i σ H,i<=xs.length->Pv i σ H->SqT K H a xs)
  (hs:∀ i x σ H,xs[i]?=some x->Pv i σ H->g x σ H fun σ2 H2=>tb { D with nx:=Pv (i+1),ct:=Pv (i+1),bk:=D.nx } σ2 H2) (hd:∀ σ H,Pv xs.length σ H->D.nx σ H) :
  ∃ W:Nat->Nat->St->Hp->Prop,(∃ m,W 0 m σ H)/\∀ i m σ H,W i m σ H ->
   ((Itt K a).stop i H/\D.nx σ H)\/((Itt K a).go i H/\∃ N:St->Hp->Prop,(∀ σ' H',N σ' H'->∃ m',m'<m/\W (i+1) m' σ' H')/\∀ x H',(Itt K a).yld i H x H'->g x σ H' fun σ2 H2=>tb { D with nx:=N,ct:=N,bk:=D.nx } σ2 H2):=by
 refine⟨fun i m σ H=>m=xs.length - i/\i<=xs.length/\Pv i σ H,⟨xs.length,by simp,Nat.zero_le _,h0⟩,?_⟩
 rintro i m σ H ⟨rfl,hi,p⟩
 have q:=hl i σ H hi p
 by_cases hlt:i<xs.length
 ·refine .inr ⟨⟨xs,xs[i],q,by simp[hlt]⟩,Pv (i+1),fun σ' H' p'=>⟨xs.length - (i+1),by omega,rfl,hlt,p'⟩,fun x H' y=>?_⟩
  obtain⟨e,y⟩:=y
  subst e
  exact hs i x σ _ (y xs q) p
 ·have e:i=xs.length:=by omega
  subst e
  exact .inl ⟨⟨xs,q,Nat.le_refl _⟩,hd σ H p⟩
theorem for_range{lo:Int}{n:Nat}{g:TG}{tb:TS}{D:Ends}{σ:St}{H:Hp}(Pv:Nat->St->Hp->Prop)(h0:Pv 0 σ H)
  (hs:∀ i σ H,i<n->Pv i σ H->g (.int (lo+i)) σ H fun σ2 H2=>tb { D with nx:=Pv (i+1),ct:=Pv (i+1),bk:=D.nx } σ2 H2) (hd:∀ σ H,Pv n σ H->D.nx σ H) :
  ∃ W:Nat->Nat->St->Hp->Prop,(∃ m,W 0 m σ H)/\∀ i m σ H,W i m σ H ->
   ((Itr lo n).stop i H/\D.nx σ H)\/((Itr lo n).go i H/\∃ N:St->Hp->Prop,(∀ σ' H',N σ' H'->∃ m',m'<m/\W (i+1) m' σ' H')/\∀ x H',(Itr lo n).yld i H x H'->g x σ H' fun σ2 H2=>tb { D with nx:=N,ct:=N,bk:=D.nx } σ2 H2):=by
 refine⟨fun i m σ H=>m=n - i/\i<=n/\Pv i σ H,⟨n,by simp,Nat.zero_le _,h0⟩,?_⟩
 rintro i m σ H ⟨rfl,hi,p⟩
 by_cases hlt:i<n
 ·refine .inr ⟨hlt,Pv (i+1),fun σ' H' p'=>⟨n - (i+1),by omega,rfl,hlt,p'⟩,fun x H' y=>?_⟩
  obtain⟨e,y⟩:=y
  subst e y
  exact hs i σ _ hlt p
 ·have e:i=n:=by omega
  subst e
  exact .inl ⟨Nat.le_refl _,hd σ H p⟩
abbrev R2:=V->V->Hp->VK->Prop
def OpR(X:Cx)(f:Value->Value->Sem Value)(r:R2):Prop :=
 ∀(pins:List (Addr × Obj)) (s:Shared) (σ:St) (H:Hp) (x y:V) (v u:Value) (Q:VK),Inv X pins σ H s->RelV x v->RelV y u->r x y H Q ->
  wpAny (model X.prog X.w) X.A (f v u) (EP X pins σ Q) X.xe s
def UnR(X:Cx)(f:Value->Sem Value)(r:V->Hp->VK->Prop):Prop :=
 ∀(pins:List (Addr × Obj)) (s:Shared) (σ:St) (H:Hp) (x:V) (v:Value) (Q:VK),Inv X pins σ H s->RelV x v->r x H Q ->
  wpAny (model X.prog X.w) X.A (f v) (EP X pins σ Q) X.xe s
def CallR(X:Cx)(f:Value)(r:List V->Hp->VK->Prop):Prop :=
 ∀(pins:List (Addr × Obj)) (s:Shared) (σ:St) (H:Hp) (xs:List V) (us:List Value) (Q:VK),Inv X pins σ H s->Vals xs us->r xs H Q ->
  wpAny (model X.prog X.w) X.A (call f us) (EP X pins σ Q) X.xe s
def tOp(r:R2)(ta tb:TE):TE:=fun σ H Q=>ta σ H fun x H1=>tb σ H1 fun y H2=>r x y H2 Q
def tUn(r:V->Hp->VK->Prop)(ta:TE):TE:=fun σ H Q=>ta σ H fun x H1=>r x H1 Q
def rI(C:Int->Int->Prop)(g:Int->Int->V):R2:=fun x y H Q=>∃ i j,x=.int i/\y=.int j/\C i j/\Q (g i j) H
def rI0(g:Int->Int->V):R2:=fun x y H Q=>∃ i j,x=.int i/\y=.int j/\Q (g i j) H
def rU(g:Int->V):V->Hp->VK->Prop:=fun x H Q=>∃ i,x=.int i/\Q (g i) H
section
variable{X:Cx}{a b c:Expr}{ta tb tc:TE}{pos:Pos}
theorem binT(ha:PE X a ta)(hb:PE X b tb){pins:List (Addr × Obj)}{s:Shared}{σ:St}{H:Hp}{R:V->V->Hp->Prop}(I:Inv X pins σ H s)
  (h:ta σ H fun x H1=>tb σ H1 fun y H2=>R x y H2) {Q:Value->Shared->Prop} {f:Value->Value->Sem Value}
  (hf:∀ v u s2 x y H2,Inv X pins σ H2 s2->RelV x v->RelV y u->R x y H2->wpAny (model X.prog X.w) X.A (f v u) Q X.xe s2) :
  wpAny (model X.prog X.w) X.A (eval a X.env) (fun v s₁=>wpAny (model X.prog X.w) X.A (eval b X.env) (fun u s₂=>wpAny (model X.prog X.w) X.A (f v u) Q X.xe s₂) X.xe s₁) X.xe s:=by
 refine thn (ha pins s σ H _ I h) fun v s1 ⟨x,H1,I1,r1,q1⟩=>?_
 refine thn (hb pins s1 σ H1 _ I1 q1) fun u s2 ⟨y,H2,I2,r2,q2⟩=>?_
 exact hf v u s2 x y H2 I2 r1 r2 q2
theorem pe_op{op:Operator}{r:R2}(ho:OpR X (binaryOp op) r)(ha:PE X a ta)(hb:PE X b tb):PE X (.BinOp a op b pos) (tOp r ta tb):=by
 intro pins s σ H Q I h
 exact wpAny_BinOp (binT ha hb I h fun v u s2 x y H2 I2 rx ry q=>ho pins s2 σ H2 x y v u Q I2 rx ry q)
theorem pe_un{op:UnaryOp}{r:V->Hp->VK->Prop}(ho:UnR X (unaryOp op) r)(ha:PE X a ta):PE X (.UnaryOp op a pos) (tUn r ta):=by
 intro pins s σ H Q I h
 exact UnaryOp_ (thn (ha pins s σ H _ I h) fun v s1 ⟨x,H1,I1,r1,q1⟩=>ho pins s1 σ H1 x v Q I1 r1 q1)
theorem opI{f:Value->Value->Sem Value}{C:Int->Int->Prop}{g:Int->Int->Int}
  (rule:∀(i j:Int) (t u:Tok) (s:Shared) (Q:Value->Shared->Prop) (E:Value->Shared->Prop),C i j->Q (.int (g i j) s.toks) { s with toks:=s.toks+1 }->wpAny (model X.prog X.w) X.A (f (.int i t) (.int j u)) Q E s) :
  OpR X f (rI C fun i j=>.int (g i j)):=by
 intro pins s σ H x y v u Q I rx ry h
 obtain⟨i,j,rfl,rfl,hc,q⟩:=h
 obtain⟨t,rfl⟩:=rx
 obtain⟨t',rfl⟩:=ry
 exact rule i j t t' s _ _ hc ⟨.int (g i j),H,I.tok _,⟨_,rfl⟩,q⟩
theorem opI0{f:Value->Value->Sem Value}{g:Int->Int->Int}
  (rule:∀(i j:Int) (t u:Tok) (s:Shared) (Q:Value->Shared->Prop) (E:Value->Shared->Prop),Q (.int (g i j) s.toks) { s with toks:=s.toks+1 }->wpAny (model X.prog X.w) X.A (f (.int i t) (.int j u)) Q E s) :
  OpR X f (rI0 fun i j=>.int (g i j)):=by
 intro pins s σ H x y v u Q I rx ry h
 obtain⟨i,j,rfl,rfl,q⟩:=h
 obtain⟨t,rfl⟩:=rx
 obtain⟨t',rfl⟩:=ry
 exact rule i j t t' s _ _ ⟨.int (g i j),H,I.tok _,⟨_,rfl⟩,q⟩
theorem opB0{f:Value->Value->Sem Value}{g:Int->Int->Bool}
  (rule:∀(i j:Int) (t u:Tok) (s:Shared) (Q:Value->Shared->Prop) (E:Value->Shared->Prop),Q (.bool (g i j)) s->wpAny (model X.prog X.w) X.A (f (.int i t) (.int j u)) Q E s) :
  OpR X f (rI0 fun i j=>.bl (g i j)):=by
 intro pins s σ H x y v u Q I rx ry h
 obtain⟨i,j,rfl,rfl,q⟩:=h
 obtain⟨t,rfl⟩:=rx
 obtain⟨t',rfl⟩:=ry
 exact rule i j t t' s _ _ ⟨.bl (g i j),H,I,rfl,q⟩
def CDiv(i j:Int):Prop:=0<j/\j<1073741824
def CPow(i j:Int):Prop:=0<=j/\j<=1000000/\i.natAbs<2 ^ 64
def CMul(i j:Int):Prop:=(-(2 ^ 64)<i/\i<2 ^ 64)\/(-(2 ^ 64)<j/\j<2 ^ 64)
theorem CMul.ok{i j:Int}(h:CMul i j):IntMulOk i j:=by
 rcases h with ⟨h1,h2⟩ | ⟨h1,h2⟩
 ·exact .of_left (intBits_le_64 h1 h2)
 ·exact .of_right (intBits_le_64 h1 h2)
theorem op_add:OpR X (binaryOp .Add) (rI0 fun i j=>.int (i+j)):=opI0 fun _ _ _ _ _ _ _ q=>add_int q
theorem op_sub:OpR X (binaryOp .Sub) (rI0 fun i j=>.int (i - j)):=opI0 fun _ _ _ _ _ _ _ q=>sub_int q
theorem op_mul:OpR X (binaryOp .Mult) (rI CMul fun i j=>.int (i * j)):=opI fun _ _ _ _ _ _ _ hc q=>mul_int q hc.ok
theorem op_fdiv:OpR X (binaryOp .FloorDiv) (rI CDiv fun i j=>.int (i / j)):=opI fun i j _ _ _ _ _ hc q=>by
 have h1:(0:Int)<j:=hc.1
 have h2:j<1073741824:=hc.2
 exact floordiv_int (by omega) (by rw[Int.fdiv_eq_ediv_of_nonneg i (by omega)];exact q) (.inl (PyProof.noPylong_small (by omega)))
theorem op_mod:OpR X (binaryOp .Mod) (rI (fun _ j=>0<j) fun i j=>.int (i % j)):=opI fun i j _ _ _ _ _ hc q=>by
 have h1:(0:Int)<j:=hc
 exact mod_int' (by omega) (by rw[Int.fmod_eq_emod_of_nonneg i (by omega)];exact q)
theorem op_pow:OpR X (binaryOp .Pow) (rI CPow fun i j=>.int (i ^ j.toNat)):=opI fun _ _ _ _ _ _ _ hc q=>pow_int_small hc.1 hc.2.1 hc.2.2 q
theorem op_xor:OpR X (binaryOp .BitXor) (rI0 fun i j=>.int (Builtin.bitXor i j)):=opI0 fun _ _ _ _ _ _ _ q=>xor_int q
theorem unI{f:Value->Sem Value}{g:Int->Int}
  (rule:∀(i:Int) (t:Tok) (s:Shared) (Q:Value->Shared->Prop) (E:Value->Shared->Prop),Q (.int (g i) s.toks) { s with toks:=s.toks+1 }->wpAny (model X.prog X.w) X.A (f (.int i t)) Q E s) :
  UnR X f (rU fun i=>.int (g i)):=by
 intro pins s σ H x v Q I rx h
 obtain⟨i,rfl,q⟩:=h
 obtain⟨t,rfl⟩:=rx
 exact rule i t s _ _ ⟨.int (g i),H,I.tok _,⟨_,rfl⟩,q⟩
theorem un_neg:UnR X (unaryOp .USub) (rU fun i=>.int (-i)):=unI fun _ _ _ _ _ q=>neg_int q
end
def scal:V->V->Bool
 | .non,.non=>true | .non,.int _=>true | .int _,.non=>true | .non,.bl _=>true | .bl _,.non=>true | .non,.str _=>true | .str _,.non=>true
 | .int _,.int _=>true | .bl _,.bl _=>true | .str _,.str _=>true | .byt _,.byt _=>true
 | .int _,.str _=>true | .str _,.int _=>true | .bl _,.str _=>true | .str _,.bl _=>true
 | _,_=>false
def rEq:R2:=fun x y H Q=>scal x y=true/\Q (.bl (decide (x=y))) H
def rNe:R2:=fun x y H Q=>scal x y=true/\Q (.bl (!decide (x=y))) H
theorem dec_int{i j:Int}:decide (V.int i=V.int j)=(i == j):=by
 rw[Bool.eq_iff_iff]
 simp
theorem dec_bl{i j:Bool}:decide (V.bl i=V.bl j)=(i == j):=by
 rw[Bool.eq_iff_iff]
 simp
theorem dec_str{i j:Str}:decide (V.str i=V.str j)=(i == j):=by
 rw[Bool.eq_iff_iff]
 simp
theorem dec_byt{i j:Array UInt8}:decide (V.byt i=V.byt j)=(i.toList == j.toList):=by
 rw[Bool.eq_iff_iff]
 cases i
 cases j
 simp
section
variable{X:Cx}{a b c:Expr}{ta tb tc:TE}{pos:Pos}
theorem fin_bl{pins:List (Addr × Obj)}{σ:St}{H:Hp}{s:Shared}{Q:VK}{k k':Bool}(I:Inv X pins σ H s)(q:Q (.bl k) H)(e:k=k'):EP X pins σ Q (.bool k') s:=by
 subst e
 exact⟨.bl k,H,I,rfl,q⟩
theorem op_eq:OpR X (compareOp .Eq) rEq:=by
 intro pins s σ H x y v u Q I rx ry h
 obtain⟨hs,q⟩:=h
 cases x with
 | non =>
  cases rx
  cases y with
  | non=>cases ry;exact PySem.EqNone.eq_none_none (fin_bl I q (by simp))
  | bl j=>cases ry;exact PySem.EqNone.eq_none_bool (fin_bl I q (by simp))
  | int j=>obtain⟨t',rfl⟩:=ry;exact PySem.EqNone.eq_none_int (fin_bl I q (by simp))
  | str j=>obtain⟨t',rfl⟩:=ry;exact PySem.EqNone.eq_none_str (fin_bl I q (by simp))
  | _=>exact absurd (show false=true from hs) Bool.false_ne_true
 | bl i =>
  cases rx
  cases y with
  | non=>cases ry;exact PySem.EqNone.eq_bool_none (fin_bl I q (by simp))
  | bl j=>cases ry;exact eq_bool (fin_bl I q dec_bl)
  | str j=>obtain⟨t',rfl⟩:=ry;exact PySem.EqMixed.eq_bool_str (fin_bl I q (by simp))
  | _=>exact absurd (show false=true from hs) Bool.false_ne_true
 | int i =>
  obtain⟨t,rfl⟩:=rx
  cases y with
  | non=>cases ry;exact PySem.EqNone.eq_int_none (fin_bl I q (by simp))
  | int j=>obtain⟨t',rfl⟩:=ry;exact eq_int (fin_bl I q dec_int)
  | str j=>obtain⟨t',rfl⟩:=ry;exact PySem.EqMixed.eq_int_str (fin_bl I q (by simp))
  | _=>exact absurd (show false=true from hs) Bool.false_ne_true
 | str i =>
  obtain⟨t,rfl⟩:=rx
  cases y with
  | non=>cases ry;exact PySem.EqNone.eq_str_none (fin_bl I q (by simp))
  | bl j=>cases ry;exact PySem.EqMixed.eq_str_bool (fin_bl I q (by simp))
  | int j=>obtain⟨t',rfl⟩:=ry;exact PySem.EqMixed.eq_str_int (fin_bl I q (by simp))
  | str j=>obtain⟨t',rfl⟩:=ry;exact eq_str (fin_bl I q dec_str)
  | _=>exact absurd (show false=true from hs) Bool.false_ne_true
 | byt i =>
  obtain⟨t,rfl⟩:=rx
  cases y with
  | byt j=>obtain⟨t',rfl⟩:=ry;exact PySem.W.eq_bytes (fin_bl I q dec_byt)
  | _=>exact absurd (show false=true from hs) Bool.false_ne_true
 | _=>cases y <;> exact absurd (show false=true from hs) Bool.false_ne_true
theorem op_ne:OpR X (compareOp .NotEq) rNe:=by
 intro pins s σ H x y v u Q I rx ry h
 obtain⟨hs,q⟩:=h
 cases x with
 | non =>
  cases rx
  cases y with
  | non=>cases ry;exact PySem.EqNone.ne_none_none (fin_bl I q (by simp))
  | bl j=>cases ry;exact PySem.EqNone.ne_none_bool (fin_bl I q (by simp))
  | int j=>obtain⟨t',rfl⟩:=ry;exact PySem.EqNone.ne_none_int (fin_bl I q (by simp))
  | str j=>obtain⟨t',rfl⟩:=ry;exact PySem.EqNone.ne_none_str (fin_bl I q (by simp))
  | _=>exact absurd (show false=true from hs) Bool.false_ne_true
 | bl i =>
  cases rx
  cases y with
  | non=>cases ry;exact PySem.EqNone.ne_bool_none (fin_bl I q (by simp))
  | bl j=>cases ry;exact ne_bool (fin_bl I q (congrArg not dec_bl))
  | str j=>obtain⟨t',rfl⟩:=ry;exact PySem.EqMixed.ne_bool_str (fin_bl I q (by simp))
  | _=>exact absurd (show false=true from hs) Bool.false_ne_true
 | int i =>
  obtain⟨t,rfl⟩:=rx
  cases y with
  | non=>cases ry;exact PySem.EqNone.ne_int_none (fin_bl I q (by simp))
  | int j=>obtain⟨t',rfl⟩:=ry;exact ne_int (fin_bl I q (congrArg not dec_int))
  | str j=>obtain⟨t',rfl⟩:=ry;exact PySem.EqMixed.ne_int_str (fin_bl I q (by simp))
  | _=>exact absurd (show false=true from hs) Bool.false_ne_true
 | str i =>
  obtain⟨t,rfl⟩:=rx
  cases y with
  | non=>cases ry;exact PySem.EqNone.ne_str_none (fin_bl I q (by simp))
  | bl j=>cases ry;exact PySem.EqMixed.ne_str_bool (fin_bl I q (by simp))
  | int j=>obtain⟨t',rfl⟩:=ry;exact PySem.EqMixed.ne_str_int (fin_bl I q (by simp))
  | str j=>obtain⟨t',rfl⟩:=ry;exact ne_str (fin_bl I q (congrArg not dec_str))
  | _=>exact absurd (show false=true from hs) Bool.false_ne_true
 | byt i =>
  obtain⟨t,rfl⟩:=rx
  cases y with
  | byt j=>obtain⟨t',rfl⟩:=ry;exact PySem.W.ne_bytes (fin_bl I q (congrArg not dec_byt))
  | _=>exact absurd (show false=true from hs) Bool.false_ne_true
 | _=>cases y <;> exact absurd (show false=true from hs) Bool.false_ne_true
theorem op_lt:OpR X (compareOp .Lt) (rI0 fun i j=>.bl (decide (i<j))):=opB0 fun _ _ _ _ _ _ _ q=>lt_int q
theorem op_le:OpR X (compareOp .LtE) (rI0 fun i j=>.bl (decide (i<=j))):=opB0 fun _ _ _ _ _ _ _ q=>le_int q
theorem op_gt:OpR X (compareOp .Gt) (rI0 fun i j=>.bl (decide (j<i))):=opB0 fun _ _ _ _ _ _ _ q=>gt_int q
theorem op_isN:OpR X (compareOp .Is) (fun x y H Q=>y=.non/\Q (.bl (decide (x=.non))) H):=by
 intro pins s σ H x y v u Q I rx ry h
 obtain⟨rfl,q⟩:=h
 cases ry
 refine is_none_gen (fin_bl I q ?_)
 cases x <;> first
  | (cases rx;rfl)
  | (obtain⟨t,rfl⟩:=rx;rfl)
theorem nomark(b:Expr){op:CmpOp}(h:op≠.In:=by decide)(h2:op≠.NotIn:=by decide):behindInMarks op b=false:=by
 have e1:(op == CmpOp.In)=false:=by cases op <;> first | rfl | exact absurd rfl h
 have e2:(op == CmpOp.NotIn)=false:=by cases op <;> first | rfl | exact absurd rfl h2
 cases b <;> simp[behindInMarks,e1,e2]
theorem pe_cmpR{op:CmpOp}{r:R2}(ho:OpR X (compareOp op) r)(ha:PE X a ta)(hb:PE X b tb)(hm:behindInMarks op b=false):PE X (.Compare a [op] [b] pos) (tOp r ta tb):=by
 intro pins s σ H Q I h
 exact wpAny_Compare1 (binT ha hb I h fun v u s2 x y H2 I2 rx ry q=>ho pins s2 σ H2 x y v u Q I2 rx ry q) hm
def tTest(t:TE):TT:=fun σ H Q=>t σ H fun x H'=>∃ k,x=.bl k/\Q k H'
theorem pt_cmpR{op:CmpOp}{r:R2}(ho:OpR X (compareOp op) r)(ha:PE X a ta)(hb:PE X b tb)(hm:behindInMarks op b=false):PT X (.Compare a [op] [b] pos) (tTest (tOp r ta tb)):=by
 intro pins s σ H Q I h
 refine wpAny_isTrue_Compare1 (thn (ha pins s σ H _ I h) fun v s1 ⟨x,H1,I1,r1,q1⟩=>thn (hb pins s1 σ H1 _ I1 q1) fun u s2 ⟨y,H2,I2,r2,q2⟩ =>
  thn (ho pins s2 σ H2 x y v u _ I2 r1 r2 q2) fun c s3 ⟨z,H3,I3,r3,k,e,q3⟩=>?_) hm
 subst e
 cases r3
 exact wpAny_truthy_bool ⟨H3,I3,q3⟩
def tChain(r r':R2)(ta tb tc:TE):TE:=fun σ H Q=>ta σ H fun x H1=>tb σ H1 fun y H2=>r x y H2 fun z H3=>∃ k,z=.bl k /\
 (if k=true then tc σ H3 fun w' H4=>r' y w' H4 Q else Q (.bl false) H3)
theorem pe_chain{op op':CmpOp}{r r':R2}(ho:OpR X (compareOp op) r)(ho':OpR X (compareOp op') r')(ha:PE X a ta)(hb:PE X b tb)(hc:PE X c tc)
  (hm:lastMarks [op,op'] [b,c]=false:=by with_unfolding_all rfl):PE X (.Compare a [op,op'] [b,c] pos) (tChain r r' ta tb tc):=by
 intro pins s σ H Q I h
 refine Compare_chain (thn (ha pins s σ H _ I h) fun v s1 ⟨x,H1,I1,r1,q1⟩=>chain_link (thn (hb pins s1 σ H1 _ I1 q1) fun u s2 ⟨y,H2,I2,r2,q2⟩ =>
  thn (ho pins s2 σ H2 x y v u _ I2 r1 r2 q2) fun d s3 ⟨z,H3,I3,r3,k,e,q3⟩=>?_)) hm
 subst e
 cases r3
 refine wpAny_truthy_bool ?_
 cases k with
 | false=>exact ite_ff ⟨.bl false,H3,I3,rfl,q3⟩
 | true=>exact ite_tt (chain_last (thn (hc pins s3 σ H3 _ I3 q3) fun w' s4 ⟨z',H4,I4,r4,q4⟩=>ho' pins s4 σ H4 y z' u w' Q I4 r2 r4 q4))
theorem pt_chain{op op':CmpOp}{r r':R2}(ho:OpR X (compareOp op) r)(ho':OpR X (compareOp op') r')(ha:PE X a ta)(hb:PE X b tb)(hc:PE X c tc)
  (hm:lastMarks [op,op'] [b,c]=false:=by with_unfolding_all rfl):PT X (.Compare a [op,op'] [b,c] pos) (tTest (tChain r r' ta tb tc)):=by
 intro pins s σ H Q I h
 refine isTrue_chain (thn (ha pins s σ H _ I h) fun v s1 ⟨x,H1,I1,r1,q1⟩=>test_link (thn (hb pins s1 σ H1 _ I1 q1) fun u s2 ⟨y,H2,I2,r2,q2⟩ =>
  thn (ho pins s2 σ H2 x y v u _ I2 r1 r2 q2) fun d s3 ⟨z,H3,I3,r3,k,e,q3⟩=>?_)) hm
 subst e
 cases r3
 refine wpAny_truthy_bool ?_
 cases k with
 | false =>
  obtain⟨k',e',q'⟩:=q3
  cases e'
  exact ite_ff ⟨H3,I3,q'⟩
 | true =>
  refine ite_tt (test_last (thn (hc pins s3 σ H3 _ I3 q3) fun w' s4 ⟨z',H4,I4,r4,q4⟩=>thn (ho' pins s4 σ H4 y z' u w' _ I4 r2 r4 q4) fun d' s5 ⟨z2,H5,I5,r5,k2,e2,q5⟩=>?_))
  subst e2
  cases r5
  exact wpAny_truthy_bool ⟨H5,I5,q5⟩
theorem line63:(sizeLine:Nat)<2 ^ 63:=by rw[sizeLine_eq];decide
theorem vals1{x:V}{us:List Value}(r:Vals [x] us):∃ u,us=[u]/\RelV x u:=by
 cases r with
 | cons r1 r2=>cases r2;exact⟨_,rfl,r1⟩
theorem vals2{x y:V}{us:List Value}(r:Vals [x,y] us):∃ u w',us=[u,w']/\RelV x u/\RelV y w':=by
 cases r with
 | cons r1 r2 =>
  cases r2 with
  | cons r3 r4=>cases r4;exact⟨_,_,rfl,r1,r3⟩
theorem call_max2 (hc:X.calm=true):CallR X (.builtin "max") (fun xs H Q=>∃ i j,xs=[.int i,.int j]/\Q (.int (if j > i then j else i)) H):=by
 intro pins s σ H xs us Q I r h
 obtain⟨i,j,rfl,q⟩:=h
 obtain⟨u,w',rfl,⟨t,rfl⟩,⟨t',rfl⟩⟩:=vals2 r
 refine max_two_ints (I.ok.hd hc) fun h' tk k=>⟨_,H,I.kept k,?_,q⟩
 by_cases hj:j > i
 ·rw[if_pos hj,if_pos hj];exact⟨_,rfl⟩
 ·rw[if_neg hj,if_neg hj];exact⟨_,rfl⟩
theorem call_min2 (hc:X.calm=true):CallR X (.builtin "min") (fun xs H Q=>∃ i j,xs=[.int i,.int j]/\Q (.int (if j<i then j else i)) H):=by
 intro pins s σ H xs us Q I r h
 obtain⟨i,j,rfl,q⟩:=h
 obtain⟨u,w',rfl,⟨t,rfl⟩,⟨t',rfl⟩⟩:=vals2 r
 refine min_two_ints (I.ok.hd hc) fun h' tk k=>⟨_,H,I.kept k,?_,q⟩
 by_cases hj:j<i
 ·rw[if_pos hj,if_pos hj];exact⟨_,rfl⟩
 ·rw[if_neg hj,if_neg hj];exact⟨_,rfl⟩
end
structure ObjM (h:Heap) (x dx C:Addr) (mA:Str->Option Value):Prop where
 obj:h.get? x=some (PySem.W.instObj C dx)
 ns:h.Ns1 dx mA
 ne:dx≠x
theorem lookIn_ns{h:Heap}{dx:Addr}{mA:Str->Option Value}(n:h.Ns1 dx mA):∃ od,h.get? dx=some od/\∀ name,PySem.W.lookIn name od=some (mA name):=by
 obtain⟨o,es,ep,ho,hd,hk,_,hm⟩:=n
 refine⟨o,ho,fun name=>?_⟩
 have e:=hm name
 unfold nsFind findBy at e
 rw[<- Array.find?_toList]at e
 unfold PySem.W.lookIn
 rw[hd]
 dsimp only
 split
 ·rename_i y q
  rw[q]at e
  exact congrArg some e
 ·rename_i q
  rw[q]at e
  have a:es.toList.any (·.refKey)=false:=by
   rw[List.any_eq_false]
   intro y hy
   obtain⟨z,t,hkey⟩:=hk y (Array.mem_toList_iff.mp hy)
   simp[DictEntry.refKey,hkey]
  have a':¬ es.toList.any (·.refKey)=true:=by rw[a];exact Bool.false_ne_true
  rw[if_neg a']
  exact congrArg some e
theorem ObjM.look{h:Heap}{x dx C:Addr}{mA:Str->Option Value}(I:ObjM h x dx C mA):∃ od,PySem.W.InstAt h x (PySem.W.instObj C dx) C (some od)/\∀ name,PySem.W.lookIn name od=some (mA name) :=
 let ⟨od,ho,hl⟩:=lookIn_ns I.ns
 ⟨od,⟨I.obj,rfl,rfl,ho⟩,hl⟩
section
variable{prog:Program}{w:World}{A:Around}{E:Value->Shared->Prop}{s:Shared}{K:PySem.W.Frag}{x dx C f:Addr}{mA:Str->Option Value}{name:Str}{v:Value}
theorem get_map{expr:Bool}{Q:Value->Shared->Prop}(X:K.In s.heap)(I:ObjM s.heap x dx C mA)(hg:PySem.W.plainGet K C name=true)(hh:PySem.W.hasDictIn K C=true)
  (ha:PySem.W.findIn K (.ref C) name=some none) (hv:mA name=some v) (hv':PySem.W.handedIn v=true) (h:Q v { s with toks:=s.toks+1 }) :
  wpAny (model prog w) A (getAttr (.ref x) name expr) Q E s:=by
 obtain⟨od,J,hl⟩:=I.look
 exact PySem.W.get_value X J (PySem.W.plainGet_of hg).1 (PySem.W.findObj_own hh ha rfl (by rw[hl,hv])) hv' h
theorem set_map{ns:List Str}{Q:Unit->Shared->Prop}(X:K.In s.heap)(I:ObjM s.heap x dx C mA)
  (hs:PySem.W.findIn K (.ref C) "__setattr__"=some (some (.builtin "object.__setattr__"))) (hp:PySem.W.plainOver K C=true) (ht:PySem.W.takerIn K C name=some none) (hh:PySem.W.hasDictIn K C=true)
  (hw:PySem.Within mA ns) (hsz:ns.length<=sizeLine)
  (h:∀ h',ObjM h' x dx C (fun y=>if y=name then some v else mA y)->Heap.SameBut dx s.heap h'->Q () { s with heap:=h',toks:=s.toks+2 }) :
  wpAny (model prog w) A (setAttr (.ref x) name v) Q E s:=by
 obtain⟨od,J,hl⟩:=I.look
 refine PySem.W.set_plain X J hs (PySem.W.osa_open (s:={ s with toks:=s.toks+1 }) (r:=none) X J hp ht fun b=>?_)
 obtain⟨cd,hc,hd'⟩:=PySem.W.any_some hh
 have hx:s.heap.get? x=some ⟨.ref C,some dx,.plain,#[]⟩:=I.obj
 refine wpAny_bind (wpAny_pure (wpAny_bind (wpAny_bind (wpAny_loadPart hx (wpAny_bind (PySem.W.Looks.here (s:={ s with toks:=s.toks+1 }) (PySem.W.looks_clsIn X hc) ?_))))))
 rw[hd']
 refine wpAny_pure (a:=some dx) (wpAny_bind (wpAny_pure (wpAny_bind ?_)))
 refine wpAny_nsSet1 (s:={ s with toks:=s.toks+1 }) I.ns fun h' hn2 hs2=>?_
 obtain⟨oD,esD,epD,hoD,hdD,hcD⟩:=hn2.count (PySem.Within.cons name v hw)
 refine wpAny_bind (wpAny_lookBehind hoD (by rw[hdD];exact pastItsLine_dict (Nat.le_trans hcD (by rw[List.length_cons];omega))) ?_)
 exact wpAny_pure (h _ ⟨(hs2.2 _ (Ne.symm I.ne)).trans I.obj,hn2,I.ne⟩ hs2)
theorem make_map{R:Result->Shared->Prop}{vs:List Value}{kw:List (Str × Value)}(X:K.In s.heap)(hm:PySem.W.makesIn K C=true)
  (hi:PySem.W.findIn K (.ref C) "__init__"=some (some (.ref f))) (hf:PySem.W.typeIn K (.ref f)=some (.type "function"))
  (h:codeAny (model prog w) (A.under (.builtin "type.__call__" ⟨.ref C :: vs,kw⟩)) (.call (.ref f) ⟨.ref (s.heap.objs.size+1) :: vs,kw⟩) (PySem.W.InitBack (s.heap.objs.size+1) R)
   { s with heap:=(s.heap.push PySem.W.emptyDict).push (PySem.W.instObj C s.heap.objs.size) }) :
  codeAny (model prog w) A (.call (.ref C) ⟨vs,kw⟩) R s:=by
 obtain⟨hh,g,d,t,os⟩:=s
 exact PySem.W.make_core (PySem.W.makes_of X hm) (PySem.W.looks_findIn X hi) (fun self=>PySem.W.bind_fn X self hf) (.inl rfl) h
end
def putF(f:Str)(v:V):List (Str × V)->List (Str × V)
 | []=>[(f,v)]
 | (g,x) :: r=>if g=f then (g,v) :: r else (g,x) :: putF f v r
theorem lookup_putF(f g:Str)(v:V):∀ fs:List (Str × V),(putF f v fs).lookup g=if g=f then some v else fs.lookup g
 | []=>by
  show List.lookup g [(f,v)]=_
  by_cases h:g=f
  ·have hb:(g == f)=true:=beq_iff_eq.mpr h
   simp only [List.lookup,hb,if_pos h]
  ·have hb:(g == f)=false:=beq_eq_false_iff_ne.mpr h
   simp only [List.lookup,hb,if_neg h]
 | (k,x) :: r=>by
  have ih:=lookup_putF f g v r
  rw[show putF f v ((k,x) :: r)=(if k=f then (k,v) :: r else (k,x) :: putF f v r) from rfl]
  by_cases hk:k=f
  ·rw[if_pos hk]
   by_cases h:g=k
   ·have hb:(g == k)=true:=beq_iff_eq.mpr h
    simp only [List.lookup,hb,if_pos (h.trans hk)]
   ·have hb:(g == k)=false:=beq_eq_false_iff_ne.mpr h
    simp only [List.lookup,hb,if_neg (fun e:g=f=>h (e.trans hk.symm))]
  ·rw[if_neg hk]
   by_cases h:g=k
   ·have hb:(g == k)=true:=beq_iff_eq.mpr h
    simp only [List.lookup,hb,if_neg (fun e:g=f=>hk (h.symm.trans e))]
   ·have hb:(g == k)=false:=beq_eq_false_iff_ne.mpr h
    simp only [List.lookup,hb]
    exact ih
theorem keys_putF(f:Str)(v:V):∀ fs:List (Str × V),f∈(putF f v fs).map (·.1)/\∀ g,g∈fs.map (·.1)->g∈(putF f v fs).map (·.1)
 | []=>⟨by simp[putF],fun g h=>by simp at h⟩
 | (k,x) :: r=>by
  obtain⟨i1,i2⟩:=keys_putF f v r
  rw[show putF f v ((k,x) :: r)=(if k=f then (k,v) :: r else (k,x) :: putF f v r) from rfl]
  by_cases hk:k=f
  ·rw[if_pos hk]
   subst hk
   exact⟨by simp,fun g h=>by simpa using h⟩
  ·rw[if_neg hk]
   refine⟨?_,fun g h=>?_⟩
   ·rw[List.map_cons]
    exact List.mem_cons_of_mem _ i1
   ·rw[List.map_cons]at h ⊢
    rcases List.mem_cons.mp h with e | e
    ·exact List.mem_cons.mpr (.inl e)
    ·exact List.mem_cons_of_mem _ (i2 g e)
theorem length_putF(f:Str)(v:V):∀ fs:List (Str × V),(putF f v fs).length<=fs.length+1
 | []=>by simp[putF]
 | (k,x) :: r=>by
  have ih:=length_putF f v r
  rw[show putF f v ((k,x) :: r)=(if k=f then (k,v) :: r else (k,x) :: putF f v r) from rfl]
  by_cases hk:k=f
  ·rw[if_pos hk,List.length_cons,List.length_cons];omega
  ·rw[if_neg hk,List.length_cons,List.length_cons];omega
theorem RelO.some_of{v:V}{o:Option Value}(r:RelO (some v) o):∃ u,o=some u/\RelV v u:=by
 cases o with
 | none=>exact(show False from r).elim
 | some u=>exact⟨u,rfl,r⟩
theorem handed_of{v:V}{u:Value}(r:RelV v u):PySem.W.handedIn u=true:=by
 cases v with
 | non=>cases (show u=Value.none from r);rfl
 | bl b=>cases (show u=Value.bool b from r);rfl
 | int i=>obtain⟨t,e⟩:=(show ∃ t,u=Value.int i t from r);cases e;rfl
 | str x=>obtain⟨t,e⟩:=(show ∃ t,u=Value.str x t from r);cases e;rfl
 | byt b=>obtain⟨t,e⟩:=(show ∃ t,u=Value.bytes b t from r);cases e;rfl
 | flt b=>obtain⟨t,e⟩:=(show ∃ t,u=Value.float b t from r);cases e;rfl
 | ref a=>cases (show u=Value.ref a from r);rfl
 | ty n=>cases (show u=Value.type n from r);rfl
section
variable{P:Program}{w:World}{H H':Hp}{h h':Heap}{a C dx:Addr}{fs fs':List (Str × V)}
theorem ins_get(hok:HOk P w H h)(e:H a=some (.ins C dx fs)):∃ mA,ObjM h a dx C mA/\(∀ f,RelO (fs.lookup f) (mA f))/\PySem.Within mA (fs.map (·.1))/\fs.length<=1000/\H dx=some (.own a):=by
 obtain⟨d,z,ne,ob,mA,n,r,q⟩:=(show ObjOk P w H h a (.ins C dx fs) from hok a _ e)
 exact⟨mA,⟨ob,n,ne⟩,r,q,z,d⟩
end
structure Cls (K:PySem.W.Frag) (C:Addr):Prop where
 pg:PySem.W.plainGet K C Str.empty=true
 hd:PySem.W.hasDictIn K C=true
 po:PySem.W.plainOver K C=true
 sa:PySem.W.findIn K (.ref C) "__setattr__"=some (some (.builtin "object.__setattr__"))
theorem Cls.get{K:PySem.W.Frag}{C:Addr}(c:Cls K C)(f:Str):PySem.W.plainGet K C f=true:=c.pg
def NoAttr(K:PySem.W.Frag)(C:Addr)(f:Str):Prop:=PySem.W.findIn K (.ref C) f=some none
theorem NoAttr.taker{K:PySem.W.Frag}{C:Addr}{f:Str}(n:NoAttr K C f):PySem.W.takerIn K C f=some none:=by
 unfold PySem.W.takerIn
 rw[show PySem.W.findIn K (.ref C) f=some none from n]
 rfl
structure Con (K:PySem.W.Frag) (C:Addr) (f:Str) (v:V) (u:Value):Prop where
 at_:PySem.W.findIn K (.ref C) f=some (some u)
 rel:RelV v u
 get:PySem.W.specialIn K u "__get__"=some none
 cp:PySem.W.copiedNames.contains f=false
structure Meth (K:PySem.W.Frag) (C:Addr) (m:Str) (f:Addr):Prop where
 at_:PySem.W.findIn K (.ref C) m=some (some (.ref f))
 fn:PySem.W.isFn K (.ref f)=true
 kp:PySem.W.keepIn K (.ref f)=true
section
variable{X:Cx}{pins:List (Addr × Obj)}{σ:St}{H:Hp}{s:Shared}{a C dx:Addr}{fs:List (Str × V)}{f:Str}{v:V}{A:Around}{E:Value->Shared->Prop}
theorem getattr_ok{b:Bool}{Q:Value->Shared->Prop}(I:Inv X pins σ H s)(e:H a=some (.ins C dx fs))(c:Cls X.K C)(n:NoAttr X.K C f)(l:fs.lookup f=some v)
  (h:∀ u s',Inv X pins σ H s'->RelV v u->Q u s'):wpAny (model X.prog X.w) A (getAttr (.ref a) f b) Q E s:=by
 obtain⟨mA,O,r,_,_,_⟩:=ins_get I.hok e
 obtain⟨u,hu,ru⟩:=RelO.some_of (v:=v) (o:=mA f) (by rw[<- l];exact r f)
 exact get_map I.kIn O (c.get f) c.hd n hu (handed_of ru) (h u _ (I.tok _) ru)
theorem setattr_ok{y:V}{u:Value}{Q:Unit->Shared->Prop}(I:Inv X pins σ H s)(e:H a=some (.ins C dx fs))(c:Cls X.K C)(n:NoAttr X.K C f)(hl:fs.length<1000)(ry:RelV y u)
  (h:∀ s',Inv X pins σ (upd H a (.ins C dx (putF f y fs))) s'->Q () s'):wpAny (model X.prog X.w) A (setAttr (.ref a) f u) Q E s:=by
 obtain⟨mA,O,r,wi,_,ho⟩:=ins_get I.hok e
 have hz:(fs.map (·.1)).length<=sizeLine:=by rw[List.length_map,sizeLine_eq];omega
 refine set_map I.kIn O c.sa c.po n.taker c.hd wi hz fun h' O' sb=>h _ ?_
 have hd:∃ o,h'.get? dx=some o:=let ⟨o,_,_,e',_⟩:=O'.ns;⟨o,e'⟩
 refine I.write (x:=a) (e:=dx) (by rw[e];exact True.intro) (.inr ho) (fun b q hb z=>(sb.2 b hb).trans z) hd ?_
 refine⟨by rw[upd_ne O.ne];exact ho,?_,O.ne,O'.obj,_,O'.ns,fun g=>?_,fun g hg=>?_⟩
 ·have:=length_putF f y fs;omega
 ·show RelO ((putF f y fs).lookup g) (if g=f then some u else mA g)
  rw[lookup_putF]
  by_cases q:g=f
  ·rw[if_pos q,if_pos q];exact ry
  ·rw[if_neg q,if_neg q];exact r g
 ·by_cases q:g=f
  ·rw[q];exact(keys_putF f y fs).1
  ·refine(keys_putF f y fs).2 g (wi g fun z=>hg ?_)
   show(if g=f then some u else mA g)=none
   rw[if_neg q];exact z
theorem Inv.made(I:Inv X pins σ H s):Inv X pins σ (upd (upd H s.heap.objs.size (.own (s.heap.objs.size+1))) (s.heap.objs.size+1) (.ins C s.heap.objs.size []))
  { s with heap:=(s.heap.push PySem.W.emptyDict).push (PySem.W.instObj C s.heap.objs.size) }:=by
 have e1:(s.heap.push PySem.W.emptyDict).get? s.heap.objs.size=some PySem.W.emptyDict:=Heap.get?_push_size s.heap rfl
 have e2:((s.heap.push PySem.W.emptyDict).push (PySem.W.instObj C s.heap.objs.size)).get? (s.heap.objs.size+1)=some (PySem.W.instObj C s.heap.objs.size):=by
  have:=Heap.get?_push_size (s.heap.push PySem.W.emptyDict) (o:=PySem.W.instObj C s.heap.objs.size) rfl
  rwa [Heap.size_push]at this
 have e3:(s.heap.push PySem.W.emptyDict).Ns s.heap.objs.size (fun _=>none):=⟨PySem.W.emptyDict,#[],_,e1,rfl,(fun e he=>absurd he (by simp)),fun _=>rfl⟩
 have I1:=I.laid (a:=s.heap.objs.size) (o:=.own (s.heap.objs.size+1)) (h':=s.heap.push PySem.W.emptyDict) (t':=s.toks) (fun b u q=>Heap.get?_push_of_some _ q) (Nat.le_refl _) ⟨_,e1⟩
 refine I1.laid (a:=s.heap.objs.size+1) (o:=.ins C s.heap.objs.size []) (t':=s.toks) (fun b u q=>Heap.get?_push_of_some _ q) (Nat.le_of_eq (Heap.size_push _ _)) ?_
 have ne:s.heap.objs.size≠s.heap.objs.size+1:=Nat.ne_of_lt (Nat.lt_succ_self _)
 refine⟨by rw[upd_ne ne,ζ1],Nat.zero_le _,ne,e2,fun _=>none,(Heap.Ns1.of_empty e3).at fun o q=>Heap.get?_push_of_some _ q,fun _=>True.intro,fun y hy=>absurd rfl hy⟩
theorem attr_of{prog:Program}{w:World}{env:Env}{e:Expr}{f:Str}{pos:Pos}{s:Shared}{Q:Value->Shared->Prop}(hb:attributeBase e f env (eval e env)=eval e env)
  (h:wpAny (model prog w) A (eval e env) (fun o s₁=>wpAny (model prog w) A (getAttr o f true) Q E s₁) E s):wpAny (model prog w) A (eval (.Attribute e f pos) env) Q E s :=
 Attribute_any_ h (by rw[arm_eval_Attribute,hb])
end
def tFld(K:PySem.W.Frag)(ta:TE)(f:Str):TE:=fun σ H Q=>ta σ H fun x H1=>∃ a C dx fs v,x=.ref a/\H1 a=some (.ins C dx fs)/\Cls K C/\NoAttr K C f/\fs.lookup f=some v/\Q v H1
def sFld(K:PySem.W.Frag)(ta tv:TE)(f:Str):TS:=fun D σ H=>tv σ H fun y H1=>ta σ H1 fun x H2=>∃ a C dx fs,x=.ref a/\H2 a=some (.ins C dx fs)/\Cls K C/\NoAttr K C f/\fs.length<1000 /\
 D.nx σ (upd H2 a (.ins C dx (putF f y fs)))
section
variable{X:Cx}{o e value:Expr}{f:Str}{pos pos' tpos:Pos}{ta tv:TE}
theorem pe_fld(he:PE X e ta)(hb:attributeBase e f X.env (eval e X.env)=eval e X.env):PE X (.Attribute e f pos) (tFld X.K ta f):=by
 intro pins s σ H Q I h
 refine attr_of hb (thn (he pins s σ H _ I h) fun u s1 ⟨x,H1,I1,rx,a,C,dx,fs,v,ex,ea,c,n,l,q⟩=>?_)
 subst ex
 obtain rfl:u=Value.ref a:=rx
 exact getattr_ok I1 ea c n l fun u' s2 I2 ru=>⟨v,H1,I2,ru,q⟩
theorem ps_fld(ha:PE X o ta)(hv:PE X value tv)(hs:swapsWith value (some (.Attribute o f pos')) pos.line X.env=pure false):PS X (.Assign [.Attribute o f pos'] value pos) (sFld X.K ta tv f):=by
 intro pins s σ H D I h
 refine plainObj_wpAny_Assign_Attribute (thn (hv pins s σ H _ I h) fun u s1 ⟨y,H1,I1,ry,q⟩=>thn (ha pins s1 σ H1 _ I1 q) fun ov s2 ⟨x,H2,I2,rx,a,C,dx,fs,ex,ea,c,n,l,q2⟩=>?_) hs
 subst ex
 obtain rfl:ov=Value.ref a:=rx
 exact setattr_ok I2 ea c n l ry fun s3 I3=>⟨σ,_,I3,q2⟩
end
section
variable{X:Cx}{pins:List (Addr × Obj)}{σ:St}{H:Hp}{s:Shared}{A:Around}{E:Value->Shared->Prop}{Q:Value->Shared->Prop}{c:Value}{b:Bool}
inductive TyOf (K:PySem.W.Frag) (H:Hp):V->Value->Prop where
 | non:TyOf K H .non (.type "NoneType")
 | bl (x:Bool):TyOf K H (.bl x) (.type "bool")
 | int (i:Int):TyOf K H (.int i) (.type "int")
 | str (x:Str):TyOf K H (.str x) (.type "str")
 | flt (x:UInt64):TyOf K H (.flt x) (.type "float")
 | lst {a:Addr} {xs:List V} (e:H a=some (.lst xs)):TyOf K H (.ref a) (.type "list")
 | frz {a:Addr} {o:Obj} {xs:List V} (e:H a=some (.frz o (.lst xs))):TyOf K H (.ref a) (.type "list")
 | tup {a:Addr} {xs:List V} (e:H a=some (.tup xs)):TyOf K H (.ref a) (.type "tuple")
 | dK {a:Addr} {kvs:List (Key × V)} (e:H a=some (.dK kvs)):TyOf K H (.ref a) (.type "dict")
 | dT {a:Addr} {kvs:List (List Key × V)} (e:H a=some (.dT kvs)):TyOf K H (.ref a) (.type "dict")
 | ins {a C dx:Addr} {fs:List (Str × V)} (e:H a=some (.ins C dx fs)) (cl:Cls K C) (ha:PySem.W.findIn K (.ref C) "__class__"=some (some (.builtin "object.__class__")))
   (hn:PySem.W.specialIn K (.builtin "object.__class__") "__get__"=some (some (.builtin "getset_descriptor.__get__"))) (htk:PySem.W.takesIn K (.builtin "object.__class__")=some true)
   (hm:PySem.W.mroIn K C (.type "object")=some true):TyOf K H (.ref a) (.ref C)
end
structure Room (k:Nat) (A:Around):Prop where
 hd:A.handled=none
 dp:A.depth+3 * k+5<recursionLimit
 un:A.units+16 * k+200<cLine
theorem Room.mono{j k:Nat}{A:Around}(r:Room k A)(h:j<=k):Room j A:=⟨r.hd,by have:=r.dp;omega,by have:=r.un;omega⟩
theorem Room.deeper{k:Nat}{A:Around}(r:Room (k+1) A)(env:Env):Room k (A.deeper env) :=
 ⟨r.hd,by have:=r.dp;show A.depth+1+3 * k+5<_;omega,by have:=r.un;show A.units+3+16 * k+200<_;omega⟩
theorem make_depth {A:Around} {C:Addr} {us:List Value} {kw:List (Str × Value)}:(A.under (.builtin "type.__call__" ⟨.ref C :: us,kw⟩)).depth=A.depth+1:=by
 first | rfl | simp[Around.under,Code.weight,Code.isCreation,Code.isGuard,Code.isCaller,Code.frames,Code.isFrame,guardIds]
theorem make_units {A:Around} {C:Addr} {us:List Value} {kw:List (Str × Value)}:(A.under (.builtin "type.__call__" ⟨.ref C :: us,kw⟩)).units=A.units+1:=by
 first | rfl | simp[Around.under,Code.cUnits,Code.frames,Code.isFrame]
theorem Room.make {k:Nat} {A:Around} (r:Room (k+1) A) (C:Addr) (us:List Value) (kw:List (Str × Value)):Room k (A.under (.builtin "type.__call__" ⟨.ref C :: us,kw⟩)) :=
 ⟨r.hd,by have:=r.dp;rw[make_depth];omega,by have:=r.un;rw[make_units];omega⟩
theorem Room.depth{k:Nat}{A:Around}(r:Room k A):A.depth<recursionLimit:=by have:=r.dp;omega
theorem Room.units{k:Nat}{A:Around}(r:Room k A):A.units+64<cLine:=by have:=r.un;omega
def tNil:TA:=fun _ H Q=>Q [] H
def tCons(ta:TE)(tr:TA):TA:=fun σ H Q=>ta σ H fun x H1=>tr σ H1 fun xs H2=>Q (x :: xs) H2
section
variable{X:Cx}{e:Expr}{es:List Expr}{te:TE}{t:TA}{pos:Pos}
theorem ζ4:PA X [] tNil:=fun _ _ _ _ H Q I h=>Calls.spliced_nil ⟨[],H,I,.nil,h⟩
theorem ζ0(ha:PE X e te)(hr:PA X es t)(hs:starEach (e :: es) X.env=(false,eval e X.env) :: starEach es X.env:=by rfl):PA X (e :: es) (tCons te t):=by
 intro pos pins s σ H Q I h
 rw[hs]
 show wpAny _ _ (spliced ((false,eval e X.env) :: backTo pos (starEach es X.env))) _ _ s
 refine Calls.spliced_cons (thn (ha pins s σ H _ I h) fun u s1 ⟨x,H1,I1,r1,q1⟩=>?_)
 exact thn (hr pos pins s1 σ H1 _ I1 q1) fun us s2 ⟨xs,H2,I2,r2,q2⟩=>⟨x :: xs,H2,I2,.cons r1 r2,q2⟩
def tTup(t:TA):TE:=fun σ H Q=>t σ H fun xs H1=>xs.length<=sizeLine/\∀ p,H1 p=none->Q (.ref p) (upd H1 p (.tup xs))
def tLst(t:TA):TE:=fun σ H Q=>t σ H fun xs H1=>xs.length<=sizeLine/\∀ p,H1 p=none->Q (.ref p) (upd H1 p (.lst xs))
theorem pe_tup{x1}(h:PA X es t):PE X (.Tuple es x1 pos) (tTup t):=by
 intro pins s σ H Q I hq
 refine wpAny_Tuple_spliced (thn (h pos pins s σ H _ I hq) fun us s1 ⟨xs,H1,I1,r,z,q⟩=>⟨by rw[<- r.length];exact z,?_⟩)
 have hf:H1 s1.heap.objs.size=none:=I1.hok.fresh (Nat.le_refl _)
 refine⟨.ref s1.heap.objs.size,upd H1 s1.heap.objs.size (.tup xs),I1.laid (t':=s1.toks) (fun b u e=>Heap.get?_push_of_some _ e) (Nat.le_refl _) ?_,rfl,q _ hf⟩
 exact⟨z,us,r,⟨_,Heap.get?_push_size _ rfl,rfl,_,rfl⟩⟩
theorem pe_lst(h:PA X es t):PE X (.List es pos) (tLst t):=by
 intro pins s σ H Q I hq
 refine wpAny_List_spliced (thn (h pos pins s σ H _ I hq) fun us s1 ⟨xs,H1,I1,r,z,q⟩=>⟨by rw[<- r.length];exact z,?_⟩)
 have hf:H1 s1.heap.objs.size=none:=I1.hok.fresh (Nat.le_refl _)
 refine⟨.ref s1.heap.objs.size,upd H1 s1.heap.objs.size (.lst xs),I1.laid (t':=s1.toks) (fun b u e=>Heap.get?_push_of_some _ e) (Nat.le_refl _) ?_,rfl,q _ hf⟩
 exact⟨z,us,0,r,Heap.get?_push_size _ rfl⟩
end
abbrev Sp:=List V->Hp->VK->XK->Prop
abbrev CXT:=List Env->Hp->Shared->XK->Value->Shared->Prop
structure Env0 (P:Program) (w:World) (K:PySem.W.Frag) (mg:Str->Option Value) (base:Heap) (A:Around) (outer:List Env) (s:Shared) (H:Hp):Prop where
 frames:A.frames=some outer
 mod:Mod K mg base
 bs:∀ b o,base.get? b=some o->s.heap.get? b=some o/\H b=none
 bsz:base.objs.size<=s.heap.objs.size
 funs:s.heap.FunFrames base outer
 frf:∀ b∈frs outer,H b=none
 hok:HOk P w H s.heap
 bare:AllBare s.gens
def CE(outer:List Env)(P:Program)(w:World)(H:Hp)(s:Shared)(Q:VK)(u:Value)(s':Shared):Prop :=
 ∃ v H',s'.os=s.os/\AllBare s'.gens/\Un (frs outer) [] H H' s.heap s'.heap/\HOk P w H' s'.heap/\RelV v u/\Q v H'
def CR(CX:CXT)(outer:List Env)(P:Program)(w:World)(H:Hp)(s:Shared)(Q:VK)(E:XK)(r:Result)(s':Shared):Prop :=
 match r with
 | .ok (.ret u)=>CE outer P w H s Q u s'
 | .ok _=>False
 | .error e=>CX outer H s E e s'
structure FnOk (P:Program) (w:World) (K:PySem.W.Frag) (mg:Str->Option Value) (base:Heap) (CX:CXT) (k:Nat) (f:Addr) (fd:FuncData) (ps:List Str) (sp:Sp):Prop where
 len:∀ vs H Q E,sp vs H Q E->vs.length=ps.length
 run:∀(A:Around) (outer:List Env) (s:Shared) (H:Hp) (args:Args) (us:List Value) (vs:List V) (Q:VK) (E:XK),Room k A->Env0 P w K mg base A outer s H->BindsTo s fd args (ps.zip us)->Vals vs us->sp vs H Q E ->
  codeAny (model P w) A (.call (.ref f) args) (CR CX outer P w H s Q E) s
theorem FnOk.imp{P:Program}{w:World}{K:PySem.W.Frag}{mg:Str->Option Value}{base:Heap}{CX:CXT}{k:Nat}{f:Addr}{fd:FuncData}{ps:List Str}{sp sp':Sp}(F:FnOk P w K mg base CX k f fd ps sp)
  (h:∀ vs H Q E,sp' vs H Q E->sp vs H Q E):FnOk P w K mg base CX k f fd ps sp' :=
 ⟨fun vs H Q E q=>F.len vs H Q E (h _ _ _ _ q),fun A outer s H args us vs Q E hr he hb hv hs=>F.run A outer s H args us vs Q E hr he hb hv (h _ _ _ _ hs)⟩
theorem Env0.make{P:Program}{w:World}{K:PySem.W.Frag}{mg:Str->Option Value}{base:Heap}{A:Around}{outer:List Env}{s:Shared}{H:Hp}(e:Env0 P w K mg base A outer s H)(C:Addr)(us:List Value)(kw:List (Str × Value)) :
  Env0 P w K mg base (A.under (.builtin "type.__call__" ⟨.ref C :: us,kw⟩)) outer s H:=⟨by first | exact e.frames | (simpa [Around.under,Code.envs,Code.isFrame,pushEnvs] using e.frames),e.mod,e.bs,e.bsz,e.funs,e.frf,e.hok,e.bare⟩
section
variable{X:Cx}{pins:List (Addr × Obj)}{σ:St}{H:Hp}{s s':Shared}
theorem Inv.env0(I:Inv X pins σ H s):Env0 X.prog X.w X.K X.mg X.base X.A X.stack s H :=
 ⟨I.ok.frames,I.ok.mod,I.bs,Nat.le_trans I.ok.bsz I.sz,I.stack,I.stkFree,I.hok,I.bare⟩
theorem Inv.after{Q:VK}{u:Value}(I:Inv X pins σ H s)(h:CE X.stack X.prog X.w H s Q u s'):EP X pins σ Q u s':=by
 obtain⟨v,H',os,bare,un,hok,r,q⟩:=h
 obtain⟨hh,g,d,t,os'⟩:=s'
 obtain rfl:os'=s.os:=os
 exact⟨v,H',I.call (h':=hh) (g':=g) (d':=d) (t':=t) (ch:=[]) un hok bare (fun b z=>absurd z (by simp)),r,q⟩
end
def tCall(sp:Sp)(dvs:List V)(E:XK)(t:TA):TE:=fun σ H Q=>t σ H fun vs H1=>sp (vs++dvs) H1 Q E
def tMake(C:Addr)(sp:Sp)(dvs:List V)(E:XK)(t:TA):TE:=fun σ H Q=>t σ H fun vs H1=>∀ x dx,H1 x=none->H1 dx=none->dx≠x ->
 sp (.ref x :: (vs++dvs)) (upd (upd H1 dx (.own x)) x (.ins C dx [])) (fun v H2=>v=.non/\Q (.ref x) H2) E
def Binds(K:PySem.W.Frag)(fd:FuncData)(ps:List Str)(ds:List Value):Prop :=
 ∀(s:Shared) (us:List Value),K.In s.heap->(us++ds).length=ps.length->BindsTo s fd ⟨us,[]⟩ (ps.zip (us++ds))
theorem Binds.all{K:PySem.W.Frag}{fd:FuncData}{ps:List Str}(h:∀ us:List Value,us.length=ps.length->bindArgs fd ⟨us,[]⟩=pure (ps.zip us)):Binds K fd ps []:=fun s us _ hl=>by
 rw[List.append_nil]at hl ⊢
 exact .of_eq (h us hl)
def Passes(CX:CXT)(X:Cx)(E:XK):Prop:=∀(pins:List (Addr × Obj)) (σ:St) (H:Hp) (s:Shared) (e:Value) (s':Shared),Inv X pins σ H s->CX X.stack H s E e s'->X.xe e s'
section
variable{X:Cx}{CX:CXT}{k:Nat}{f C:Addr}{fd:FuncData}{ps:List Str}{sp:Sp}{dvs:List V}{ds:List Value}{E:XK}{x m:Str}{p pos apos:Pos}{e o:Expr}{es:List Expr}{ta:TE}{t:TA}
theorem run_fn{pins:List (Addr × Obj)}{σ:St}{H:Hp}{s:Shared}{Q:VK}{us:List Value}{vs:List V}(F:FnOk X.prog X.w X.K X.mg X.base CX k f fd ps sp)(hr:Room k X.A)(hb:Binds X.K fd ps ds)(hd:Vals dvs ds)(hx:Passes CX X E)
  (I:Inv X pins σ H s) (r:Vals vs us) (h:sp (vs++dvs) H Q E):wpAny (model X.prog X.w) X.A (call (.ref f) us) (EP X pins σ Q) X.xe s:=by
 have r2:Vals (vs++dvs) (us++ds):=r.append hd
 have hl:(us++ds).length=ps.length:=by rw[<- r2.length];exact F.len _ _ _ _ h
 refine wpAny_call (codeAny_mono (F.run X.A X.stack s H ⟨us,[]⟩ (us++ds) (vs++dvs) Q E hr I.env0 (hb s us I.kIn hl) r2 h) fun r s' hq=>?_)
 cases r with
 | error e=>exact hx pins σ H s e s' I hq
 | ok fl =>
  cases fl with
  | ret u=>exact I.after hq
  | next=>exact False.elim hq
  | brk=>exact False.elim hq
  | cont=>exact False.elim hq
theorem pe_call(F:FnOk X.prog X.w X.K X.mg X.base CX k f fd ps sp)(hr:Room k X.A)(hg:Gl X x)(hm:X.mg x=some (.ref f))(hk:PySem.W.keepIn X.K (.ref f)=true)(hb:Binds X.K fd ps ds)(hd:Vals dvs ds)(hx:Passes CX X E)
  (ha:PA X (e :: es) t) (hdb:(x == ("__debug__":Str))=false:=by decide) (he:starEach (e :: es) X.env=(false,eval e X.env) :: starEach es X.env:=by rfl) (hpl:(backTo pos (starEach es X.env)).any (·.1)=false:=by rfl) :
  PE X (.Call (.Name x p) (e :: es) [] pos) (tCall sp dvs E t):=by
 intro pins s σ H Q I h
 refine wpAny_Call_Name_kw (ld_glob I hg hm ?_ hdb)
 refine PySem.W.callWith_K (h₀:=X.base) I.ok.mod.kin hk (thn (ha pos pins s σ H _ I h) fun us s1 ⟨vs,H1,I1,r,q⟩=>⟨I1.kIn,?_⟩) he hpl
 exact run_fn F hr hb hd hx I1 r q
structure Mk (K:PySem.W.Frag) (C f:Addr):Prop where
 makes:PySem.W.makesIn K C=true
 init:PySem.W.findIn K (.ref C) "__init__"=some (some (.ref f))
 fn:PySem.W.isFn K (.ref f)=true
 kp:PySem.W.keepIn K (.ref C)=true
theorem run_make{pins:List (Addr × Obj)}{σ:St}{H:Hp}{s:Shared}{Q:VK}{us:List Value}{vs:List V}(M:Mk X.K C f)(F:FnOk X.prog X.w X.K X.mg X.base CX k f fd ps sp)(hr:Room (k+1) X.A)(hb:Binds X.K fd ps ds)(hd:Vals dvs ds)
  (hx:Passes CX X E) (I:Inv X pins σ H s) (r:Vals vs us)
  (h:∀ x dx,H x=none->H dx=none->dx≠x->sp (.ref x :: (vs++dvs)) (upd (upd H dx (.own x)) x (.ins C dx [])) (fun v H2=>v=.non/\Q (.ref x) H2) E) :
  wpAny (model X.prog X.w) X.A (call (.ref C) us) (EP X pins σ Q) X.xe s:=by
 have hq:=h (s.heap.objs.size+1) s.heap.objs.size (I.hok.fresh (Nat.le_succ _)) (I.hok.fresh (Nat.le_refl _)) (Nat.ne_of_lt (Nat.lt_succ_self _))
 have I2:=Inv.made (C:=C) I
 have r2:Vals (V.ref (s.heap.objs.size+1) :: (vs++dvs)) (Value.ref (s.heap.objs.size+1) :: (us++ds)):=.cons rfl (r.append hd)
 have hl:(Value.ref (s.heap.objs.size+1) :: us++ds).length=ps.length:=by
  have e:=r2.length
  rw[F.len _ _ _ _ hq]at e
  exact e.symm
 refine wpAny_call (make_map (f:=f) I.kIn M.makes M.init (beq_iff_eq.mp M.fn) (codeAny_mono (F.run _ X.stack _ _ ⟨Value.ref (s.heap.objs.size+1) :: us,[]⟩ (Value.ref (s.heap.objs.size+1) :: (us++ds)) _ _ E (hr.make C us [])
  (I2.env0.make C us []) (hb _ (Value.ref (s.heap.objs.size+1) :: us) I2.kIn hl) r2 hq) fun r s' hq'=>?_))
 cases r with
 | error e=>exact hx pins σ _ _ e s' I2 hq'
 | ok fl =>
  cases fl with
  | ret u =>
   obtain⟨v,H',I3,rv,ev,q3⟩:=I2.after hq'
   subst ev
   exact⟨rv,⟨V.ref (s.heap.objs.size+1),H',I3,rfl,q3⟩⟩
  | next=>exact False.elim hq'
  | brk=>exact False.elim hq'
  | cont=>exact False.elim hq'
theorem pe_make(M:Mk X.K C f)(F:FnOk X.prog X.w X.K X.mg X.base CX k f fd ps sp)(hr:Room (k+1) X.A)(hg:Gl X x)(hm:X.mg x=some (.ref C))(hb:Binds X.K fd ps ds)(hd:Vals dvs ds)(hx:Passes CX X E)
  (ha:PA X (e :: es) t) (hdb:(x == ("__debug__":Str))=false:=by decide) (he:starEach (e :: es) X.env=(false,eval e X.env) :: starEach es X.env:=by rfl) (hpl:(backTo pos (starEach es X.env)).any (·.1)=false:=by rfl) :
  PE X (.Call (.Name x p) (e :: es) [] pos) (tMake C sp dvs E t):=by
 intro pins s σ H Q I h
 refine wpAny_Call_Name_kw (ld_glob I hg hm ?_ hdb)
 refine PySem.W.callWith_K (h₀:=X.base) I.ok.mod.kin M.kp (thn (ha pos pins s σ H _ I h) fun us s1 ⟨vs,H1,I1,r,q⟩=>⟨I1.kIn,?_⟩) he hpl
 exact run_make M F hr hb hd hx I1 r q
end
section
variable{X:Cx}{CX:CXT}{k:Nat}{f C:Addr}{fd:FuncData}{ps ks:List Str}{sp:Sp}{E:XK}{x m:Str}{p pos apos kpos:Pos}{e o:Expr}{es:List Expr}{kws:List Keyword}{te ta:TE}{t tk:TA}{nm:Option Str}
structure KBinds (K:PySem.W.Frag) (fd:FuncData) (ps ks:List Str) (g:List Value->List Value->List Value) (gV:List V->List V->List V):Prop where
 to:∀(s:Shared) (us ws:List Value),K.In s.heap->(g us ws).length=ps.length->BindsTo s fd ⟨us,ks.zip ws⟩ (ps.zip (g us ws))
 rel:∀ {vs:List V} {us:List Value} {zs:List V} {ws:List Value},Vals vs us->Vals zs ws->Vals (gV vs zs) (g us ws)
variable{g:List Value->List Value->List Value}{gV:List V->List V->List V}
end
structure FnScope (N P:List Str) (sc:Scope):Prop where
 kind:sc.kind=.function
 co:sc.isCoroutine=false
 gen:sc.isGenerator=false
 nd:N.Nodup
 pre:N.take P.length=P
 par:∀ x∈P,sc.names.lookup x=some .local\/sc.names.lookup x=some .cell
 nofree:∀ y∈sc.names,y.2≠.free
theorem bindL_out{kindOf:Str->Option NameKind}{x:Str}:∀ {binds:List (Str × Value)} {m:Str->Option Value},(∀ v,(x,v)∉binds)->bindL kindOf binds m x=m x
 | [],_,_=>rfl
 | (n,v) :: r,m,h=>by
  unfold bindL
  rw[bindL_out fun w hw=>h w (List.mem_cons_of_mem _ hw)]
  split
  ·have:x≠n:=by rintro rfl;exact h v List.mem_cons_self
   simp[this]
  ·rfl
theorem bindC_out{kindOf:Str->Option NameKind}{x:Str}:∀ {binds:List (Str × Value)} {m:Str->Option Value},(∀ v,(x,v)∉binds)->bindC kindOf binds m x=m x
 | [],_,_=>rfl
 | (n,v) :: r,m,h=>by
  unfold bindC
  rw[bindC_out fun w hw=>h w (List.mem_cons_of_mem _ hw)]
  split
  ·rfl
  ·have:x≠n:=by rintro rfl;exact h v List.mem_cons_self
   simp[this]
theorem bindL_get{kindOf:Str->Option NameKind}{x:Str}{v:Value}:∀ {P:List Str} {vs:List Value} {i:Nat} {m:Str->Option Value},P.Nodup->P[i]?=some x->vs[i]?=some v->kindOf x=some .local ->
  bindL kindOf (P.zip vs) m x=some v
 | [],_,_,_,_,h,_,_=>by simp at h
 | _ :: _,[],_,_,_,_,h,_=>by simp at h
 | p :: P,w :: vs,0,m,nd,h1,h2,hk=>by
  simp at h1 h2;subst h1;subst h2
  show bindL kindOf ((p,w) :: P.zip vs) m p=_
  unfold bindL
  rw[bindL_out fun v hv=>(List.nodup_cons.mp nd).1 (List.of_mem_zip hv).1,if_pos hk]
  simp
 | p :: P,w :: vs,i+1,m,nd,h1,h2,hk=>by
  show bindL kindOf ((p,w) :: P.zip vs) m x=_
  unfold bindL
  exact bindL_get (i:=i) (List.nodup_cons.mp nd).2 (by simpa using h1) (by simpa using h2) hk
theorem bindC_get{kindOf:Str->Option NameKind}{x:Str}{v:Value}:∀ {P:List Str} {vs:List Value} {i:Nat} {m:Str->Option Value},P.Nodup->P[i]?=some x->vs[i]?=some v->kindOf x≠some .local ->
  bindC kindOf (P.zip vs) m x=some v
 | [],_,_,_,_,h,_,_=>by simp at h
 | _ :: _,[],_,_,_,_,h,_=>by simp at h
 | p :: P,w :: vs,0,m,nd,h1,h2,hk=>by
  simp at h1 h2;subst h1;subst h2
  show bindC kindOf ((p,w) :: P.zip vs) m p=_
  unfold bindC
  rw[bindC_out fun v hv=>(List.nodup_cons.mp nd).1 (List.of_mem_zip hv).1,if_neg hk]
  simp
 | p :: P,w :: vs,i+1,m,nd,h1,h2,hk=>by
  show bindC kindOf ((p,w) :: P.zip vs) m x=_
  unfold bindC
  exact bindC_get (i:=i) (List.nodup_cons.mp nd).2 (by simpa using h1) (by simpa using h2) hk
def start(N:List Str)(vs:List V):St:=vs.map some++List.replicate (N.length - vs.length) none
def cxOf(CX:CXT)(P:Program)(w:World)(K:PySem.W.Frag)(mg:Str->Option Value)(base:Heap)(N:List Str)(qual:Str)(scope:Scope)(f:Addr)(cd:Value)(A:Around)(outer:List Env)(s:Shared)(H:Hp)(E:XK):Cx where
 prog:=P
 w:=w
 K:=K
 mg:=mg
 base:=base
 A:=A.deeper (envOfC qual scope s.heap.objs.size f cd)
 N:=N
 s₀:=s
 H₀:=H
 env:=envOfC qual scope s.heap.objs.size f cd
 outer:=outer
 stack:=envOfC qual scope s.heap.objs.size f cd :: outer
 ex:=[]
 calm:=true
 fn:=fun _=>true
 pn:=[]
 xe:=fun e s'=>wpAny (model P w) (A.deeper (envOfC qual scope s.heap.objs.size f cd)) (leaving (envOfC qual scope s.heap.objs.size f cd) e) (fun _ s''=>CX outer H s E e s'') (fun e' s''=>CX outer H s E e' s'') s'
theorem cell_has{sc:Scope}{n:Nat}{x:Str}(h:sc.names.lookup x=some .cell):∃ c,(cellsFrom n sc.names []).lookup x=some c:=by
 have q:=PySem.W.cellsFrom_some sc.names n [] (.inl h)
 exact Option.isSome_iff_exists.mp q
theorem inv_start{CX:CXT}{P:Program}{w:World}{K:PySem.W.Frag}{mg:Str->Option Value}{base:Heap}{N ps:List Str}{qual:Str}{scope:Scope}{f:Addr}{cd:Value}{A:Around}{outer:List Env}{s s1:Shared}{H:Hp}{E:XK}{us:List Value}{vs:List V}
  (S:FnScope N ps scope) (hd:A.handled=none) (e0:Env0 P w K mg base A outer s H) (hl:vs.length=ps.length) (r:Vals vs us)
  (x:InCallC s s.heap.objs.size (bindL (envOfC qual scope s.heap.objs.size f cd).kindOf (ps.zip us) fun _=>none) (cellsFrom (s.heap.objs.size+1) scope.names []) (bindC (envOfC qual scope s.heap.objs.size f cd).kindOf (ps.zip us) fun _=>none) s1) :
  Inv (cxOf CX P w K mg base N qual scope f cd A outer s H E) [] (start N vs) H s1:=by
 have hpl:ps.length<=N.length:=by have:=congrArg List.length S.pre;rw[List.length_take]at this;omega
 obtain⟨h1,tk,rfl,hk⟩:=x.done
 have noA:∀ b:Addr,b∉(cxOf CX P w K mg base N qual scope f cd A outer s H E).ex:=fun b z=>absurd (show b∈([]:List Addr) from z) (by simp)
 refine⟨⟨e0.mod,S.kind,rfl,rfl,Nat.le_refl _,fun y z c h1 h2=>?_,fun y hy=>?_,fun y c _ h=>?_,fun _=>hd,Around.frames_deeper e0.frames,.inr ⟨rfl,rfl⟩,fun b z=>absurd z (noA b),e0.bs,e0.bsz,fun b _ _=>noA b,fun b z=>absurd z (noA b),e0.funs,e0.frf⟩,
  rfl,e0.bare,Un.kept hk,⟨_,x.toInCall.ns,fun i y v h1 h2 h3=>?_⟩,fun y c h=>⟨_,x.cell y c h⟩,e0.hok.fresh (Nat.le_refl _),fun y c h=>?_,fun p hp=>absurd (show p∈([]:List (Addr × Obj)) from hp) (by simp),e0.hok.kept hk,?_⟩
 ·exact name_of_addr x.apart (PySem.mem_of_lookup h1) (PySem.mem_of_lookup h2)
 ·have hy:scope.names.lookup y=some .cell\/scope.names.lookup y=some .free:=hy
  rcases hy with hy | hy
  ·exact cell_has hy
  ·exact absurd rfl (S.nofree _ (PySem.mem_of_lookup hy))
 ·exact Nat.le_of_lt (x.above y c (PySem.mem_of_lookup h))
 ·have hi:i<vs.length:=by
   unfold start at h2
   by_cases hi:i<vs.length
   ·exact hi
   ·rw[List.getElem?_append_right (by simpa using hi)]at h2
    rw[List.getElem?_replicate]at h2
    split at h2 <;> cases h2
  have ha:vs[i]?=some v:=by
   unfold start at h2
   rw[List.getElem?_append_left (by simpa using hi),List.getElem?_map]at h2
   cases e:vs[i]? with
   | none=>rw[e]at h2;cases h2
   | some a=>rw[e]at h2;cases h2;rfl
  obtain⟨u,hu,rv⟩:=r.get ha
  have hp:ps[i]?=some y:=by
   rw[<- S.pre,List.getElem?_take_of_lt (by omega)];exact h1
  have ndP:ps.Nodup:=by rw[<- S.pre];exact S.nd.sublist (List.take_sublist _ _)
  refine⟨u,rv,?_⟩
  rcases S.par y (List.mem_of_getElem? hp) with k | k
  ·exact .inl ⟨k,bindL_get ndP hp hu k⟩
  ·obtain⟨c,e⟩:=cell_has (n:=s.heap.objs.size+1) k
   refine .inr ⟨.inl k,c,e,?_⟩
   have q:=x.cell y c e
   rw[bindC_get ndP hp hu (by show scope.names.lookup y≠_;rw[k];decide)]at q
   exact q
 ·exact e0.hok.fresh (Nat.le_of_lt (x.above y c (PySem.mem_of_lookup h)))
 ·unfold start
  show _=N.length
  rw[List.length_append,List.length_map,List.length_replicate]
  omega
theorem fn_of{CX:CXT}{P:Program}{w:World}{K:PySem.W.Frag}{mg:Str->Option Value}{base:Heap}{k:Nat}{f:Addr}{name qual:Str}{params:Arguments}{body:List Stmt}{scope:Scope}{dV kV doc pm cdv ct oc:Value}{an od:Option Addr}
  {osl:Array (Option Value)} {N ps:List Str} {sp:Sp} (lk:K.lookup f=some ⟨oc,od,.func (PySem.W.fnOf name qual params body scope dV kV doc pm an cdv ct),osl⟩) (hcd:PySem.W.codeIn K cdv qual=true) (S:FnScope N ps scope)
  (len:∀ vs H Q E,sp vs H Q E->vs.length=ps.length)
  (hbody:∀(A:Around) (outer:List Env) (s:Shared) (H:Hp) (vs:List V) (Q:VK) (E:XK),Room k (A.deeper (envOfC qual scope s.heap.objs.size f cdv))->sp vs H Q E ->
   ∃ t,PSs (cxOf CX P w K mg base N qual scope f cdv A outer s H E) body t/\t { nx:=fun _ H'=>Q .non H',rt:=Q } (start N vs) H) :
  FnOk P w K mg base CX (k+1) f (PySem.W.fnOf name qual params body scope dV kV doc pm an cdv ct) ps sp:=by
 refine⟨len,fun A outer s H args us vs Q E hr e0 hb r hsp=>?_⟩
 have hl:=len _ _ _ _ hsp
 have KX:K.In s.heap:=e0.mod.kin.keeps fun b o e=>(e0.bs b o e).1
 have lim:s.heap.NoLimit:=e0.mod.nolimit.keeps fun b o e=>(e0.bs b o e).1
 have hkind:∀ y∈ps.zip us,scope.names.lookup y.1=some .local\/(scope.names.lookup y.1=some .cell/\((cellsFrom (s.heap.objs.size+1) scope.names []).lookup y.1).isSome=true):=fun⟨n,v⟩ hy=>by
  rcases S.par n (List.of_mem_zip hy).1 with q | q
  ·exact .inl q
  ·exact .inr ⟨q,PySem.W.cellsFrom_some _ _ _ (.inl q)⟩
 refine codeAny_call_function hr.depth (KX _ _ lk) rfl S.co S.gen rfl (PySem.W.codeRec_of KX hcd) (hb _ _ _ _ ?_)
 refine wpAny_newFunctionEnv_cells S.kind hkind fun env he s1 x=>?_
 subst he
 refine⟨lim.keeps x.toInCall.keep,codeAny_func ?_⟩
 obtain⟨t,ht,hq⟩:=hbody A outer s H vs Q E (hr.deeper _) hsp
 have I:Inv (cxOf CX P w K mg base N qual scope f cdv A outer s H E) [] (start N vs) H s1:=inv_start S hr.hd e0 hl r x
 refine wpAny_mono (ht [] s1 (start N vs) H _ I hq) (fun fl s' hs=>?_) fun e s' hs=>hs
 have fin:∀ {σ':St} {H':Hp} {v:V} {u:Value},Inv (cxOf CX P w K mg base N qual scope f cdv A outer s H E) [] σ' H' s'->RelV v u->Q v H'->CE outer P w H s Q u s' :=
  fun {σ' H' v u} J rv q=>⟨v,H',J.os,J.bare,J.base,J.hok,rv,q⟩
 cases fl with
 | ret u =>
  obtain⟨v,σ',H',J,rv,q⟩:=hs
  exact fin J rv q
 | next =>
  obtain⟨σ',H',J,q⟩:=hs
  exact fin (v:=V.non) (u:=Value.none) J rfl q
 | brk =>
  obtain⟨_,_,_,q⟩:=hs
  exact False.elim q
 | cont =>
  obtain⟨_,_,_,q⟩:=hs
  exact False.elim q
section
variable{X:Cx}{x:Str}{p pos:Pos}{e:Expr}{es:List Expr}{t:TA}{id T:String}{r:List V->Hp->VK->Prop}
def tCB(r:List V->Hp->VK->Prop)(t:TA):TE:=fun σ H Q=>t σ H fun vs H1=>r vs H1 Q
theorem pe_callB (hc:CallR X (.builtin id) r) (hg:Gl X x) (hm:X.mg x=none) (hv:bootBuiltins x=some (.builtin id)) (ha:PA X (e :: es) t) (hn:x≠"__name__":=by decide) (hdb:(x == ("__debug__":Str))=false:=by decide)
  (he:starEach (e :: es) X.env=(false,eval e X.env) :: starEach es X.env:=by rfl) (hpl:(backTo pos (starEach es X.env)).any (·.1)=false:=by rfl):PE X (.Call (.Name x p) (e :: es) [] pos) (tCB r t):=by
 intro pins s σ H Q I h
 refine wpAny_Call_Name_kw (ld_blt I hg hm hv ?_ hn hdb)
 exact PyProof.Rows.callWith_builtin1 (thn (ha pos pins s σ H _ I h) fun us s1 ⟨vs,H1,I1,r1,q1⟩=>hc pins s1 σ H1 vs us Q I1 r1 q1) he hpl
theorem pe_callTy (hc:CallR X (.type T) r) (hg:Gl X x) (hm:X.mg x=none) (hv:bootBuiltins x=some (.type T)) (ha:PA X (e :: es) t) (hn:x≠"__name__":=by decide) (hdb:(x == ("__debug__":Str))=false:=by decide)
  (he:starEach (e :: es) X.env=(false,eval e X.env) :: starEach es X.env:=by rfl) (hpl:(backTo pos (starEach es X.env)).any (·.1)=false:=by rfl):PE X (.Call (.Name x p) (e :: es) [] pos) (tCB r t):=by
 intro pins s σ H Q I h
 refine wpAny_Call_Name_kw (ld_blt I hg hm hv ?_ hn hdb)
 exact PyProof.Rows.callWith_type1 (thn (ha pos pins s σ H _ I h) fun us s1 ⟨vs,H1,I1,r1,q1⟩=>hc pins s1 σ H1 vs us Q I1 r1 q1) he hpl
end
end L2
namespace HT
open PySem PyProof.Rows
section
open PySem.SeqAt
open PySem.AutoSeq1 (wpAny_loadPart')
open PySem.MeetsSeq PySem.MeetsSeq2 PySem.MeetsSeq3
end
section
variable{prog:Program}{w:World}{A:Around}{E:Value->Shared->Prop}{s:Shared}
theorem cat_tup{t b:Addr}{vs ws:List Value}{Q:Value->Shared->Prop}(ht:IsTup s.heap t vs.toArray)(hb:IsTup s.heap b ws.toArray)(hv:vs≠[])
  (h1:ws=[]->Q (.ref t) s) (h2:ws≠[]->Q (.ref s.heap.objs.size) { s with heap:=s.heap.push { cls:=.type "tuple",data:=.seq (vs++ws).toArray } })
  (hsz:vs.length+ws.length<=sizeLine):wpAny (model prog w) A (binaryOp .Add (.ref t) (.ref b)) Q E s:=by
 obtain⟨⟨cls,dd,data,sl⟩,ho,hc,n,hd⟩:=id ht
 obtain⟨⟨cls2,dd2,data2,sl2⟩,ho2,hc2,n2,hd2⟩:=id hb
 simp only at hc hd hc2 hd2
 subst hc hd hc2 hd2
 have e:vs.toArray++ws.toArray=(vs++ws).toArray:=by simp
 by_cases hw:ws=[]
 ·exact concat_meets ⟨_,ho,rfl⟩ ⟨_,ho2,rfl⟩ noFill_tuple_add seq_tuple_add PySem.F.slot_tuple_add PySem.F.entry_tuple_add (PySem.F.args_tuple_add_2 _ _)
   (tuple_addW1 t b vs.toArray ws.toArray n n2 dd dd2 sl sl2 (by simpa using hv) (by simp[hw])) ⟨ho,ho2,h1 hw⟩
 ·refine concat_meets ⟨_,ho,rfl⟩ ⟨_,ho2,rfl⟩ noFill_tuple_add seq_tuple_add PySem.F.slot_tuple_add PySem.F.entry_tuple_add (PySem.F.args_tuple_add_2 _ _)
   (tuple_addW2 t b vs.toArray ws.toArray n n2 dd dd2 sl sl2 (by simpa using hv) (by simpa using hw) (by rw[List.size_toArray,List.size_toArray];exact hsz)) ⟨ho,ho2,?_⟩
  rw[e]
  exact h2 hw
def sIx(n d:Nat):Option Int->Nat
 | none=>d
 | some v=>if v<0 then (v+(n:Int)).toNat else min v.toNat n
theorem sIx_none(n d:Nat):sIx n d none=d:=rfl
end
end HT
namespace L2
open PySem PySem.Spec PyProof.Rows
abbrev TO:=St->Hp->(Option Int->Hp->Prop)->Prop
def PO(X:Cx)(e:Option Expr)(t:TO):Prop :=
 ∀(pins:List (Addr × Obj)) (s:Shared) (σ:St) (H:Hp) (Q:Option Int->Hp->Prop),Inv X pins σ H s->t σ H Q ->
  wpAny (model X.prog X.w) X.A (evalPart e X.env) (fun u s'=>∃ o H',Inv X pins σ H' s'/\IsPart u o/\Q o H') X.xe s
def tNoPart:TO:=fun _ H Q=>Q none H
def tPart(t:TE):TO:=fun σ H Q=>t σ H fun x H1=>∃ i,x=.int i/\Q (some i) H1
section
variable{X:Cx}{e:Expr}{te:TE}{lo hi:Option Expr}{tl th:TO}{pos p2:Pos}
theorem po_none:PO X none tNoPart:=by
 intro pins s σ H Q I h
 rw[evalPart_none]
 exact wpAny_pure ⟨none,H,I,.none,h⟩
theorem po_some(h:PE X e te):PO X (some e) (tPart te):=by
 intro pins s σ H Q I hw
 rw[evalPart_some]
 refine thn (h pins s σ H _ I hw) fun u s1 ⟨x,H1,I1,r1,q1⟩=>?_
 obtain⟨i,rfl,q⟩:=q1
 obtain⟨t,rfl⟩:=r1
 exact⟨some i,H1,I1,.int i t,q⟩
def SlR(X:Cx)(r:V->Option Int->Option Int->Hp->VK->Prop):Prop :=
 ∀(pins:List (Addr × Obj)) (s:Shared) (σ:St) (H:Hp) (x:V) (v vl vu:Value) (lo hi:Option Int) (sl:Addr) (Q:VK),Inv X pins σ H s->RelV x v->s.heap.IsSliceOf sl vl vu .none->IsPart vl lo->IsPart vu hi->r x lo hi H Q ->
  ∃ T id,typeLookup (.type T) "__getitem__"=pure (some (.builtin id))/\s.TypeIs v T/\wpAny (model X.prog X.w) X.A (getItem v (.ref sl)) (EP X pins σ Q) X.xe s
def tSl(r:V->Option Int->Option Int->Hp->VK->Prop)(te:TE)(tl th:TO):TE:=fun σ H Q=>te σ H fun x H1=>tl σ H1 fun l H2=>th σ H2 fun u H3=>r x l u H3 Q
theorem pe_slice{r:V->Option Int->Option Int->Hp->VK->Prop}(hr:SlR X r)(he:PE X e te)(hl:PO X lo tl)(hu:PO X hi th):PE X (.Subscript e (.Slice lo hi none p2) pos) (tSl r te tl th):=by
 intro pins s σ H Q I h
 refine Subscript_ (thn (he pins s σ H _ I h) fun v s1 ⟨x,H1,I1,r1,q1⟩=>?_)
 refine wpAny_Slice (thn (hl pins s1 σ H1 _ I1 q1) fun vl s2 ⟨l,H2,I2,pl,q2⟩=>thn (hu pins s2 σ H2 _ I2 q2) fun vu s3 ⟨u,H3,I3,pu,q3⟩=>?_)
 rw[evalPart_none]
 refine wpAny_pure ?_
 have I4:Inv X pins σ H3 { s3 with heap:=s3.heap.push { cls:=.type "slice",data:=.fields #[vl,vu,.none] } }:=I3.kept (t':=s3.toks) fun b ob q=>Heap.get?_push_of_some _ q
 obtain⟨T,id,hT,ht,hg⟩:=hr pins { s3 with heap:=s3.heap.push { cls:=.type "slice",data:=.fields #[vl,vu,.none] } } σ H3 x v vl vu l u s3.heap.objs.size Q I4 r1 (Heap.IsSliceOf.new ..) pl pu q3
 show wpAny (model X.prog X.w) X.A (subscriptTail e (.Slice lo hi none p2) v (.ref s3.heap.objs.size)) (EP X pins σ Q) X.xe { s3 with heap:=s3.heap.push { cls:=.type "slice",data:=.fields #[vl,vu,.none] } }
 exact tail_any (ops:=[.ref s3.heap.objs.size,v]) ht hT hg (by with_unfolding_all rfl)
def cutV(xs:List V)(lo hi:Option Int):List V:=(xs.drop (HT.sIx xs.length 0 lo)).take (HT.sIx xs.length xs.length hi - HT.sIx xs.length 0 lo)
theorem cutV_length(xs:List V)(lo hi:Option Int):(cutV xs lo hi).length<=xs.length:=by
 unfold cutV
 rw[List.length_take,List.length_drop]
 omega
def rCatT(K:PySem.W.Frag):R2:=fun x y H Q=>∃ a b xs ys,x=.ref a/\y=.ref b/\SqT K H a xs/\SqT K H b ys/\xs≠[]/\xs.length+ys.length<=sizeLine /\
 (ys=[]->Q (.ref a) H)/\(ys≠[]->∀ p,H p=none->Q (.ref p) (upd H p (.tup (xs++ys))))
theorem Vals.nil_iff{xs:List V}{us:List Value}(r:Vals xs us):us=[]↔xs=[]:=by
 cases r with
 | nil=>simp
 | cons _ _=>simp
theorem op_catT:OpR X (binaryOp .Add) (rCatT X.K):=by
 intro pins s σ H x y v u Q I rx ry h
 obtain⟨a,b,xs,ys,rfl,rfl,ha,hb,hx,hz,q1,q2⟩:=h
 cases rx
 cases ry
 obtain⟨its,r1,p1,_⟩:=I.tuple ha
 obtain⟨its2,r2,p2,_⟩:=I.tuple hb
 refine HT.cat_tup p1 p2 (fun z=>hx (r1.nil_iff.mp z)) (fun z=>⟨.ref a,H,I,rfl,q1 (r2.nil_iff.mp z)⟩) (fun z=>?_) (by rw[<- r1.length,<- r2.length];exact hz)
 refine⟨.ref s.heap.objs.size,_,I.laid (t':=s.toks) (o:=.tup (xs++ys)) (fun b ob q=>Heap.get?_push_of_some _ q) (Nat.le_refl _) ?_,rfl,q2 (fun w=>z (r2.nil_iff.mpr w)) _ (I.hok.fresh (Nat.le_refl _))⟩
 exact⟨by rw[List.length_append];exact hz,_,r1.append r2,IsTup.new _ _⟩
end
def ixN(n:Nat)(i:Int):Option Nat:=if 0<=i then (if i<n then some i.toNat else none) else if -(n:Int)<=i then some (i+n).toNat else none
def atI{α:Type}(xs:List α)(i:Int):Option α:=(ixN xs.length i).bind fun j=>xs[j]?
theorem ixN_seq{n:Nat}{i:Int}{j:Nat}(h:ixN n i=some j):seqIndex? i n=some j/\j<n/\-(n:Int)<=i/\i<n:=by
 unfold ixN at h
 by_cases h0:0<=i
 ·rw[if_pos h0]at h
  by_cases h1:i<n
  ·rw[if_pos h1]at h
   have e:i.toNat=j:=Option.some.inj h
   exact⟨by rw[seqIndex_of h0 h1,e],by omega,by omega,h1⟩
  ·rw[if_neg h1]at h;cases h
 ·rw[if_neg h0]at h
  by_cases h1:-(n:Int)<=i
  ·rw[if_pos h1]at h
   have e:(i+n).toNat=j:=Option.some.inj h
   exact⟨by rw[seqIndex_neg (by omega) h1,e],by omega,h1,by omega⟩
  ·rw[if_neg h1]at h;cases h
theorem atI_get{α:Type}{xs:List α}{i:Int}{v:α}(h:atI xs i=some v):∃ j,seqIndex? i xs.length=some j/\xs[j]?=some v/\j<xs.length/\-(xs.length:Int)<=i/\i<xs.length:=by
 unfold atI at h
 cases e:ixN xs.length i with
 | none=>rw[e]at h;cases h
 | some j =>
  rw[e]at h
  obtain⟨h1,h2,h3,h4⟩:=ixN_seq e
  exact⟨j,h1,h,h2,h3,h4⟩
def PlainIx(b:Expr):Prop:=∀ o i,subscripted b false o i=operate [o,i] (getItem o i)
def IxR(X:Cx)(r:R2):Prop :=
 ∀(value slice:Expr) (pins:List (Addr × Obj)) (s:Shared) (σ:St) (H:Hp) (x y:V) (v u:Value) (Q:VK),Inv X pins σ H s->RelV x v->RelV y u->r x y H Q ->
  subscripted slice false v u=operate [v,u] (getItem v u)->wpAny (model X.prog X.w) X.A (subscriptTail value slice v u) (EP X pins σ Q) X.xe s
def MtR(X:Cx)(id:String)(r:V->List V->Hp->VK->Prop):Prop :=
 ∀(pins:List (Addr × Obj)) (s:Shared) (σ:St) (H:Hp) (x:V) (xs:List V) (v:Value) (us:List Value) (Q:VK),Inv X pins σ H s->RelV x v->Vals xs us->r x xs H Q ->
  wpAny (model X.prog X.w) X.A (call (.builtin id) (v :: us)) (EP X pins σ Q) X.xe s
section
variable{X:Cx}{a b:Expr}{ta tb:TE}{pos:Pos}
theorem pe_ix{r:R2}(hr:IxR X r)(ha:PE X a ta)(hb:PE X b tb)(hs:PlainIx b):PE X (.Subscript a b pos) (tOp r ta tb):=by
 intro pins s σ H Q I h
 exact Subscript_ (binT ha hb I h fun v u s2 x y H2 I2 rx ry q=>hr a b pins s2 σ H2 x y v u Q I2 rx ry q (hs _ _))
def rIxL(K:PySem.W.Frag):R2:=fun x y H Q=>∃ p xs i v,x=.ref p/\y=.int i/\SqL K H p xs/\atI xs i=some v/\Q v H
def rIxT(K:PySem.W.Frag):R2:=fun x y H Q=>∃ p xs i v,x=.ref p/\y=.int i/\SqT K H p xs/\atI xs i=some v/\Q v H
theorem ix_list:IxR X (rIxL X.K):=by
 intro value slice pins s σ H x y v u Q I rx ry h hs
 obtain⟨p,xs,i,z,rfl,rfl,hq,he,q⟩:=h
 cases rx
 obtain⟨t,rfl⟩:=ry
 obtain⟨its,r,pl,hz⟩:=I.list hq
 obtain⟨j,h1,h2,h3,h4,h5⟩:=atI_get he
 obtain⟨w,ew,rw'⟩:=r.get h2
 have hl:=r.length
 have hn:=line63
 have fin:EP X pins σ Q w s:=⟨z,H,I,rw',q⟩
 by_cases h0:0<=i
 ·have hj:i.toNat=j:=by
   rw[seqIndex_of h0 h5]at h1
   exact Option.some.inj h1
  exact item_listR pl.isList h0 (by omega) (by rw[hj];simpa using ew) fin hs
 ·have hj:(i+(its.toArray.size:Int)).toNat=j:=by
   rw[seqIndex_neg (by omega) h4]at h1
   rw[List.size_toArray,<- hl]
   exact Option.some.inj h1
  exact subscriptTail_builtinR (x:=w) pl.isList.typeIs slot_list_getitem.lookup
   (wpAny_getItem_list_neg (Q:=fun r s'=>r=w/\EP X pins σ Q r s') pl.isList (by omega) (by rw[List.size_toArray] <;> omega) (by omega) (by rw[hj];simpa using ew) ⟨rfl,fin⟩) hs
theorem ix_tup:IxR X (rIxT X.K):=by
 intro value slice pins s σ H x y v u Q I rx ry h hs
 obtain⟨p,xs,i,z,rfl,rfl,hq,he,q⟩:=h
 cases rx
 obtain⟨t,rfl⟩:=ry
 obtain⟨its,r,pl,hz⟩:=I.tuple hq
 obtain⟨j,h1,h2,h3,h4,h5⟩:=atI_get he
 obtain⟨w,ew,rw'⟩:=r.get h2
 have hl:=r.length
 have hn:=line63
 have fin:EP X pins σ Q w s:=⟨z,H,I,rw',q⟩
 exact subscriptTail_builtinR (x:=w) pl.typeIs slot_tuple_getitem.lookup
  (getItem_tuple (j:=j) (Q:=fun r s'=>r=w/\EP X pins σ Q r s') pl (by omega) (by omega) (by rw[List.size_toArray,<- hl];exact h1) (by simpa using ew) ⟨rfl,fin⟩) hs
theorem mapSeq_set (its:List Value) (n j:Nat) (u:Value):Obj.mapSeq (·.setIfInBounds j u) { cls:=.type "list",data:=.seq its.toArray n }={ cls:=.type "list",data:=.seq (its.set j u).toArray n }:=by
 simp[Obj.mapSeq]
theorem Inv.lst{pins:List (Addr × Obj)}{σ:St}{H:Hp}{s:Shared}{p:Addr}{xs:List V}(I:Inv X pins σ H s)(h:H p=some (.lst xs)) :
  ∃(its:List Value) (n:Nat),Vals xs its/\s.heap.get? p=some { cls:=.type "list",data:=.seq its.toArray n }/\xs.length<=sizeLine:=by
 obtain⟨z,its,n,r,e⟩:=I.hok p _ h
 exact⟨its,n,r,e,z⟩
theorem Inv.lstUpd{pins:List (Addr × Obj)}{σ:St}{H:Hp}{s:Shared}{p:Addr}{xs ys:List V}{its its':List Value}{n n':Nat}{f:Obj->Obj}(I:Inv X pins σ H s)(h:H p=some (.lst xs))
  (ho:s.heap.get? p=some { cls:=.type "list",data:=.seq its.toArray n }) (hf:f { cls:=.type "list",data:=.seq its.toArray n }={ cls:=.type "list",data:=.seq its'.toArray n' }) (r:Vals ys its') (hz:ys.length<=sizeLine) (t:Nat) :
  Inv X pins σ (upd H p (.lst ys)) { s with heap:=s.heap.update p f,toks:=t }:=by
 have e:(s.heap.update p f).get? p=some { cls:=.type "list",data:=.seq its'.toArray n' }:=by
  rw[Heap.get?_update_self f ho (by rw[hf] <;> rfl),hf]
 refine I.write (x:=p) (e:=p) (by rw[h];trivial) (.inl rfl) (fun b u hb q=>(Heap.get?_update_other _ _ (Ne.symm hb)).trans q) ⟨_,e⟩ ?_
 exact⟨hz,its',n',r,e⟩
def rSetL:V->V->V->Hp->(Hp->Prop)->Prop:=fun o i v H Q=>∃ p xs k j,o=.ref p/\i=.int k/\H p=some (.lst xs)/\ixN xs.length k=some j/\Q (upd H p (.lst (xs.set j v)))
theorem set_list:PSet X rSetL:=by
 intro pins s σ H o i v ov iv u Q I ro ri rv h
 obtain⟨p,xs,k,j,rfl,rfl,hp,hj,q⟩:=h
 cases ro
 obtain⟨t,rfl⟩:=ri
 obtain⟨its,n,r,ho,hz⟩:=I.lst hp
 obtain⟨h1,h2,h3,h4⟩:=ixN_seq hj
 have hl:=r.length
 have hn:=line63
 have I':Inv X pins σ (upd H p (.lst (xs.set j v))) { s with heap:=s.heap.update p (Obj.mapSeq (·.setIfInBounds j u)) } :=
  I.lstUpd hp ho (mapSeq_set its n j u) (r.set rv j) (by rw[List.length_set];exact hz) s.toks
 by_cases h0:0<=k
 ·have hk:k.toNat=j:=by
   rw[seqIndex_of h0 h4]at h1
   exact Option.some.inj h1
  exact PySem.W.ki_setAt ho h0 (by omega) (by rw[List.size_toArray,<- hl];exact h4) (by rw[hk];exact⟨_,I',q⟩)
 ·have hk:(k+(its.toArray.size:Int)).toNat=j:=by
   rw[seqIndex_neg (by omega) h3]at h1
   rw[List.size_toArray,<- hl]
   exact Option.some.inj h1
  exact PySem.W.ki_setBack ho (by omega) (by rw[List.size_toArray,<- hl];exact h3) (by omega) (by rw[hk];exact⟨_,I',q⟩)
theorem slice_bounds(lo hi:Option Int)(n:Nat):(sliceBounds lo hi none n).1=((HT.sIx n 0 lo:Nat):Int)/\(sliceBounds lo hi none n).2.1=((HT.sIx n n hi:Nat):Int)/\(sliceBounds lo hi none n).2.2=1:=by
 refine⟨?_,?_,rfl⟩
 ·cases lo with
  | none=>simp[sliceBounds,HT.sIx]
  | some i =>
   simp only [sliceBounds,HT.sIx,Option.getD_none,show(1:Int) > 0 by decide,if_true]
   by_cases h:i<0
   ·simp only [h,if_true] <;> omega
   ·simp only [h,if_false] <;> omega
 ·cases hi with
  | none=>simp[sliceBounds,HT.sIx]
  | some i =>
   simp only [sliceBounds,HT.sIx,Option.getD_none,show(1:Int) > 0 by decide,if_true]
   by_cases h:i<0
   ·simp only [h,if_true] <;> omega
   ·simp only [h,if_false] <;> omega
theorem slicePick_cut(its:List Value)(lo hi:Option Int):slicePick its.toArray lo hi none=((its.drop (HT.sIx its.length 0 lo)).take (HT.sIx its.length its.length hi - HT.sIx its.length 0 lo)).toArray:=by
 obtain⟨h1,h2,h3⟩:=slice_bounds lo hi its.toArray.size
 unfold slicePick
 rw[h1,h2,h3]
 simp only [sliceRange_one,pick_run,List.size_toArray] <;> rfl
def rSlL(K:PySem.W.Frag):V->Option Int->Option Int->Hp->VK->Prop:=fun x lo hi H Q=>∃ a xs,x=.ref a/\SqL K H a xs/\∀ p,H p=none->Q (.ref p) (upd H p (.lst (cutV xs lo hi)))
theorem sl_list:SlR X (rSlL X.K):=by
 intro pins s σ H x v vl vu lo hi sl Q I rx hs pl pu h
 obtain⟨a,xs,rfl,hx,q⟩:=h
 cases rx
 obtain⟨its,r,ht,hz⟩:=I.list hx
 have hlen:=r.length
 refine⟨"list",_,slot_list_getitem.lookup,ht.isList.typeIs,?_⟩
 refine wpAny_getItem_list_slice ht.isList hs pl pu .none (by simp) ?_ (by rw[List.size_toArray] <;> omega)
 rw[slicePick_cut,<- hlen]
 refine⟨.ref s.heap.objs.size,_,I.laid (t':=s.toks) (o:=.lst (cutV xs lo hi)) (fun b ob q=>Heap.get?_push_of_some _ q) (Nat.le_refl _) ?_,rfl,q _ (I.hok.fresh (Nat.le_refl _))⟩
 exact⟨Nat.le_trans (cutV_length xs lo hi) hz,_,0,(r.drop (HT.sIx xs.length 0 lo)).take (HT.sIx xs.length xs.length hi - HT.sIx xs.length 0 lo),Heap.get?_push_size _ rfl⟩
def flatV:V->Bool
 | .non=>true
 | .bl _=>true
 | .int _=>true
 | .str _=>true
 | _=>false
def eqV:V->V->Bool
 | .non,.non=>true
 | .bl a,.bl b=>a == b
 | .bl a,.int b=>(if a then 1 else 0) == b
 | .int a,.bl b=>a == (if b then 1 else 0)
 | .int a,.int b=>a == b
 | .str a,.str b=>a == b
 | _,_=>false
theorem eqAt_V{A:Around}{s:Shared}{y x:V}{u v:Value}(ry:RelV y u)(rx:RelV x v)(fy:flatV y=true)(fx:flatV x=true):SeqAt.EqAt A s u v (eqV y x):=by
 cases y with
 | non =>
  cases ry
  cases x with
  | non=>cases rx;exact SeqAt.EqAt.same _
  | bl b=>cases rx;exact SeqAt.EqAt.none_bool b
  | int b=>obtain⟨t,rfl⟩:=rx;exact SeqAt.EqAt.none_int b t
  | str b=>obtain⟨t,rfl⟩:=rx;exact SeqAt.EqAt.none_str b t
  | _=>exact absurd (show false=true from fx) Bool.false_ne_true
 | bl a =>
  cases ry
  cases x with
  | non=>cases rx;exact SeqAt.EqAt.bool_none a
  | bl b=>cases rx;exact SeqAt.EqAt.bool_bool a b
  | int b=>obtain⟨t,rfl⟩:=rx;exact SeqAt.EqAt.bool_int a b t
  | str b=>obtain⟨t,rfl⟩:=rx;exact SeqAt.EqAt.bool_str a b t
  | _=>exact absurd (show false=true from fx) Bool.false_ne_true
 | int a =>
  obtain⟨t',rfl⟩:=ry
  cases x with
  | non=>cases rx;exact SeqAt.EqAt.int_none a t'
  | bl b=>cases rx;exact SeqAt.EqAt.int_bool a t' b
  | int b=>obtain⟨t,rfl⟩:=rx;exact SeqAt.EqAt.int_int a t' b t
  | str b=>obtain⟨t,rfl⟩:=rx;exact SeqAt.EqAt.int_str a t' b t
  | _=>exact absurd (show false=true from fx) Bool.false_ne_true
 | str a =>
  obtain⟨t',rfl⟩:=ry
  cases x with
  | non=>cases rx;exact SeqAt.EqAt.str_none a t'
  | bl b=>cases rx;exact SeqAt.EqAt.str_bool a t' b
  | int b=>obtain⟨t,rfl⟩:=rx;exact SeqAt.EqAt.str_int a t' b t
  | str b=>obtain⟨t,rfl⟩:=rx;exact SeqAt.EqAt.str_str a t' b t
  | _=>exact absurd (show false=true from fx) Bool.false_ne_true
 | _=>exact absurd (show false=true from fy) Bool.false_ne_true
def eqU(x:V)(u:Value):Bool:=match u with
 | .none=>eqV .non x
 | .bool b=>eqV (.bl b) x
 | .int i _=>eqV (.int i) x
 | .str z _=>eqV (.str z) x
 | _=>false
theorem eqU_of{x y:V}{u:Value}(r:RelV y u)(f:flatV y=true):eqU x u=eqV y x:=by
 cases y with
 | non=>cases r;rfl
 | bl b=>cases r;rfl
 | int i=>obtain⟨t,rfl⟩:=r;rfl
 | str z=>obtain⟨t,rfl⟩:=r;rfl
 | _=>exact absurd (show false=true from f) Bool.false_ne_true
theorem any_eqU{x:V}:∀ {xs:List V} {us:List Value},Vals xs us->xs.all flatV=true->us.any (eqU x)=xs.any fun y=>eqV y x
 | _,_,.nil,_=>rfl
 | y :: xs,u :: us,.cons r t,f=>by
  rw[List.all_cons,Bool.and_eq_true]at f
  rw[List.any_cons,List.any_cons,eqU_of r f.1,any_eqU t f.2]
theorem mem_eqAt{A:Around}{s:Shared}{x:V}{v:Value}(rx:RelV x v)(fx:flatV x=true):∀ {xs:List V} {us:List Value},Vals xs us->xs.all flatV=true->∀ u∈us,SeqAt.EqAt A s u v (eqU x u)
 | _,_,.nil,_=>fun u hu=>by cases hu
 | y :: xs,u :: us,.cons r t,f=>fun u' hu=>by
  rw[List.all_cons,Bool.and_eq_true]at f
  rcases List.mem_cons.mp hu with rfl | hu
  ·rw[eqU_of r f.1];exact eqAt_V r rx f.1 fx
  ·exact mem_eqAt rx fx t f.2 u' hu
def inV(x:V)(xs:List V):Bool:=xs.any fun y=>eqV y x
def rIn(K:PySem.W.Frag)(neg:Bool):R2:=fun x y H Q=>∃ p xs,y=.ref p/\(SqL K H p xs\/SqT K H p xs)/\flatV x=true/\xs.all flatV=true/\Q (.bl (if neg then !inV x xs else inV x xs)) H
theorem op_in_seq:OpR X (compareOp .In) (rIn X.K false):=by
 intro pins s σ H x y v u Q I rx ry h
 obtain⟨p,xs,rfl,hq,fx,fs,q⟩:=h
 cases ry
 rcases hq with hq | hq
 ·obtain⟨its,r,pl,hz⟩:=I.list hq
  refine SeqAt.in_listAt (eqU x) pl.isList (fun w hw=>mem_eqAt rx fx r fs w (by simpa using hw)) ⟨.bl _,H,I,rfl,?_⟩
  rw[show its.toArray.any (eqU x)=its.any (eqU x) by simp,any_eqU r fs]
  exact q
 ·obtain⟨its,r,pl,hz⟩:=I.tuple hq
  refine SeqAt.in_tupleAt (eqU x) pl (fun w hw=>mem_eqAt rx fx r fs w (by simpa using hw)) ⟨.bl _,H,I,rfl,?_⟩
  rw[show its.toArray.any (eqU x)=its.any (eqU x) by simp,any_eqU r fs]
  exact q
theorem op_notIn_seq:OpR X (compareOp .NotIn) (rIn X.K true):=by
 intro pins s σ H x y v u Q I rx ry h
 obtain⟨p,xs,rfl,hq,fx,fs,q⟩:=h
 cases ry
 rcases hq with hq | hq
 ·obtain⟨its,r,pl,hz⟩:=I.list hq
  refine SeqAt.notIn_listAt (eqU x) pl.isList (fun w hw=>mem_eqAt rx fx r fs w (by simpa using hw)) ⟨.bl _,H,I,rfl,?_⟩
  rw[show its.toArray.any (eqU x)=its.any (eqU x) by simp,any_eqU r fs]
  exact q
 ·obtain⟨its,r,pl,hz⟩:=I.tuple hq
  refine SeqAt.notIn_tupleAt (eqU x) pl (fun w hw=>mem_eqAt rx fx r fs w (by simpa using hw)) ⟨.bl _,H,I,rfl,?_⟩
  rw[show its.toArray.any (eqU x)=its.any (eqU x) by simp,any_eqU r fs]
  exact q
theorem call_len_seq:CallR X (.builtin "len") (fun xs H Q=>∃ p ys,xs=[.ref p]/\(SqL X.K H p ys\/SqT X.K H p ys)/\Q (.int ys.length) H):=by
 intro pins s σ H xs us Q I r h
 obtain⟨p,ys,rfl,hq,q⟩:=h
 obtain⟨u,rfl,rx⟩:=vals1 r
 cases rx
 have hn:=line63
 rcases hq with hq | hq
 ·obtain⟨its,r',pl,hz⟩:=I.list hq
  have hlen:=r'.length
  exact Calls.call_len_list pl.isList (by simp only [List.size_toArray] <;> omega) ⟨.int ys.length,H,I.tok _,⟨s.toks+1,by rw[List.size_toArray,hlen]⟩,q⟩
 ·obtain⟨its,r',pl,hz⟩:=I.tuple hq
  have hlen:=r'.length
  exact len_tuple pl (by simp only [List.size_toArray] <;> omega) ⟨.int ys.length,H,I.tok _,⟨s.toks+1,by rw[List.size_toArray,hlen]⟩,q⟩
theorem call_list_of:CallR X (.type "list") (fun xs H Q=>∃ p ys,xs=[.ref p]/\(SqL X.K H p ys\/SqT X.K H p ys)/\∀ l,H l=none->Q (.ref l) (upd H l (.lst ys))):=by
 intro pins s σ H xs us Q I r h
 obtain⟨p,ys,rfl,hq,q⟩:=h
 obtain⟨u,rfl,rx⟩:=vals1 r
 cases rx
 have fin:∀(its:List Value),Vals ys its->ys.length<=sizeLine->∀(h':Heap) (c':Nat),(∀ b o',s.heap.get? b=some o'->h'.get? b=some o') ->
   h'.get? s.heap.objs.size=some { cls:=.type "list",dict:=none,data:=.seq its.toArray c',slots:=#[] }->EP X pins σ Q (.ref s.heap.objs.size) { s with heap:=h' }:=fun its r' hz h' c' kp e =>
  ⟨.ref s.heap.objs.size,_,I.laid (t':=s.toks) kp (Nat.le_refl _) (show ObjOk X.prog X.w _ h' _ (.lst ys) from⟨hz,its,c',r',e⟩),rfl,q _ (I.hok.fresh (Nat.le_refl _))⟩
 rcases hq with hq | hq
 ·obtain⟨its,r',pl,hz⟩:=I.list hq
  have hlen:=r'.length
  obtain⟨o,ho,hc,n,hd⟩:=pl.isList
  exact call_list_seq p (.inl rfl) ho hc hd (fun h' c' kp e=>fin its r' hz h' c' kp e) (by simp only [List.size_toArray] <;> omega)
 ·obtain⟨its,r',pl,hz⟩:=I.tuple hq
  have hlen:=r'.length
  obtain⟨o,ho,hc,n,hd⟩:=pl
  exact call_list_seq p (.inr rfl) ho hc hd (fun h' c' kp e=>fin its r' hz h' c' kp e) (by simp only [List.size_toArray] <;> omega)
theorem call_tuple_of:CallR X (.type "tuple") (fun xs H Q=>∃ p ys,xs=[.ref p]/\((SqL X.K H p ys/\∀ l,H l=none->Q (.ref l) (upd H l (.tup ys)))\/(SqT X.K H p ys/\Q (.ref p) H))):=by
 intro pins s σ H xs us Q I r h
 obtain⟨p,ys,rfl,h⟩:=h
 obtain⟨u,rfl,rx⟩:=vals1 r
 cases rx
 rcases h with ⟨hq,q⟩ | ⟨hq,q⟩
 ·obtain⟨its,r',pl,hz⟩:=I.list hq
  have hlen:=r'.length
  refine call_tuple_list pl.isList (fun h' kp=>?_) (by simp only [List.size_toArray] <;> omega)
  have I1:Inv X pins σ H { s with heap:=h' }:=I.kept (t':=s.toks) kp
  have I2:Inv X pins σ (upd H h'.objs.size (.tup ys)) { s with heap:=h'.push { cls:=.type "tuple",data:=.seq its.toArray } } :=
   I1.laid (t':=s.toks) (fun b o e=>Heap.get?_push_of_some _ e) (Nat.le_refl _) (show ObjOk X.prog X.w _ _ _ (.tup ys) from⟨hz,its,r',IsTup.new _ _⟩)
  exact⟨.ref h'.objs.size,_,I2,rfl,q _ (I1.hok.fresh (Nat.le_refl _))⟩
 ·obtain⟨its,r',pl,hz⟩:=I.tuple hq
  exact call_tuple_same pl ⟨.ref p,H,I,rfl,q⟩
def tyV(K:PySem.W.Frag)(T:String)(x:V)(H:Hp):Prop:=match x with
 | .str _=>T="str"
 | .int _=>T="int"
 | .ref p=>(T="list"/\∃ xs,SqL K H p xs)\/(T="tuple"/\∃ o,K.lookup p=some o/\o.cls=.type "tuple"/\o.dict=none) \/
   (T="dict"/\((∃ kvs,H p=some (.dK kvs))\/∃ kvs,H p=some (.dT kvs)))\/(T="set"/\∃ S n,H p=some (.set S n))
 | _=>False
theorem tyV_is{pins:List (Addr × Obj)}{σ:St}{H:Hp}{s:Shared}{T:String}{x:V}{v:Value}(I:Inv X pins σ H s)(r:RelV x v)(ty:tyV X.K T x H) :
  s.TypeIs v T/\∀ a,v=.ref a->∃ ob,s.heap.get? a=some ob/\ob.dict=none:=by
 cases x with
 | str z =>
  obtain⟨t,rfl⟩:=r
  cases (show T="str" from ty)
  exact⟨typeIs_str s z t,fun _ e=>nomatch e⟩
 | int i =>
  obtain⟨t,rfl⟩:=r
  cases (show T="int" from ty)
  exact⟨typeIs_int s i t,fun _ e=>nomatch e⟩
 | ref p =>
  cases r
  rcases ty with ⟨rfl,xs,hq⟩ | ⟨rfl,o,hk,hc,hd⟩ | ⟨rfl,hk⟩ | ⟨rfl,S,n,hk⟩
  ·obtain⟨its,_,pl,_⟩:=I.list hq
   refine⟨pl.isList.typeIs,fun a e=>?_⟩
   cases e
   obtain⟨o,n,e,c,hd,_⟩:=pl
   exact⟨o,e,hd⟩
  ·refine⟨⟨o,I.kIn p o hk,hc⟩,fun a e=>?_⟩
   cases e
   exact⟨o,I.kIn _ o hk,hd⟩
  ·have z:∃ o,s.heap.get? p=some o/\o.ExactDict:=by
    rcases hk with ⟨kvs,hk⟩ | ⟨kvs,hk⟩
    ·obtain⟨_,_,_,_,o,_,_,e,ex,_⟩:=I.hok p _ hk
     exact⟨o,e,ex⟩
    ·obtain⟨_,_,_,_,o,_,_,e,ex,_⟩:=I.hok p _ hk
     exact⟨o,e,ex⟩
   obtain⟨o,e,ex⟩:=z
   refine⟨⟨o,e,ex.1⟩,fun a e2=>?_⟩
   cases e2
   exact⟨o,e,ex.2.1⟩
  ·obtain⟨o,_,_,_,e,ex,_⟩:=I.hok p _ hk
   refine⟨⟨o,e,ex.1⟩,fun a e2=>?_⟩
   cases e2
   exact⟨o,e,ex.2.1⟩
 | _=>exact False.elim ty
def tBM0(K:PySem.W.Frag)(T:String)(r:V->List V->Hp->VK->Prop)(to:TE):TE:=fun σ H Q=>to σ H fun x H1=>tyV K T x H1/\r x [] H1 Q
def tBM(K:PySem.W.Frag)(T:String)(r:V->List V->Hp->VK->Prop)(to:TE)(t:TA):TE:=fun σ H Q=>to σ H fun x H1=>tyV K T x H1/\t σ H1 fun xs H2=>r x xs H2 Q
variable{o e:Expr}{es:List Expr}{to:TE}{t:TA}{name:Str}{apos cpos:Pos}{T id:String}{r:V->List V->Hp->VK->Prop}
theorem pe_bm0 (pa:PlainAttrs T) (slot:Slot T name id) (hty:typeOf (.builtin id)=pure (.type "method_descriptor")) (hm:MtR X id r) (ho:PE X o to)
  (hbase:attributeBase o name X.env (eval o X.env)=eval o X.env:=by rfl) (hline:(apos.endLine == cpos.line)=true:=by rfl):PE X (.Call (.Attribute o name apos) [] [] cpos) (tBM0 X.K T r to):=by
 intro pins s σ H Q I h
 refine wpAny_Call_method0_late hbase hline (thn (ho pins s σ H _ I h) fun v s1 ⟨x,H1,I1,r1,ty,q1⟩=>?_)
 obtain⟨h1,h2⟩:=tyV_is I1 r1 ty
 exact⟨T,id,pa,slot,hty,h1,h2,Calls.callWith_builtin rfl (PySem.evalArgs_none (hm pins s1 σ H1 x [] v [] Q I1 r1 .nil q1))⟩
theorem pe_bm (pa:PlainAttrs T) (slot:Slot T name id) (hty:typeOf (.builtin id)=pure (.type "method_descriptor")) (hm:MtR X id r) (ho:PE X o to) (ha:PA X (e :: es) t)
  (hbase:attributeBase o name X.env (eval o X.env)=eval o X.env:=by rfl)
  (hfew:((backTo cpos (starEach (e :: es) X.env)).all (fun x=>!x.1) && (backToKw cpos (keywordEach [] X.env)).all (fun x=>x.1.isSome)
   && decide ((e :: es).length+([]:List Keyword).length+(if ([]:List Keyword).isEmpty then 0 else 1)<30))=true:=by rfl)
  (hline:(apos.endLine == cpos.line)=true:=by rfl) (hs:starEach (e :: es) X.env=(false,eval e X.env) :: starEach es X.env:=by rfl) (hplain:(backTo cpos (starEach es X.env)).any (·.1)=false:=by rfl) :
  PE X (.Call (.Attribute o name apos) (e :: es) [] cpos) (tBM X.K T r to t):=by
 intro pins s σ H Q I h
 refine wpAny_Call_method_late hbase hfew hline rfl (thn (ho pins s σ H _ I h) fun v s1 ⟨x,H1,I1,r1,ty,q1⟩=>?_)
 obtain⟨h1,h2⟩:=tyV_is I1 r1 ty
 refine⟨T,id,pa,slot,hty,h1,h2,?_⟩
 have hA:=ha cpos pins s1 σ H1 _ I1 q1
 rw[hs]at hA ⊢
 refine Calls.callWith_builtin (by show(false || (backTo cpos (starEach es X.env)).any (·.1))=false;rw[hplain] <;> rfl) (Calls.evalArgs_plain ?_)
 exact thn hA fun us s2 ⟨vs,H2,I2,r2,q2⟩=>hm pins s2 σ H2 x vs v us Q I2 r1 r2 q2
end
def MtM(X:Cx)(id:String)(r:V->List V->Hp->VK->Prop):Prop :=
 ∀(pins:List (Addr × Obj)) (s:Shared) (σ:St) (H:Hp) (x:V) (xs:List V) (v:Value) (us:List Value) (Q:VK),Inv X pins σ H s->RelV x v->Vals xs us->r x xs H Q ->
  wpAny (model X.prog X.w) X.A (call (.builtin id) (v :: us)) (EP X pins σ Q) X.xe s
theorem Vals.one:∀ {x:V} {us:List Value},Vals [x] us->∃ u,us=[u]/\RelV x u
 | _,_,.cons r .nil=>⟨_,rfl,r⟩
theorem Vals.eraseIdx:∀ {xs:List V} {us:List Value} (i:Nat),Vals xs us->Vals (xs.eraseIdx i) (us.eraseIdx i)
 | _,_,_,.nil=>.nil
 | _,_,0,.cons _ t=>t
 | _,_,i+1,.cons r t=>.cons r (Vals.eraseIdx i t)
theorem Vals.rep{xs:List V}{us:List Value}(h:Vals xs us):∀ k:Nat,Vals (List.replicate k xs).flatten (List.replicate k us).flatten
 | 0=>.nil
 | k+1=>by
  rw[List.replicate_succ,List.replicate_succ,List.flatten_cons,List.flatten_cons]
  exact Vals.append h (Vals.rep h k)
theorem len_erase{α:Type}:∀(l:List α) (i:Nat),(l.eraseIdx i).length<=l.length
 | [],_=>Nat.le_refl _
 | _ :: _,0=>Nat.le_succ _
 | _ :: r,i+1=>Nat.succ_le_succ (len_erase r i)
theorem foldl_rep(its:List Value):∀(k:Nat) (acc:List Value),
  List.foldl (fun x1 x2=>x1++x2) acc.toArray (List.replicate k its.toArray)=(acc++(List.replicate k its).flatten).toArray
 | 0,acc=>by simp
 | k+1,acc=>by
  have e:acc.toArray++its.toArray=(acc++its).toArray:=by simp
  have e2:(acc++its)++(List.replicate k its).flatten=acc++(List.replicate (k+1) its).flatten:=by
   rw[List.replicate_succ,List.flatten_cons,List.append_assoc]
  rw[<- e2,<- foldl_rep its k (acc++its),<- e,List.replicate_succ,List.foldl_cons]
section
variable{X:Cx}{pins:List (Addr × Obj)}{σ:St}{H:Hp}{s:Shared}{l b:Addr}{xs ys zs:List V}
theorem Inv.lset{its its':List Value}{n:Nat}{f:Array Value->Array Value}{t':Nat}(I:Inv X pins σ H s)(hH:H l=some (.lst xs))
  (e:s.heap.get? l=some { cls:=.type "list",data:=.seq its.toArray n }) (hf:f its.toArray=its'.toArray) (hv:Vals ys its') (hz:ys.length<=sizeLine) :
  Inv X pins σ (upd H l (.lst ys)) { s with heap:=s.heap.update l (Obj.mapSeq f),toks:=t' }:=by
 have q:=PySem.IsL.update e f
 rw[hf]at q
 refine I.write (x:=l) (e:=l) (by rw[hH];exact trivial) (.inl rfl) (fun b' u hb hu=>(Heap.get?_update_other s.heap (Obj.mapSeq f) (Ne.symm hb)).trans hu) ⟨_,q⟩ ?_
 exact⟨hz,its',_,hv,q⟩
theorem Inv.lnew{its:List Value}{t':Nat}(I:Inv X pins σ H s)(hv:Vals ys its)(hz:ys.length<=sizeLine) :
  Inv X pins σ (upd H s.heap.objs.size (.lst ys)) { s with heap:=s.heap.push { cls:=.type "list",data:=.seq its.toArray },toks:=t' } :=
 I.laid (fun _ _ q=>Heap.get?_push_of_some _ q) (Nat.le_refl _) ⟨hz,its,0,hv,Heap.get?_push_size _ rfl⟩
theorem Inv.fresh(I:Inv X pins σ H s):H s.heap.objs.size=none:=I.hok.fresh (Nat.le_refl _)
theorem Inv.lstM (I:Inv X pins σ H s) (hH:H l=some (.lst xs)):xs.length<=sizeLine/\∃(its:List Value) (n:Nat),Vals xs its/\xs.length=its.length/\s.heap.get? l=some { cls:=.type "list",data:=.seq its.toArray n }:=by
 obtain⟨z,its,n,r,e⟩:=I.hok l _ hH
 exact⟨z,its,n,r,r.length,e⟩
theorem notLongL{n:Nat}(h:n<=sizeLine):Builtin.List.listTooLong n=false:=by
 unfold Builtin.List.listTooLong
 exact decide_eq_false (by omega)
end
section
variable{X:Cx}
def rAppend:V->List V->Hp->VK->Prop:=fun x vs H Q=>∃ l xs y,x=.ref l/\vs=[y]/\H l=some (.lst xs)/\xs.length<sizeLine/\Q .non (upd H l (.lst (xs++[y])))
theorem mt_append:MtM X "list.append" rAppend:=by
 intro pins s σ H x vs v us Q I rx rv h
 obtain⟨l,xs,y,rfl,rfl,hH,hz,q⟩:=h
 cases rx
 obtain⟨u,rfl,ru⟩:=rv.one
 obtain⟨z,its,n,r,hl,e⟩:=I.lstM hH
 refine call_meets F.slot_list_append ⟨_,e,rfl⟩ F.entry_list_append (F.args_list_append_2 _ _) (PySem.list_append l its.toArray n u (by rw[List.size_toArray];omega)) ⟨e,?_⟩
 refine⟨.non,_,I.lset (its':=its++[u]) hH e (by simp) (r.append (.cons ru .nil)) ?_,rfl,q⟩
 rw[List.length_append,List.length_singleton]
 omega
def rPopAt:V->List V->Hp->VK->Prop:=fun x vs H Q=>∃ l xs i k y,x=.ref l/\vs=[.int i]/\H l=some (.lst xs)/\-(2 ^ 63)<=i/\i<2 ^ 63/\seqIndex? i xs.length=some k/\xs[k]?=some y/\Q y (upd H l (.lst (xs.eraseIdx k)))
theorem mt_popAt:MtM X "list.pop" rPopAt:=by
 intro pins s σ H x vs v us Q I rx rv h
 obtain⟨l,xs,i,k,y,rfl,rfl,hH,h1,h2,hk,hy,q⟩:=h
 cases rx
 obtain⟨u,rfl,ru⟩:=rv.one
 obtain⟨t,rfl⟩:=ru
 obtain⟨z,its,n,r,hl,e⟩:=I.lstM hH
 obtain⟨w,hw,rw'⟩:=r.get hy
 refine call_meets F.slot_list_pop ⟨_,e,rfl⟩ F.entry_list_pop (F.args_list_pop_2 _ _)
  (MeetsSeq.list_pop_at l its.toArray n i t k w (fitsIndex_both h1 h2) (by rw[List.size_toArray,<- hl];exact hk) (by rw[<- Array.getElem?_toList];exact hw) (by rw[List.size_toArray];omega)) ⟨e,?_⟩
 refine⟨y,_,I.lset (its':=its.eraseIdx k) hH e ?_ (r.eraseIdx k) ?_,rw',q⟩
 ·show its.toArray.eraseIdxIfInBounds k=(its.eraseIdx k).toArray
  rw[List.eraseIdxIfInBounds_toArray]
 ·have:=len_erase xs k
  omega
def rCat:R2:=fun x y H Q=>∃ l b xs zs,x=.ref l/\y=.ref b/\H l=some (.lst xs)/\H b=some (.lst zs)/\xs.length+zs.length<=sizeLine/\∀ p,H p=none->Q (.ref p) (upd H p (.lst (xs++zs)))
theorem op_cat:OpR X (binaryOp .Add) rCat:=by
 intro pins s σ H x y v u Q I rx ry h
 obtain⟨l,b,xs,zs,rfl,rfl,hH,hB,hz,q⟩:=h
 cases rx
 cases ry
 obtain⟨z,its,n,r,hl,e⟩:=I.lstM hH
 obtain⟨z2,its2,n2,r2,hl2,e2⟩:=I.lstM hB
 refine PySem.P.add_list e e2 ?_ (by rw[List.size_toArray,List.size_toArray];omega)
 have ea:its.toArray++its2.toArray=(its++its2).toArray:=by simp
 rw[ea]
 exact⟨.ref _,_,I.lnew (t':=s.toks) (r.append r2) (by rw[List.length_append];omega),rfl,q _ I.fresh⟩
def rRep:R2:=fun x y H Q=>∃ l k xs,x=.ref l/\y=.int k/\H l=some (.lst xs)/\-(2 ^ 63)<=k/\k<2 ^ 63/\xs.length * k.toNat<=sizeLine /\
 ∀ p,H p=none->Q (.ref p) (upd H p (.lst (List.replicate k.toNat xs).flatten))
theorem len_rep{α:Type}(xs:List α)(k:Nat):(List.replicate k xs).flatten.length=k * xs.length:=by
 induction k with
 | zero=>simp
 | succ k ih=>rw[List.replicate_succ,List.flatten_cons,List.length_append,ih,Nat.succ_mul,Nat.add_comm]
theorem op_rep:OpR X (binaryOp .Mult) rRep:=by
 intro pins s σ H x y v u Q I rx ry h
 obtain⟨l,k,xs,rfl,rfl,hH,h1,h2,hz,q⟩:=h
 cases rx
 obtain⟨t,rfl⟩:=ry
 obtain⟨z,its,n,r,hl,e⟩:=I.lstM hH
 have hlen:its.toArray.size * k.toNat<=sizeLine:=by rw[List.size_toArray,<- hl];exact hz
 have hcap:¬ its.toArray.size * k.toNat > (2 ^ 63 - 1) / 8:=by
  have:(sizeLine:Nat)<=(2 ^ 63 - 1) / 8:=by decide
  omega
 have hfit:¬ (!Builtin.List.listFitsIndex k)=true:=by
  rw[fitsIndex_both h1 h2]
  exact Bool.false_ne_true
 have hlong:¬ Builtin.List.listTooLong (its.toArray.size * k.toNat)=true:=by
  rw[notLongL hlen]
  exact Bool.false_ne_true
 have hnew:List.foldl (fun x1 x2=>x1++x2) #[] (List.replicate (if its.toArray.isEmpty=true then 0 else k.toNat) its.toArray)=(List.replicate k.toNat its).flatten.toArray:=by
  have f0:∀ m:Nat,List.foldl (fun x1 x2=>x1++x2) #[] (List.replicate m its.toArray)=(List.replicate m its).flatten.toArray:=fun m=>by
   have:=foldl_rep its m []
   rw[List.nil_append]at this
   exact this
  rw[f0]
  cases its with
  | nil=>simp
  | cons a r'=>rw[if_neg (by simp)]
 refine wpAny_binaryOp_repeat_ref (T:="list") (U:="int") (by decide) ⟨_,e,rfl⟩ (fun s'=>typeIs_int s' k t) noFill_list_mul F.fills_int_mul F.slot_int_rmul repeat_list F.slot_int_index.lookup
  (call_meets F.slot_int_rmul (typeIs_int s k t) F.entry_int_rmul (F.args_int_rmul_2 _ _) (int___rmul___int_list k t l its.toArray n)
   ⟨e,rfl,⟨_,e,rfl⟩,call_meets F.slot_list_mul ⟨_,e,rfl⟩ F.entry_list_mul (F.args_list_mul_2 _ _) (AutoListH.list___mul___list_int_3 l its.toArray n k t hfit hcap hlong) ⟨e,?_⟩⟩)
 rw[hnew]
 exact⟨.ref _,_,I.lnew (t':=s.toks) (r.rep k.toNat) (by rw[len_rep,Nat.mul_comm];exact hz),rfl,q _ I.fresh⟩
end
section
variable{prog:Program}{w:World}{A:Around}{E:Value->Shared->Prop}{s:Shared}
end
section
variable{X:Cx}
end
section
variable{κ:Type}[DecidableEq κ]
def valV(kvs:List (κ × V))(k:κ):Option V:=(kvs.find? fun kv=>decide (kv.1=k)).map (·.2)
def putK(kvs:List (κ × V))(k:κ)(v:V):List (κ × V) :=
 if (kvs.any fun kv=>decide (kv.1=k))=true then kvs.map (fun kv=>if kv.1=k then (kv.1,v) else kv) else kvs++[(k,v)]
theorem valV_nil{k:κ}:valV ([]:List (κ × V)) k=none:=rfl
theorem valV_pos{p:κ × V}{r:List (κ × V)}{k:κ}(e:p.1=k):valV (p :: r) k=some p.2:=by simp[valV,List.find?_cons,e]
theorem valV_neg{p:κ × V}{r:List (κ × V)}{k:κ}(e:¬ p.1=k):valV (p :: r) k=valV r k:=by simp[valV,List.find?_cons,e]
theorem valV_any(k:κ):∀ kvs:List (κ × V),(kvs.any fun kv=>decide (kv.1=k))=(valV kvs k).isSome
 | []=>rfl
 | p :: r=>by
  rw[List.any_cons]
  by_cases e:p.1=k
  ·simp only [valV_pos e,decide_eq_true e,Bool.true_or,Option.isSome_some]
  ·rw[valV_neg e,decide_eq_false e,Bool.false_or];exact valV_any k r
theorem valV_map(k j:κ)(y:V):∀ kvs:List (κ × V),valV (kvs.map fun kv=>if kv.1=k then (kv.1,y) else kv) j=(valV kvs j).map fun x=>if j=k then y else x
 | []=>rfl
 | p :: r=>by
  have ih:=valV_map k j y r
  rw[List.map_cons]
  by_cases h:p.1=k
  ·rw[if_pos h]
   by_cases e:p.1=j
   ·rw[valV_pos (p:=(p.1,y)) e,valV_pos e,Option.map_some,if_pos (e.symm.trans h)]
   ·rw[valV_neg (p:=(p.1,y)) e,valV_neg e,ih]
  ·rw[if_neg h]
   by_cases e:p.1=j
   ·rw[valV_pos (p:=p) e,valV_pos e,Option.map_some,if_neg (fun z=>h (e.trans z))]
   ·rw[valV_neg (p:=p) e,valV_neg e,ih]
theorem valV_snoc(k j:κ)(y:V):∀ kvs:List (κ × V),valV kvs k=none->valV (kvs++[(k,y)]) j=if j=k then some y else valV kvs j
 | [],_=>by
  by_cases e:k=j
  ·rw[if_pos e.symm];exact valV_pos (p:=(k,y)) e
  ·rw[if_neg (fun z=>e z.symm)];exact valV_neg (p:=(k,y)) e
 | p :: r,hn=>by
  rw[List.cons_append]
  have hk:¬ p.1=k:=fun z=>by rw[valV_pos z]at hn;cases hn
  rw[valV_neg hk]at hn
  have ih:=valV_snoc k j y r hn
  by_cases e:p.1=j
  ·rw[valV_pos e,valV_pos e,if_neg (fun z=>hk (e.trans z))]
  ·rw[valV_neg e,valV_neg e,ih]
theorem valV_put(kvs:List (κ × V))(k j:κ)(y:V):valV (putK kvs k y) j=if j=k then some y else valV kvs j:=by
 unfold putK
 by_cases a:(kvs.any fun kv=>decide (kv.1=k))=true
 ·rw[if_pos a,valV_map]
  rw[valV_any]at a
  by_cases e:j=k
  ·obtain⟨x,hx⟩:=Option.isSome_iff_exists.mp a
   rw[if_pos e,e,hx,Option.map_some,if_pos rfl]
  ·rw[if_neg e]
   cases valV kvs j with
   | none=>rfl
   | some x=>rw[Option.map_some,if_neg e]
 ·rw[if_neg a]
  refine valV_snoc k j y kvs ?_
  rw[valV_any]at a
  cases q:valV kvs k with
  | none=>rfl
  | some x=>rw[q]at a;exact(a rfl).elim
theorem length_putK(kvs:List (κ × V))(k:κ)(v:V):(putK kvs k v).length<=kvs.length+1:=by
 unfold putK
 split
 ·rw[List.length_map];omega
 ·rw[List.length_append,List.length_cons,List.length_nil];omega
theorem putK_new{kvs:List (κ × V)}{k:κ}(v:V)(h:valV kvs k=none):putK kvs k v=kvs++[(k,v)]:=by
 unfold putK
 rw[valV_any,h]
 exact if_neg (by decide)
theorem RelO.isSome_eq{o:Option V}{u:Option Value}(r:RelO o u):o.isSome=u.isSome:=by
 cases o with
 | none=>cases u with
  | none=>rfl
  | some _=>exact(show False from r).elim
 | some _=>cases u with
  | none=>exact(show False from r).elim
  | some _=>rfl
theorem RelO.getD{o:Option V}{u:Option Value}{d:V}{d':Value}(r:RelO o u)(rd:RelV d d'):RelV (o.getD d) (u.getD d'):=by
 cases o with
 | none=>cases u with
  | none=>exact rd
  | some _=>exact(show False from r).elim
 | some _=>cases u with
  | none=>exact(show False from r).elim
  | some _=>exact r
theorem KV.val{kvs:List (κ × V)}{vs:List (κ × Value)}(r:KV kvs vs)(k:κ):RelO (valV kvs k) (valueAt vs k):=by
 unfold KV at r
 induction r with
 | nil=>exact True.intro
 | @cons p q ps qs h t ih =>
  obtain⟨h1,h2⟩:=h
  by_cases e:p.1=k
  ·have e':q.1=k:=h1.symm.trans e
   have b:valueAt (q :: qs) k=some q.2:=by simp[valueAt,List.find?_cons,e']
   rw[valV_pos e,b];exact h2
  ·have e':¬ q.1=k:=fun z=>e (h1.trans z)
   have b:valueAt (q :: qs) k=valueAt qs k:=by simp[valueAt,List.find?_cons,e']
   rw[valV_neg e,b];exact ih
theorem KV.any{kvs:List (κ × V)}{vs:List (κ × Value)}(r:KV kvs vs)(k:κ):(kvs.any fun kv=>decide (kv.1=k))=vs.any fun kv=>decide (kv.1=k):=by
 unfold KV at r
 induction r with
 | nil=>rfl
 | cons h t ih=>rw[List.any_cons,List.any_cons,ih,h.1]
theorem KV.repl{kvs:List (κ × V)}{vs:List (κ × Value)}(r:KV kvs vs)(k:κ){y:V}{u:Value}(ry:RelV y u) :
  KV (kvs.map fun kv=>if kv.1=k then (kv.1,y) else kv) (vs.map fun kv=>if kv.1=k then (kv.1,u) else kv):=by
 unfold KV at r ⊢
 induction r with
 | nil=>exact .nil
 | @cons p q ps qs h t ih =>
  rw[List.map_cons,List.map_cons]
  refine .cons ?_ ih
  obtain⟨h1,h2⟩:=h
  by_cases e:p.1=k
  ·rw[if_pos e,if_pos (h1.symm.trans e)];exact⟨h1,ry⟩
  ·rw[if_neg e,if_neg (fun z=>e (h1.trans z))];exact⟨h1,h2⟩
theorem KV.put{kvs:List (κ × V)}{vs:List (κ × Value)}(r:KV kvs vs)(k:κ){y:V}{u:Value}(ry:RelV y u):KV (putK kvs k y) (stored vs k u):=by
 unfold putK stored
 rw[r.any k]
 by_cases e:(vs.any fun kv=>decide (kv.1=k))=true
 ·rw[if_pos e,if_pos e];exact r.repl k ry
 ·rw[if_neg e,if_neg e];exact Paired.snoc r ⟨rfl,ry⟩
theorem KV.length{kvs:List (κ × V)}{vs:List (κ × Value)}(r:KV kvs vs):kvs.length=vs.length:=Paired.length r
end
theorem kV_is{P:Program}{w:World}{k:Key}{u:Value}(r:RelV (kV k) u):(mixKind P w).is k u=true:=by
 cases k with
 | inl i=>obtain⟨t,e⟩:=(show ∃ t,u=Value.int i t from r);subst e;exact mixKind_int P w i t
 | inr x=>obtain⟨t,e⟩:=(show ∃ t,u=Value.str x t from r);subst e;exact mixKind_str P w x t
theorem items_are{P:Program}{w:World}:∀ {ks:List Key} {us:List Value},Vals (ks.map kV) us->ItemsAre (mixKind P w) ks us
 | [],_,r=>by rw[List.map_nil]at r;cases r;exact .nil
 | k :: ks,_,r=>by
  rw[List.map_cons]at r
  cases r with
  | cons h t=>exact .cons (kV_is h) (items_are t)
abbrev KT(H:Hp):List (List Key × V)->List (List Key × Addr × Value)->Prop:=Paired fun p q=>p.1=q.1/\H q.2.1=some (.tup (p.1.map kV))/\RelV p.2 q.2.2
theorem KT.val{H:Hp}{kvs:List (List Key × V)}{xs:List (List Key × Addr × Value)}(r:KT H kvs xs)(k:List Key):RelO (valV kvs k) ((atKey xs k).map (·.2)):=by
 induction r with
 | nil=>exact True.intro
 | @cons p q ps qs h t ih =>
  obtain⟨h1,_,h2⟩:=h
  by_cases e:p.1=k
  ·have e':q.1=k:=h1.symm.trans e
   have b:atKey (q :: qs) k=some q.2:=by simp[atKey,List.find?_cons,e']
   rw[valV_pos e,b];exact h2
  ·have e':¬ q.1=k:=fun z=>e (h1.trans z)
   have b:atKey (q :: qs) k=atKey qs k:=by simp[atKey,List.find?_cons,e']
   rw[valV_neg e,b];exact ih
theorem KT.repl{H:Hp}{kvs:List (List Key × V)}{xs:List (List Key × Addr × Value)}(r:KT H kvs xs)(k:List Key){y:V}{u:Value}(ry:RelV y u) :
  KT H (kvs.map fun kv=>if kv.1=k then (kv.1,y) else kv) (xs.map (putAt k u)):=by
 induction r with
 | nil=>exact .nil
 | @cons p q ps qs h t ih =>
  rw[List.map_cons,List.map_cons]
  refine .cons ?_ ih
  obtain⟨h1,h2,h3⟩:=h
  unfold putAt
  by_cases e:p.1=k
  ·rw[if_pos e,if_pos (h1.symm.trans e)];exact⟨h1,h2,ry⟩
  ·rw[if_neg e,if_neg (fun z=>e (h1.trans z))];exact⟨h1,h2,h3⟩
theorem KT.put{H:Hp}{kvs:List (List Key × V)}{xs:List (List Key × Addr × Value)}(r:KT H kvs xs)(k:List Key){b:Addr}{y:V}{u:Value}(hb:H b=some (.tup (k.map kV)))(ry:RelV y u) :
  KT H (putK kvs k y) (storedH xs k b u):=by
 have e:(kvs.any fun kv=>decide (kv.1=k))=(atKey xs k).isSome:=by
  rw[valV_any,(r.val k).isSome_eq,Option.isSome_map]
 unfold putK storedH
 rw[e]
 by_cases q:(atKey xs k).isSome=true
 ·rw[if_pos q,if_pos q];exact r.repl k ry
 ·rw[if_neg q,if_neg q];exact Paired.snoc r ⟨rfl,hb,ry⟩
theorem KT.keeps{H H':Hp}{kvs:List (List Key × V)}{xs:List (List Key × Addr × Value)}(r:KT H kvs xs)(ht:∀ b ys,H b=some (.tup ys)->H' b=some (.tup ys)):KT H' kvs xs :=
 Paired.mapP r fun _ _ z=>⟨z.1,ht _ _ z.2.1,z.2.2⟩
section
variable{P:Program}{w:World}{H:Hp}{h:Heap}{a:Addr}
theorem rd_of{u:HO}(ok:HOk P w H h)(e:Rd H a u):ObjOk P w H h a u:=e.ok ok
theorem dk_rd{kvs:List (Key × V)}(ok:HOk P w H h)(e:Rd H a (.dK kvs)):kvs.length<=sizeLine/\(a == sysModules)=false/\∃ vs,KV kvs vs/\h.DictOf (mixKind P w) a vs :=
 show ObjOk P w H h a (.dK kvs) from rd_of ok e
theorem dk_of{kvs:List (Key × V)}(ok:HOk P w H h)(e:H a=some (.dK kvs)):kvs.length<=sizeLine/\(a == sysModules)=false/\∃ vs,KV kvs vs/\h.DictOf (mixKind P w) a vs:=dk_rd ok (.inl e)
theorem key_of{ks:List Key}(ok:HOk P w H h)(e:H a=some (.tup (ks.map kV))):(tupleKind (mixKind P w)).is h ks a:=by
 obtain⟨_,its,r,o,h1,h2,n,h3⟩:=(show ObjOk P w H h a (.tup (ks.map kV)) from ok a _ e)
 exact⟨o,its.toArray,n,h1,h2,h3,by simpa using items_are r⟩
theorem dt_rd{kvs:List (List Key × V)}(ok:HOk P w H h)(e:Rd H a (.dT kvs)):kvs.length<=sizeLine/\(a == sysModules)=false /\
  ∃ xs,KT H kvs xs/\h.DictOfH (tupleKind (mixKind P w)) a xs:=by
 obtain⟨z,y,xs,r,o,es,ep,h1,h2,h3,h4,h5⟩:=(show ObjOk P w H h a (.dT kvs) from rd_of ok e)
 refine⟨z,y,xs,r,o,es,ep,h1,h2,h3,h4,fun x hx=>?_,h5⟩
 have all:∀ {l:List (List Key × V)} {m:List (List Key × Addr × Value)},KT H l m->∀ x∈m,(tupleKind (mixKind P w)).is h x.1 x.2.1:=by
  intro l m q
  induction q with
  | nil=>intro x hx;exact nomatch hx
  | @cons p q ps qs hq t ih =>
   intro x hx
   rcases List.mem_cons.mp hx with e | hx
   ·subst e
    exact key_of ok (by rw[<- hq.1];exact hq.2.1)
   ·exact ih x hx
 exact all r x hx
theorem dt_of{kvs:List (List Key × V)}(ok:HOk P w H h)(e:H a=some (.dT kvs)):kvs.length<=sizeLine/\(a == sysModules)=false /\
  ∃ xs,KT H kvs xs/\h.DictOfH (tupleKind (mixKind P w)) a xs:=dt_rd ok (.inl e)
end
def DGet(H:Hp)(a:Addr)(y:V)(r:Option V):Prop :=
 (∃ kvs k,Rd H a (.dK kvs)/\y=kV k/\r=valV kvs k)\/∃ kvs k b,Rd H a (.dT kvs)/\y=.ref b/\H b=some (.tup (k.map kV))/\r=valV kvs k
def DPut(H:Hp)(a:Addr)(y v:V)(H':Hp):Prop :=
 (∃ kvs k,H a=some (.dK kvs)/\y=kV k/\kvs.length<sizeLine/\H'=upd H a (.dK (putK kvs k v))) \/
 ∃ kvs k b,H a=some (.dT kvs)/\y=.ref b/\H b=some (.tup (k.map kV))/\kvs.length<sizeLine/\H'=upd H a (.dT (putK kvs k v))
theorem DGet.k{H:Hp}{a:Addr}{kvs:List (Key × V)}{k:Key}(e:H a=some (.dK kvs)):DGet H a (kV k) (valV kvs k):=.inl ⟨kvs,k,.inl e,rfl,rfl⟩
theorem DPut.k{H:Hp}{a:Addr}{kvs:List (Key × V)}{k:Key}{v:V}(e:H a=some (.dK kvs))(hl:kvs.length<sizeLine):DPut H a (kV k) v (upd H a (.dK (putK kvs k v))):=.inl ⟨kvs,k,e,rfl,hl,rfl⟩
section
variable{X:Cx}{pins:List (Addr × Obj)}{σ:St}{H:Hp}{s:Shared}{a:Addr}{y v:V}{u r:Value}{o:Option V}{A:Around}{E:Value->Shared->Prop}
theorem Inv.big(I:Inv X pins σ H s):sysModules<s.heap.objs.size:=by
 have h:mainGlobals<s.heap.objs.size:=(I.mod.glob.keeps I.bk).lt
 exact Nat.lt_trans (by decide) h
theorem d_getItem{Q:Value->Shared->Prop}(hu:A.units+1<cLine)(I:Inv X pins σ H s)(g:DGet H a y (some v))(ry:RelV y u)(h:∀ w' s',Inv X pins σ H s'->RelV v w'->Q w' s') :
  wpAny (model X.prog X.w) A (getItem (.ref a) u) Q E s:=by
 rcases g with ⟨kvs,k,e,ey,l⟩ | ⟨kvs,k,b,e,ey,eb,l⟩
 ·subst ey
  obtain⟨z,hd,vs,rel,dd⟩:=dk_rd I.hok e
  obtain⟨w',hw,rw'⟩:=RelO.some_of (v:=v) (o:=valueAt vs k) (by rw[l];exact rel.val k)
  exact wpAny_getItem_of (kV_is ry) dd.mapOf hw (h w' _ (I.tok _) rw')
 ·subst ey
  cases (show u=Value.ref b from ry)
  obtain⟨z,hd,xs,rel,dd⟩:=dt_rd I.hok e
  obtain⟨w',hw,rw'⟩:=RelO.some_of (v:=v) (o:=(atKey xs k).map (·.2)) (by rw[l];exact rel.val k)
  obtain⟨p,hp,hp2⟩:=Option.map_eq_some_iff.mp hw
  refine wpAny_getItem_heap (tupleKind_room_in1 hu) (key_of I.hok eb) dd hp ?_
  rw[hp2]
  exact h w' _ (I.tok _) rw'
theorem d_notIn{Q:Value->Shared->Prop}(hu:A.units+1<cLine)(I:Inv X pins σ H s)(g:DGet H a y o)(ry:RelV y u)(h:∀ s',Inv X pins σ H s'->Q (.bool (!o.isSome)) s') :
  wpAny (model X.prog X.w) A (compareOp .NotIn u (.ref a)) Q E s:=by
 rcases g with ⟨kvs,k,e,ey,l⟩ | ⟨kvs,k,b,e,ey,eb,l⟩
 ·subst ey
  obtain⟨z,hd,vs,rel,dd⟩:=dk_rd I.hok e
  refine wpAny_notIn_of (kV_is ry) hd dd.mapOf ?_
  rw[<- (rel.val k).isSome_eq,<- l]
  exact h _ (I.tok _)
 ·subst ey
  cases (show u=Value.ref b from ry)
  obtain⟨z,hd,xs,rel,dd⟩:=dt_rd I.hok e
  refine wpAny_notIn_heap (tupleKind_room_in1 hu) (key_of I.hok eb) hd dd ?_
  have q:=(rel.val k).isSome_eq
  rw[Option.isSome_map]at q
  rw[<- q,<- l]
  exact h _ (I.tok _)
theorem d_write{h':Heap}{t':Nat}{ob:HO}(I:Inv X pins σ H s)(mu:Mut (H a))(hs:Heap.SameBut a s.heap h')(he:∃ q,h'.get? a=some q)(new:ObjOk X.prog X.w (upd H a ob) h' a ob) :
  Inv X pins σ (upd H a ob) { s with heap:=h',toks:=t' } :=
 I.write (x:=a) (e:=a) mu (.inl rfl) (fun b q hb z=>(hs.2 b hb).trans z) he new
theorem dk_new{P:Program}{w:World}{H':Hp}{h':Heap}{kvs:List (Key × V)}{vs:List (Key × Value)}(z:kvs.length<=sizeLine)(hd:(a == sysModules)=false)(rel:KV kvs vs)(dd:h'.DictOf (mixKind P w) a vs) :
  ObjOk P w H' h' a (.dK kvs):=⟨z,hd,vs,rel,dd⟩
theorem d_setItem{H':Hp}{Q:Unit->Shared->Prop}(hu:A.units+1<cLine)(I:Inv X pins σ H s)(g:DPut H a y v H')(ry:RelV y u)(rv:RelV v r)(h:∀ s',Inv X pins σ H' s'->Q () s') :
  wpAny (model X.prog X.w) A (setItem (.ref a) u r) Q E s:=by
 rcases g with ⟨kvs,k,e,ey,l,eH⟩ | ⟨kvs,k,b,e,ey,eb,l,eH⟩
 ·subst ey eH
  obtain⟨z,hd,vs,rel,dd⟩:=dk_of I.hok e
  have hz:vs.length<=sizeLine:=by rw[<- rel.length];exact z
  have hl:(putK kvs k v).length<=sizeLine:=by have:=length_putK kvs k v;omega
  refine wpAny_setItem_pairs (hsz:=hz) (kV_is ry) dd fun h' dd' hs=>h _ ?_
  have he:∃ q,h'.get? a=some q:=let ⟨q,_,_,hq,_⟩:=dd';⟨q,hq⟩
  exact d_write I (by rw[e];exact True.intro) hs he (dk_new hl hd (rel.put k rv) dd')
 ·subst ey eH
  cases (show u=Value.ref b from ry)
  obtain⟨z,hd,xs,rel,dd⟩:=dt_of I.hok e
  have hz:xs.length<=sizeLine:=by rw[<- Paired.length rel];exact z
  have hl:(putK kvs k v).length<=sizeLine:=by have:=length_putK kvs k v;omega
  refine wpAny_setItem_heap (hsz:=hz) (tupleKind_room_in1 hu) (key_of I.hok eb) dd fun h' dd' hs=>h _ ?_
  obtain⟨q,es,ep,hq,h2,h3,h4,_,h5⟩:=dd'
  refine d_write I (by rw[e];exact True.intro) hs ⟨q,hq⟩ ⟨hl,hd,_,(rel.put k eb rv).keeps fun c ys ec=>?_,q,es,ep,hq,h2,h3,h4,h5⟩
  rw[upd_ne (ne_of ec e (fun z=>nomatch z))]
  exact ec
end
section
variable{X:Cx}{pins:List (Addr × Obj)}{σ:St}{H:Hp}{s:Shared}{a:Addr}{kvs:List (Key × V)}{k:Key}{u:Value}{A:Around}{E:Value->Shared->Prop}
end
def NoSl(i:Expr):Prop:=∀ ov iv,subscripted i false ov iv=operate [ov,iv] (getItem ov iv)
theorem subD_of{prog:Program}{w:World}{A:Around}{E:Value->Shared->Prop}{s:Shared}{env:Env}{value slice:Expr}{pos:Pos}{T id:String}{Q:Value->Shared->Prop}
  (hl:typeLookup (.type T) "__getitem__"=pure (some (.builtin id))) (hs:NoSl slice)
  (h:wpAny (model prog w) A (eval value env) (fun o s₁=>wpAny (model prog w) A (eval slice env) (fun i s₂=>s₂.TypeIs o T/\wpAny (model prog w) A (getItem o i) Q E s₂) E s₁) E s) :
  wpAny (model prog w) A (eval (.Subscript value slice pos) env) Q E s:=by
 refine Subscript_ (wpAny_mono h (fun o s₁ h₁=>wpAny_mono h₁ (fun i s₂ h₂=>?_) fun _ _ x=>x) fun _ _ x=>x)
 obtain⟨hT,h₂⟩:=h₂
 unfold subscriptTail
 refine wpAny_bind ?_
 rw[getitemInPython_of_ne hT.not_modules]
 refine wpAny_bind (wpAny_specialOf hT hl ?_)
 have fin:wpAny (model prog w) A (subscripted slice false o i) (fun r s₃=>wpAny (model prog w) A (letTemporaryGo value o r >>= fun _=>pure r) Q E s₃) E s₂:=by
  rw[hs o i]
  exact wpAny_operating (wpAny_mono h₂ (fun r s₃ h₃=>wpAny_bind (wpAny_letTemporaryGo (wpAny_pure h₃))) fun _ _ x=>x)
 first
  | exact wpAny_pure (wpAny_bind fin)
  | exact wpAny_bind (wpAny_pure (wpAny_bind fin))
  | exact wpAny_bind fin
theorem dict_typeIs {X:Cx} {pins:List (Addr × Obj)} {σ:St} {H:Hp} {s:Shared} {a:Addr} {y:V} {o:Option V} (I:Inv X pins σ H s) (g:DGet H a y o):s.TypeIs (.ref a) "dict":=by
 rcases g with ⟨kvs,k,e,_,_⟩ | ⟨kvs,k,b,e,_,_,_⟩
 ·obtain⟨_,_,vs,_,dd⟩:=dk_rd I.hok e
  exact dd.typeIs
 ·obtain⟨_,_,xs,_,dd⟩:=dt_rd I.hok e
  exact dd.typeIs
def tDGet(td ty:TE):TE:=fun σ H Q=>td σ H fun x H1=>ty σ H1 fun y H2=>∃ a v,x=.ref a/\DGet H2 a y (some v)/\Q v H2
def tDNotIn(ty td:TE):TE:=fun σ H Q=>ty σ H fun y H1=>td σ H1 fun x H2=>∃ a o,x=.ref a/\DGet H2 a y o/\Q (.bl (!o.isSome)) H2
def sDPut(td ty tv:TE):TS:=fun D σ H=>tv σ H fun v H1=>td σ H1 fun x H2=>ty σ H2 fun y H3=>∃ a H4,x=.ref a/\DPut H3 a y v H4/\D.nx σ H4
section
variable{X:Cx}{o i e value:Expr}{pos pos' tpos:Pos}{td ty tv:TE}
theorem pe_dget(hu:X.A.units+1<cLine)(ho:PE X o td)(hi:PE X i ty)(hs:NoSl i):PE X (.Subscript o i pos) (tDGet td ty):=by
 intro pins s σ H Q I h
 refine subD_of PySem.F.slot_dict_getitem.lookup hs (thn (ho pins s σ H _ I h) fun u s1 ⟨x,H1,I1,rx,q1⟩=>thn (hi pins s1 σ H1 _ I1 q1) fun iv s2 ⟨y,H2,I2,ry,a,v,ex,g,q2⟩=>?_)
 subst ex
 obtain rfl:u=Value.ref a:=rx
 exact⟨dict_typeIs I2 g,d_getItem hu I2 g ry fun w' s3 I3 rw'=>⟨v,H2,I3,rw',q2⟩⟩
theorem pc_dnotin(hu:X.A.units+1<cLine)(hi:PE X i ty)(ho:PE X o td):PC X .NotIn i o (tDNotIn ty td):=by
 intro pins s σ H Q I h
 refine thn (hi pins s σ H _ I h) fun iv s1 ⟨y,H1,I1,ry,q1⟩=>thn (ho pins s1 σ H1 _ I1 q1) fun u s2 ⟨x,H2,I2,rx,a,ov,ex,g,q2⟩=>?_
 subst ex
 obtain rfl:u=Value.ref a:=rx
 exact d_notIn hu I2 g ry fun s3 I3=>⟨.bl (!ov.isSome),H2,I3,rfl,q2⟩
theorem ps_dput(hu:X.A.units+1<cLine)(ho:PE X o td)(hi:PE X i ty)(hv:PE X value tv)(hs:swapsWith value (some (.Subscript o i pos')) pos.line X.env=pure false) :
  PS X (.Assign [.Subscript o i pos'] value pos) (sDPut td ty tv):=by
 intro pins s σ H D I h
 refine wpAny_Assign_Subscript (thn (hv pins s σ H _ I h) fun r s1 ⟨v,H1,I1,rv,q1⟩=>thn (ho pins s1 σ H1 _ I1 q1) fun u s2 ⟨x,H2,I2,rx,q2⟩=>thn (hi pins s2 σ H2 _ I2 q2) fun iv s3 ⟨y,H3,I3,ry,a,H4,ex,g,q3⟩=>?_) hs
 subst ex
 obtain rfl:u=Value.ref a:=rx
 exact d_setItem hu I3 g ry rv fun s4 I4=>⟨σ,H4,I4,q3⟩
end
theorem dk_empty {P:Program} {w:World} {H:Hp} (h:Heap) (hb:sysModules<h.objs.size):ObjOk P w H (h.push { cls:=.type "dict",data:=.dict #[] }) h.objs.size (.dK []) :=
 ⟨Nat.zero_le _,beq_eq_false_iff_ne.mpr (Ne.symm (Nat.ne_of_lt hb)),[],.nil,Heap.DictOf.new h⟩
def tDNewK:TE:=fun _ H Q=>∀ p,H p=none->Q (.ref p) (upd H p (.dK []))
section
variable{X:Cx}{pos:Pos}
theorem pe_dnewK:PE X (.Dict [] [] pos) tDNewK:=fun pins s σ H Q I h =>
 wpAny_Dict_empty ⟨.ref s.heap.objs.size,_,I.laid (a:=s.heap.objs.size) (o:=.dK []) (t':=s.toks) (fun _ _ q=>Heap.get?_push_of_some _ q) (Nat.le_refl _) (dk_empty s.heap I.big),rfl,h _ (I.hok.fresh (Nat.le_refl _))⟩
end
structure M1 (X:Cx) (o:Expr) (m:Str) (apos:Pos) (e:Expr) (cpos:Pos):Prop where
 base:attributeBase o m X.env (eval o X.env)=eval o X.env
 few:((backTo cpos (starEach [e] X.env)).all (fun x=>!x.1) && (backToKw cpos (keywordEach [] X.env)).all (fun x=>x.1.isSome)
  && decide (([e]:List Expr).length+([]:List Keyword).length+(if ([]:List Keyword).isEmpty then 0 else 1)<30))=true
 line:(apos.endLine == cpos.line)=true
 trees:backTo cpos (starEach [e] X.env)=[(false,eval e X.env)]
structure M2 (X:Cx) (o:Expr) (m:Str) (apos:Pos) (e f:Expr) (cpos:Pos):Prop where
 base:attributeBase o m X.env (eval o X.env)=eval o X.env
 few:((backTo cpos (starEach [e,f] X.env)).all (fun x=>!x.1) && (backToKw cpos (keywordEach [] X.env)).all (fun x=>x.1.isSome)
  && decide (([e,f]:List Expr).length+([]:List Keyword).length+(if ([]:List Keyword).isEmpty then 0 else 1)<30))=true
 line:(apos.endLine == cpos.line)=true
 trees:backTo cpos (starEach [e,f] X.env)=[(false,eval e X.env),(false,eval f X.env)]
section
variable{X:Cx}{pins:List (Addr × Obj)}{σ:St}{H:Hp}{s:Shared}{a:Addr}{y d:V}{u r:Value}{o:Option V}{A:Around}{E:Value->Shared->Prop}
end
section
variable{X:Cx}{o e f:Expr}{apos cpos:Pos}{td ty tx:TE}
end
section
variable{X:Cx}{pins:List (Addr × Obj)}{σ:St}{H:Hp}{s:Shared}{a:Addr}{kvs:List (Key × V)}{A:Around}{E:Value->Shared->Prop}
end
section
variable{X:Cx}{pins:List (Addr × Obj)}{σ:St}{H:Hp}{s:Shared}{a:Addr}{y:V}{u:Value}{A:Around}{E:Value->Shared->Prop}
end
end L2
namespace Att
open PySem PySem.W PySem.Calls PyProof.Rows
theorem ints_of_wellAll{P:Params}{h:Heap}:∀(ns:List Int) (vs:List Value),WellAll P h vs (ns.map WData.int)->IntsAre vs ns:=by
 intro ns
 induction ns with
 | nil =>
  intro vs w
  rw[List.map_nil]at w
  cases w
  exact .nil
 | cons n ns ih =>
  intro vs w
  rw[List.map_cons]at w
  cases w with
  | cons a b =>
   cases a
   exact .cons _ _ (ih _ b)
theorem script_of{l:OpenLaw}{n:Nat}(hn:l.most=some n){P:Params}{h:Heap}{args:List WData}{vals:List Value}
  (hpre:l.row.toRowW.claim.pre args=true) (hwl:WellAll P h vals args) :
  ∃ a vs ns,vals=[Value.ref a]/\args=[WData.list (ns.map WData.int)]/\h.get? a=some { cls:=.type "list",data:=.seq vs.toArray }/\IntsAre vs ns/\ns.length<=n:=by
 have hsh:WShape.hasAll [] args [.list .int]=true:=(pre_splitW hpre).1
 have hc:l.pre.holds [] { args:=args }=true:=(pre_splitW hpre).2
 obtain⟨d,r,rfl,h1,h2⟩:=hasAllW_cons hsh
 obtain rfl:=hasAllW_nil h2
 obtain⟨xs,rfl,h3⟩:=hasW_list h1
 obtain⟨ns,rfl⟩:=items_int h3
 have hlen:ns.length<=n:=by
  unfold OpenLaw.pre at hc
  have h4:(WTm.not (.lt (.lit (.int (n:Int))) (.len (.arg 0)))).holds [] { args:=[.list (ns.map .int)] }=true:=by
   have h4:=(holds_andW hc).1
   rw[hn]at h4
   exact h4
  have h5:=condW_of h4 (w_not (w_lt w_lit (w_len_list (w_arg rfl))))
  rw[List.length_map]at h5
  refine Nat.le_of_not_lt fun q=>?_
  have q':(n:Int)<((ns.length:Nat):Int):=by omega
  first
   | (rw[decide_eq_true q']at h5;exact absurd h5 (by decide))
   | (simp at h5;omega)
 cases hwl with
 | cons w1 w2 =>
  cases w2
  cases w1 with
  | list ho hall=>exact⟨_,_,ns,rfl,rfl,ho,ints_of_wellAll ns _ hall,hlen⟩
theorem post_true(l:OpenLaw)(args:List WData):l.row.toRowW.claim.post args (.bool true) args=true :=
 postW_of (r:=l.row.toRowW) (X:=(true == true))
  (show WShape.has [] (.bool true) .bool=true by first | rfl | decide | simp[WShape.has,WShape.arms,WShape.armsAll])
  (show(WTm.eq .res (.lit (.bool true))).value [] { args:=args,res:=some (.bool true),after:=args }=some (.bool (true == true)) from w_eq_bool (w_res rfl) w_lit) rfl
theorem attach_call{l:OpenLaw}{n:Nat}{q:Program}{loose:List Str}{XP:(Str->Option Value)->Heap->Prop}{YP:World->Heap->Prop}{d:DefRec}
  (hn:l.most=some n) (hdf:d.params.defaults=[])
  (call:∀(w:World) (s₀ s₁:Shared) (mg mb:Str->Option Value) (fa:Addr) (o:Obj) (pm cd doc:Value) (a:Addr) (vs:List Value) (ns:List Int),
   Ground q loose [] XP w s₀ mg mb s₁.heap->YP w s₁.heap ->
   s₁.heap.get? fa=some o->o.data=.func (docDef d.name d.params d.body d.scope pm cd doc)->s₁.heap.CodeRec cd d.name->mg d.name=some (.ref fa) ->
   s₁.heap.get? a=some { cls:=.type "list",data:=.seq vs.toArray }->IntsAre vs ns->ns.length<=n->s₁.gens=#[] ->
   codeAny (model l.prog w) callerA (.call (.ref fa) ⟨[.ref a],[]⟩) (fun r s'=>r=.ok (.ret (.bool true))/\OldK s₁.heap s'.heap/\s'.os=s₁.os/\AllBare s'.gens) s₁) :
  WalkO q loose XP YP l.row.toRowW d [] (fun f vs=>PySem.call f vs):=by
 intro w s₀ s₁ mg mb G Y fa o pm cd doc dV kV ho hd hcd hD hmg hg args vals as hpre hlay hrd hwl hlo
 obtain rfl:dV=.none:=Dflts.none hD hdf
 obtain rfl:kV=.none:=Dflts.noKw hD
 obtain⟨a,vs,ns,rfl,rfl,hobj,hints,hlen⟩:=script_of hn hpre hwl
 refine enter_call (codeAny_mono (call w s₀ s₁ mg mb fa o pm cd doc a vs ns G Y ho (fd_plain hd) hcd hmg hobj hints hlen hg) fun r s' hq=>?_)
 obtain⟨rfl,h2,h3,h4⟩:=hq
 exact⟨.inl ⟨.bool true,.bool true,[],rfl,fun _=>rfl,.bool true,post_true l _,fun _=>⟨List.Pairwise.nil,fun _ hm=>(nomatch hm)⟩⟩,h2,h3,h4⟩
section
variable{prog:Program}{w:World}{A:Around}{E:Value->Shared->Prop}{s:Shared}{K:Frag}
def ledger(h:Heap)(L d:Addr):List (Addr × Obj):=(List.range h.objs.size).filterMap fun a=>if a=L\/a=d then none else (h.get? a).map fun o=>(a,o)
end
end Att
namespace L2
open PySem PySem.Spec PyProof.Rows
theorem vals_ints:∀ {vs:List Value} {ns:List Int},IntsAre vs ns->Vals (ns.map V.int) vs
 | _,_,.nil=>.nil
 | _,_,.cons n t h=>.cons ⟨t,rfl⟩ (vals_ints h)
def Only(H:Hp):Prop:=∀ b,H b=none\/∃ o xs,H b=some (.frz o (.lst xs))
theorem law_call{P:Program}{w:World}{K:PySem.W.Frag}{mg mb:Str->Option Value}{CX:CXT}{k:Nat}{fa a:Addr}{fd:FuncData}{x:Str}{sp:Sp}{s₁:Shared}{vs:List Value}{ns:List Int}
  (KX:K.In s₁.heap) (hns:s₁.heap.Ns mainGlobals mg) (hb:s₁.heap.Ns builtinsNs mb) (hbb:∀ x:Str,x≠"__name__"->mb x=bootBuiltins x) (hlim:s₁.heap.NoLimit) (hg:s₁.gens=#[])
  (ha:s₁.heap.get? a=some { cls:=.type "list",data:=.seq vs.toArray }) (hi:IntsAre vs ns) (hl:ns.length<=sizeLine) (hr:Room k callerA)
  (F:∀ base:Heap,K.In base->base.Ns mainGlobals mg->FnOk P w K mg base CX k fa fd [x] sp) (hbind:∀(s:Shared) (u:Value),BindsTo s fd ⟨[u],[]⟩ [(x,u)])
  (hsp:∀ H:Hp,Only H->SqL K H a (ns.map V.int)->sp [.ref a] H (fun v _=>v=.bl true) fun _ _ _=>False)
  (hCX:∀ H e s',CX [] H s₁ (fun _ _ _=>False) e s'->False) :
  codeAny (model P w) callerA (.call (.ref fa) ⟨[.ref a],[]⟩) (fun r s'=>r=.ok (.ret (.bool true))/\OldK s₁.heap s'.heap/\s'.os=s₁.os/\AllBare s'.gens) s₁:=by
 have rv:=vals_ints hi
 have lenV:=hi.length
 have core:∀ H:Hp,Only H->SqL K H a (ns.map V.int)->HOk P w H s₁.heap->(∀ b,H b≠none->b=a)->(H a≠none->K.lookup a=none) ->
   codeAny (model P w) callerA (.call (.ref fa) ⟨[.ref a],[]⟩) (fun r s'=>r=.ok (.ret (.bool true))/\OldK s₁.heap s'.heap/\s'.os=s₁.os/\AllBare s'.gens) s₁:=by
  intro H hO hS hok hA hK
  have base_of:∀ {b:Addr} {o:Obj},s₁.heap.get? b=some o->H b=none->(hidT s₁.heap H).get? b=some o:=fun e n=>hidT_get e n
  have noA:∀ {b:Addr} {o:Obj} {es:Array DictEntry} {ep:Nat},s₁.heap.get? b=some o->o.data=.dict es ep->H b=none:=fun {b o es ep} e d=>by
   cases q:H b with
   | none=>rfl
   | some u =>
    have e':b=a:=hA b (by rw[q];simp)
    subst e'
    rw[ha]at e;cases e
    have d':Data.seq vs.toArray _=Data.dict es ep:=d
    cases d'
  have nsK:∀ {b:Addr} {m:Str->Option Value},s₁.heap.Ns b m->(hidT s₁.heap H).Ns b m:=fun {b m} ⟨o,es,ep,e,d,r⟩=>⟨o,es,ep,base_of e (noA e d),d,r⟩
  have hKb:K.In (hidT s₁.heap H):=fun b o e=>base_of (KX b o e) (by
   cases q:H b with
   | none=>rfl
   | some u =>
    have e':b=a:=hA b (by rw[q];simp)
    subst e'
    rw[hK (by rw[q];simp)]at e;cases e)
  have hM:Mod K mg (hidT s₁.heap H):=⟨hKb,nsK hns,⟨mb,nsK hb,hbb⟩,let ⟨mc,h1,h2⟩:=hlim;⟨mc,nsK h1,h2⟩⟩
  have e0:Env0 P w K mg (hidT s₁.heap H) callerA [] s₁ H:=⟨rfl,hM,fun b o e=>of_hidT e,Nat.le_of_eq (hidT_size _ _),trivial,fun b hb=>absurd (show b∈([]:List Addr) from hb) (by simp),hok,.of_eq hg⟩
  refine codeAny_mono ((F _ hKb (nsK hns)).run callerA [] s₁ H ⟨[.ref a],[]⟩ [.ref a] [.ref a] _ _ hr e0 (hbind s₁ (.ref a)) (.cons rfl .nil) (hsp H hO hS)) fun r s' h=>?_
  cases r with
  | error e=>exact(hCX H e s' h).elim
  | ok fl =>
   cases fl with
   | next=>exact False.elim h
   | brk=>exact False.elim h
   | cont=>exact False.elim h
   | ret u =>
    obtain⟨v,H',os,bare,un,hok',r',q⟩:=h
    have q':v=.bl true:=q
    subst q'
    obtain rfl:u=Value.bool true:=r'
    refine⟨rfl,OldK.of_keep fun b o e=>?_,os,bare⟩
    cases q:H b with
    | none=>exact un.keep b o e q (by intro z;exact absurd (show b∈([]:List Addr) from z) (by simp)) (by simp)
    | some u =>
     rcases hO b with z | ⟨ob,xs,z⟩
     ·rw[q]at z;cases z
     ·have z2:=un.frzs b ob _ z
      obtain⟨e1,_⟩:=hok b _ z
      obtain⟨e2,_⟩:=hok' b _ z2
      rw[e]at e1;cases e1
      exact e2
 cases hk:K.lookup a with
 | some o =>
  have e:=KX a o hk
  rw[ha]at e
  cases e
  refine core (fun _=>none) (fun _=>.inl rfl) (.inr ⟨_,vs.toArray,_,hk,rfl,rfl,rfl,by rw[List.size_toArray,lenV];exact hl,by simpa using rv⟩) (fun b u z=>by have z':(none:Option HO)=some u:=z;cases z') (fun b z=>absurd rfl z) fun z=>absurd rfl z
 | none =>
  refine core (fun b=>if b=a then some (.frz { cls:=.type "list",data:=.seq vs.toArray } (.lst (ns.map V.int))) else none) (fun b=>?_) (.inl (.inr ⟨{ cls:=.type "list",data:=.seq vs.toArray },if_pos rfl⟩)) (fun b u z=>?_) (fun b z=>?_) fun _=>hk
  ·by_cases hb:b=a
   ·exact .inr ⟨_,_,if_pos hb⟩
   ·exact .inl (if_neg hb)
  ·by_cases hb:b=a
   ·have z':=(if_pos hb).symm.trans z
    cases z'
    subst hb
    exact⟨ha,by rw[List.length_map];exact hl,vs,_,rv,ha⟩
   ·have z':=(if_neg hb).symm.trans z
    cases z'
  ·by_cases hb:b=a
   ·exact hb
   ·exact absurd (if_neg hb) z
abbrev KOf{K:PySem.W.Frag}{h:Heap}(_:K.In h):PySem.W.Frag:=K
theorem walk_of{l:PySem.W.OpenLaw}{n k:Nat}{q:Program}{loose:List Str}{XP:(Str->Option Value)->Heap->Prop}{YP:World->Heap->Prop}{d:DefRec}{K:Params->PySem.W.Frag}{CX:World->CXT}{sp:World->Sp}{x:Str}
  (hn:l.most=some n) (hn2:n<=sizeLine) (hdf:d.params.defaults=[]) (hr:Room k callerA)
  (hY:∀(w:World) (h:Heap),YP w h->(K w.params).In h)
  (F:∀(w:World) (mg:Str->Option Value) (fa:Addr) (h:Heap),(K w.params).In h->h.Ns mainGlobals mg->mg d.name=some (.ref fa) ->
   ∃ fd:FuncData,(∀(s:Shared) (u:Value),BindsTo s fd ⟨[u],[]⟩ [(x,u)]) /\
    ∀ base:Heap,(K w.params).In base->base.Ns mainGlobals mg->FnOk l.prog w (K w.params) mg base (CX w) k fa fd [x] (sp w))
  (hsp:∀(w:World) (H:Hp) (a:Addr) (ns:List Int),ns.length<=n->Only H->SqL (K w.params) H a (ns.map V.int)->sp w [.ref a] H (fun v _=>v=.bl true) fun _ _ _=>False)
  (hCX:∀(w:World) (H:Hp) (s:Shared) (e:Value) (s':Shared),CX w [] H s (fun _ _ _=>False) e s'->False) :
  PySem.W.WalkO q loose XP YP l.row.toRowW d [] (fun f vs=>PySem.call f vs):=by
 refine Att.attach_call hn hdf fun w s₀ s₁ mg mb fa o pm cd doc a vs ns G Y ho hd hcd hmg hobj hints hlen hg=>?_
 have KX:=hY w _ Y
 obtain⟨fd,hb,hF⟩:=F w mg fa _ KX G.T.g hmg
 exact law_call KX G.T.g G.T.b G.T.builtins G.T.nolimit hg hobj hints (Nat.le_trans hlen hn2) hr hF hb (fun H hO hS=>hsp w H a ns hlen hO hS) fun H e s'=>hCX w H s₁ e s'
theorem walk_ofK{l:PySem.W.OpenLaw}{n k:Nat}{q:Program}{loose:List Str}{XP:(Str->Option Value)->Heap->Prop}{YP:World->Heap->Prop}{d:DefRec}{K:Params->PySem.W.Frag}{CX:CXT}{sp:PySem.W.Frag->Sp}{x:Str}
  (hn:l.most=some n) (hn2:n<=sizeLine) (hdf:d.params.defaults=[]) (hr:Room k callerA)
  (hY:∀(w:World) (h:Heap),YP w h->(K w.params).In h)
  (F:∀(w:World) (mg:Str->Option Value) (fa:Addr) (h:Heap),(K w.params).In h->h.Ns mainGlobals mg->mg d.name=some (.ref fa) ->
   ∃ fd:FuncData,(∀(s:Shared) (u:Value),BindsTo s fd ⟨[u],[]⟩ [(x,u)]) /\
    ∀ base:Heap,(K w.params).In base->base.Ns mainGlobals mg->FnOk l.prog w (K w.params) mg base CX k fa fd [x] (sp (K w.params)))
  (hsp:∀(K:PySem.W.Frag) (H:Hp) (a:Addr) (ns:List Int),ns.length<=n->Only H->SqL K H a (ns.map V.int)->sp K [.ref a] H (fun v _=>v=.bl true) fun _ _ _=>False)
  (hCX:∀(H:Hp) (s:Shared) (e:Value) (s':Shared),CX [] H s (fun _ _ _=>False) e s'->False) :
  PySem.W.WalkO q loose XP YP l.row.toRowW d [] (fun f vs=>PySem.call f vs) :=
 walk_of (K:=K) (CX:=fun _=>CX) (sp:=fun w=>sp (K w.params)) hn hn2 hdf hr hY F (fun w H a ns h1 h2 h3=>hsp (K w.params) H a ns h1 h2 h3) fun _ H s e s'=>hCX H s e s'
def inClass(s:Stmt)(j:Nat):Stmt:=match s with
 | .ClassDef _ _ _ body _ _ _ _ _ _ _=>body.getD j (.Pass ⟨0,0,0,0⟩)
 | _=>.Pass ⟨0,0,0,0⟩
def defArgs(s:Stmt):Arguments:=match s with
 | .FunctionDef _ a _ _ _ _ _ _ _ _=>a
 | _=>{ posonlyargs:=[],args:=[],vararg:=none,kwonlyargs:=[],kw_defaults:=[],kwarg:=none,defaults:=[] }
def defBody(s:Stmt):List Stmt:=match s with
 | .FunctionDef _ _ b _ _ _ _ _ _ _=>b
 | _=>[]
def ζ6(s:Stmt):Scope:=match s with
 | .FunctionDef _ _ _ _ _ _ sc _ _ _=>sc
 | _=>{ kind:=.function,names:=[],isGenerator:=false,isCoroutine:=false }
abbrev CX0:CXT:=fun _ _ _ _ _ _=>False
abbrev E0:XK:=fun _ _ _=>False
theorem pass0{X:Cx}:Passes CX0 X E0:=fun _ _ _ _ _ _ _ h=>h.elim
structure Fun (K:PySem.W.Frag) (x qual:Str) (st:Stmt) (f:Addr) (fd:FuncData):Prop where
 ex:∃(oc:Value) (od:Option Addr) (kV doc pm:Value) (an:Option Addr) (cdv ct:Value) (osl:Array (Option Value)),
  fd=PySem.W.fnOf x qual (defArgs st) (defBody st) (ζ6 st) .none kV doc pm an cdv ct/\K.lookup f=some ⟨oc,od,.func fd,osl⟩/\PySem.W.codeIn K cdv qual=true
 kp:PySem.W.keepIn K (.ref f)=true
section
variable{P:Program}{w:World}{K:PySem.W.Frag}{mg:Str->Option Value}{base:Heap}
theorem Fun.ok{x qual:Str}{st:Stmt}{f:Addr}{fd:FuncData}{N ps:List Str}{k:Nat}{sp:Sp}(F:Fun K x qual st f fd)(S:FnScope N ps (ζ6 st))(len:∀ vs H Q E,sp vs H Q E->vs.length=ps.length)
  (hbody:∀(cdv:Value) (A:Around) (outer:List Env) (s:Shared) (H:Hp) (vs:List V) (Q:VK) (E:XK),Room k (A.deeper (envOfC qual (ζ6 st) s.heap.objs.size f cdv))->sp vs H Q E ->
   ∃ t,PSs (cxOf CX0 P w K mg base N qual (ζ6 st) f cdv A outer s H E).nox (defBody st) t/\t { nx:=fun _ H'=>Q .non H',rt:=Q } (start N vs) H):FnOk P w K mg base CX0 (k+1) f fd ps sp:=by
 obtain⟨oc,od,kV,doc,pm,an,cdv,ct,osl,rfl,lk,hcd⟩:=F.ex
 refine fn_of lk hcd S len fun A outer s H vs Q E hr hsp=>?_
 obtain⟨t,h,q⟩:=hbody cdv A outer s H vs Q E hr hsp
 exact⟨t,h.nox,q⟩
theorem Fun.binds{x qual:Str}{st:Stmt}{f:Addr}{fd:FuncData}{ps:List Str}(F:Fun K x qual st f fd)
  (h:∀(kV doc pm:Value) (an:Option Addr) (cdv ct:Value) (us:List Value),us.length=ps.length->bindArgs (PySem.W.fnOf x qual (defArgs st) (defBody st) (ζ6 st) .none kV doc pm an cdv ct) ⟨us,[]⟩=pure (ps.zip us)):Binds K fd ps []:=by
 obtain⟨oc,od,kV,doc,pm,an,cdv,ct,osl,rfl,lk,hcd⟩:=F.ex
 exact .all (h kV doc pm an cdv ct)
theorem fun_mk{x qual:Str}{st:Stmt}{f:Addr}{oc:Value}{od an:Option Addr}{osl:Array (Option Value)}{kV doc pm cdv ct:Value}(l:K.lookup f=some ⟨oc,od,.func (PySem.W.fnOf x qual (defArgs st) (defBody st) (ζ6 st) .none kV doc pm an cdv ct),osl⟩)
  (c:PySem.W.codeIn K cdv qual=true) (k:PySem.W.keepIn K (.ref f)=true):Fun K x qual st f (PySem.W.fnOf x qual (defArgs st) (defBody st) (ζ6 st) .none kV doc pm an cdv ct):=⟨⟨oc,od,kV,doc,pm,an,cdv,ct,osl,rfl,l,c⟩,k⟩
end
theorem hu_of{A:Around}{k:Nat}(hr:Room k A):A.units+1<cLine:=Nat.lt_of_le_of_lt (Nat.add_le_add_left (by decide:1<=64) _) hr.units
section
variable{X:Cx}
theorem pv (i:Nat) {x:Str} {pos:Pos} (hN:X.N[i]?=some x:=by rfl) (hv:Vis X.env.scope x:=by first | exact Or.inl rfl | exact Or.inr (Or.inl rfl) | exact Or.inr (Or.inr rfl)) (hd:(x == ("__debug__":Str))=false:=by decide)
  (hcd:(x == ("__classdict__":Str))=false:=by decide):PE X (.Name x pos) (tVar i):=pe_var hN hv hd hcd
end
theorem iteF{A B:Prop}(h:B):if false=true then A else B:=by
 rw[if_neg Bool.false_ne_true]
 exact h
theorem iteT{A B:Prop}(h:A):if true=true then A else B:=by
 rw[if_pos rfl]
 exact h
theorem ite2{c A B:Prop}[Decidable c](h1:c->A)(h2:¬ c->B):if c then A else B:=by
 by_cases h:c
 ·rw[if_pos h]
  exact h1 h
 ·rw[if_neg h]
  exact h2 h
def Same(H H':Hp):Prop:=∀ b o,H b=some o->H' b=some o
theorem Same.refl(H:Hp):Same H H:=fun _ _ h=>h
theorem Same.trans{H H1 H2:Hp}(a:Same H H1)(b:Same H1 H2):Same H H2:=fun c o h=>b c o (a c o h)
theorem Same.free{H H':Hp}(e:Same H H'){l:Addr}(h:H' l=Option.none):H l=Option.none:=by
 cases q:H l with
 | none=>rfl
 | some o =>
  rw[e l o q]at h
  cases h
theorem Same.seq{K:PySem.W.Frag}{H H':Hp}{a:Addr}{xs:List V}(e:Same H H')(h:SqL K H a xs):SqL K H' a xs:=by
 rcases h with (h | ⟨o,h⟩) | h
 ·exact .inl (.inl (e _ _ h))
 ·exact .inl (.inr ⟨o,e _ _ h⟩)
 ·exact .inr h
def PTs(X:Cx)(ifs:List Expr)(t:TT):Prop :=
 ∀(pins:List (Addr × Obj)) (s:Shared) (σ:St) (H:Hp) (Q:Bool->Hp->Prop),Inv X pins σ H s->t σ H Q ->
  wpAny (model X.prog X.w) X.A (forIn ifs true fun c r=>if r=true then do let ok <- isTrue c X.env (eval c X.env);pure (ForInStep.yield ok) else pure (ForInStep.yield r)) (TP X pins σ Q) X.xe s
def tYes:TT:=fun _ H Q=>Q true H
theorem pts_nil{X:Cx}:PTs X [] tYes:=fun _ _ _ H _ I h=>wpAny_tests_nil ⟨H,I,h⟩
theorem pts_one{X:Cx}{c:Expr}{t:TT}(hc:PT X c t):PTs X [c] t:=fun pins s σ H Q I h=>wpAny_tests_one (hc pins s σ H Q I h)
theorem compLoop_any{prog:Program}{w:World}{A:Around}{s:Shared}{R:Result->Shared->Prop}{elt target iter:Expr}{ifs:List Expr}{scope:Scope}{pos:Pos}{it acc:Value}{env:Env}(J:Nat->Shared->Prop)
  (turn:∀ n s,J n s->wpAny (model prog w) A (pyNext it) (fun r s1=>match r with
   | none=>R (.ok .next) s1
   | some v=>wpAny (model prog w) A (letOwnedTupleGo target it v) (fun _ s2=>wpAny (model prog w) A (assign target env v) (fun _ s3 =>
     wpAny (model prog w) A (forIn ifs true fun c r=>if r=true then do let ok <- isTrue c env (eval c env);pure (ForInStep.yield ok) else pure (ForInStep.yield r)) (fun ok s4 =>
      if ok=true then wpAny (model prog w) A (eval elt env) (fun x s5 =>
       wpAny (model prog w) A (call (.builtin "list.append") [acc,x]) (fun _ s6=>∃ m,m<n/\J m s6) (fun _ _=>False) s5) (fun _ _=>False) s4
      else ∃ m,m<n/\J m s4) (fun _ _=>False) s3) (fun _ _=>False) s2) (fun _ _=>False) s1) (fun _ _=>False) s)
  (n:Nat) (h:J n s):codeAny (model prog w) A (.compLoop (.ListComp elt [⟨target,iter,ifs,0⟩] scope pos) 0 it acc env) R s:=by
 refine codeAny_loop rfl J (fun n s hI=>?_) n h
 show wpAny _ A ((compTurn (.ListComp elt [⟨target,iter,ifs,0⟩] scope pos) 0 it acc env).onRaise (fun x=>do noteFrame x env;theTreesLotGoes x)) _ _ s
 refine wpAny_noted ?_
 rw[compTurn_list]
 refine wpAny_bind (wpAny_standAt (wpAny_bind (wpAny_mono (turn n s hI) (fun r s1 h1=>?_) fun _ _ z=>z.elim)))
 cases r with
 | none=>exact wpAny_pure h1
 | some v =>
  refine wpAny_bind (wpAny_mono h1 (fun _ s2 h2=>?_) fun _ _ z=>z.elim)
  refine wpAny_bind (wpAny_mono h2 (fun _ s3 h3=>wpAny_bind (wpAny_mono h3 (fun ok s4 h4=>?_) fun _ _ z=>z.elim)) fun _ _ z=>z.elim)
  cases ok with
  | false=>exact wpAny_pure ⟨rfl,h4⟩
  | true =>
   exact wpAny_bind (wpAny_bind (wpAny_mono h4 (fun x s5 h5=>wpAny_bind (wpAny_mono h5 (fun _ s6 h6=>wpAny_pure (wpAny_pure ⟨rfl,h6⟩)) fun _ _ z=>z.elim)) fun _ _ z=>z.elim))
def closL(cells:List (Str × Addr)):List (Str × NameKind)->List (Str × Addr)->List (Str × Addr)
 | [],acc=>acc
 | (n,k) :: r,acc=>if k == .free then closL cells r ((n,(cells.lookup n).getD 0) :: acc) else closL cells r acc
theorem closure_go{env:Env}:∀(names:List (Str × NameKind)) (acc:List (Str × Addr)),(∀ y∈names,y.2=.free->∃ c,env.cells.lookup y.1=some c) ->
  (forIn names acc fun(x:Str × NameKind) (cs:List (Str × Addr))=>(if (x.2 == .free)=true then do let a <- cellOf env x.1;pure (ForInStep.yield ((x.1,a) :: cs)) else pure (ForInStep.yield cs):Sem (ForInStep (List (Str × Addr)))))=pure (closL env.cells names acc)
 | [],acc,_=>rfl
 | (n,k) :: r,acc,h=>by
  have ih:=fun acc=>closure_go r acc fun y hy=>h y (List.mem_cons_of_mem _ hy)
  rw[List.forIn_cons]
  unfold closL
  by_cases hk:(k == NameKind.free)=true
  ·obtain⟨c,hc⟩:=h (n,k) List.mem_cons_self (by simpa using hk)
   have e:cellOf env n=pure c:=by
    unfold cellOf
    rw[show env.cells.lookup n=some c from hc]
   simp only [hk,if_true,e,pure_bind]
   rw[ih,show env.cells.lookup n=some c from hc]
   rfl
  ·simp only [hk,Bool.false_eq_true,if_false,pure_bind]
   exact ih acc
theorem closure_of{env:Env}{scope:Scope}(h:∀ y∈scope.names,y.2=.free->∃ c,env.cells.lookup y.1=some c):closureFor scope env=pure (closL env.cells scope.names []):=by
 have e:=closure_go scope.names [] h
 unfold closureFor
 simp only [bind_pure]at e ⊢
 exact e
theorem closL_sub{env:Env}:∀(names:List (Str × NameKind)) (acc:List (Str × Addr)),(∀ y∈names,y.2=.free->∃ c,env.cells.lookup y.1=some c)->(∀ x c,acc.lookup x=some c->env.cells.lookup x=some c) ->
  ∀ x c,(closL env.cells names acc).lookup x=some c->env.cells.lookup x=some c
 | [],acc,_,ha,x,c,e=>ha x c e
 | (n,k) :: r,acc,h,ha,x,c,e=>by
  unfold closL at e
  by_cases hk:(k == NameKind.free)=true
  ·rw[if_pos hk]at e
   obtain⟨d,hd⟩:=h (n,k) List.mem_cons_self (by simpa using hk)
   refine closL_sub r _ (fun y hy=>h y (List.mem_cons_of_mem _ hy)) (fun y b q=>?_) x c e
   rw[List.lookup_cons]at q
   by_cases hy:(y == n)=true
   ·rw[hy]at q
    have hy':y=n:=by simpa using hy
    have hd':env.cells.lookup n=some d:=hd
    rw[hd']at q
    have q':d=b:=Option.some.inj q
    rw[hy',hd',q']
   ·have hy':(y == n)=false:=by simpa using hy
    rw[hy']at q
    exact ha y b q
  ·rw[if_neg hk]at e
   exact closL_sub r acc (fun y hy=>h y (List.mem_cons_of_mem _ hy)) ha x c e
theorem closL_acc{cells:List (Str × Addr)}:∀(names:List (Str × NameKind)) (acc:List (Str × Addr)) (x:Str),(acc.lookup x).isSome=true->((closL cells names acc).lookup x).isSome=true
 | [],_,_,h=>h
 | (n,k) :: r,acc,x,h=>by
  unfold closL
  by_cases hk:(k == NameKind.free)=true
  ·rw[if_pos hk]
   refine closL_acc r _ x ?_
   rw[List.lookup_cons]
   by_cases hx:(x == n)=true
   ·rw[hx];rfl
   ·have hx':(x == n)=false:=by simpa using hx
    rw[hx'];exact h
  ·rw[if_neg hk]
   exact closL_acc r acc x h
theorem closL_has{cells:List (Str × Addr)}:∀(names:List (Str × NameKind)) (acc:List (Str × Addr)) (x:Str),(x,NameKind.free)∈names->((closL cells names acc).lookup x).isSome=true
 | [],_,_,h=>nomatch h
 | (n,k) :: r,acc,x,h=>by
  unfold closL
  rcases List.mem_cons.mp h with e | h
  ·cases e
   rw[if_pos (by rfl)]
   refine closL_acc r _ _ ?_
   rw[List.lookup_cons]
   simp
  ·by_cases hk:(k == NameKind.free)=true
   ·rw[if_pos hk];exact closL_has r _ x h
   ·rw[if_neg hk];exact closL_has r _ x h
theorem lookup_relabel{env:Env}:∀ {names:List (Str × NameKind)} {x:Str} {k:NameKind},(names.map fun(n,k)=>if (k == NameKind.free && env.scope.kind == .function && env.kindOf n == some .cell) then (n,NameKind.cell) else (n,k)).lookup x=some k ->
  (k=.cell\/k=.free)->(x,NameKind.free)∈names\/(x,NameKind.cell)∈names
 | [],_,_,h,_=>by simp at h
 | (n,q) :: r,x,k,h,hk=>by
  have h':List.lookup x ((if (q == NameKind.free && env.scope.kind == .function && env.kindOf n == some .cell)=true then (n,NameKind.cell) else (n,q)) :: r.map fun(n,k)=>if (k == NameKind.free && env.scope.kind == .function && env.kindOf n == some .cell) then (n,NameKind.cell) else (n,k))=some k:=h
  by_cases hc:(q == NameKind.free && env.scope.kind == .function && env.kindOf n == some .cell)=true
  ·rw[if_pos hc,List.lookup_cons]at h'
   have hq:q=.free:=by
    simp only [Bool.and_eq_true,beq_iff_eq]at hc
    exact hc.1.1
   by_cases hx:(x == n)=true
   ·have hx':x=n:=by simpa using hx
    subst hx';subst hq
    exact .inl List.mem_cons_self
   ·have hx':(x == n)=false:=by simpa using hx
    rw[hx']at h'
    rcases lookup_relabel (env:=env) h' hk with z | z
    ·exact .inl (List.mem_cons_of_mem _ z)
    ·exact .inr (List.mem_cons_of_mem _ z)
  ·rw[if_neg hc,List.lookup_cons]at h'
   by_cases hx:(x == n)=true
   ·rw[hx]at h'
    have hx':x=n:=by simpa using hx
    subst hx'
    have e:q=k:=Option.some.inj h'
    subst e
    rcases hk with rfl | rfl
    ·exact .inr List.mem_cons_self
    ·exact .inl List.mem_cons_self
   ·have hx':(x == n)=false:=by simpa using hx
    rw[hx']at h'
    rcases lookup_relabel (env:=env) h' hk with z | z
    ·exact .inl (List.mem_cons_of_mem _ z)
    ·exact .inr (List.mem_cons_of_mem _ z)
theorem relabel_free{env:Env}:∀ {names:List (Str × NameKind)} {x:Str},names.lookup x=some .free ->
  (names.map fun(n,k)=>if (k == NameKind.free && env.scope.kind == .function && env.kindOf n == some .cell) then (n,NameKind.cell) else (n,k)).lookup x=some .cell \/
  (names.map fun(n,k)=>if (k == NameKind.free && env.scope.kind == .function && env.kindOf n == some .cell) then (n,NameKind.cell) else (n,k)).lookup x=some .free
 | [],_,h=>by simp at h
 | (n,q) :: r,x,h=>by
  show List.lookup x ((if (q == NameKind.free && env.scope.kind == .function && env.kindOf n == some .cell)=true then (n,NameKind.cell) else (n,q)) :: _)=_\/List.lookup x ((if (q == NameKind.free && env.scope.kind == .function && env.kindOf n == some .cell)=true then (n,NameKind.cell) else (n,q)) :: _)=_
  rw[List.lookup_cons]at h
  by_cases hc:(q == NameKind.free && env.scope.kind == .function && env.kindOf n == some .cell)=true
  ·rw[if_pos hc,List.lookup_cons]
   by_cases hx:(x == n)=true
   ·rw[hx];exact .inl rfl
   ·have hx':(x == n)=false:=by simpa using hx
    rw[hx']at h ⊢
    exact relabel_free h
  ·rw[if_neg hc,List.lookup_cons]
   by_cases hx:(x == n)=true
   ·rw[hx]at h ⊢;exact .inr h
   ·have hx':(x == n)=false:=by simpa using hx
    rw[hx']at h ⊢
    exact relabel_free h
def cxC(X:Cx)(N':List Str)(scope:Scope)(C:Addr)(s:Shared)(H:Hp)(fp:List Addr):Cx where
 prog:=X.prog
 w:=X.w
 K:=X.K
 mg:=X.mg
 base:=X.base
 A:=X.A
 N:=N'
 s₀:=s
 H₀:=H
 env:=compEnvC scope (closL X.env.cells scope.names []) C X.env
 outer:=X.stack
 stack:=X.stack
 ex:=fp
 fn:=fun _=>false
 calm:=X.calm
 pn:=[]
 xe:=fun _ _=>False
def σC(o:Nat)(fr:List Nat)(σ:St):St:=List.replicate o none++fr.map fun j=>(σ[j]?).join
structure CompScope (sc0:Scope) (N N':List Str) (o:Nat) (fr:List Nat) (scope:Scope):Prop where
 kind:scope.kind=.function
 nocell:(scope.names.all fun y=>y.2 != .cell)=true
 loc:(scope.names.all fun y=>y.2 != .local || scope.names.lookup y.1 == some .local)=true
 free:(scope.names.all fun y=>y.2 != .free || sc0.names.lookup y.1 == some .cell || sc0.names.lookup y.1 == some .free)=true
 len:N'.length=o+fr.length
 sees:((List.range fr.length).all fun j=>match fr[j]? with
  | none=>false
  | some y=>match N[y]? with
   | none=>false
   | some x=>N'[o+j]? == some x && scope.names.lookup x == some .free)=true
def LcR(J:It)(g:TG)(tt:TT)(te:TE)(o:Nat)(fr:List Nat)(σ:St)(H1:Hp)(Q:VK):Prop:=∃ W:Nat->Nat->List V->Hp->Prop,(∃ m,W 0 m [] H1)/\∀ i m ys H,W i m ys H ->
 (J.stop i H/\ys.length<=sizeLine/\∀ p,H p=none->Q (.ref p) (upd H p (.lst ys))) \/
 (J.go i H/\ys.length<sizeLine/\∀ x H',J.yld i H x H'->g x (σC o fr σ) H' fun σ2 H2=>tt σ2 H2 fun b H3=>if b=true then te σ2 H3 fun y H4=>∃ m',m'<m/\W (i+1) m' (ys++[y]) H4 else ∃ m',m'<m/\W (i+1) m' ys H3)
def tLc(wi:TI)(g:TG)(tt:TT)(te:TE)(o:Nat)(fr:List Nat):TE:=fun σ H Q=>wi σ H fun J H1=>LcR J g tt te o fr σ H1 Q
def OwnG(o:Nat)(g:TG):Prop:=∀(x:V) (ow fr:St) (H:Hp) (Q:St->Hp->Prop),ow.length=o->g x (ow++fr) H Q->g x (ow++fr) H fun σ2 H2=>(∃ ow',ow'.length=o/\σ2=ow'++fr)/\Q σ2 H2
theorem own_name{o i:Nat}(h:i<o):OwnG o (gName i):=fun x ow fr H Q hl q=>⟨⟨ow.set i (some x),by rw[List.length_set];exact hl,by rw[List.set_append_left _ _ (by omega)]⟩,q⟩
def OwnGs(o:Nat)(g:TGs):Prop:=∀(xs:List V) (ow fr:St) (H:Hp) (Q:St->Hp->Prop),ow.length=o->g xs (ow++fr) H Q->g xs (ow++fr) H fun σ2 H2=>(∃ ow',ow'.length=o/\σ2=ow'++fr)/\Q σ2 H2
theorem own_nil{o:Nat}:OwnGs o gNil:=fun _ ow _ _ _ hl ⟨e,q⟩=>⟨e,⟨ow,hl,rfl⟩,q⟩
theorem own_cons{o i:Nat}{u:TGs}(h:i<o)(h2:OwnGs o u):OwnGs o (gCons (gName i) u):=by
 rintro xs ow fr H Q hl ⟨v,r,rfl,q⟩
 refine⟨v,r,rfl,?_⟩
 have q':u r ((ow++fr).set i (some v)) H Q:=q
 show u r ((ow++fr).set i (some v)) H _
 rw[List.set_append_left _ _ (by omega)]at q' ⊢
 exact h2 r (ow.set i (some v)) fr H Q (by rw[List.length_set];exact hl) q'
theorem own_tup{K:PySem.W.Frag}{o n:Nat}{u:TGs}(h:OwnGs o u):OwnG o (gTup K n u):=by
 rintro x ow fr H Q hl ⟨a,xs,rfl,hs,hn,q⟩
 exact⟨a,xs,rfl,hs,hn,h xs ow fr H Q hl q⟩
section
variable{X:Cx}{pins:List (Addr × Obj)}{σ:St}{H:Hp}{s:Shared}{N':List Str}{o:Nat}{fr:List Nat}{scope:Scope}{fp:List Addr}
abbrev accObj (us:List Value):Obj:={ cls:=.type "list",data:=.seq us.toArray us.length }
theorem CompScope.nocell'{sc0:Scope}{N:List Str}(S:CompScope sc0 N N' o fr scope):∀ y∈scope.names,y.2≠.cell:=fun y hy e=>by
 have q:=List.all_eq_true.mp S.nocell y hy
 rw[e]at q
 exact absurd q (by decide)
theorem CompScope.loc'{sc0:Scope}{N:List Str}(S:CompScope sc0 N N' o fr scope):∀ y∈scope.names,y.2=.local->scope.names.lookup y.1=some .local:=fun y hy e=>by
 have q:=List.all_eq_true.mp S.loc y hy
 rw[e]at q
 simpa using q
theorem CompScope.free'{sc0:Scope}{N:List Str}(S:CompScope sc0 N N' o fr scope)(hs:X.env.scope=sc0):∀ y∈scope.names,y.2=.free->X.env.kindOf y.1=some .cell\/X.env.kindOf y.1=some .free:=fun y hy e=>by
 have q:=List.all_eq_true.mp S.free y hy
 rw[e]at q
 show X.env.scope.names.lookup y.1=_\/X.env.scope.names.lookup y.1=_
 rw[hs]
 simpa using q
theorem CompScope.sees'{sc0:Scope}{N:List Str}(S:CompScope sc0 N N' o fr scope):∀ j y,fr[j]?=some y->∃ x,N[y]?=some x/\N'[o+j]?=some x/\scope.names.lookup x=some .free:=fun j y e=>by
 have hj:j<fr.length:=(List.getElem?_eq_some_iff.mp e).1
 have q:=List.all_eq_true.mp S.sees j (List.mem_range.mpr hj)
 rw[e]at q
 dsimp only at q
 cases ex:N[y]? with
 | none=>rw[ex]at q;cases q
 | some x =>
  rw[ex]at q
  dsimp only at q
  rw[Bool.and_eq_true,beq_iff_eq,beq_iff_eq]at q
  exact⟨x,rfl,q.1,q.2⟩
theorem CompScope.cells{sc0:Scope}{N0:List Str}(S:CompScope sc0 N0 N' o fr scope)(hs:X.env.scope=sc0)(I:Inv X pins σ H s):∀ y∈scope.names,y.2=.free->∃ c,X.env.cells.lookup y.1=some c:=fun y hy e=>I.ok.has y.1 (S.free' hs y hy e)
theorem CompScope.sub{sc0:Scope}{N0:List Str}(S:CompScope sc0 N0 N' o fr scope)(hs:X.env.scope=sc0)(I:Inv X pins σ H s):∀ x c,(closL X.env.cells scope.names []).lookup x=some c->X.env.cells.lookup x=some c :=
 closL_sub (env:=X.env) scope.names [] (S.cells hs I) (fun _ _ z=>nomatch z)
theorem Inv.block{sc0:Scope}{N0:List Str}(S:CompScope sc0 N0 N' o fr scope)(hs:X.env.scope=sc0)(hN:X.N=N0)(I:Inv X pins σ H s)(hf:∀ b∈fp,FpOk X pins H b)(hfl:∀ b∈fp,b<s.heap.objs.size){h1:Heap}{C D:Addr}{m:Str->Option Value}{us:List Value}{t:Nat}
  (hC:s.heap.objs.size<=C) (hD:s.heap.objs.size<=D) (hDC:D≠C)
  (old:∀ b ob,s.heap.get? b=some ob->h1.get? b=some ob) (hn:h1.Ns C m) (ha:h1.get? D=some (accObj us)):Inv (cxC X N' scope C s H fp) [(D,accObj us)] (σC o fr σ) H { s with heap:=h1,toks:=t }:=by
 have sub:=S.sub hs I
 have frC:∀ b∈frs X.stack,b<s.heap.objs.size:=fun b hb=>by
  obtain⟨_,ob,ho,_⟩:=I.stack.mem hb
  exact Heap.lt_size ho
 refine⟨⟨I.ok.mod,S.kind,I.ok.glob,I.ok.blt,hC,fun x y c h1 h2=>I.ok.inj x y c (sub x c h1) (sub y c h2),fun x hx=>?_,fun x c hfx _=>(nomatch hfx),I.ok.hd,I.ok.frames,.inl rfl,fun b hb=>?_,I.bs,Nat.le_trans I.ok.bsz I.sz,fun b ob e hb=>?_,fun b hb hb'=>?_,I.stack,I.stkFree⟩,
  rfl,I.bare,Un.kept old,⟨m,hn,fun i x v e1 e2 e3=>?_⟩,fun x c e=>?_,I.hok.fresh hC,fun x c e=>I.freeC x c (sub x c e),fun p hp=>?_,I.hok.kept old,?_⟩
 ·have hx':(relabel scope X.env).names.lookup x=some .cell\/(relabel scope X.env).names.lookup x=some .free:=hx
  have key:(x,NameKind.free)∈scope.names:=by
   rcases hx' with z | z
   ·rcases lookup_relabel (env:=X.env) z (.inl rfl) with q | q
    ·exact q
    ·exact absurd rfl (S.nocell' _ q)
   ·rcases lookup_relabel (env:=X.env) z (.inr rfl) with q | q
    ·exact q
    ·exact absurd rfl (S.nocell' _ q)
  exact Option.isSome_iff_exists.mp (closL_has (cells:=X.env.cells) scope.names [] x key)
 ·obtain⟨f0,f1,f2,f3,f4,f5⟩:=hf b hb
  exact⟨Nat.ne_of_lt (Nat.lt_of_lt_of_le (hfl b hb) hC),fun x c e=>f4 x c (sub x c e)⟩
 ·obtain⟨f0,f1,f2,f3,f4,f5⟩:=hf b hb
  rcases f3 with z | z
  ·exact I.ok.noex b ob e z
  ·exact absurd (Nat.lt_of_lt_of_le (Heap.lt_size e) (Nat.le_trans I.ok.bsz z)) (Nat.lt_irrefl _)
 ·obtain⟨f0,f1,f2,f3,f4,f5⟩:=hf b hb
  rcases List.mem_cons.mp (I.stkSub b hb') with z | z
  ·exact f1 z
  ·exact f2 z
 ·unfold σC at e2
  by_cases hi:i<o
  ·rw[List.getElem?_append_left (by rw[List.length_replicate];exact hi),List.getElem?_replicate,if_pos hi]at e2
   cases e2
  ·rw[List.getElem?_append_right (by rw[List.length_replicate];exact Nat.not_lt.mp hi),List.length_replicate,List.getElem?_map]at e2
   cases hy:fr[i - o]? with
   | none=>rw[hy]at e2;cases e2
   | some y =>
    rw[hy]at e2
    have e2':(σ[y]?).join=some v:=Option.some.inj e2
    have e3':σ[y]?=some (some v):=by
     cases q:σ[y]? with
     | none=>rw[q]at e2';cases e2'
     | some z=>rw[q]at e2';exact congrArg some e2'
    obtain⟨x',s2,s1,s3⟩:=S.sees' (i - o) y hy
    rw[<- hN]at s2
    rw[show o+(i - o)=i by omega]at s1
    have ex:x=x':=by
     have e1':N'[i]?=some x:=e1
     rw[e1']at s1
     exact Option.some.inj s1
    subst ex
    have hmem:=PySem.mem_of_lookup s3
    obtain⟨m0,_,hl⟩:=I.loc
    have hk:=S.free' hs (x,.free) hmem rfl
    obtain⟨u,ru,lk⟩:=hl y x v s2 e3' (by rcases hk with z | z;exact .inr (.inl z);exact .inr (.inr z))
    refine⟨u,ru,.inr ⟨relabel_free (env:=X.env) s3,?_⟩⟩
    obtain⟨c',hc'⟩:=Option.isSome_iff_exists.mp (closL_has (cells:=X.env.cells) scope.names [] x hmem)
    refine⟨c',hc',?_⟩
    rcases lk with ⟨z,_⟩ | ⟨_,c,e,ob,ho,hd⟩
    ·rcases hk with z' | z'
     ·rw[z]at z';cases z'
     ·rw[z]at z';cases z'
    ·have ec:c=c':=by
      have:=sub x c' hc'
      rw[e]at this
      exact Option.some.inj this
     subst ec
     exact⟨ob,old _ _ ho,hd⟩
 ·obtain⟨v,ob,ho,hd⟩:=I.cell x c (sub x c e)
  exact⟨v,ob,old _ _ ho,hd⟩
 ·have e:p=(D,accObj us):=by simpa using (show p∈([]:List (Addr × Obj))++[(D,accObj us)] from hp)
  subst e
  refine⟨ha,I.hok.fresh hD,hDC,fun z=>absurd (Nat.lt_of_lt_of_le (frC D z) hD) (Nat.lt_irrefl _),fun v z=>nomatch z⟩
 ·show(σC o fr σ).length=N'.length
  unfold σC
  rw[List.length_append,List.length_replicate,List.length_map,S.len]
theorem Inv.unblock(I:Inv X pins σ H s)(hf:∀ b∈fp,FpOk X pins H b){C D:Addr}{us:List Value}{ys:List V}{σ':St}{H':Hp}{s':Shared}(hC:s.heap.objs.size<=C)(hD:s.heap.objs.size<=D)(hDC:D≠C)
  (I':Inv (cxC X N' scope C s H fp) [(D,accObj us)] σ' H' s') (r:Vals ys us) (hz:ys.length<=sizeLine):∃ oC m,s'.heap.get? C=some oC/\s'.heap.Ns C m/\Inv X (pins++[(C,oC)]) σ (upd H' D (.lst ys)) s':=by
 obtain⟨aD,nD,_,_,_⟩:=I'.pin (D,accObj us) (by simp)
 have aD:s'.heap.get? D=some (accObj us):=aD
 have nD:H' D=none:=nD
 have un:Un (frs X.stack) fp H H' s.heap s'.heap:=I'.base
 have lt:∀ b u,H b=some u->b≠D:=fun b u e=>Nat.ne_of_lt (Nat.lt_of_lt_of_le (I.hok.lt e) hD)
 have un2:Un (frs X.stack) fp H (upd H' D (.lst ys)) s.heap s'.heap:=by
  refine⟨un.keep,un.slot,fun b ob e n hx=>?_,un.there,fun b xs e=>?_,fun b ob u e=>?_,fun b ps e=>?_⟩
  ·rw[upd_ne (Nat.ne_of_lt (Nat.lt_of_lt_of_le (Heap.lt_size e) hD))]
   exact un.free b ob e n hx
  ·rw[upd_ne (lt b _ e)];exact un.tups b xs e
  ·rw[upd_ne (lt b _ e)];exact un.frzs b ob u e
  ·obtain⟨more,q⟩:=un.tbls b ps e
   exact⟨more,by rw[upd_ne (lt b _ e)];exact q⟩
 have hok:HOk X.prog X.w (upd H' D (.lst ys)) s'.heap:=fun b u e=>by
  by_cases hb:b=D
  ·subst hb
   rw[ζ1]at e
   cases e
   exact⟨hz,us,us.length,r,aD⟩
  ·rw[upd_ne hb]at e
   exact(I'.hok b u e).stay (fun c v _ q=>q) (fun c q=>by rw[upd_ne (ne_of_none q nD)];exact q) fun c xs q=>by rw[upd_ne (ne_of_none q nD)];exact q
 have os:s'.os=s.os:=I'.os
 have J:Inv X pins σ (upd H' D (.lst ys)) s':=I.call' (ch:=fp) os un2 hok I'.bare fun b hb=>by
  obtain⟨f0,f1,f2,f3,f4,f5⟩:=hf b hb
  exact⟨f3,f1,f4,f5⟩
 obtain⟨m,hn,_⟩:=I'.loc
 have hn:s'.heap.Ns C m:=hn
 obtain⟨oC,es,ep,hoC,hdC,_⟩:=id hn
 refine⟨oC,m,hoC,hn,J.pins_of fun p hp=>?_⟩
 rcases List.mem_append.mp hp with z | z
 ·exact J.pin p (List.mem_append_right _ z)
 ·have e:p=(C,oC):=by simpa using z
  subst e
  have nC:H' C=none:=I'.free
  refine⟨hoC,by rw[upd_ne (Ne.symm hDC)];exact nC,Nat.ne_of_gt (Nat.lt_of_lt_of_le I.lt hC),I.nofs hC,fun v z=>?_⟩
  have z':oC.data=.cell v:=z
  rw[hdC]at z'
  cases z'
end
section
variable{X:Cx}{N':List Str}{o:Nat}{fr:List Nat}{scope:Scope}{elt tg iter:Expr}{ifs:List Expr}{pos:Pos}{wi:TI}{g:TG}{tt:TT}{te:TE}
theorem lc_run(hc:X.calm=true){sc0:Scope}{N0:List Str}(S:CompScope sc0 N0 N' o fr scope)(hi:PI X tg iter wi)(ho:OwnG o g)
  (hg:∀(C:Addr) (s:Shared) (H:Hp) (fp:List Addr),PG (cxC X N' scope C s H fp) tg g)
  (ht:∀(C:Addr) (s:Shared) (H:Hp) (fp:List Addr),PTs (cxC X N' scope C s H fp) ifs tt)
  (he:∀(C:Addr) (s:Shared) (H:Hp) (fp:List Addr),PE (cxC X N' scope C s H fp) elt te)
  (hs:∀ x,foldedSetIterable iter X.env x=pure x) (hsc:X.env.scope=sc0) (hN0:X.N=N0) {pins:List (Addr × Obj)} {s:Shared} {σ:St} {H:Hp} {Qv:VK} (I:Inv X pins σ H s) (h:tLc wi g tt te o fr σ H Qv)
  {use:Option (Value->Sem Unit)} {Q:Value->Shared->Prop} {E:Value->Shared->Prop}
  (hE:∀ e s',X.xe e s'->E e s')
  (fin:∀(C oC D:_) (m:Str->Option Value) (H':Hp) (ys:List V) (s':Shared),Inv X (pins++[(C,oC)]) σ (upd H' D (.lst ys)) s'->Qv (.ref D) (upd H' D (.lst ys))->s'.heap.Ns C m->H' C=none->C≠D ->
   C≠X.env.locals->X.s₀.heap.objs.size<=C->(∀ x c,X.env.cells.lookup x=some c->c≠C)->(∀ p∈X.pn++pins,p.1≠C)->compPost (model X.prog X.w) X.A E use Q (.ref D) C (.ok .next) s') :
  wpAny (model X.prog X.w) X.A (comprehension (.ListComp elt [⟨tg,iter,ifs,0⟩] scope pos) scope X.env (firstIterPos [⟨tg,iter,ifs,0⟩] pos) (newList []) false (eval iter X.env) use) Q E s:=by
 refine wpAny_comprehension_free (use:=use) rfl hs (closure_of (S.cells hsc I)) S.kind S.loc' (wpAny_mono (hi pins s σ H _ I h) (fun xv s1 h1=>wpAny_mono h1 (fun itv s2 h2=>?_) hE) hE)
 obtain⟨it,fp,tn,J,H2,rfl,I2,T,st2,f2,W,⟨m0,w0⟩,turn⟩:=h2
 have hfl:∀ b∈fp,b<s2.heap.objs.size:=fun b hb=>by
  obtain⟨ob,e,_⟩:=T.obj 0 _ st2 b hb
  exact Heap.lt_size e
 refine wpAny_newObj_type (wpAny_newFunctionEnv S.nocell' (by intro y hy;simp at hy) (fun h1 hns1 hsb1=>?_) S.kind)
 dsimp only at hns1 hsb1 ⊢
 generalize hH2:s2.heap.push { cls:=.type "list",dict:=none,data:=.seq ([]:List Value).toArray }=G at hns1 hsb1 ⊢
 have hCe:G.objs.size=s2.heap.objs.size+1:=by rw[<- hH2,Heap.size_push]
 have hC:s2.heap.objs.size<=G.objs.size:=by rw[hCe];exact Nat.le_succ _
 have hDC:s2.heap.objs.size≠G.objs.size:=by rw[hCe];exact Nat.ne_of_lt (Nat.lt_succ_self _)
 have old:∀ b ob,s2.heap.get? b=some ob->h1.get? b=some ob:=fun b ob e =>
  hsb1.extBut b ob (Nat.ne_of_lt (Nat.lt_of_lt_of_le (Heap.lt_size e) hC)) (Heap.get?_push_of_some _ (hH2 ▸ Heap.get?_push_of_some _ e))
 have hacc:h1.get? s2.heap.objs.size=some (accObj []):=hsb1.extBut _ _ hDC (Heap.get?_push_of_some _ (hH2 ▸ Heap.get?_push_size _ rfl))
 have st1:tn 0 h1:=T.keep _ _ _ st2 fun b _ ob e=>old b ob e
 have fpC:∀ {us:List Value} {H':Hp},(∀ b∈fp,H' b=none)->∀ b∈fp,FpOk (cxC X N' scope G.objs.size s2 H2 fp) [(s2.heap.objs.size,accObj us)] H' b:=fun {us H'} hn b hb=>by
  obtain⟨f0,f1,f3,f4,f5,f6⟩:=f2 b hb
  refine⟨hn b hb,Nat.ne_of_lt (Nat.lt_of_lt_of_le (hfl b hb) hC),fun z=>?_,.inl hb,fun x c e=>f5 x c (S.sub hsc I2 x c e),fun p hp=>?_⟩
  ·rcases List.mem_cons.mp (I2.stkSub b z) with q | q
   ·exact f1 q
   ·exact f3 q
  ·have e:p=(s2.heap.objs.size,accObj us):=by simpa using (show p∈([]:List (Addr × Obj))++[(s2.heap.objs.size,accObj us)] from hp)
   subst e
   exact Nat.ne_of_gt (hfl b hb)
 have loop:∀ s3:Shared,s3={ s2 with heap:=h1,toks:=s2.toks+([]:List (Str × Value)).length } ->
   codeAny (model X.prog X.w) X.A (.compLoop (.ListComp elt [⟨tg,iter,ifs,0⟩] scope pos) 0 (.ref it) (.ref s2.heap.objs.size) (compEnvC scope (closL X.env.cells scope.names []) G.objs.size X.env))
    (compPost (model X.prog X.w) X.A E use Q (.ref s2.heap.objs.size) G.objs.size) s3:=by
  rintro s3 rfl
  refine compLoop_any (fun n s'=>∃ i σ' H' ys us,Inv (cxC X N' scope G.objs.size s2 H2 fp) [(s2.heap.objs.size,accObj us)] σ' H' s'/\σ'=σC o fr σ/\Vals ys us/\tn i s'.heap/\(∀ b∈fp,H' b=none)/\W i n ys H') ?_ m0
   ⟨0,_,H2,[],[],I2.block S hsc hN0 f2 hfl hC (Nat.le_refl _) hDC old hns1 hacc,rfl,.nil,st1,fun b hb=>(f2 b hb).1,w0⟩
  rintro n s' ⟨i,σ',H',ys,us,I',rfl,rv,st',fr',w'⟩
  rcases turn i n ys H' w' with ⟨stop,hz,q⟩ | ⟨go,hz,step⟩
  ·refine thn (T.done (cxC X N' scope G.objs.size s2 H2 fp) rfl rfl rfl hc i _ s' _ H' _ I' (fpC fr') st' stop) fun r s4 ⟨hr,I4⟩=>?_
   subst hr
   obtain⟨oC,m,hoC,hn,J4⟩:=I2.unblock f2 hC (Nat.le_refl _) hDC I4 rv hz
   exact fin _ oC _ m H' ys s4 J4 (q _ (I4.pin (s2.heap.objs.size,accObj us) (by simp)).2.1) hn I4.free (Ne.symm hDC) (Nat.ne_of_gt (Nat.lt_of_lt_of_le I2.lt hC)) (Nat.le_trans I2.sz hC)
    (fun x c e=>by obtain⟨v,z⟩:=I2.cell x c e;exact Nat.ne_of_lt (Nat.lt_of_lt_of_le z.lt hC)) fun p hp=>Nat.ne_of_lt (Nat.lt_of_lt_of_le (Heap.lt_size (I2.pin p hp).1) hC)
  ·refine thn (T.item (cxC X N' scope G.objs.size s2 H2 fp) rfl rfl rfl hc i _ s' _ H' _ I' (fpC fr') st' go) fun r s4 ⟨u,hr,h4⟩=>?_
   subst hr
   refine thn h4 fun _ s5 ⟨x,H5,I5,r5,y5,st5,fr5⟩=>?_
   have hst:=step x H5 y5
   have hst':=ho x (List.replicate o none) (fr.map fun j=>(σ[j]?).join) H5 _ (List.length_replicate ..) hst
   have I5':=I5.pinned (fpC (us:=us) fr5) (T.obj _ _ st5)
   refine thn (hg _ _ _ _ _ s5 _ H5 x u _ I5' r5 hst') fun _ s6 ⟨σ6,H6,I6,⟨ow,hol,e6⟩,q6⟩=>?_
   subst e6
   refine thn (ht _ _ _ _ _ s6 _ H6 _ I6 q6) fun b s7 ⟨H7,I7,q7⟩=>?_
   have back:∀ {us':List Value} {σ8:St} {H8:Hp} {s8:Shared},Inv (cxC X N' scope G.objs.size s2 H2 fp) ([(s2.heap.objs.size,accObj us')]++pinsAt fp s5.heap) (ow++fr.map fun j=>(σ[j]?).join) H8 s8 ->
     Inv (cxC X N' scope G.objs.size s2 H2 fp) [(s2.heap.objs.size,accObj us')] (σC o fr σ) H8 s8/\tn (i+1) s8.heap/\∀ b∈fp,H8 b=none:=fun {us' σ8 H8 s8} I8=>by
    refine⟨I8.unpinned.weak ?_ fun j v e=>?_,T.keep _ _ _ st5 fun b hb ob e=>(I8.pin (b,ob) (List.mem_append_right _ (List.mem_append_right _ (mem_pinsAt hb e)))).1,fun b hb=>?_⟩
    ·unfold σC
     rw[List.length_append,List.length_append,List.length_replicate,hol]
    ·unfold σC at e
     by_cases hj:j<o
     ·rw[List.getElem?_append_left (by rw[List.length_replicate];exact hj),List.getElem?_replicate,if_pos hj]at e
      cases e
     ·rw[List.getElem?_append_right (by rw[List.length_replicate];exact Nat.not_lt.mp hj),List.length_replicate]at e
      rw[List.getElem?_append_right (by rw[hol];exact Nat.not_lt.mp hj),hol]
      exact e
    ·obtain⟨ob,e,_⟩:=T.obj _ _ st5 b hb
     exact(I8.pin (b,ob) (List.mem_append_right _ (List.mem_append_right _ (mem_pinsAt hb e)))).2.1
   cases b with
   | false =>
    rw[if_neg Bool.false_ne_true]at q7 ⊢
    obtain⟨m',hm,w7⟩:=q7
    obtain⟨I8,st8,fr8⟩:=back (us':=us) (σ8:=[]) I7
    exact⟨m',hm,i+1,_,H7,ys,us,I8,rfl,rv,st8,fr8,w7⟩
   | true =>
    rw[if_pos rfl]at q7 ⊢
    refine thn (he _ _ _ _ _ s7 _ H7 _ I7 q7) fun y s8 ⟨yv,H8,I8,r8,m',hm,w8⟩=>?_
    obtain⟨aD,nD,_,_,_⟩:=I8.pin (s2.heap.objs.size,accObj us) (by simp)
    have aD:s8.heap.get? s2.heap.objs.size=some (accObj us):=aD
    have nD:H8 s2.heap.objs.size=none:=nD
    have hul:us.length<=sizeLine:=by rw[<- rv.length];exact Nat.le_of_lt hz
    refine append_at (hsz:=by show us.toArray.size<=sizeLine;rw[List.size_toArray];exact hul) aD fun h9 hs9 hD9=>?_
    have hD9':h9.get? s2.heap.objs.size=some (accObj (us++[y])):=by
     rw[hD9]
     show some ({ cls:=.type "list",data:=.seq (us.toArray.push y) (us.length+1) }:Obj)=some { cls:=.type "list",data:=.seq (us++[y]).toArray (us++[y]).length }
     rw[List.length_append,List.length_singleton,List.push_toArray]
    have I9:Inv (cxC X N' scope G.objs.size s2 H2 fp) (pinsAt fp s5.heap) (ow++fr.map fun j=>(σ[j]?).join) H8 { s8 with heap:=h9 } :=
     (I8.pins_of (pins':=pinsAt fp s5.heap) fun p hp=>I8.pin p (List.mem_append_right _ (List.mem_append_right _ hp))).turned (t':=s8.toks) (it:=s2.heap.objs.size) (fun b ob hb e=>hs9.extBut b ob hb e) nD hDC (.inr (Nat.le_refl _))
      (fun x c e=>by
       obtain⟨v,z⟩:=I2.cell x c (S.sub hsc I2 x c e)
       exact Nat.ne_of_lt z.lt)
      fun p hp=>by
       obtain⟨hb,_⟩:=of_pinsAt (show p∈pinsAt fp s5.heap from by simpa [cxC] using hp)
       exact Nat.ne_of_lt (hfl p.1 hb)
    have I9':Inv (cxC X N' scope G.objs.size s2 H2 fp) ([(s2.heap.objs.size,accObj (us++[y]))]++pinsAt fp s5.heap) (ow++fr.map fun j=>(σ[j]?).join) H8 { s8 with heap:=h9 } :=
     I9.pins_of fun p hp=>by
      rcases List.mem_append.mp hp with z | z
      ·have e:p=(s2.heap.objs.size,accObj (us++[y])):=by simpa using z
       subst e
       refine⟨hD9',nD,hDC,fun z=>?_,fun v z=>nomatch z⟩
       obtain⟨_,ob,hob,_⟩:=I2.stack.mem z
       exact Nat.lt_irrefl _ (Heap.lt_size hob)
      ·exact I9.pin p (List.mem_append_right _ z)
    obtain⟨I10,st10,fr10⟩:=back (us':=us++[y]) (σ8:=[]) I9'
    exact⟨m',hm,i+1,_,H8,ys++[yv],us++[y],I10,rfl,Vals.append rv (.cons r8 .nil),st10,fr10,w8⟩
 exact codeAny_compStart_list (loop _ rfl) (T.self _ 0 _ _ _ st1 (loop _ rfl))
theorem pe_lc(hc:X.calm=true){sc0:Scope}{N0:List Str}(S:CompScope sc0 N0 N' o fr scope)(hi:PI X tg iter wi)(ho:OwnG o g)
  (hg:∀(C:Addr) (s:Shared) (H:Hp) (fp:List Addr),PG (cxC X N' scope C s H fp) tg g)
  (ht:∀(C:Addr) (s:Shared) (H:Hp) (fp:List Addr),PTs (cxC X N' scope C s H fp) ifs tt)
  (he:∀(C:Addr) (s:Shared) (H:Hp) (fp:List Addr),PE (cxC X N' scope C s H fp) elt te)
  (hs:∀ x,foldedSetIterable iter X.env x=pure x:=by intro _;rfl) (hsc:X.env.scope=sc0:=by rfl) (hN0:X.N=N0:=by rfl):PE X (.ListComp elt [⟨tg,iter,ifs,0⟩] scope pos) (tLc wi g tt te o fr):=by
 intro pins s σ H Q I h
 rw[eval_ListComp]
 refine lc_run hc S hi ho hg ht he hs hsc hN0 I h (use:=none) (fun _ _ z=>z) fun C oC D m H' ys s' J q hn nC hCD hCL hCs hCc hCp=>?_
 refine⟨m,hn,fun h' hs'=>⟨.ref D,upd H' D (.lst ys),?_,rfl,q⟩⟩
 refine J.unpinned.turned (t':=s'.toks) (it:=C) (fun b ob hb e=>hs'.extBut b ob hb e) (by rw[upd_ne hCD];exact nC) hCL (.inr hCs) hCc hCp
theorem ps_lc{i:Nat}{x:Str}{px:Pos}{spos:Pos}(hc:X.calm=true)(hN:X.N.Nodup)(hx:X.N[i]?=some x)(hl:X.env.kindOf x=some .local){sc0:Scope}{N0:List Str}(S:CompScope sc0 N0 N' o fr scope)(hi:PI X tg iter wi)(ho:OwnG o g)
  (hg:∀(C:Addr) (s:Shared) (H:Hp) (fp:List Addr),PG (cxC X N' scope C s H fp) tg g)
  (ht:∀(C:Addr) (s:Shared) (H:Hp) (fp:List Addr),PTs (cxC X N' scope C s H fp) ifs tt)
  (he:∀(C:Addr) (s:Shared) (H:Hp) (fp:List Addr),PE (cxC X N' scope C s H fp) elt te)
  (hs:∀ x,foldedSetIterable iter X.env x=pure x:=by intro _;rfl) (hsc:X.env.scope=sc0:=by rfl) (hN0:X.N=N0:=by rfl)
  (hsw:swapsWith (.ListComp elt [⟨tg,iter,ifs,0⟩] scope pos) (some (.Name x px)) spos.line X.env=pure true:=by rfl) :
  PS X (.Assign [.Name x px] (.ListComp elt [⟨tg,iter,ifs,0⟩] scope pos) spos) (tAsg (tLc wi g tt te o fr) (gName i)):=by
 intro pins s σ H D I h
 rw[exec_Assign_Name_used _ _ _ _ hsw]
 refine wpAny_bind (wpAny_standAt (wpAny_bind ?_))
 show wpAny _ X.A (do let _ <- comprehension (.ListComp elt [⟨tg,iter,ifs,0⟩] scope pos) scope X.env (firstIterPos [⟨tg,iter,ifs,0⟩] pos) (newList []) false (eval iter X.env) (some (assign (.Name x px) X.env))) _ _ s
 refine wpAny_bind (wpAny_mono (lc_run (Q:=fun _ s'=>SP X pins D .next s') hc S hi ho hg ht he hs hsc hN0 I h (use:=some (assign (.Name x px) X.env)) (fun _ _ z=>z) fun C oC Dd m H' ys s' J q hn nC hCD hCL hCs hCc hCp=>?_) (fun _ s' hq=>wpAny_pure (wpAny_pure hq)) fun _ _ e=>e)
 show wpAny _ X.A (assign (.Name x px) X.env (.ref Dd)) _ _ _
 refine wpAny_assign_Name (store_ok J hN hx (.inl hl) (v:=.ref Dd) rfl (fun s2 I2=>?_) (.inr hl))
 have g1:=(I2.pin (C,oC) (by simp)).1
 have g1:s2.heap.get? C=some oC:=g1
 have n2:s2.heap.Ns C m:=by
  obtain⟨oc,es,ep,e,r⟩:=hn
  have e0:=(J.pin (C,oC) (by simp)).1
  have e0:s'.heap.get? C=some oC:=e0
  rw[e]at e0
  cases e0
  exact⟨_,es,ep,g1,r⟩
 refine⟨m,n2,fun h' hs'=>⟨_,upd H' Dd (.lst ys),?_,q⟩⟩
 exact I2.unpinned.turned (t':=s2.toks) (it:=C) (fun b ob hb e=>hs'.extBut b ob hb e) (by rw[upd_ne hCD];exact nC) hCL (.inr hCs) hCc hCp
end
section
variable{X:Cx}
theorem vals_two:∀ {x y:V} {us:List Value},Vals [x,y] us->∃ u v,us=[u,v]/\RelV x u/\RelV y v
 | _,_,_,.cons r (.cons r' .nil)=>⟨_,_,rfl,r,r'⟩
theorem ints_of_vals:∀ {ns:List Int} {us:List Value},Vals (ns.map V.int) us->IntsAre us ns
 | [],_,.nil=>.nil
 | n :: ns,_,.cons r t=>by
  obtain⟨tk,rfl⟩:=r
  exact .cons n tk (ints_of_vals t)
theorem call_rng1:CallR X (.type "range") (fun xs H Q=>∃ j:Int,xs=[.int j]/\∀ p,H p=none->Q (.ref p) (upd H p (.rng 0 j))):=by
 intro pins s σ H xs us Q I r h
 obtain⟨j,rfl,q⟩:=h
 obtain⟨u,rfl,t,rfl⟩:=vals1 r
 refine call_range_1 ?_
 exact⟨.ref s.heap.objs.size,_,I.laid (o:=.rng 0 j) (fun b u e=>Heap.get?_push_of_some _ e) (Nat.le_refl _) ⟨_,_,_,Heap.get?_push_size _ rfl⟩,rfl,q _ (I.hok.fresh (Nat.le_refl _))⟩
def rngI(lo hi:Int):List Int:=(List.range (hi - lo).toNat).map fun(i:Nat)=>lo+(i:Int)
theorem rngI_length(lo hi:Int):(rngI lo hi).length=(hi - lo).toNat:=by unfold rngI;rw[List.length_map,List.length_range]
theorem vals_rng{lo:Int}{n:Nat}:∀ {us:List Value},us.length=n->(∀(j:Nat) (v:Value),us[j]?=some v->∃ t,v=Value.int (lo+(j:Int)) t)->Vals (((List.range n).map fun(i:Nat)=>lo+(i:Int)).map V.int) us:=by
 induction n generalizing lo with
 | zero =>
  intro us h _
  rw[List.length_eq_zero_iff.mp h]
  exact .nil
 | succ n ih =>
  intro us h hv
  cases us with
  | nil=>cases h
  | cons u us =>
   rw[List.range_succ_eq_map,List.map_cons,List.map_cons]
   refine .cons ?_ ?_
   ·obtain⟨t,e⟩:=hv 0 u rfl
    exact⟨t,e⟩
   ·have q:=ih (lo:=lo+1) (us:=us) (Nat.succ.inj h) fun j v e=>by
     obtain⟨t,e'⟩:=hv (j+1) v (by simpa using e)
     refine⟨t,?_⟩
     rw[e']
     congr 1
     omega
    have e:(List.range n).map (fun(i:Nat)=>lo+1+(i:Int))=((List.range n).map Nat.succ).map (fun(i:Nat)=>lo+(i:Int)):=by
     rw[List.map_map]
     refine List.map_congr_left fun i _=>?_
     show lo+1+(i:Int)=lo+((i+1:Nat):Int)
     omega
    rw[e]at q
    exact q
theorem call_list_rng (hc:X.calm=true):CallR X (.type "list") (fun xs H Q=>∃ p lo hi,xs=[.ref p]/\H p=some (.rng lo hi)/\(-(2 ^ 62)<=lo/\lo<2 ^ 62/\-(2 ^ 62)<=hi/\hi<2 ^ 62)/\(hi - lo).toNat<=16777216 /\
  ∀ l,H l=none->Q (.ref l) (upd H l (.lst ((rngI lo hi).map V.int)))):=by
 intro pins s σ H xs us Q I r h
 obtain⟨p,lo,hi,rfl,hp,⟨b1,b2,b3,b4⟩,hz,q⟩:=h
 obtain⟨u,rfl,ru⟩:=vals1 r
 obtain rfl:u=Value.ref p:=ru
 obtain⟨t,u,v,e⟩:=(show ObjOk X.prog X.w H s.heap p (.rng lo hi) from I.hok p _ hp)
 have hn:Builtin.Range.rangeSize lo hi 1=(((hi - lo).toNat:Nat):Int):=by rw[rangeSize_one];split <;> omega
 refine call_list_range (I.ok.hd hc) (t:=t) (u:=u) (v:=v) e (small_one b1 b2 b3 b4) hn hz fun h' tk acc c' hk hS ha=>?_
 have hl:acc.toList.length=(hi - lo).toNat:=by rw[Array.length_toList];exact ha.1
 have rv:Vals ((rngI lo hi).map V.int) acc.toList:=vals_rng (lo:=lo) hl fun j w ew=>by
  obtain⟨t,e⟩:=ha.2 j w (by simpa using ew)
  exact⟨t,by rw[e,Int.mul_one]⟩
 refine⟨.ref s.heap.objs.size,_,I.laid (o:=.lst ((rngI lo hi).map V.int)) hk (Nat.le_refl _) ⟨?_,acc.toList,c',rv,?_⟩,rfl,q _ (I.hok.fresh (Nat.le_refl _))⟩
 ·rw[List.length_map,rngI_length]
  have:sizeLine=16777216:=sizeLine_eq
  omega
 ·rw[hS]
def seen(ns:List Int):List Int:=firstMet (fun i=>ns.getD i 0) ns.length
def Ite(K:PySem.W.Frag)(a:Addr):It :=
 ⟨fun i H=>∃ xs x,SqL K H a xs/\xs[i]?=some x,fun i H v H'=>∃ T x,H T=none/\v=.ref T/\H'=upd H T (.tup [.int i,x])/\∀ xs,SqL K H a xs->xs[i]?=some x,fun i H=>∃ xs,SqL K H a xs/\xs.length<=i⟩
def iEnum(K:PySem.W.Frag)(ta:TA):TI:=fun σ H R=>ta σ H fun vs H1=>∃ a,vs=[.ref a]/\(∃ xs,SqL K H1 a xs)/\R (Ite K a) H1
theorem turn_enum{P:Program}{w:World}{K:PySem.W.Frag}{elts:List Expr}{x1:Nat}{pos:Pos}(a e it:Addr)(hne:e≠it):Turn P w K (.Tuple elts x1 pos) (Ite K a) [e,it] e (fun i h=>(∃ old,IsEnum h e it i old)/\h.IsListIter it a i) where
 mem:=by simp
 obj:=fun i h st b hb=>by
  obtain⟨⟨old,he⟩,o,eo,c,d⟩:=st
  rcases List.mem_cons.mp hb with z | hb
  ·subst z
   exact⟨_,he,fun v z=>by
    have z':Data.fields _=Data.cell v:=z
    cases z'⟩
  ·have z:b=it:=by simpa using hb
   subst z
   exact⟨o,eo,fun v z=>by rw[d]at z;cases z⟩
 keep:=fun i h h' st k=>by
  obtain⟨⟨old,he⟩,hit⟩:=st
  exact⟨⟨old,k e (by simp) _ he⟩,hit.at fun o x=>k it (by simp) o x⟩
 item:=by
  intro X hP hw hK hc i pins s σ H E I hf st hg
  subst hP hw hK
  obtain⟨xs,x,hq,hx⟩:=hg
  obtain⟨⟨old,he⟩,hit⟩:=st
  obtain⟨its,rv,p,hz⟩:=I.list hq
  obtain⟨u,hu,ru⟩:=rv.get hx
  obtain⟨f0,f1,f2,f3,f4,f5⟩:=hf e (by simp)
  obtain⟨g0,g1,g2,g3,g4,g5⟩:=hf it (by simp)
  have hT0:H s.heap.objs.size=none:=I.hok.fresh (Nat.le_refl _)
  refine wpAny_pyNext_enum_item he hit p.isList (x:=u) (by simpa using hu) hne fun h' ho hit' hT hsz hk=>?_
  have ltT:∀ b ob,s.heap.get? b=some ob->b≠s.heap.objs.size:=fun b ob z=>Nat.ne_of_lt (Heap.lt_size z)
  have ltH:∀ b ob,H b=some ob->b≠s.heap.objs.size:=fun b ob z=>Nat.ne_of_lt (I.hok.lt z)
  have nof:∀ b ob,H b=some ob->b≠e/\b≠it:=fun b ob z=>⟨fun q=>(by rw[q,f0]at z;cases z),fun q=>(by rw[q,g0]at z;cases z)⟩
  have I1:Inv X pins σ (upd H s.heap.objs.size (.tup [.int i,x])) { s with heap:=h',toks:=s.toks+1 }:=by
   refine I.step (g':=s.gens) (d':=s.drawn) (ch:=[e,it]) (fun b hb=>?_) (fun b o _ _ hcx z _=>hk b o (fun q=>hcx (by simp[q])) (fun q=>hcx (by simp[q])) z) (fun b o _ _ hcx z _=>⟨o.slots,hk b o (fun q=>hcx (by simp[q])) (fun q=>hcx (by simp[q])) z⟩)
    (fun b o _ z n=>by rw[upd_ne (ltT b o z)];exact n) (fun b o hcx z=>⟨o,hk b o (fun q=>hcx (by simp[q])) (fun q=>hcx (by simp[q])) z⟩) (fun b ys z=>by rw[upd_ne (ltH b _ z)];exact z) (fun b o v z=>by rw[upd_ne (ltH b _ z)];exact z)
    (fun b ps z=>⟨#[],by rw[upd_ne (ltH b _ z),z];simp⟩) (fun m hm=>?_) (fun b v z=>?_) I.bare
   ·rcases List.mem_cons.mp hb with q | hb
    ·rw[q];exact⟨f3,f1,f4,f5⟩
    ·have q:b=it:=by simpa using hb
     rw[q];exact⟨g3,g1,g4,g5⟩
   ·obtain⟨o,es,ep,ho',r⟩:=hm
    exact⟨o,es,ep,hk _ o (Ne.symm f1) (Ne.symm g1) ho',r⟩
   ·by_cases hb:b=s.heap.objs.size
    ·subst hb
     rw[ζ1]at z
     cases z
     exact⟨by show 2<=sizeLine;decide,[.int i s.toks,u],.cons ⟨_,rfl⟩ (.cons ru .nil),⟨_,hT,rfl,_,rfl⟩⟩
    ·rw[upd_ne hb]at z
     refine(I.hok b v z).stay (fun c w' hc' q=>?_) (fun c q=>by rw[upd_ne (ltH c _ q)];exact q) fun c ys q=>by rw[upd_ne (ltH c _ q)];exact q
     rcases hc' with rfl | hc'
     ·exact hk c w' (nof c _ z).1 (nof c _ z).2 q
     ·exact hk c w' (nof c _ hc').1 (nof c _ hc').2 q
  refine⟨_,rfl,wpAny_letOwnedTupleGo_enum ho fun h2 he2 hs2=>?_⟩
  have fT:e≠s.heap.objs.size:=ltT e _ he
  have I2:Inv X pins σ (upd H s.heap.objs.size (.tup [.int i,x])) { s with heap:=h2,toks:=s.toks+1 }:=Inv.turned (s:={ s with heap:=h',toks:=s.toks+1 }) (h':=h2) (t':=s.toks+1) (it:=e) I1 (fun b o hb z=>hs2.extBut b o hb z) (by rw[upd_ne fT];exact f0) f1 f3 f4 f5
  refine⟨.ref s.heap.objs.size,_,I2,rfl,⟨_,x,hT0,rfl,rfl,fun ys hy=>by rw[I.list_inj hy hq];exact hx⟩,⟨⟨u,by simpa using he2⟩,hit'.at fun o z=>hs2.extBut it o (Ne.symm hne) z⟩,fun b hb=>?_⟩
  rcases List.mem_cons.mp hb with q | hb
  ·rw[q,upd_ne fT];exact f0
  ·have q:b=it:=by simpa using hb
   obtain⟨o,eo,_⟩:=hit
   rw[q,upd_ne (ltT it o eo)];exact g0
 done:=by
  intro X hP hw hK hc i pins s σ H E I hf st hg
  subst hP hw hK
  obtain⟨xs,hq,hx⟩:=hg
  obtain⟨⟨old,he⟩,hit⟩:=st
  obtain⟨its,rv,p,hz⟩:=I.list hq
  obtain⟨g0,g1,g2,g3,g4,g5⟩:=hf it (by simp)
  have hl:=rv.length
  exact wpAny_pyNext_enum_end (I.ok.hd hc) he hit p.isList (by simp;omega) fun h' eb=>⟨rfl,I.turned (t':=s.toks) (it:=it) (fun b o hb z=>eb b o hb z) g0 g1 g3 g4 g5⟩
 self:=fun _ _ _ _ _ st h=>let ⟨⟨_,he⟩,_⟩:=st;wpAny_pyIter_enum he h
theorem pi_enum {elts:List Expr} {x1:Nat} {tpos:Pos} {a:Expr} {ta:TA} {p pos:Pos} (hg:Gl X "enumerate") (hm:X.mg "enumerate"=none) (ha:PA X [a] ta) (hs:starEach [a] X.env=[(false,eval a X.env)]:=by rfl) :
  PI X (.Tuple elts x1 tpos) (.Call (.Name "enumerate" p) [a] [] pos) (iEnum X.K ta):=by
 intro pins s σ H R I h
 refine Call_ (ld_blt I hg hm Boot.«enumerate» (PyProof.Rows.callWith_type1 (thn (ha pos pins s σ H _ I h) fun us s1 ⟨vs,H1,I1,r1,q1⟩=>?_) hs rfl))
 obtain⟨b,e,⟨xs,hq⟩,q⟩:=q1
 subst e
 obtain⟨u,rfl,ru⟩:=vals1 r1
 obtain rfl:u=Value.ref b:=ru
 obtain⟨its,rv,pl,hz⟩:=I1.list hq
 refine call_enumerate_list pl.isList fun h' he hit hsz hk=>?_
 have I2:Inv X pins σ H1 { s1 with heap:=h' }:=I1.kept (t':=s1.toks) hk
 refine wpAny_pyIter_enum he ?_
 have nn:∀ k,s1.heap.objs.size<=k->H1 k=none:=fun k hk=>I1.hok.fresh hk
 refine⟨s1.heap.objs.size+1,[s1.heap.objs.size+1,s1.heap.objs.size],_,_,H1,rfl,I2,turn_enum b _ _ (Nat.succ_ne_self _),⟨⟨_,he⟩,hit⟩,fun c hc=>?_,q⟩
 have hle:s1.heap.objs.size<=c:=by
  rcases List.mem_cons.mp hc with q | hc
  ·rw[q];exact Nat.le_succ _
  ·have q:c=s1.heap.objs.size:=by simpa using hc
   rw[q];exact Nat.le_refl _
 exact I1.fpOk hle (nn c hle)
end
section
variable{X:Cx}
theorem kV_vals{k:Key}{y:V}{us:List Value}(r:Vals [kV k,y] us):∃ u v,us=[u,v]/\RelV (kV k) u/\RelV y v:=vals_two r
def rSetDef:V->List V->Hp->VK->Prop:=fun x vs H Q=>∃ d kvs k y,x=.ref d/\vs=[kV k,y]/\H d=some (.dK kvs)/\kvs.length<sizeLine/\(∀ v,valV kvs k=some v->Q v H)/\(valV kvs k=none->Q y (upd H d (.dK (kvs++[(k,y)]))))
theorem mt_setdefault:MtM X "dict.setdefault" rSetDef:=by
 intro pins s σ H x vs v us Q I rx rv h
 obtain⟨d,kvs,k,y,rfl,rfl,hH,hz,h1,h2⟩:=h
 cases rx
 obtain⟨uk,uy,rfl,rk,ry⟩:=kV_vals rv
 obtain⟨z,hd,ws,rel,dd⟩:=dk_of I.hok hH
 refine call_meetsIn PySem.F.slot_dict_setdefault dd.typeIs PySem.F.entry_dict_setdefault (PySem.F.args_dict_setdefault_3 _ _ _) (kt_meets_setdefault (mixKind X.prog X.w) d (kV_is rk) hd uy)
  ⟨ws,dd,by rw[<- rel.length];exact z,fun v' hv'=>?_,fun hn h' dd' hs=>?_⟩
 ·cases e:valV kvs k with
  | none =>
   have q:=rel.val k
   rw[e,hv']at q
   exact False.elim q
  | some w' =>
   have q:=rel.val k
   rw[e,hv']at q
   exact⟨w',H,I.tok _,q,h1 w' e⟩
 ·have e:valV kvs k=none:=by
   cases e:valV kvs k with
   | none=>rfl
   | some w' =>
    have q:=rel.val k
    rw[e,hn]at q
    exact False.elim q
  have he:∃ q,h'.get? d=some q:=let ⟨q,_,_,hq,_⟩:=dd';⟨q,hq⟩
  refine⟨y,_,d_write (ob:=.dK (putK kvs k y)) I (by rw[hH];exact True.intro) hs he (dk_new ?_ hd (rel.put k ry) dd'),ry,?_⟩
  ·have:=length_putK kvs k y;omega
  ·rw[putK_new y e];exact h2 e
def viewO(p d:Addr):HO:=.ext fun h=>h.IsValuesView p d
def rValues:V->List V->Hp->VK->Prop:=fun x vs H Q=>∃ d kvs,x=.ref d/\vs=[]/\H d=some (.dK kvs)/\∀ p,H p=none->Q (.ref p) (upd H p (viewO p d))
theorem mt_values:MtM X "dict.values" rValues:=by
 intro pins s σ H x vs v us Q I rx rv h
 obtain⟨d,kvs,rfl,rfl,hH,q⟩:=h
 cases rx
 cases rv
 obtain⟨z,hd,ws,rel,dd⟩:=dk_of I.hok hH
 refine call_meetsIn PySem.F.slot_dict_values dd.typeIs PySem.F.entry_dict_values (PySem.F.args_dict_values_1 _) (meets_dict_values (mixKind X.prog X.w) d hd) ⟨⟨ws,dd⟩,?_⟩
 refine⟨.ref s.heap.objs.size,_,I.laid (o:=viewO s.heap.objs.size d) (fun b u e=>Heap.get?_push_of_some _ e) (Nat.le_refl _) ?_,rfl,q _ (I.hok.fresh (Nat.le_refl _))⟩
 have e:=Heap.get?_push_size s.heap (o:={ cls:=.type "dict_values",data:=.fields #[.ref d] }) rfl
 exact⟨⟨_,e,rfl,rfl⟩,⟨_,e⟩,fun h1 h2 ⟨o,ho,r⟩ k=>⟨o,k o ho,r⟩⟩
theorem dictAt_of{P:Program}{w:World}{h:Heap}{d:Addr}{ws:List (Key × Value)}(dd:h.DictOf (mixKind P w) d ws):∃ ep,h.DictAt (mixKind P w) d ws ep:=by
 obtain⟨o,es,ep,r⟩:=dd
 exact⟨ep,o,es,r⟩
theorem vals_snd{κ:Type}:∀ {kvs:List (κ × V)} {ws:List (κ × Value)},KV kvs ws->Vals (kvs.map (·.2)) (ws.map (·.2))
 | _,_,.nil=>.nil
 | _,_,.cons r t=>.cons r.2 (vals_snd t)
theorem call_list_view (hc:X.calm=true):CallR X (.type "list") (fun xs H Q=>∃ p d kvs,xs=[.ref p]/\H p=some (viewO p d)/\H d=some (.dK kvs)/\∀ l,H l=none->Q (.ref l) (upd H l (.lst (kvs.map (·.2))))):=by
 intro pins s σ H xs us Q I r h
 obtain⟨p,d,kvs,rfl,hp,hd,q⟩:=h
 obtain⟨u,rfl,ru⟩:=vals1 r
 obtain rfl:u=Value.ref p:=ru
 obtain⟨hv,_,_⟩:=(show ObjOk X.prog X.w H s.heap p (viewO p d) from I.hok p _ hp)
 obtain⟨z,hds,ws,rel,dd⟩:=dk_of I.hok hd
 obtain⟨ep,da⟩:=dictAt_of dd
 have hl:ws.length=kvs.length:=rel.length.symm
 refine PySem.W.kdl_call (PySem.W.kdl_values (knd:=mixKind X.prog X.w) (kvs:=ws) (ep:=ep) (r:=p) (d:=d)) (I.ok.hd hc) ⟨hv,da⟩ (by omega) fun h' tk acc c' hk hS ha=>?_
 have ea:acc.toList=ws.map (·.2):=by
  refine List.ext_getElem? fun i=>?_
  cases e:acc.toList[i]? with
  | none =>
   have:ws.length<=i:=by
    have:=List.getElem?_eq_none_iff.mp e
    rw[Array.length_toList,ha.1]at this
    exact this
   rw[List.getElem?_eq_none_iff.mpr (by rw[List.length_map];exact this)]
  | some v =>
   obtain⟨k,ek⟩:=ha.2 i v (by simpa using e)
   rw[List.getElem?_map,ek]
   rfl
 refine⟨.ref s.heap.objs.size,_,I.laid (o:=.lst (kvs.map (·.2))) hk (Nat.le_refl _) ⟨by rw[List.length_map];exact z,acc.toList,c',?_,by rw[hS]⟩,rfl,q _ (I.hok.fresh (Nat.le_refl _))⟩
 rw[ea]
 exact vals_snd rel
end
inductive EqD (K:PySem.W.Frag) (H:Hp):Nat->V->V->Bool->Prop
 | flat {n:Nat} {x y:V} (fx:flatV x=true) (fy:flatV y=true):EqD K H n x y (eqV x y)
 | lsts {n:Nat} {a b:Addr} {xs ys:List V} {e:Nat->Bool} (ha:SqL K H a xs) (hb:SqL K H b ys) (hl:xs.length=ys.length) (h:∀ i x y,xs[i]?=some x->ys[i]?=some y->EqD K H n x y (e i)):EqD K H (n+1) (.ref a) (.ref b) ((List.range xs.length).all e)
 | lens {n:Nat} {a b:Addr} {xs ys:List V} (ha:SqL K H a xs) (hb:SqL K H b ys) (hl:xs.length≠ys.length):EqD K H (n+1) (.ref a) (.ref b) false
 | tups {n:Nat} {a b:Addr} {xs ys:List V} {e:Nat->Bool} (ha:SqT K H a xs) (hb:SqT K H b ys) (h:∀ i x y,xs[i]?=some x->ys[i]?=some y->EqD K H n x y (e i)) :
   EqD K H (n+1) (.ref a) (.ref b) ((List.range (min xs.length ys.length)).all e && xs.length == ys.length)
theorem eqV_self{x:V}(h:flatV x=true):eqV x x=true:=by
 cases x <;> first | rfl | (simp[eqV];done) | exact absurd (show false=true from h) Bool.false_ne_true
section
variable{X:Cx}{pins:List (Addr × Obj)}{σ:St}{H:Hp}{s:Shared}
theorem Vals.at{xs:List V}{us:List Value}{j:Nat}(r:Vals xs us)(h:j<us.length):∃ x,xs[j]?=some x/\RelV x us[j]:=by
 have hl:=r.length
 have hx:xs[j]?=some (xs[j]'(by omega)):=List.getElem?_eq_getElem (by omega)
 obtain⟨u,e,ru⟩:=r.get hx
 rw[List.getElem?_eq_getElem h]at e
 cases e
 exact⟨_,hx,ru⟩
theorem EqD.self{n:Nat}{x y:V}{b:Bool}(q:EqD X.K H n x y b)(I:Inv X pins σ H s):x=y->b=true:=by
 induction q with
 | flat fx fy=>intro e;subst e;exact eqV_self fx
 | @lsts n a b xs ys e ha hb hl h ih =>
  intro z
  cases z
  have e1:xs=ys:=I.list_inj ha hb
  subst e1
  rw[List.all_eq_true]
  intro i hi
  have hx:xs[i]?=some (xs[i]'(List.mem_range.mp hi)):=List.getElem?_eq_getElem _
  exact ih i _ _ hx hx rfl
 | @lens n a b xs ys ha hb hl =>
  intro z
  cases z
  exact absurd (congrArg List.length (I.list_inj ha hb)) hl
 | @tups n a b xs ys e ha hb h ih =>
  intro z
  cases z
  have e1:xs=ys:=I.tuple_inj ha hb
  subst e1
  rw[Nat.min_self,Bool.and_eq_true,List.all_eq_true]
  refine⟨fun i hi=>?_,by simp⟩
  have hx:xs[i]?=some (xs[i]'(List.mem_range.mp hi)):=List.getElem?_eq_getElem _
  exact ih i _ _ hx hx rfl
theorem EqD.at{n:Nat}{x y:V}{b:Bool}(q:EqD X.K H n x y b)(I:Inv X pins σ H s):∀ {A:Around} {u v:Value},A.units+n<cLine->RelV x u->RelV y v->SeqAt.EqAt A s u v b:=by
 induction q with
 | flat fx fy=>intro A u v _ ru rv;exact eqAt_V ru rv fx fy
 | @lsts n a b xs ys e ha hb hl h ih =>
  intro A u v hu ru rv
  obtain rfl:u=Value.ref a:=ru
  obtain rfl:v=Value.ref b:=rv
  by_cases hab:a=b
  ·have z:=EqD.self (EqD.lsts ha hb hl h) I (congrArg V.ref hab)
   rw[z,hab]
   exact SeqAt.EqAt.same _
  obtain⟨us,rx,px,_⟩:=I.list ha
  obtain⟨vs,ry,py,_⟩:=I.list hb
  have l1:=rx.length
  have l2:=ry.length
  have z:=SeqAt.RcAt.lists (A:=A) (s:=s) (e:=e) px.isList py.isList (by rw[List.size_toArray,List.size_toArray];omega) (by omega) fun j h1 h2=>by
   obtain⟨x,ex,rx'⟩:=rx.at (j:=j) (by simpa using h1)
   obtain⟨y,ey,ry'⟩:=ry.at (j:=j) (by simpa using h2)
   exact ih j x y ex ey (A:=A.in1) (by show A.units+1+n<cLine;omega) (by simpa using rx') (by simpa using ry')
  rw[List.size_toArray,<- l1]at z
  exact SeqAt.EqAt.of_refs hab z
 | @lens n a b xs ys ha hb hl =>
  intro A u v hu ru rv
  obtain rfl:u=Value.ref a:=ru
  obtain rfl:v=Value.ref b:=rv
  obtain⟨us,rx,px,_⟩:=I.list ha
  obtain⟨vs,ry,py,_⟩:=I.list hb
  have l1:=rx.length
  have l2:=ry.length
  have hab:a≠b:=fun z=>by
   subst z
   exact hl (congrArg List.length (I.list_inj ha hb))
  exact SeqAt.EqAt.of_refs hab (SeqAt.RcAt.lists_lengths px.isList py.isList (by rw[List.size_toArray,List.size_toArray];simp;omega) (by omega))
 | @tups n a b xs ys e ha hb h ih =>
  intro A u v hu ru rv
  obtain rfl:u=Value.ref a:=ru
  obtain rfl:v=Value.ref b:=rv
  by_cases hab:a=b
  ·have z:=EqD.self (EqD.tups ha hb h) I (congrArg V.ref hab)
   rw[z,hab]
   exact SeqAt.EqAt.same _
  obtain⟨us,rx,px,_⟩:=I.tuple ha
  obtain⟨vs,ry,py,_⟩:=I.tuple hb
  have l1:=rx.length
  have l2:=ry.length
  have z:=SeqAt.RcAt.tuples (A:=A) (s:=s) (e:=e) (show s.heap.IsTuple a us.toArray from px) (show s.heap.IsTuple b vs.toArray from py) (by omega) fun j h1 h2=>by
   obtain⟨x,ex,rx'⟩:=rx.at (j:=j) (by simpa using h1)
   obtain⟨y,ey,ry'⟩:=ry.at (j:=j) (by simpa using h2)
   exact ih j x y ex ey (A:=A.in1) (by show A.units+1+n<cLine;omega) (by simpa using rx') (by simpa using ry')
  rw[List.size_toArray,List.size_toArray,<- l1,<- l2]at z
  exact SeqAt.EqAt.of_refs hab z
end
section
variable{X:Cx}
def rEqD(K:PySem.W.Frag)(neg:Bool):R2:=fun x y H Q=>∃ n b p q,x=.ref p/\y=.ref q/\n<=6/\EqD K H n x y b/\Q (.bl (if neg then !b else b)) H
theorem op_eqD(hu:X.A.units+8<cLine):OpR X (compareOp .Eq) (rEqD X.K false):=by
 intro pins s σ H x y u v Q I ru rv h
 obtain⟨n,b,p,q,rfl,rfl,hn,d,hq⟩:=h
 obtain rfl:u=Value.ref p:=ru
 obtain rfl:v=Value.ref q:=rv
 have fin:EP X pins σ Q (.bool b) s:=⟨.bl b,H,I,rfl,hq⟩
 cases d with
 | flat fx fy=>exact absurd (show false=true from fx) Bool.false_ne_true
 | @lsts n _ _ xs ys e ha hb hl h =>
  obtain⟨us,rx,px,_⟩:=I.list ha
  obtain⟨vs,ry,py,_⟩:=I.list hb
  have l1:=rx.length
  have l2:=ry.length
  refine SeqAt.eq_listAt (e:=e) px.isList py.isList (by rw[List.size_toArray,List.size_toArray];omega) (by omega) (fun j h1 h2=>?_) (by rw[List.size_toArray,<- l1];exact fin)
  obtain⟨x,ex,rx'⟩:=rx.at (j:=j) (by simpa using h1)
  obtain⟨y,ey,ry'⟩:=ry.at (j:=j) (by simpa using h2)
  exact(h j x y ex ey).at I (A:=X.A.in1) (by show X.A.units+1+n<cLine;omega) (by simpa using rx') (by simpa using ry')
 | @lens n _ _ xs ys ha hb hl =>
  obtain⟨us,rx,px,_⟩:=I.list ha
  obtain⟨vs,ry,py,_⟩:=I.list hb
  have l1:=rx.length
  have l2:=ry.length
  exact SeqAt.eq_list_lengthsAt px.isList py.isList (by rw[List.size_toArray,List.size_toArray];simp;omega) (by omega) fin
 | @tups n _ _ xs ys e ha hb h =>
  obtain⟨us,rx,px,_⟩:=I.tuple ha
  obtain⟨vs,ry,py,_⟩:=I.tuple hb
  have l1:=rx.length
  have l2:=ry.length
  refine SeqAt.eq_tupleAt (e:=e) (show s.heap.IsTuple p us.toArray from px) (show s.heap.IsTuple q vs.toArray from py) (by omega) (fun j h1 h2=>?_) (by rw[List.size_toArray,List.size_toArray,<- l1,<- l2];exact fin)
  obtain⟨x,ex,rx'⟩:=rx.at (j:=j) (by simpa using h1)
  obtain⟨y,ey,ry'⟩:=ry.at (j:=j) (by simpa using h2)
  exact(h j x y ex ey).at I (A:=X.A.in1) (by show X.A.units+1+n<cLine;omega) (by simpa using rx') (by simpa using ry')
theorem op_neD(hu:X.A.units+8<cLine):OpR X (compareOp .NotEq) (rEqD X.K true):=by
 intro pins s σ H x y u v Q I ru rv h
 obtain⟨n,b,p,q,rfl,rfl,hn,d,hq⟩:=h
 obtain rfl:u=Value.ref p:=ru
 obtain rfl:v=Value.ref q:=rv
 have fin:EP X pins σ Q (.bool (!b)) s:=⟨.bl (!b),H,I,rfl,hq⟩
 cases d with
 | flat fx fy=>exact absurd (show false=true from fx) Bool.false_ne_true
 | @lsts n _ _ xs ys e ha hb hl h =>
  obtain⟨us,rx,px,_⟩:=I.list ha
  obtain⟨vs,ry,py,_⟩:=I.list hb
  have l1:=rx.length
  have l2:=ry.length
  refine SeqAt.RcNeAt.lists (e:=e) px.isList py.isList (by rw[List.size_toArray,List.size_toArray];omega) (by omega) (fun j h1 h2=>?_) _ _ _ _ (by rw[List.size_toArray,<- l1];exact fin)
  obtain⟨x,ex,rx'⟩:=rx.at (j:=j) (by simpa using h1)
  obtain⟨y,ey,ry'⟩:=ry.at (j:=j) (by simpa using h2)
  exact(h j x y ex ey).at I (A:=X.A.in1) (by show X.A.units+1+n<cLine;omega) (by simpa using rx') (by simpa using ry')
 | @lens n _ _ xs ys ha hb hl =>
  obtain⟨us,rx,px,_⟩:=I.list ha
  obtain⟨vs,ry,py,_⟩:=I.list hb
  have l1:=rx.length
  have l2:=ry.length
  exact SeqAt.RcNeAt.lists_lengths px.isList py.isList (by rw[List.size_toArray,List.size_toArray];simp;omega) (by omega) _ _ _ _ fin
 | @tups n _ _ xs ys e ha hb h =>
  obtain⟨us,rx,px,_⟩:=I.tuple ha
  obtain⟨vs,ry,py,_⟩:=I.tuple hb
  have l1:=rx.length
  have l2:=ry.length
  refine SeqAt.RcNeAt.tuples (e:=e) (show s.heap.IsTuple p us.toArray from px) (show s.heap.IsTuple q vs.toArray from py) (by omega) (fun j h1 h2=>?_) _ _ _ _ (by rw[List.size_toArray,List.size_toArray,<- l1,<- l2];exact fin)
  obtain⟨x,ex,rx'⟩:=rx.at (j:=j) (by simpa using h1)
  obtain⟨y,ey,ry'⟩:=ry.at (j:=j) (by simpa using h2)
  exact(h j x y ex ey).at I (A:=X.A.in1) (by show X.A.units+1+n<cLine;omega) (by simpa using rx') (by simpa using ry')
end
end L2
namespace My
open PySem L2
abbrev IL(ns:List Int):List V:=ns.map V.int
theorem ζ3(ns:List Int):(IL ns).length=ns.length:=List.length_map ..
theorem il_append(a b:List Int):IL (a++b)=IL a++IL b:=List.map_append ..
theorem il_snoc(a:List Int)(r:Int):IL (a++[r])=IL a++[.int r]:=List.map_append ..
theorem il_take(a:List Int)(n:Nat):IL (a.take n)=(IL a).take n:=List.map_take ..
theorem il_drop(a:List Int)(n:Nat):IL (a.drop n)=(IL a).drop n:=List.map_drop ..
theorem il_at{ns:List Int}{i:Nat}{z:Int}(h:ns[i]?=some z):(IL ns)[i]?=some (.int z):=by rw[List.getElem?_map,h];rfl
theorem il_get{ns:List Int}{i:Nat}{x:V}(h:(IL ns)[i]?=some x):∃ z,x=.int z/\ns[i]?=some z:=by
 rw[List.getElem?_map]at h
 cases e:ns[i]? with
 | none=>rw[e]at h;cases h
 | some z=>rw[e]at h;exact⟨z,(Option.some.inj h).symm,rfl⟩
theorem same_upd{H H2:Hp}{a:Addr}{o:HO}(hn:H a=none)(s:Same H H2):Same H (upd H2 a o):=fun b u e=>by rw[upd_ne (ne_of_none e hn)];exact s b u e
theorem same_new{H H2:Hp}{p:Addr}{o:HO}(s:Same H H2)(hp:H2 p=none):Same H (upd H2 p o):=same_upd (s.free hp) s
theorem same_at{H:Hp}{p:Addr}{o:HO}(hp:H p=none):Same H (upd H p o):=same_new (Same.refl H) hp
theorem sqT_same{K:PySem.W.Frag}{H H':Hp}{a:Addr}{xs:List V}(e:Same H H')(h:SqT K H a xs):SqT K H' a xs:=by
 rcases h with (h | ⟨o,h⟩) | h
 ·exact .inl (.inl (e _ _ h))
 ·exact .inl (.inr ⟨o,e _ _ h⟩)
 ·exact .inr h
theorem small60{n:Nat}(h:n<=1000000):n<=sizeLine:=Nat.le_trans h (by decide)
theorem small60'{n:Nat}(h:n<=1000000):n<sizeLine:=Nat.lt_of_le_of_lt h (by decide)
theorem hu8{A:Around}{k:Nat}(hr:Room k A):A.units+8<cLine:=Nat.lt_of_le_of_lt (Nat.add_le_add_left (by decide:8<=64) _) hr.units
theorem atI_of{α:Type}{xs:List α}{i:Int}{n:Nat}{x:α}(hi:i=(n:Int))(h:xs[n]?=some x):atI xs i=some x:=by
 subst hi
 have hn:n<xs.length:=(List.getElem?_eq_some_iff.mp h).1
 unfold atI ixN
 rw[if_pos (Int.natCast_nonneg n),if_pos (by omega)]
 simpa using h
theorem itd{c A B:Prop}[Decidable c](hc:c)(h:A):if decide c=true then A else B:=by rw[if_pos (decide_eq_true hc)];exact h
theorem itdn{c A B:Prop}[Decidable c](hc:¬ c)(h:B):if decide c=true then A else B:=by rw[if_neg (by simp[hc])];exact h
theorem itn{c A B:Prop}[Decidable c](hc:c)(h:B):if (!decide c)=true then A else B:=by rw[if_neg (by simp[hc])];exact h
theorem itnn{c A B:Prop}[Decidable c](hc:¬ c)(h:A):if (!decide c)=true then A else B:=by rw[if_pos (by simp[hc])];exact h
theorem itd2{c A B:Prop}[Decidable c](h1:c->A)(h2:¬ c->B):if decide c=true then A else B:=by
 by_cases h:c
 ·exact itd h (h1 h)
 ·exact itdn h (h2 h)
theorem itn2{c A B:Prop}[Decidable c](h1:c->B)(h2:¬ c->A):if (!decide c)=true then A else B:=by
 by_cases h:c
 ·exact itn h (h1 h)
 ·exact itnn h (h2 h)
theorem itb{b:Bool}{A B:Prop}(h1:b=true->A)(h2:b=false->B):if b=true then A else B:=by
 cases b with
 | true=>exact iteT (h1 rfl)
 | false=>exact iteF (h2 rfl)
theorem itnb{b:Bool}{A B:Prop}(h1:b=true->B)(h2:b=false->A):if (!b)=true then A else B:=by
 cases b with
 | true=>exact iteF (h1 rfl)
 | false=>exact iteT (h2 rfl)
def SqK(k:Bool)(K:PySem.W.Frag)(H:Hp)(a:Addr)(xs:List V):Prop:=match k with
 | false=>SqL K H a xs
 | true=>SqT K H a xs
theorem SqK.same{k:Bool}{K:PySem.W.Frag}{H H':Hp}{a:Addr}{xs:List V}(e:Same H H')(h:SqK k K H a xs):SqK k K H' a xs:=by
 cases k with
 | false=>exact e.seq h
 | true=>exact sqT_same e h
theorem SqK.or{k:Bool}{K:PySem.W.Frag}{H:Hp}{a:Addr}{xs:List V}(h:SqK k K H a xs):SqL K H a xs\/SqT K H a xs:=by
 cases k with
 | false=>exact .inl h
 | true=>exact .inr h
def iSeq(K:PySem.W.Frag)(tl:TE):TI:=fun σ H R=>tl σ H fun x H1=>∃ a,x=.ref a/\(((∃ xs,SqL K H1 a xs)/\R (Itl K a) H1)\/((∃ xs,SqT K H1 a xs)/\R (Itt K a) H1))
theorem pi_seq{X:Cx}{tg:Expr}{l:Expr}{tl:TE}(hl:PE X l tl):PI X tg l (iSeq X.K tl):=by
 intro pins s σ H R I h
 refine thn (hl pins s σ H _ I h) fun v s1 ⟨x,H1,I1,r1,q1⟩=>?_
 obtain⟨a,e,q⟩:=q1
 subst e
 cases r1
 rcases q with ⟨⟨xs,hq⟩,q⟩ | ⟨⟨xs,hq⟩,q⟩
 ·obtain⟨its,rv,p,hz⟩:=I1.list hq
  refine wpAny_pyIter_list p.isList ?_
  refine⟨s1.heap.objs.size,[s1.heap.objs.size],_,_,H1,rfl,I1.kept (t':=s1.toks) fun b o e=>Heap.get?_push_of_some _ e,turn_list a _,⟨_,Heap.get?_push_size _ rfl,rfl,rfl⟩,fun b hb=>?_,q⟩
  have e:b=s1.heap.objs.size:=by simpa using hb
  subst e
  exact I1.fpOk (Nat.le_refl _) (I1.hok.fresh (Nat.le_refl _))
 ·obtain⟨its,rv,p,hz⟩:=I1.tuple hq
  refine wpAny_pyIter_tuple (show s1.heap.IsTuple a its.toArray from p) ?_
  refine⟨s1.heap.objs.size,[s1.heap.objs.size],_,_,H1,rfl,I1.kept (t':=s1.toks) fun b o e=>Heap.get?_push_of_some _ e,turn_tuple a _,⟨_,Heap.get?_push_size _ rfl,rfl,rfl⟩,fun b hb=>?_,q⟩
  have e:b=s1.heap.objs.size:=by simpa using hb
  subst e
  exact I1.fpOk (Nat.le_refl _) (I1.hok.fresh (Nat.le_refl _))
theorem for_seq{K:PySem.W.Frag}{k:Bool}{a:Addr}{xs:List V}{g:TG}{tb:TS}{D:Ends}{σ:St}{H:Hp}(Pv:Nat->St->Hp->Prop)(h0:Pv 0 σ H)(hl:∀ i σ H,i<=xs.length->Pv i σ H->SqK k K H a xs)
  (hs:∀ i x σ H,xs[i]?=some x->Pv i σ H->g x σ H fun σ2 H2=>tb { D with nx:=Pv (i+1),ct:=Pv (i+1),bk:=D.nx } σ2 H2) (hd:∀ σ H,Pv xs.length σ H->D.nx σ H) :
  (((∃ xs,SqL K H a xs)/\∃ W:Nat->Nat->St->Hp->Prop,(∃ m,W 0 m σ H)/\∀ i m σ H,W i m σ H ->
   ((Itl K a).stop i H/\D.nx σ H)\/((Itl K a).go i H/\∃ N:St->Hp->Prop,(∀ σ' H',N σ' H'->∃ m',m'<m/\W (i+1) m' σ' H')/\∀ x H',(Itl K a).yld i H x H'->g x σ H' fun σ2 H2=>tb { D with nx:=N,ct:=N,bk:=D.nx } σ2 H2)) \/
  ((∃ xs,SqT K H a xs)/\∃ W:Nat->Nat->St->Hp->Prop,(∃ m,W 0 m σ H)/\∀ i m σ H,W i m σ H ->
   ((Itt K a).stop i H/\D.nx σ H)\/((Itt K a).go i H/\∃ N:St->Hp->Prop,(∀ σ' H',N σ' H'->∃ m',m'<m/\W (i+1) m' σ' H')/\∀ x H',(Itt K a).yld i H x H'->g x σ H' fun σ2 H2=>tb { D with nx:=N,ct:=N,bk:=D.nx } σ2 H2))):=by
 cases k with
 | false=>exact .inl ⟨⟨xs,hl 0 σ H (Nat.zero_le _) h0⟩,for_list (K:=K) (a:=a) (xs:=xs) Pv h0 hl hs hd⟩
 | true=>exact .inr ⟨⟨xs,hl 0 σ H (Nat.zero_le _) h0⟩,for_tup (K:=K) (a:=a) (xs:=xs) Pv h0 hl hs hd⟩
def PairV(H:Hp)(v:V)(p:Int × Int):Prop:=∃ t,v=.ref t/\H t=some (.tup [.int p.1,.int p.2])
def PairsV(H:Hp)(xs:List V)(ps:List (Int × Int)):Prop:=xs.length=ps.length/\∀(i:Nat) (p:Int × Int),ps[i]?=some p->∃ v,xs[i]?=some v/\PairV H v p
theorem PairV.same{H H':Hp}{v:V}{p:Int × Int}(s:Same H H')(h:PairV H v p):PairV H' v p:=let ⟨t,e,q⟩:=h;⟨t,e,s _ _ q⟩
theorem PairsV.same{H H':Hp}{xs:List V}{ps:List (Int × Int)}(s:Same H H')(h:PairsV H xs ps):PairsV H' xs ps:=⟨h.1,fun i p e=>let ⟨v,e1,q⟩:=h.2 i p e;⟨v,e1,q.same s⟩⟩
theorem PairsV.at{H:Hp}{xs:List V}{ps:List (Int × Int)}(h:PairsV H xs ps){i:Nat}{v:V}(e:xs[i]?=some v):∃ p,ps[i]?=some p/\PairV H v p:=by
 have hi:i<xs.length:=(List.getElem?_eq_some_iff.mp e).1
 have hp:i<ps.length:=by rw[<- h.1];exact hi
 obtain⟨v',e1,q⟩:=h.2 i ps[i] (List.getElem?_eq_getElem hp)
 rw[e]at e1
 cases e1
 exact⟨_,List.getElem?_eq_getElem hp,q⟩
theorem PairsV.nil{H:Hp}:PairsV H [] []:=⟨rfl,fun i p e=>by simp at e⟩
theorem PairsV.snoc{H:Hp}{xs:List V}{ps:List (Int × Int)}{v:V}{p:Int × Int}(h:PairsV H xs ps)(q:PairV H v p):PairsV H (xs++[v]) (ps++[p]):=by
 refine⟨by rw[List.length_append,List.length_append,h.1];rfl,fun i p' e=>?_⟩
 by_cases hi:i<ps.length
 ·rw[List.getElem?_append_left hi]at e
  rw[List.getElem?_append_left (by rw[h.1];exact hi)]
  exact h.2 i p' e
 ·have hl:i=ps.length:=by
   have:=(List.getElem?_eq_some_iff.mp e).1
   rw[List.length_append,List.length_singleton]at this
   omega
  subst hl
  rw[List.getElem?_append_right (Nat.le_refl _),Nat.sub_self]at e
  rw[List.getElem?_append_right (by rw[h.1];exact Nat.le_refl _),h.1,Nat.sub_self]
  have e':p=p':=Option.some.inj e
  subst e'
  exact⟨v,rfl,q⟩
theorem pt_ne:¬ (("places":Str)="ties"):=by decide +kernel
def wf (n:Int) (tl:Addr):List (Str × V):=putF "ties" (.ref tl) (putF "places" (.int n) [])
theorem wf_places (n:Int) (tl:Addr):(wf n tl).lookup ("places":Str)=some (.int n):=by
 unfold wf
 rw[lookup_putF,if_neg pt_ne,lookup_putF,if_pos rfl]
theorem wf_ties (n:Int) (tl:Addr):(wf n tl).lookup ("ties":Str)=some (.ref tl):=by
 unfold wf
 rw[lookup_putF,if_pos rfl]
def WebAt(C:Addr)(H:Hp)(w:Addr)(n:Int)(ps:List (Int × Int)):Prop:=∃ dx tl xs,H w=some (.ins C dx (wf n tl))/\H tl=some (.lst xs)/\PairsV H xs ps
theorem WebAt.same{C:Addr}{H H':Hp}{w:Addr}{n:Int}{ps:List (Int × Int)}(s:Same H H')(h:WebAt C H w n ps):WebAt C H' w n ps:=let ⟨dx,tl,xs,a,b,c⟩:=h;⟨dx,tl,xs,s _ _ a,s _ _ b,c.same s⟩
def GoodW(n:Int)(ps:List (Int × Int)):Prop:=1<=n/\n<=14/\ps.length<=30/\∀ p∈ps,0<=p.1/\p.1<n/\0<=p.2/\p.2<n
def FX(K:PySem.W.Frag)(mg:Str->Option Value)(x qual:Str)(st:Stmt):Prop:=∃(f:Addr) (fd:FuncData),mg x=some (.ref f)/\Fun K x qual st f fd
theorem fx_mk{K:PySem.W.Frag}{h:Heap}{mg:Str->Option Value}{x:Str}{st:Stmt}{f:Addr}{oc:Value}{od an:Option Addr}{osl:Array (Option Value)}{kV doc pm cdv ct:Value}(X:K.In h)(G:h.Ns mainGlobals mg)
  (a:PySem.W.nsIn K mainGlobals x=some (some (.ref f))) (l:K.lookup f=some ⟨oc,od,.func (PySem.W.fnOf x x (defArgs st) (defBody st) (ζ6 st) .none kV doc pm an cdv ct),osl⟩) (c:PySem.W.codeIn K cdv x=true) (k:PySem.W.keepIn K (.ref f)=true):FX K mg x x st :=
 ⟨f,_,PySem.W.mg_of X G a,fun_mk l c k⟩
def CXF (K:PySem.W.Frag) (mg:Str->Option Value) (x qual:Str) (st:Stmt) (fs:List Str):Prop:=∃(C f:Addr) (fd:FuncData),mg x=some (.ref C)/\Fun K "__init__" qual st f fd/\Cls K C/\Mk K C f/\∀ a∈fs,NoAttr K C a
theorem cx_mk{K:PySem.W.Frag}{h:Heap}{mg:Str->Option Value}{x qual:Str}{fs:List Str}{st:Stmt}{C f:Addr}{oc:Value}{od an:Option Addr}{osl:Array (Option Value)}{kV doc pm cdv ct:Value}(X:K.In h)(G:h.Ns mainGlobals mg)
  (aC:PySem.W.nsIn K mainGlobals x=some (some (.ref C))) (a:PySem.W.findIn K (.ref C) "__init__"=some (some (.ref f))) (i:PySem.W.isFn K (.ref f)=true)
  (l:K.lookup f=some ⟨oc,od,.func (PySem.W.fnOf "__init__" qual (defArgs st) (defBody st) (ζ6 st) .none kV doc pm an cdv ct),osl⟩) (c:PySem.W.codeIn K cdv qual=true) (k:PySem.W.keepIn K (.ref f)=true)
  (pg:PySem.W.plainGet K C Str.empty=true) (hd:PySem.W.hasDictIn K C=true) (po:PySem.W.plainOver K C=true) (sa:PySem.W.findIn K (.ref C) "__setattr__"=some (some (.builtin "object.__setattr__"))) (mk:PySem.W.makesIn K C=true) (kc:PySem.W.keepIn K (.ref C)=true)
  (na:∀ a∈fs,PySem.W.findIn K (.ref C) a=some none):CXF K mg x qual st fs :=
 ⟨C,f,_,PySem.W.mg_of X G aC,fun_mk l c k,⟨pg,hd,po,sa⟩,⟨mk,a,i,kc⟩,na⟩
theorem const_mk{K:PySem.W.Frag}{h:Heap}{mg:Str->Option Value}{x:Str}{z:Int}{v:Value}(X:K.In h)(G:h.Ns mainGlobals mg)(a:PySem.W.nsIn K mainGlobals x=some (some v))(e:∃ tk,v=.int z tk):∃ tk,mg x=some (.int z tk):=by
 obtain⟨tk,rfl⟩:=e
 exact⟨tk,PySem.W.mg_of X G a⟩
theorem nmY{i:Nat}{x:V}{σ:St}{H:Hp}{A B:St->Hp->Prop}(h:A (σ.set i (some x)) H):gName i x σ H fun σ2 H2=>tYes σ2 H2 fun b H3=>if b=true then A σ2 H3 else B σ2 H3 :=
 (show if true=true then A (σ.set i (some x)) H else B (σ.set i (some x)) H from iteT h)
theorem nm{i:Nat}{x:V}{σ:St}{H:Hp}{Q:St->Hp->Prop}(h:Q (σ.set i (some x)) H):gName i x σ H Q:=h
section
variable{K:PySem.W.Frag}{a:Addr}{xs:List V}{g:TG}{tt:TT}{te:TE}{o:Nat}{fr:List Nat}{σ:St}{H:Hp}{Q:VK}
abbrev LcTurn(Pv:Nat->List V->Hp->Prop)(g:TG)(tt:TT)(te:TE)(o:Nat)(fr:List Nat)(σ:St)(i:Nat)(x:V)(ys:List V)(H:Hp):Prop :=
 ∀ S:Nat->List V->Hp->Prop,(∀ ys H,Pv (i+1) ys H->S (i+1) ys H)->g x (σC o fr σ) H fun σ2 H2=>tt σ2 H2 fun b H3=>if b=true then te σ2 H3 fun y H4=>S (i+1) (ys++[y]) H4 else S (i+1) ys H3
theorem lc_list(Pv:Nat->List V->Hp->Prop)(h0:Pv 0 [] H)(hz:xs.length<sizeLine)(hl:∀ i ys H,i<=xs.length->Pv i ys H->SqL K H a xs/\ys.length<=i)
  (hs:∀ i x ys H,xs[i]?=some x->Pv i ys H->LcTurn Pv g tt te o fr σ i x ys H) (hd:∀ ys H,Pv xs.length ys H->∀ p,H p=none->Q (.ref p) (upd H p (.lst ys))):LcR (Itl K a) g tt te o fr σ H Q:=by
 refine⟨fun i m ys H=>m=xs.length - i/\i<=xs.length/\Pv i ys H,⟨xs.length,by simp,Nat.zero_le _,h0⟩,?_⟩
 rintro i m ys H ⟨rfl,hi,p⟩
 obtain⟨q,hy⟩:=hl i ys H hi p
 by_cases hlt:i<xs.length
 ·refine .inr ⟨⟨xs,xs[i],q,by simp[hlt]⟩,by omega,fun x H' ⟨e,y⟩=>?_⟩
  subst e
  have hx:=y xs q
  exact hs i x ys _ hx p (fun j ys H=>∃ m',m'<xs.length - i/\m'=xs.length - j/\j<=xs.length/\Pv j ys H) fun ys H p'=>⟨xs.length - (i+1),by omega,rfl,hlt,p'⟩
 ·have e:i=xs.length:=by omega
  subst e
  exact .inl ⟨⟨xs,q,Nat.le_refl _⟩,by omega,hd ys H p⟩
theorem lc_tup(Pv:Nat->List V->Hp->Prop)(h0:Pv 0 [] H)(hz:xs.length<sizeLine)(hl:∀ i ys H,i<=xs.length->Pv i ys H->SqT K H a xs/\ys.length<=i)
  (hs:∀ i x ys H,xs[i]?=some x->Pv i ys H->LcTurn Pv g tt te o fr σ i x ys H) (hd:∀ ys H,Pv xs.length ys H->∀ p,H p=none->Q (.ref p) (upd H p (.lst ys))):LcR (Itt K a) g tt te o fr σ H Q:=by
 refine⟨fun i m ys H=>m=xs.length - i/\i<=xs.length/\Pv i ys H,⟨xs.length,by simp,Nat.zero_le _,h0⟩,?_⟩
 rintro i m ys H ⟨rfl,hi,p⟩
 obtain⟨q,hy⟩:=hl i ys H hi p
 by_cases hlt:i<xs.length
 ·refine .inr ⟨⟨xs,xs[i],q,by simp[hlt]⟩,by omega,fun x H' ⟨e,y⟩=>?_⟩
  subst e
  have hx:=y xs q
  exact hs i x ys _ hx p (fun j ys H=>∃ m',m'<xs.length - i/\m'=xs.length - j/\j<=xs.length/\Pv j ys H) fun ys H p'=>⟨xs.length - (i+1),by omega,rfl,hlt,p'⟩
 ·have e:i=xs.length:=by omega
  subst e
  exact .inl ⟨⟨xs,q,Nat.le_refl _⟩,by omega,hd ys H p⟩
theorem lc_seq{k:Bool}(Pv:Nat->List V->Hp->Prop)(h0:Pv 0 [] H)(hz:xs.length<sizeLine)(hl:∀ i ys H,i<=xs.length->Pv i ys H->SqK k K H a xs/\ys.length<=i)
  (hs:∀ i x ys H,xs[i]?=some x->Pv i ys H->LcTurn Pv g tt te o fr σ i x ys H) (hd:∀ ys H,Pv xs.length ys H->∀ p,H p=none->Q (.ref p) (upd H p (.lst ys))) :
  ((∃ xs,SqL K H a xs)/\LcR (Itl K a) g tt te o fr σ H Q)\/((∃ xs,SqT K H a xs)/\LcR (Itt K a) g tt te o fr σ H Q):=by
 cases k with
 | false=>exact .inl ⟨⟨xs,(hl 0 [] H (Nat.zero_le _) h0).1⟩,lc_list Pv h0 hz hl hs hd⟩
 | true=>exact .inr ⟨⟨xs,(hl 0 [] H (Nat.zero_le _) h0).1⟩,lc_tup Pv h0 hz hl hs hd⟩
theorem lc_range{lo:Int}{n:Nat}(Pv:Nat->List V->Hp->Prop)(h0:Pv 0 [] H)(hz:n<sizeLine)(hl:∀ i ys H,i<=n->Pv i ys H->ys.length<=i)
  (hs:∀ i ys H,i<n->Pv i ys H->LcTurn Pv g tt te o fr σ i (.int (lo+i)) ys H) (hd:∀ ys H,Pv n ys H->∀ p,H p=none->Q (.ref p) (upd H p (.lst ys))):LcR (Itr lo n) g tt te o fr σ H Q:=by
 refine⟨fun i m ys H=>m=n - i/\i<=n/\Pv i ys H,⟨n,by simp,Nat.zero_le _,h0⟩,?_⟩
 rintro i m ys H ⟨rfl,hi,p⟩
 have hy:=hl i ys H hi p
 by_cases hlt:i<n
 ·refine .inr ⟨hlt,by omega,fun x H' ⟨e,y⟩=>?_⟩
  subst e
  subst y
  exact hs i ys _ hlt p (fun j ys H=>∃ m',m'<n - i/\m'=n - j/\j<=n/\Pv j ys H) fun ys H p'=>⟨n - (i+1),by omega,rfl,hlt,p'⟩
 ·have e:i=n:=by omega
  subst e
  exact .inl ⟨Nat.le_refl _,by omega,hd ys H p⟩
end
theorem nodup_get{α:Type}{l:List α}(h:l.Nodup){i j:Nat}{x:α}(a:l[i]?=some x)(b:l[j]?=some x):i=j:=by
 obtain⟨h1,e1⟩:=List.getElem?_eq_some_iff.mp a
 obtain⟨h2,e2⟩:=List.getElem?_eq_some_iff.mp b
 exact(List.getElem_inj h).mp (e1.trans e2.symm)
theorem getD_of{α:Type}{l:List α}{i:Nat}{x d:α}(h:l[i]?=some x):l.getD i d=x:=by rw[List.getD_eq_getElem?_getD,h];rfl
theorem nd_snoc{α:Type}{l:List α}{x:α}(h:l.Nodup)(hx:x∉l):(l++[x]).Nodup:=by
 rw[List.nodup_append]
 refine⟨h,by simp,fun a ha b hb=>?_⟩
 rw[List.mem_singleton]at hb
 subst hb
 rintro rfl
 exact hx ha
theorem for_enum{K:PySem.W.Frag}{a:Addr}{xs:List V}{g:TG}{tb:TS}{D:Ends}{σ:St}{H:Hp}(Pv:Nat->St->Hp->Prop)(h0:Pv 0 σ H)(hl:∀ i σ H,i<=xs.length->Pv i σ H->SqL K H a xs)
  (hs:∀(i:Nat) x σ H (p:Addr),H p=none->xs[i]?=some x->Pv i σ H->g (.ref p) σ (upd H p (.tup [.int i,x])) fun σ2 H2=>tb { D with nx:=Pv (i+1),ct:=Pv (i+1),bk:=D.nx } σ2 H2) (hd:∀ σ H,Pv xs.length σ H->D.nx σ H) :
  ∃ W:Nat->Nat->St->Hp->Prop,(∃ m,W 0 m σ H)/\∀ i m σ H,W i m σ H ->
   ((Ite K a).stop i H/\D.nx σ H)\/((Ite K a).go i H/\∃ N:St->Hp->Prop,(∀ σ' H',N σ' H'->∃ m',m'<m/\W (i+1) m' σ' H')/\∀ x H',(Ite K a).yld i H x H'->g x σ H' fun σ2 H2=>tb { D with nx:=N,ct:=N,bk:=D.nx } σ2 H2):=by
 refine⟨fun i m σ H=>m=xs.length - i/\i<=xs.length/\Pv i σ H,⟨xs.length,by simp,Nat.zero_le _,h0⟩,?_⟩
 rintro i m σ H ⟨rfl,hi,p⟩
 have q:=hl i σ H hi p
 by_cases hlt:i<xs.length
 ·refine .inr ⟨⟨xs,xs[i],q,by simp[hlt]⟩,Pv (i+1),fun σ' H' p'=>⟨xs.length - (i+1),by omega,rfl,hlt,p'⟩,fun x H' ⟨T,y,hT,ex,eH,hy⟩=>?_⟩
  subst ex eH
  exact hs i y σ H T hT (hy xs q) p
 ·have e:i=xs.length:=by omega
  subst e
  exact .inl ⟨⟨xs,q,Nat.le_refl _⟩,hd σ H p⟩
end My
namespace L2
open PySem PySem.Spec PyProof.Rows
section
variable{X:Cx}{a b o e:Expr}{es:List Expr}{ta tb te to:TE}{t:TA}{pos:Pos}
theorem ix_listK(K:PySem.W.Frag)(h:X.K=K:=by rfl):IxR X (rIxL K):=h ▸ ix_list
theorem ix_tupK(K:PySem.W.Frag)(h:X.K=K:=by rfl):IxR X (rIxT K):=h ▸ ix_tup
theorem sl_listK(K:PySem.W.Frag)(h:X.K=K:=by rfl):SlR X (rSlL K):=h ▸ sl_list
theorem op_inK(K:PySem.W.Frag)(h:X.K=K:=by rfl):OpR X (compareOp .In) (fun x y H Q=>∃ p xs,y=.ref p/\(SqL K H p xs\/SqT K H p xs)/\flatV x=true/\xs.all flatV=true/\Q (.bl (inV x xs)) H):=h ▸ op_in_seq
theorem op_notInK(K:PySem.W.Frag)(h:X.K=K:=by rfl):OpR X (compareOp .NotIn) (fun x y H Q=>∃ p xs,y=.ref p/\(SqL K H p xs\/SqT K H p xs)/\flatV x=true/\xs.all flatV=true/\Q (.bl (!inV x xs)) H):=h ▸ op_notIn_seq
theorem op_eqDK(K:PySem.W.Frag)(hu:X.A.units+8<cLine)(h:X.K=K:=by rfl):OpR X (compareOp .Eq) (rEqD K false):=h ▸ op_eqD hu
theorem op_neDK(K:PySem.W.Frag)(hu:X.A.units+8<cLine)(h:X.K=K:=by rfl):OpR X (compareOp .NotEq) (rEqD K true):=h ▸ op_neD hu
theorem op_catTK(K:PySem.W.Frag)(h:X.K=K:=by rfl):OpR X (binaryOp .Add) (rCatT K):=h ▸ op_catT
theorem pe_fldK(K:PySem.W.Frag){f:Str}(he:PE X e ta)(hb:attributeBase e f X.env (eval e X.env)=eval e X.env)(h:X.K=K:=by rfl):PE X (.Attribute e f pos) (tFld K ta f):=h ▸ pe_fld he hb
theorem call_lenK (K:PySem.W.Frag) (h:X.K=K:=by rfl):CallR X (.builtin "len") (fun xs H Q=>∃ p ys,xs=[.ref p]/\(SqL K H p ys\/SqT K H p ys)/\Q (.int ys.length) H):=h ▸ call_len_seq
theorem call_listK (K:PySem.W.Frag) (h:X.K=K:=by rfl):CallR X (.type "list") (fun xs H Q=>∃ p ys,xs=[.ref p]/\(SqL K H p ys\/SqT K H p ys)/\∀ l,H l=none->Q (.ref l) (upd H l (.lst ys))):=h ▸ call_list_of
theorem call_tupleK (K:PySem.W.Frag) (h:X.K=K:=by rfl):CallR X (.type "tuple") (fun xs H Q=>∃ p ys,xs=[.ref p]/\((SqL K H p ys/\∀ l,H l=none->Q (.ref l) (upd H l (.tup ys)))\/(SqT K H p ys/\Q (.ref p) H))):=h ▸ call_tuple_of
theorem pi_listK(K:PySem.W.Frag){tg:Expr}{l:Expr}{tl:TE}(hl:PE X l tl)(h:X.K=K:=by rfl):PI X tg l (iList K tl):=h ▸ pi_list hl
theorem pi_tupK(K:PySem.W.Frag){tg:Expr}{l:Expr}{tl:TE}(hl:PE X l tl)(h:X.K=K:=by rfl):PI X tg l (iTup K tl):=h ▸ pi_tup hl
theorem pi_seqK(K:PySem.W.Frag){tg:Expr}{l:Expr}{tl:TE}(hl:PE X l tl)(h:X.K=K:=by rfl):PI X tg l (My.iSeq K tl):=h ▸ My.pi_seq hl
theorem pi_enumK (K:PySem.W.Frag) {elts:List Expr} {x1:Nat} {tpos:Pos} {a:Expr} {ta:TA} {p pos:Pos} (hg:Gl X "enumerate") (hm:X.mg "enumerate"=none) (ha:PA X [a] ta) (hs:starEach [a] X.env=[(false,eval a X.env)]:=by rfl) (h:X.K=K:=by rfl) :
  PI X (.Tuple elts x1 tpos) (.Call (.Name "enumerate" p) [a] [] pos) (iEnum K ta):=h ▸ pi_enum hg hm ha hs
theorem pg_tupK(K:PySem.W.Frag){es:List Expr}{k:Nat}{t:TGs}{n:Nat}(hc:X.calm=true)(ht:PGs X es t)
  (hn:(assignEach es X.env).length=n:=by rfl) (hst:(assignEach es X.env).findIdx? (·.1)=none:=by rfl) (h:X.K=K:=by rfl):PG X (.Tuple es k pos) (gTup K n t):=h ▸ pg_tup hc ht hn hst
theorem pe_bmK (K:PySem.W.Frag) {name:Str} {apos cpos:Pos} {T id:String} {r:V->List V->Hp->VK->Prop} (pa:PlainAttrs T) (slot:Slot T name id) (hty:typeOf (.builtin id)=pure (.type "method_descriptor")) (hm:MtR X id r) (ho:PE X o to) (ha:PA X (e :: es) t)
  (hbase:attributeBase o name X.env (eval o X.env)=eval o X.env:=by rfl)
  (hfew:((backTo cpos (starEach (e :: es) X.env)).all (fun x=>!x.1) && (backToKw cpos (keywordEach [] X.env)).all (fun x=>x.1.isSome)
   && decide ((e :: es).length+([]:List Keyword).length+(if ([]:List Keyword).isEmpty then 0 else 1)<30))=true:=by rfl)
  (hline:(apos.endLine == cpos.line)=true:=by rfl) (hs:starEach (e :: es) X.env=(false,eval e X.env) :: starEach es X.env:=by rfl) (hplain:(backTo cpos (starEach es X.env)).any (·.1)=false:=by rfl) (h:X.K=K:=by rfl) :
  PE X (.Call (.Attribute o name apos) (e :: es) [] cpos) (tBM K T r to t):=h ▸ pe_bm pa slot hty hm ho ha hbase hfew hline hs hplain
theorem pe_bm0K (K:PySem.W.Frag) {name:Str} {apos cpos:Pos} {T id:String} {r:V->List V->Hp->VK->Prop} (pa:PlainAttrs T) (slot:Slot T name id) (hty:typeOf (.builtin id)=pure (.type "method_descriptor")) (hm:MtR X id r) (ho:PE X o to)
  (hbase:attributeBase o name X.env (eval o X.env)=eval o X.env:=by rfl) (hline:(apos.endLine == cpos.line)=true:=by rfl) (h:X.K=K:=by rfl):PE X (.Call (.Attribute o name apos) [] [] cpos) (tBM0 K T r to):=h ▸ pe_bm0 pa slot hty hm ho hbase hline
end
end L2
namespace My
abbrev mk(m:List Int)(i:Nat):Int:=m.getD i 0
def pm(m:List Int)(a b:Nat):List Int :=
 if min (mk m a) (mk m b)<max (mk m a) (mk m b) then m.map (fun k=>if k=max (mk m a) (mk m b) then min (mk m a) (mk m b) else k) else m
def lm(m:List Int)(a b:Nat):List Int :=
 if mk m a≠mk m b then m.map (fun k=>if k=mk m b then mk m a else k) else m
def SameP(m l:List Int):Prop:=m.length=l.length/\∀ i j,i<m.length->j<m.length->(mk m i=mk m j↔mk l i=mk l j)
theorem mk_map(m:List Int)(f:Int->Int){i:Nat}(h:i<m.length):mk (m.map f) i=f (mk m i):=by
 simp[mk,List.getD_eq_getElem?_getD,List.getElem?_map,List.getElem?_eq_getElem h]
theorem pm_length(m:List Int)(a b:Nat):(pm m a b).length=m.length:=by unfold pm;split <;> simp
theorem lm_length(m:List Int)(a b:Nat):(lm m a b).length=m.length:=by unfold lm;split <;> simp
def Mrg(m:List Int)(a b i j:Nat):Prop:=mk m i=mk m j\/((mk m i=mk m a\/mk m i=mk m b)/\(mk m j=mk m a\/mk m j=mk m b))
theorem pm_iff{m:List Int}{a b i j:Nat}(hi:i<m.length)(hj:j<m.length):mk (pm m a b) i=mk (pm m a b) j↔Mrg m a b i j:=by
 unfold pm Mrg
 split
 ·rename_i h
  rw[mk_map _ _ hi,mk_map _ _ hj]
  generalize mk m i=x at *
  generalize mk m j=y at *
  generalize mk m a=p at *
  generalize mk m b=q at *
  by_cases hpq:p<q
  ·rw[Int.min_eq_left (by omega),Int.max_eq_right (by omega)]
   split <;> split <;> omega
  ·rw[Int.min_eq_right (by omega),Int.max_eq_left (by omega)]at *
   split <;> split <;> omega
 ·rename_i h
  generalize mk m i=x at *
  generalize mk m j=y at *
  generalize mk m a=p at *
  generalize mk m b=q at *
  omega
theorem lm_iff{m:List Int}{a b i j:Nat}(hi:i<m.length)(hj:j<m.length):mk (lm m a b) i=mk (lm m a b) j↔Mrg m a b i j:=by
 unfold lm Mrg
 split
 ·rename_i h
  rw[mk_map _ _ hi,mk_map _ _ hj]
  generalize mk m i=x at *
  generalize mk m j=y at *
  generalize mk m a=p at *
  generalize mk m b=q at *
  split <;> split <;> omega
 ·rename_i h
  generalize mk m i=x at *
  generalize mk m j=y at *
  generalize mk m a=p at *
  generalize mk m b=q at *
  omega
theorem SameP.step{m l:List Int}(s:SameP m l){a b:Nat}(ha:a<m.length)(hb:b<m.length):SameP (pm m a b) (lm l a b):=by
 obtain⟨hl,h⟩:=s
 refine⟨by rw[pm_length,lm_length,hl],fun i j hi hj=>?_⟩
 rw[pm_length]at hi hj
 rw[pm_iff hi hj,lm_iff (by omega) (by omega)]
 unfold Mrg
 rw[h i j hi hj,h i a hi ha,h i b hi hb,h j a hj ha,h j b hj hb]
def pms(n:Nat)(es:List (Nat × Nat)):List Int:=es.foldl (fun m e=>pm m e.1 e.2) ((List.range n).map fun(i:Nat)=>(i:Int))
def lms(n:Nat)(es:List (Nat × Nat)):List Int:=es.foldl (fun m e=>lm m e.1 e.2) ((List.range n).map fun(i:Nat)=>(i:Int))
theorem pms_length(n:Nat)(es:List (Nat × Nat)):(pms n es).length=n:=by
 have:∀(es:List (Nat × Nat)) (m:List Int),(es.foldl (fun m e=>pm m e.1 e.2) m).length=m.length:=by
  intro es
  induction es with
  | nil=>intro m;rfl
  | cons e es ih=>intro m;rw[List.foldl_cons,ih,pm_length]
 unfold pms;rw[this];simp
theorem lms_length(n:Nat)(es:List (Nat × Nat)):(lms n es).length=n:=by
 have:∀(es:List (Nat × Nat)) (m:List Int),(es.foldl (fun m e=>lm m e.1 e.2) m).length=m.length:=by
  intro es
  induction es with
  | nil=>intro m;rfl
  | cons e es ih=>intro m;rw[List.foldl_cons,ih,lm_length]
 unfold lms;rw[this];simp
theorem pms_snoc(n:Nat)(es:List (Nat × Nat))(e:Nat × Nat):pms n (es++[e])=pm (pms n es) e.1 e.2:=by unfold pms;rw[List.foldl_append];rfl
theorem lms_snoc(n:Nat)(es:List (Nat × Nat))(e:Nat × Nat):lms n (es++[e])=lm (lms n es) e.1 e.2:=by unfold lms;rw[List.foldl_append];rfl
theorem same_pms{n:Nat}:∀ {es:List (Nat × Nat)},(∀ e∈es,e.1<n/\e.2<n)->SameP (pms n es) (lms n es):=by
 intro es
 have key:∀(es:List (Nat × Nat)) (m l:List Int),SameP m l->m.length=n->(∀ e∈es,e.1<n/\e.2<n)->SameP (es.foldl (fun m e=>pm m e.1 e.2) m) (es.foldl (fun m e=>lm m e.1 e.2) l):=by
  intro es
  induction es with
  | nil=>intro m l s _ _;exact s
  | cons e es ih =>
   intro m l s hm he
   have h1:=he e List.mem_cons_self
   exact ih _ _ (s.step (by omega) (by omega)) (by rw[pm_length];exact hm) fun x hx=>he x (List.mem_cons_of_mem _ hx)
 exact key es _ _ ⟨rfl,fun i j _ _=>Iff.rfl⟩ (by simp)
def gstep(g:List (Int × List Int))(place k:Int):List (Int × List Int) :=
 if k∈g.map (·.1) then g.map (fun kv=>if kv.1=k then (kv.1,kv.2++[place]) else kv) else g++[(k,[place])]
def grpA(M:List Int):Nat->List (Int × List Int)
 | 0=>[]
 | i+1=>gstep (grpA M i) (i:Int) (mk M i)
def grp(M:List Int):List (Int × List Int):=grpA M M.length
theorem gstep_keys(g:List (Int × List Int))(p k:Int):(gstep g p k).map (·.1)=if k∈g.map (·.1) then g.map (·.1) else g.map (·.1)++[k]:=by
 unfold gstep
 split
 ·rw[List.map_map]
  refine List.map_congr_left fun kv _=>?_
  show(if kv.1=k then (kv.1,kv.2++[p]) else kv).1=kv.1
  split <;> rfl
 ·simp
theorem gstep_nodup{g:List (Int × List Int)}{p k:Int}(h:(g.map (·.1)).Nodup):((gstep g p k).map (·.1)).Nodup:=by
 rw[gstep_keys]
 split
 ·exact h
 ·rename_i hk
  rw[List.nodup_append]
  refine⟨h,by simp,fun a ha b hb=>?_⟩
  rw[List.mem_singleton]at hb
  subst hb
  rintro rfl
  exact hk ha
theorem grpA_nodup(M:List Int):∀ i,((grpA M i).map (·.1)).Nodup
 | 0=>by simp[grpA]
 | i+1=>gstep_nodup (grpA_nodup M i)
theorem grpA_mem(M:List Int):∀ i kv,kv∈grpA M i->∀ z:Int,z∈kv.2↔(0<=z/\z<(i:Int)/\mk M z.toNat=kv.1)
 | 0,kv,h,z=>by simp[grpA]at h
 | i+1,kv,h,z=>by
  unfold grpA gstep at h
  split at h
  ·rename_i hk
   obtain⟨kv0,h0,e⟩:=List.mem_map.mp h
   have ih:=grpA_mem M i kv0 h0 z
   by_cases hc:kv0.1=mk M i
   ·rw[if_pos hc]at e
    subst e
    rw[List.mem_append,ih,List.mem_singleton]
    constructor
    ·rintro(⟨a,b,c⟩ | rfl)
     ·exact⟨a,by omega,c⟩
     ·exact⟨by omega,by omega,by simpa using hc.symm⟩
    ·rintro⟨a,b,c⟩
     by_cases hz:z<(i:Int)
     ·exact .inl ⟨a,hz,c⟩
     ·exact .inr (by omega)
   ·rw[if_neg hc]at e
    subst e
    rw[ih]
    constructor
    ·rintro⟨a,b,c⟩;exact⟨a,by omega,c⟩
    ·rintro⟨a,b,c⟩
     refine⟨a,?_,c⟩
     by_cases hz:z<(i:Int)
     ·exact hz
     ·have e:z.toNat=i:=by omega
      rw[e]at c
      exact absurd c.symm hc
  ·rename_i hk
   rcases List.mem_append.mp h with h0 | h0
   ·have ih:=grpA_mem M i kv h0 z
    rw[ih]
    constructor
    ·rintro⟨a,b,c⟩;exact⟨a,by omega,c⟩
    ·rintro⟨a,b,c⟩
     refine⟨a,?_,c⟩
     by_cases hz:z<(i:Int)
     ·exact hz
     ·have e:z.toNat=i:=by omega
      rw[e]at c
      exact absurd (List.mem_map.mpr ⟨kv,h0,c.symm⟩) hk
   ·rw[List.mem_singleton]at h0
    subst h0
    simp only [List.mem_singleton]
    constructor
    ·rintro rfl;exact⟨by omega,by omega,by simp⟩
    ·rintro⟨a,b,c⟩
     by_cases hz:z<(i:Int)
     ·exfalso
      have key:=grpA_key M i z.toNat (by omega)
      rw[c]at key
      exact hk key
     ·omega
where
 grpA_key (M:List Int):∀ i j,j<i->mk M j∈(grpA M i).map (·.1)
  | 0,j,h=>absurd h (Nat.not_lt_zero j)
  | i+1,j,h=>by
   show mk M j∈(gstep (grpA M i) (i:Int) (mk M i)).map (·.1)
   rw[gstep_keys]
   by_cases hj:j<i
   ·have:=grpA_key M i j hj
    split
    ·exact this
    ·exact List.mem_append_left _ this
   ·have e:j=i:=by omega
    subst e
    split
    ·assumption
    ·simp
theorem grpA_key{M:List Int}{i j:Nat}(h:j<i):mk M j∈(grpA M i).map (·.1):=grpA_mem.grpA_key M i j h
theorem grpA_of_key(M:List Int):∀ i k,k∈(grpA M i).map (·.1)->∃ j,j<i/\mk M j=k
 | 0,k,h=>by simp[grpA]at h
 | i+1,k,h=>by
  have h:k∈(gstep (grpA M i) (i:Int) (mk M i)).map (·.1):=h
  rw[gstep_keys]at h
  have old:k∈(grpA M i).map (·.1)->∃ j,j<i+1/\mk M j=k:=fun q=>by
   obtain⟨j,hj,e⟩:=grpA_of_key M i k q
   exact⟨j,by omega,e⟩
  split at h
  ·exact old h
  ·rcases List.mem_append.mp h with q | q
   ·exact old q
   ·rw[List.mem_singleton]at q
    exact⟨i,by omega,q.symm⟩
theorem grp_one{M:List Int}(hM:1<=M.length):(grp M).length=1↔∀ i j,i<M.length->j<M.length->mk M i=mk M j:=by
 unfold grp
 constructor
 ·intro h i j hi hj
  obtain⟨kv,e⟩:=List.length_eq_one_iff.mp h
  have h1:=grpA_key (M:=M) hi
  have h2:=grpA_key (M:=M) hj
  rw[e]at h1 h2
  rw[List.map_singleton,List.mem_singleton]at h1 h2
  rw[h1,h2]
 ·intro h
  have nd:=grpA_nodup M M.length
  have h0:=grpA_key (M:=M) (i:=M.length) (j:=0) (by omega)
  generalize hg:(grpA M M.length)=g at *
  match g,hg with
  | [],_=>simp at h0
  | [kv],_=>rfl
  | a :: b :: r,hg =>
   exfalso
   obtain⟨i,hi,e1⟩:=grpA_of_key M M.length a.1 (by rw[hg];simp)
   obtain⟨j,hj,e2⟩:=grpA_of_key M M.length b.1 (by rw[hg];simp)
   have e3:=h i j hi hj
   have:a.1=b.1:=by rw[<- e1,<- e2,e3]
   simp[this]at nd
theorem SameP.one{m l:List Int}(s:SameP m l):(∀ i j,i<m.length->j<m.length->mk m i=mk m j)↔(∀ i j,i<l.length->j<l.length->mk l i=mk l j):=by
 obtain⟨hl,h⟩:=s
 rw[<- hl]
 constructor
 ·intro q i j hi hj;exact(h i j hi hj).mp (q i j hi hj)
 ·intro q i j hi hj;exact(h i j hi hj).mpr (q i j hi hj)
theorem grpA_len{M:List Int}:∀ {i:Nat} {kv:Int × List Int},kv∈grpA M i->kv.2.length<=i
 | 0,kv,h=>by simp[grpA]at h
 | i+1,kv,h=>by
  unfold grpA gstep at h
  split at h
  ·obtain⟨kv0,h0,e⟩:=List.mem_map.mp h
   have ih:=grpA_len h0
   by_cases hc:kv0.1=mk M i
   ·rw[if_pos hc]at e
    subst e
    rw[List.length_append,List.length_singleton]
    omega
   ·rw[if_neg hc]at e
    subst e
    omega
  ·rcases List.mem_append.mp h with h0 | h0
   ·have ih:=grpA_len h0
    omega
   ·rw[List.mem_singleton]at h0
    subst h0
    simp
end My
namespace My
open PySem L2 PyProof.Rows
theorem inV_ints(z:Int)(l:List Int):inV (.int z) (IL l)=decide (z∈l):=by
 unfold inV
 rw[List.any_map]
 rw[Bool.eq_iff_iff,List.any_eq_true,decide_eq_true_iff]
 constructor
 ·rintro⟨y,hy,e⟩
  have e':y=z:=by simpa [eqV] using e
  rw[<- e'];exact hy
 ·intro h;exact⟨z,h,by simp[eqV]⟩
theorem flat_ints(l:List Int):(IL l).all flatV=true:=by
 rw[List.all_map,List.all_eq_true]
 intro x _
 rfl
theorem dec_int{a b:Int}:decide (V.int a=V.int b)=decide (a=b):=by
 by_cases h:a=b
 ·subst h;simp
 ·have h':¬ V.int a=V.int b:=fun z=>h (V.int.inj z)
  rw[decide_eq_false h,decide_eq_false h']
theorem dec_bl{a b:Bool}:decide (V.bl a=V.bl b)=decide (a=b):=by
 by_cases h:a=b
 ·subst h;simp
 ·have h':¬ V.bl a=V.bl b:=fun z=>h (V.bl.inj z)
  rw[decide_eq_false h,decide_eq_false h']
end My
namespace My
open PySem L2
def IsSet(m:Nat)(ns:List Int):Prop:=∀ i z,ns[i]?=some z->0<=z/\z<(m:Int)/\∀ y,i≠0->ns[i - 1]?=some y->y<z
def endsOf(ps:List (Int × Int))(ns:List Int):List (Nat × Nat):=ns.map fun z=>((ps.getD z.toNat (0,0)).1.toNat,(ps.getD z.toNat (0,0)).2.toNat)
theorem endsOf_snoc{ps:List (Int × Int)}{ns:List Int}{i:Nat}{z:Int}(h:ns[i]?=some z):endsOf ps (ns.take (i+1))=endsOf ps (ns.take i)++[((ps.getD z.toNat (0,0)).1.toNat,(ps.getD z.toNat (0,0)).2.toNat)]:=by
 unfold endsOf
 rw[List.take_succ,h]
 simp
theorem mk_some{m:List Int}{i:Nat}(h:i<m.length):m[i]?=some (mk m i):=by
 rw[List.getElem?_eq_getElem h]
 simp[mk,List.getD_eq_getElem?_getD,List.getElem?_eq_getElem h]
theorem rngI_zero(n:Int):rngI 0 n=(List.range n.toNat).map fun(i:Nat)=>(i:Int):=by
 unfold rngI
 rw[Int.sub_zero]
 refine List.map_congr_left fun i _=>?_
 omega
def gkv(g:List (Int × List Int))(as:List Addr):List (Key × V):=List.zipWith (fun kv a=>((Sum.inl kv.1:Key),V.ref a)) g as
theorem gkv_length{g:List (Int × List Int)}{as:List Addr}(h:as.length=g.length):(gkv g as).length=g.length:=by unfold gkv;rw[List.length_zipWith];omega
theorem gkv_snd:∀ {g:List (Int × List Int)} {as:List Addr},as.length=g.length->(gkv g as).map (·.2)=as.map V.ref
 | [],[],_=>rfl
 | [],_ :: _,h=>by simp at h
 | _ :: _,[],h=>by simp at h
 | kv :: g,a :: as,h=>by
  show V.ref a :: (gkv g as).map (·.2)=V.ref a :: as.map V.ref
  rw[gkv_snd (Nat.succ.inj h)]
theorem gkv_keys:∀ {g g':List (Int × List Int)} {as:List Addr},g.map (·.1)=g'.map (·.1)->gkv g as=gkv g' as
 | [],[],_,_=>rfl
 | [],_ :: _,_,h=>by simp at h
 | _ :: _,[],_,h=>by simp at h
 | kv :: g,kv' :: g',[],_=>rfl
 | kv :: g,kv' :: g',a :: as,h=>by
  rw[List.map_cons,List.map_cons,List.cons.injEq]at h
  show((Sum.inl kv.1:Key),V.ref a) :: gkv g as=((Sum.inl kv'.1:Key),V.ref a) :: gkv g' as
  rw[h.1,gkv_keys h.2]
theorem gkv_snoc:∀ {g:List (Int × List Int)} {as:List Addr} {kv:Int × List Int} {a:Addr},as.length=g.length->gkv (g++[kv]) (as++[a])=gkv g as++[((Sum.inl kv.1:Key),V.ref a)]
 | [],[],_,_,_=>rfl
 | [],_ :: _,_,_,h=>by simp at h
 | _ :: _,[],_,_,h=>by simp at h
 | x :: g,y :: as,kv,a,h=>by
  show _ :: gkv (g++[kv]) (as++[a])=_ :: (gkv g as++_)
  rw[gkv_snoc (Nat.succ.inj h)]
theorem gkv_val:∀ {g:List (Int × List Int)} {as:List Addr} {k:Int},as.length=g.length ->
  (valV (gkv g as) (Sum.inl k:Key)=none/\k∉g.map (·.1))\/∃(j:Nat) (kv:Int × List Int) (a:Addr),g[j]?=some kv/\as[j]?=some a/\kv.1=k/\valV (gkv g as) (Sum.inl k:Key)=some (.ref a)
 | [],[],k,_=>.inl ⟨rfl,by simp⟩
 | [],_ :: _,_,h=>by simp at h
 | _ :: _,[],_,h=>by simp at h
 | kv :: g,a :: as,k,h=>by
  by_cases e:kv.1=k
  ·refine .inr ⟨0,kv,a,rfl,rfl,e,?_⟩
   show valV (((Sum.inl kv.1:Key),V.ref a) :: gkv g as) _=_
   rw[valV_pos (by rw[e])]
  ·have e':¬ ((Sum.inl kv.1:Key)=Sum.inl k):=fun z=>e (Sum.inl.inj z)
   have ev:valV (gkv (kv :: g) (a :: as)) (Sum.inl k:Key)=valV (gkv g as) (Sum.inl k:Key):=valV_neg (p:=((Sum.inl kv.1:Key),V.ref a)) e'
   rcases gkv_val (g:=g) (as:=as) (k:=k) (Nat.succ.inj h) with ⟨h1,h2⟩ | ⟨j,kv',a',h1,h2,h3,h4⟩
   ·refine .inl ⟨by rw[ev];exact h1,?_⟩
    rw[List.map_cons,List.mem_cons]
    rintro(z | z)
    ·exact e z.symm
    ·exact h2 z
   ·exact .inr ⟨j+1,kv',a',by simpa using h1,by simpa using h2,h3,by rw[ev];exact h4⟩
structure GrpAt (H0 H:Hp) (g:List (Int × List Int)) (as:List Addr):Prop where
 len:as.length=g.length
 nd:as.Nodup
 at_:∀(i:Nat) (kv:Int × List Int) (a:Addr),g[i]?=some kv->as[i]?=some a->H a=some (.lst (IL kv.2))
 new:∀ a∈as,H0 a=none
theorem GrpAt.same{H0 H H':Hp}{g:List (Int × List Int)}{as:List Addr}(s:Same H H')(h:GrpAt H0 H g as):GrpAt H0 H' g as:=⟨h.len,h.nd,fun i kv a e1 e2=>s _ _ (h.at_ i kv a e1 e2),h.new⟩
theorem GrpAt.mem{H0 H:Hp}{g:List (Int × List Int)}{as:List Addr}(h:GrpAt H0 H g as){a:Addr}(ha:a∈as):∃ l,H a=some (.lst l):=by
 obtain⟨i,hi,e⟩:=List.getElem_of_mem ha
 have hg:i<g.length:=by rw[<- h.len];exact hi
 exact⟨_,h.at_ i g[i] a (List.getElem?_eq_getElem hg) (by rw[List.getElem?_eq_getElem hi,e])⟩
theorem IsSet.all{m:Nat}{ns:List Int}(h:IsSet m ns):∀ z∈ns,0<=z/\z<(m:Int):=fun z hz=>by
 obtain⟨i,hi,e⟩:=List.getElem_of_mem hz
 obtain⟨a,b,_⟩:=h i z (by rw[List.getElem?_eq_getElem hi,e])
 exact⟨a,b⟩
theorem IsSet.nil(m:Nat):IsSet m []:=fun i z e=>by simp at e
theorem IsSet.up{m:Nat}{ns:List Int}(h:IsSet m ns):IsSet (m+1) ns:=fun i z e=>by
 obtain⟨a,b,c⟩:=h i z e
 exact⟨a,by omega,c⟩
theorem IsSet.snoc{m:Nat}{ns:List Int}(h:IsSet m ns):IsSet (m+1) (ns++[(m:Int)]):=fun i z e=>by
 by_cases hi:i<ns.length
 ·rw[List.getElem?_append_left hi]at e
  obtain⟨a,b,c⟩:=h i z e
  refine⟨a,by omega,fun y h0 ey=>?_⟩
  rw[List.getElem?_append_left (by omega)]at ey
  exact c y h0 ey
 ·have hl:i=ns.length:=by
   have:=(List.getElem?_eq_some_iff.mp e).1
   rw[List.length_append,List.length_singleton]at this
   omega
  subst hl
  rw[List.getElem?_append_right (Nat.le_refl _),Nat.sub_self]at e
  have e:(m:Int)=z:=Option.some.inj e
  subst e
  refine⟨by omega,by omega,fun y h0 ey=>?_⟩
  rw[List.getElem?_append_left (by omega)]at ey
  exact(h _ y ey).2.1
theorem IsSet.len{m:Nat}:∀ {ns:List Int},IsSet m ns->ns.length<=m:=fun {ns} h=>by
 have key:∀(i:Nat) (z:Int),ns[i]?=some z->(i:Int)<=z:=by
  intro i
  induction i with
  | zero=>intro z e;exact(h 0 z e).1
  | succ i ih =>
   intro z e
   have hi:i<ns.length:=by have:=(List.getElem?_eq_some_iff.mp e).1;omega
   have e2:ns[i]?=some ns[i]:=List.getElem?_eq_getElem hi
   have:=ih _ e2
   have:=(h (i+1) z e).2.2 ns[i] (by omega) (by rw[Nat.add_sub_cancel];exact e2)
   omega
 by_cases h0:ns.length=0
 ·omega
 ·have e:ns[ns.length - 1]?=some (ns[ns.length - 1]'(by omega)):=List.getElem?_eq_getElem _
  have a:=key _ _ e
  have b:=(h _ _ e).2.1
  omega
end My
namespace L2
open PySem PySem.Spec PyProof.Rows
section
variable{X:Cx}
theorem truth_bools{prog:Program}{w:World}{A:Around}{its:Array Value}{bs:List Bool}(h:∀(i:Nat) (v:Value),its[i]?=some v->∃ b,bs[i]?=some b/\v=.bool b):TruthOf prog w A (fun i v=>its[i]?=some v) (fun i=>bs.getD i false):=by
 intro i v s Q E hP hQ
 obtain⟨b,eb,rfl⟩:=h i v hP
 have hQ:Q (bs.getD i false) s:=hQ
 rw[List.getD_eq_getElem?_getD,eb]at hQ
 exact wpAny_truthy_bool hQ
theorem all_getD(bs:List Bool):(List.range bs.length).all (fun i=>bs.getD i false)=bs.all id:=by
 rw[Bool.eq_iff_iff,List.all_eq_true,List.all_eq_true]
 constructor
 ·intro h b hb
  obtain⟨i,hi,e⟩:=List.getElem_of_mem hb
  have:=h i (List.mem_range.mpr hi)
  rw[List.getD_eq_getElem?_getD,List.getElem?_eq_getElem hi,e]at this
  exact this
 ·intro h i hi
  have hi:=List.mem_range.mp hi
  rw[List.getD_eq_getElem?_getD,List.getElem?_eq_getElem hi]
  exact h _ (List.getElem_mem hi)
theorem bools_at{bs:List Bool}{its:List Value}(r:Vals (bs.map V.bl) its):∀(i:Nat) (v:Value),its.toArray[i]?=some v->∃ b,bs[i]?=some b/\v=.bool b:=fun i v e=>by
 have e:its[i]?=some v:=by simpa using e
 have hi:i<its.length:=(List.getElem?_eq_some_iff.mp e).1
 obtain⟨x,ex,rx⟩:=r.at hi
 rw[List.getElem?_map]at ex
 cases eb:bs[i]? with
 | none=>rw[eb]at ex;cases ex
 | some b =>
  rw[eb]at ex
  have ex:V.bl b=x:=Option.some.inj ex
  subst ex
  rw[List.getElem?_eq_getElem hi]at e
  have e:its[i]=v:=Option.some.inj e
  rw[e]at rx
  exact⟨b,rfl,rx⟩
theorem call_allK (K:PySem.W.Frag) (hc:X.calm=true) (h:X.K=K:=by rfl):CallR X (.builtin "all") (fun xs H Q=>∃(p:Addr) (bs:List Bool),xs=[.ref p]/\SqL K H p (bs.map V.bl)/\Q (.bl (bs.all id)) H):=by
 subst h
 intro pins s σ H xs us Q I r h
 obtain⟨p,bs,rfl,hq,q⟩:=h
 obtain⟨u,rfl,ru⟩:=vals1 r
 obtain rfl:u=Value.ref p:=ru
 obtain⟨its,rv,pl,hz⟩:=I.list hq
 have hl:its.toArray.size=bs.length:=by rw[List.size_toArray,<- rv.length,List.length_map]
 have hne:p≠s.heap.objs.size:=Nat.ne_of_lt (let ⟨_,_,e,_⟩:=pl;Heap.lt_size e)
 refine call_all_walk (wpAny_pyIter_list pl.isList ⟨s.heap.objs.size,_,_,_,_,_,_,rfl,Walks.list (A:=X.A.in1) (I.ok.hd hc) s.heap.objs.size p hne its.toArray,⟨⟨_,Heap.get?_push_size _ rfl,rfl,rfl⟩,pl.isList.push _⟩,truth_bools (bools_at rv),fun h' tk hk=>?_⟩)
 rw[hl,all_getD]
 refine⟨.bl (bs.all id),H,I.kept fun b o e=>hk b o ?_ (Heap.get?_push_of_some _ e),rfl,q⟩
 intro z
 rw[List.mem_singleton.mp z]at e
 exact absurd (Heap.lt_size e) (Nat.lt_irrefl _)
end
end L2
namespace My
open PySem L2
section
variable{K:PySem.W.Frag}{H:Hp}{α:Type}[DecidableEq α]
def Bears(R:V->α->Prop)(xs:List V)(l:List α):Prop:=xs.length=l.length/\∀(i:Nat) (a:α),l[i]?=some a->∃ x,xs[i]?=some x/\R x a
theorem Bears.at{R:V->α->Prop}{xs:List V}{l:List α}(h:Bears R xs l){i:Nat}{x:V}(e:xs[i]?=some x):∃ a,l[i]?=some a/\R x a:=by
 have hi:i<xs.length:=(List.getElem?_eq_some_iff.mp e).1
 have hl:i<l.length:=by rw[<- h.1];exact hi
 obtain⟨x',e1,q⟩:=h.2 i l[i] (List.getElem?_eq_getElem hl)
 rw[e]at e1
 cases e1
 exact⟨_,List.getElem?_eq_getElem hl,q⟩
theorem all_dec{l m:List α}(h:l.length=m.length):(List.range l.length).all (fun i=>decide (l[i]?=m[i]?))=decide (l=m):=by
 rw[Bool.eq_iff_iff,List.all_eq_true,decide_eq_true_iff]
 constructor
 ·intro q
  refine List.ext_getElem? fun i=>?_
  by_cases hi:i<l.length
  ·exact of_decide_eq_true (q i (List.mem_range.mpr hi))
  ·rw[List.getElem?_eq_none (by omega),List.getElem?_eq_none (by omega)]
 ·rintro rfl i _
  simp
theorem eqd_lists{R:V->α->Prop}{n:Nat}{p q:Addr}{xs ys:List V}{l m:List α}(hp:SqL K H p xs)(hq:SqL K H q ys)(h1:Bears R xs l)(h2:Bears R ys m)(hR:∀ x y a b,R x a->R y b->EqD K H n x y (decide (a=b))):EqD K H (n+1) (.ref p) (.ref q) (decide (l=m)):=by
 by_cases hl:xs.length=ys.length
 ·have e:=all_dec (l:=l) (m:=m) (by rw[<- h1.1,<- h2.1,hl])
  rw[<- e,<- h1.1]
  refine EqD.lsts hp hq hl fun i x y ex ey=>?_
  obtain⟨a,ea,ra⟩:=h1.at ex
  obtain⟨b,eb,rb⟩:=h2.at ey
  rw[ea,eb,show decide (some a=some b)=decide (a=b) by simp]
  exact hR x y a b ra rb
 ·have e:decide (l=m)=false:=decide_eq_false fun z=>hl (by rw[h1.1,h2.1,z])
  rw[e]
  exact EqD.lens hp hq hl
theorem eqd_tups{R:V->α->Prop}{n:Nat}{p q:Addr}{xs ys:List V}{l m:List α}(hp:SqT K H p xs)(hq:SqT K H q ys)(h1:Bears R xs l)(h2:Bears R ys m)(hR:∀ x y a b,R x a->R y b->EqD K H n x y (decide (a=b))):EqD K H (n+1) (.ref p) (.ref q) (decide (l=m)):=by
 have key:=EqD.tups (e:=fun i=>decide (l[i]?=m[i]?)) hp hq fun i x y ex ey=>by
  obtain⟨a,ea,ra⟩:=h1.at ex
  obtain⟨b,eb,rb⟩:=h2.at ey
  rw[ea,eb,show decide (some a=some b)=decide (a=b) by simp]
  exact hR x y a b ra rb
 by_cases hl:xs.length=ys.length
 ·have e:=all_dec (l:=l) (m:=m) (by rw[<- h1.1,<- h2.1,hl])
  rw[<- hl,Nat.min_self,h1.1,e,show(l.length == l.length)=true by simp,Bool.and_true]at key
  exact key
 ·have e:decide (l=m)=false:=decide_eq_false fun z=>hl (by rw[h1.1,h2.1,z])
  rw[show(xs.length == ys.length)=false by simpa using hl,Bool.and_false]at key
  rw[e]
  exact key
theorem bears_ints(ns:List Int):Bears (fun x (z:Int)=>x=.int z) (IL ns) ns:=⟨ζ3 ns,fun i z e=>⟨_,il_at e,rfl⟩⟩
theorem eqd_int{n:Nat}{x y:V}{a b:Int}(hx:x=.int a)(hy:y=.int b):EqD K H n x y (decide (a=b)):=by
 subst hx hy
 have e:decide (a=b)=eqV (.int a) (.int b):=by
  show decide (a=b)=(a == b)
  rw[Bool.beq_eq_decide_eq]
 rw[e]
 exact EqD.flat rfl rfl
theorem eqd_ints{p q:Addr}{ns ms:List Int}(hp:SqL K H p (IL ns))(hq:SqL K H q (IL ms)):EqD K H 1 (.ref p) (.ref q) (decide (ns=ms)) :=
 eqd_lists hp hq (bears_ints ns) (bears_ints ms) fun _ _ _ _=>eqd_int
theorem eqd_tints{p q:Addr}{ns ms:List Int}(hp:SqT K H p (IL ns))(hq:SqT K H q (IL ms)):EqD K H 1 (.ref p) (.ref q) (decide (ns=ms)) :=
 eqd_tups hp hq (bears_ints ns) (bears_ints ms) fun _ _ _ _=>eqd_int
def ListV(H:Hp)(v:V)(l:List Int):Prop:=∃ a,v=.ref a/\H a=some (.lst (IL l))
theorem eqd_listv{n:Nat}{x y:V}{a b:List Int}(hx:ListV H x a)(hy:ListV H y b):EqD K H (n+1) x y (decide (a=b)):=by
 obtain⟨t,rfl,ht⟩:=hx
 obtain⟨u,rfl,hu⟩:=hy
 exact eqd_lists (SqL.of ht) (SqL.of hu) (bears_ints a) (bears_ints b) fun _ _ _ _=>eqd_int
theorem eqd_llints{p q:Addr}{xs ys:List V}{l m:List (List Int)}(hp:SqL K H p xs)(hq:SqL K H q ys)(h1:Bears (ListV H) xs l)(h2:Bears (ListV H) ys m):EqD K H 2 (.ref p) (.ref q) (decide (l=m)) :=
 eqd_lists hp hq h1 h2 fun _ _ _ _=>eqd_listv
end
end My
namespace My
def fstB(M:List Int)(p:Nat):Bool:=(List.range p).all fun i=>decide (mk M i≠mk M p)
def posA(M:List Int)(k:Int)(i:Nat):List Int:=((List.range i).filter fun j=>decide (mk M j=k)).map fun(j:Nat)=>(j:Int)
def fstA(M:List Int)(i:Nat):List Nat:=(List.range i).filter (fstB M)
theorem fstB_iff{M:List Int}{p:Nat}:fstB M p=true↔∀ i,i<p->mk M i≠mk M p:=by
 unfold fstB
 rw[List.all_eq_true]
 constructor
 ·intro h i hi;exact of_decide_eq_true (h i (List.mem_range.mpr hi))
 ·intro h i hi;exact decide_eq_true (h i (List.mem_range.mp hi))
theorem posA_succ(M:List Int)(k:Int)(i:Nat):posA M k (i+1)=posA M k i++(if mk M i=k then [(i:Int)] else []):=by
 unfold posA
 rw[List.range_succ,List.filter_append,List.map_append]
 congr 1
 by_cases h:mk M i=k
 ·rw[if_pos h,List.filter_cons,if_pos (by simpa using h)];rfl
 ·rw[if_neg h,List.filter_cons,if_neg (by simpa using h)];rfl
theorem fstA_succ(M:List Int)(i:Nat):fstA M (i+1)=fstA M i++(if fstB M i=true then [i] else []):=by
 unfold fstA
 rw[List.range_succ,List.filter_append]
 congr 1
 by_cases h:fstB M i=true
 ·rw[if_pos h,List.filter_cons,if_pos h];rfl
 ·rw[if_neg h,List.filter_cons,if_neg h];rfl
theorem grpA_eq(M:List Int):∀ i,grpA M i=(fstA M i).map fun p=>(mk M p,posA M (mk M p) i)
 | 0=>rfl
 | i+1=>by
  have ih:=grpA_eq M i
  show gstep (grpA M i) (i:Int) (mk M i)=_
  have hk:(mk M i∈(grpA M i).map (·.1))↔fstB M i≠true:=by
   constructor
   ·intro h q
    obtain⟨j,hj,e⟩:=grpA_of_key M i _ h
    exact fstB_iff.mp q j hj e
   ·intro h
    by_cases q:∃ j,j<i/\mk M j=mk M i
    ·obtain⟨j,hj,e⟩:=q
     rw[<- e]
     exact grpA_key hj
    ·exact absurd (fstB_iff.mpr fun j hj e=>q ⟨j,hj,e⟩) h
  unfold gstep
  by_cases h:mk M i∈(grpA M i).map (·.1)
  ·have hf:=hk.mp h
   rw[if_pos h,fstA_succ,if_neg hf,List.append_nil,ih,List.map_map]
   refine List.map_congr_left fun p _=>?_
   show(if mk M p=mk M i then (mk M p,posA M (mk M p) i++[(i:Int)]) else (mk M p,posA M (mk M p) i))=(mk M p,posA M (mk M p) (i+1))
   rw[posA_succ]
   by_cases e:mk M p=mk M i
   ·rw[if_pos e,if_pos e.symm]
   ·rw[if_neg e,if_neg (fun z=>e z.symm),List.append_nil]
  ·have hf:fstB M i=true:=by
    cases q:fstB M i with
    | true=>rfl
    | false=>exact absurd (hk.mpr (by rw[q];exact Bool.false_ne_true)) h
   rw[if_neg h,fstA_succ,if_pos hf,List.map_append,ih]
   congr 1
   ·refine List.map_congr_left fun p hp=>?_
    have hpi:p<i:=List.mem_range.mp (List.mem_filter.mp hp).1
    rw[posA_succ,if_neg (fun z=>fstB_iff.mp hf p hpi z.symm),List.append_nil]
   ·show [(mk M i,[(i:Int)])]=[(mk M i,posA M (mk M i) (i+1))]
    rw[posA_succ,if_pos rfl]
    have e0:posA M (mk M i) i=[]:=by
     unfold posA
     rw[List.filter_eq_nil_iff.mpr fun j hj=>by simpa using fstB_iff.mp hf j (List.mem_range.mp hj)]
     rfl
    rw[e0]
    rfl
end My
namespace My
open PySem L2
theorem Bears.snoc{α:Type}[DecidableEq α]{R:V->α->Prop}{xs:List V}{l:List α}{x:V}{a:α}(h:Bears R xs l)(hx:R x a):Bears R (xs++[x]) (l++[a]):=by
 refine⟨by rw[List.length_append,List.length_append,h.1];rfl,fun i b e=>?_⟩
 by_cases hi:i<l.length
 ·rw[List.getElem?_append_left hi]at e
  rw[List.getElem?_append_left (by rw[h.1];exact hi)]
  exact h.2 i b e
 ·have hl:i=l.length:=by
   have:=(List.getElem?_eq_some_iff.mp e).1
   rw[List.length_append,List.length_singleton]at this
   omega
  subst hl
  rw[List.getElem?_append_right (Nat.le_refl _),Nat.sub_self]at e
  rw[List.getElem?_append_right (by rw[h.1];exact Nat.le_refl _),h.1,Nat.sub_self]
  have e':a=b:=Option.some.inj e
  subst e'
  exact⟨x,rfl,hx⟩
theorem Bears.imp{α:Type}[DecidableEq α]{R R':V->α->Prop}{xs:List V}{l:List α}(h:Bears R xs l)(f:∀ x a,R x a->R' x a):Bears R' xs l:=⟨h.1,fun i a e=>let ⟨x,e1,r⟩:=h.2 i a e;⟨x,e1,f x a r⟩⟩
end My
namespace L2
open PySem PySem.Spec PyProof.Rows
theorem ObjOk.there{P:Program}{w:World}{H:Hp}{h:Heap}{a:Addr}{o:HO}(x:ObjOk P w H h a o):∃ u,h.get? a=some u:=by
 cases o with
 | lst xs=>obtain⟨_,_,_,_,e⟩:=x;exact⟨_,e⟩
 | tup xs=>obtain⟨_,_,_,o,e,_⟩:=x;exact⟨_,e⟩
 | dK kvs=>obtain⟨_,_,_,_,o,_,_,e,_⟩:=x;exact⟨_,e⟩
 | dT kvs=>obtain⟨_,_,_,_,o,_,_,e,_⟩:=x;exact⟨_,e⟩
 | set S n=>obtain⟨o,_,_,_,e,_⟩:=x;exact⟨_,e⟩
 | ins C dx fs=>obtain⟨_,_,_,e,_⟩:=x;exact⟨_,e⟩
 | own y=>exact x
 | xd fs=>obtain⟨_,⟨_,_,_,e,_⟩,_⟩:=x;exact⟨_,e⟩
 | rng lo hi=>obtain⟨_,_,_,e⟩:=x;exact⟨_,e⟩
 | frz ob u=>obtain⟨e,_⟩:=x;exact⟨_,e⟩
 | tbl ps=>exact⟨_,x⟩
 | met f y=>exact⟨_,x⟩
 | ext φ=>obtain⟨_,e,_⟩:=x;exact e
structure Fly (h0:Heap) (H:Hp) (e C:Addr) (h:Heap):Prop where
 ex:∃ oe vs T oT ts a0,h.get? e=some oe/\oe.cls=.ref C/\oe.data=.fields vs/\vs[0]?=some a0/\vs[1]?=some (.ref T)/\T≠e/\h.get? T=some oT/\oT.data=.fields ts/\ts[3]?=some .none/\h0.get? T=none/\H T=none
 new:h0.get? e=none
 free:H e=none
def CXW(P:Program)(w:World):CXT:=fun outer H s E ev s'=>∃(e C:Addr) (H':Hp),ev=Value.ref e/\s'.os=s.os/\AllBare s'.gens/\Un (frs outer) [] H H' s.heap s'.heap/\HOk P w H' s'.heap/\Fly s.heap H' e C s'.heap/\E (.ref C) none H'
section
variable{X:Cx}{pins:List (Addr × Obj)}{σ:St}{H:Hp}{s:Shared}{e C:Addr}
abbrev grd(X:Cx)(h:Heap)(ns:List Addr):Heap:=PySem.W.hideAll h (frs X.stack++ns)
theorem grd_get{h:Heap}{ns:List Addr}{b:Addr}{o:Obj}(q:h.get? b=some o)(h1:b∉frs X.stack)(h2:b∉ns):(grd X h ns).get? b=some o :=
 PySem.W.hideAll_get _ q fun z=>(List.mem_append.mp z).elim h1 h2
theorem grd_of{h:Heap}{ns:List Addr}:(grd X h ns).StaysIn h:=fun _ _ q=>PySem.W.of_hideAll _ q
theorem Inv.was(I:Inv X pins σ H s)(hex:X.ex=[]){b:Addr}(h:s.heap.get? b=none):X.s₀.heap.get? b=none:=by
 cases q:X.s₀.heap.get? b with
 | none=>rfl
 | some o =>
  obtain⟨o',e⟩:=I.base.there b o q (by rw[hex];simp)
  rw[h]at e;cases e
theorem hok_grd{P:Program}{w:World}{h':Heap}{ns:List Addr}{h:Heap}(ok:HOk P w H h)(hf:∀ b∈frs X.stack,H b=none)(hns:∀ b∈ns,H b=none)(k:(grd X h ns).StaysIn h'):HOk P w H h':=fun a o q =>
 (ok a o q).stay (fun b u hb g=>k b u (grd_get g (fun z=>by
  have:=hf b z
  rcases hb with rfl | hb
  ·rw[q]at this;cases this
  ·rw[hb]at this;cases this) fun z=>by
  have:=hns b z
  rcases hb with rfl | hb
  ·rw[q]at this;cases this
  ·rw[hb]at this;cases this)) (fun _ z=>z) fun _ _ z=>z
theorem frs_stack(hst:X.stack=X.env :: X.outer)(hfr:X.env.frame=some X.env.locals):frs X.stack=X.env.locals :: frs X.outer:=by
 rw[hst]
 unfold frs
 rw[List.filterMap_cons,hfr]
theorem cx_left(hst:X.stack=X.env :: X.outer)(hfr:X.env.frame=some X.env.locals)(hex:X.ex=[])(I:Inv X pins σ H s){ns:List Addr}(hns:∀ b∈ns,X.s₀.heap.get? b=none/\H b=none){h':Heap}{a0:Value}{E:XK}{s':Shared}
  (hfl:Heap.FlyingW (grd X s.heap ns) X.outer e (.ref C) a0 h') (up:s.heap.UpToSlots h') (ne:X.s₀.heap.get? e=none) (fe:H e=none) (hE:E (.ref C) none H) (hs:s'.heap=h') (ho:s'.os=s.os) (hg:s'.gens=s.gens) :
  CXW X.prog X.w X.outer X.H₀ X.s₀ E (.ref e) s':=by
 subst hs
 have fst:=frs_stack (X:=X) hst hfr
 have noL:∀ b o,X.s₀.heap.get? b=some o->b≠X.env.locals:=fun b o q=>Nat.ne_of_lt (Nat.lt_of_lt_of_le (Heap.lt_size q) I.ok.above)
 have nns:∀ b o,X.s₀.heap.get? b=some o->b∉ns:=fun b o q z=>by rw[(hns b z).1]at q;cases q
 have nfs:∀ b o,X.s₀.heap.get? b=some o->b∉frs X.outer->b∉frs X.stack:=fun b o q n z=>by
  rw[fst]at z
  rcases List.mem_cons.mp z with z | z
  ·exact noL b o q z
  ·exact n z
 have nex:∀ b,b∉X.ex:=fun b z=>by rw[hex]at z;cases z
 have keep:∀ b o u,X.s₀.heap.get? b=some o->b∉frs X.outer->s.heap.get? b=some u->s'.heap.get? b=some u:=fun b o u q n g=>hfl.1 b u (grd_get g (nfs b o q n) (nns b o q))
 have slot:∀ b u,b∈frs X.outer->s.heap.get? b=some u->∃ sl,s'.heap.get? b=some { u with slots:=sl }:=fun b u hb g=>by
  obtain⟨_,o',ho',hd⟩:=I.funs.mem hb
  rw[g]at ho'
  cases ho'
  exact up b u g hd
 refine⟨e,C,H,rfl,ho.trans I.os,hg ▸ I.bare,⟨fun b o q n hb _=>?_,fun b o q n hb _=>?_,fun b o q n _=>I.base.free b o q n (nex b),fun b o q _=>?_,I.base.tups,I.base.frzs,I.base.tbls⟩,hok_grd I.hok I.stkFree (fun b hb=>(hns b hb).2) hfl.1,⟨?_,ne,fe⟩,hE⟩
 ·exact keep b o o q hb (I.base.keep b o q n hb (nex b))
 ·obtain⟨sl,g⟩:=I.base.slot b o q n hb (nex b)
  obtain⟨sl',g'⟩:=slot b _ hb g
  exact⟨sl',g'⟩
 ·obtain⟨u,g⟩:=I.base.there b o q (nex b)
  by_cases hb:b∈frs X.outer
  ·obtain⟨sl,g'⟩:=slot b u hb g
   exact⟨_,g'⟩
  ·exact⟨u,keep b o u q hb g⟩
 ·obtain⟨f1,f2,f3,oe,vs,T,oT,ts,he,⟨hc,h0⟩,hd,h1,hnT,hTe,hT,hdT,h3⟩:=hfl
  refine⟨oe,vs,T,oT,ts,a0,he,hc,hd,h0,h1,hTe,hT,hdT,h3,?_,?_⟩
  ·cases q:X.s₀.heap.get? T with
   | none=>rfl
   | some o =>
    obtain⟨u,g⟩:=I.base.there T o q (nex T)
    by_cases hb:T∈frs X.outer
    ·obtain⟨_,o',ho',hd'⟩:=f3.mem hb
     rw[hT]at ho'
     cases ho'
     exact absurd hdT (hd' ts)
    ·rw[grd_get g (nfs T o q hb) (nns T o q)]at hnT
     cases hnT
  ·cases q:H T with
   | none=>rfl
   | some ho =>
    obtain⟨u,g⟩:=(I.hok T ho q).there
    rw[grd_get g (fun z=>by rw[I.stkFree T z]at q;cases q) (fun z=>by rw[(hns T z).2]at q;cases q)]at hnT
    cases hnT
theorem fly_base(hst:X.stack=X.env :: X.outer)(I:Inv X pins σ H s){h0:Heap}(F:Fly h0 H e C s.heap):∃ T a0,Heap.FlyingW (grd X s.heap [e,T]) X.stack e (.ref C) a0 s.heap/\h0.get? T=none/\H T=none:=by
 obtain⟨oe,vs,T,oT,ts,a0,he,hc,hd,h0',h1,hTe,hT,hdT,h3,nT,fT⟩:=F.ex
 refine⟨T,a0,⟨grd_of,PySem.W.hideAll_none _ (by simp),?_,oe,vs,T,oT,ts,he,⟨hc,h0'⟩,hd,h1,PySem.W.hideAll_none _ (by simp),hTe,hT,hdT,h3⟩,nT,fT⟩
 exact PySem.W.funFrames_hide I.stack fun env henv a hf=>List.mem_append_left _ (List.mem_filterMap.mpr ⟨env,henv,hf⟩)
theorem leave_fly(hst:X.stack=X.env :: X.outer)(hfr:X.env.frame=some X.env.locals)(hex:X.ex=[])(I:Inv X pins σ H s)(F:Fly X.s₀.heap H e C s.heap){E:XK}(hE:E (.ref C) none H){E':Value->Shared->Prop} :
  wpAny (model X.prog X.w) X.A (leaving X.env (.ref e)) (fun _ s''=>CXW X.prog X.w X.outer X.H₀ X.s₀ E (.ref e) s'') E' s:=by
 obtain⟨T,a0,fl,nT,fT⟩:=fly_base hst I F
 rw[hst]at fl
 refine wpAny_leaves_onW (by rw[I.ok.frames,hst]) hfr fl fun h' fl' up=>?_
 refine cx_left hst hfr hex I (fun b hb=>?_) fl' up F.new F.free hE rfl rfl rfl
 rcases List.mem_cons.mp hb with rfl | hb
 ·exact⟨F.new,F.free⟩
 ·rw[List.mem_singleton.mp hb];exact⟨nT,fT⟩
theorem leave_made(hst:X.stack=X.env :: X.outer)(hfr:X.env.frame=some X.env.locals)(hex:X.ex=[])(I:Inv X pins σ H s){h':Heap}{vs:List Value}(hm:Heap.MadeExcOf s.heap h' e (.ref C) vs){E:XK}(hE:E (.ref C) none H){E':Value->Shared->Prop} :
  wpAny (model X.prog X.w) X.A (leaving X.env (.ref e)) (fun _ s''=>CXW X.prog X.w X.outer X.H₀ X.s₀ E (.ref e) s'') E' { s with heap:=h' }:=by
 have ff:s.heap.FunFrames (grd X s.heap []) X.stack:=PySem.W.funFrames_hide I.stack fun env henv a hf=>List.mem_append_left _ (List.mem_filterMap.mpr ⟨env,henv,hf⟩)
 rw[hst]at ff
 refine wpAny_leaves_madeW (base:=grd X s.heap []) (h:=s.heap) (by rw[I.ok.frames,hst]) hfr grd_of ff hm fun h'' t fl _ _ up=>?_
 have fe:H e=none:=by
  cases q:H e with
  | none=>rfl
  | some ho =>
   obtain⟨u,g⟩:=(I.hok e ho q).there
   rw[hm.new]at g
   cases g
 exact cx_left (s':={ s with heap:=h'' }) hst hfr hex I (fun b hb=>by cases hb) fl ((Heap.UpToSlots.of_keeps hm.keeps).trans up) (I.was hex hm.new) fe hE rfl rfl rfl
theorem Inv.flown{E:XK}{ev:Value}{s':Shared}(I:Inv X pins σ H s)(h:CXW X.prog X.w X.stack H s E ev s'):∃ e C H',ev=Value.ref e/\Inv X pins σ H' s'/\Fly s.heap H' e C s'.heap/\E (.ref C) none H':=by
 obtain⟨e,C,H',rfl,ho,hg,u,ok,F,hE⟩:=h
 exact⟨e,C,H',rfl,I.call' (ch:=[]) ho u ok hg (fun _ z=>nomatch z),F,hE⟩
theorem Fly.older{h0 h1 h:Heap}(F:Fly h0 H e C h)(k:∀ b,h0.get? b=none->h1.get? b=none):Fly h1 H e C h:=by
 obtain⟨oe,vs,T,oT,ts,a0,he,hc,hd,h0',h1',hTe,hT,hdT,h3,nT,fT⟩:=F.ex
 exact⟨⟨oe,vs,T,oT,ts,a0,he,hc,hd,h0',h1',hTe,hT,hdT,h3,k _ nT,fT⟩,k _ F.new,F.free⟩
end
section
variable{P:Program}{w:World}{K:PySem.W.Frag}{mg:Str->Option Value}{base:Heap}
theorem pxs{N:List Str}{qual:Str}{scope:Scope}{f:Addr}{cd:Value}{A:Around}{outer:List Env}{s:Shared}{H:Hp}{E:XK}:Passes (CXW P w) (cxOf (CXW P w) P w K mg base N qual scope f cd A outer s H E) E:=by
 intro pins σ H1 s1 ev s' I h
 obtain⟨e,C,H',rfl,J,F,hE⟩:=I.flown h
 exact leave_fly rfl rfl rfl J (F.older fun b hb=>I.was rfl hb) hE
theorem Fun.okX{x qual:Str}{st:Stmt}{f:Addr}{fd:FuncData}{N ps:List Str}{k:Nat}{sp:Sp}(F:Fun K x qual st f fd)(S:FnScope N ps (ζ6 st))(len:∀ vs H Q E,sp vs H Q E->vs.length=ps.length)
  (hbody:∀(cdv:Value) (A:Around) (outer:List Env) (s:Shared) (H:Hp) (vs:List V) (Q:VK) (E:XK),Room k (A.deeper (envOfC qual (ζ6 st) s.heap.objs.size f cdv))->sp vs H Q E ->
   ∃ t,PSs (cxOf (CXW P w) P w K mg base N qual (ζ6 st) f cdv A outer s H E) (defBody st) t/\t { nx:=fun _ H'=>Q .non H',rt:=Q } (start N vs) H):FnOk P w K mg base (CXW P w) (k+1) f fd ps sp:=by
 obtain⟨oc,od,kV,doc,pm,an,cdv,ct,osl,rfl,lk,hcd⟩:=F.ex
 exact fn_of lk hcd S len fun A outer s H vs Q E hr hsp=>hbody cdv A outer s H vs Q E hr hsp
end
structure XCls (K:PySem.W.Frag) (C:Addr):Prop where
 ex:PySem.W.excIn K C [.type "ValueError",.type "Exception",.type "BaseException",.type "object"] "ValueError.__new__"=true
 ga:PySem.W.findIn K (.ref C) "__getattribute__"=some (some (.builtin "BaseException.__getattribute__"))
 gh:PySem.W.findIn K (.ref C) "__getattr__"=some none
 cl:PySem.W.findIn K (.ref C) "__class__"=some (some (.builtin "object.__class__"))
 ob:PySem.W.mroIn K C (.type "object")=some true
 bx:PySem.W.mroIn K C (.type "BaseException")=some true
theorem XCls.obj {K:PySem.W.Frag} {C:Addr} {h:Heap} (c:XCls K C) (X:K.In h):∃ bm N nm q bs hdct sn sub ab col dd k0 k1 k2 k3 k5 mN,h.get? C=some (excClassObj nm q C N bs bm hdct sn sub ab col dd k0 k1 k2 k3 k5 "ValueError.__new__")/\h.Ns N mN/\mN "__init__"=none/\OwnTail h [.type "ValueError",.type "Exception",.type "BaseException",.type "object"] bm:=by
 have q:=c.ex
 unfold PySem.W.excIn at q
 split at q
 ·rename_i dd cd sl ho
  split at q
  ·rename_i C' bm k0 k1 k2 k3 n k5 hm hs
   simp only [Bool.and_eq_true,beq_iff_eq,Bool.not_eq_true']at q
   obtain⟨⟨⟨⟨⟨rfl,rfl⟩,hdel⟩,ht⟩,hok⟩,hni⟩:=q
   obtain⟨nm,bs,mro,ns,qn,hd,sn,sub,ab,col,del⟩:=cd
   dsimp only at hm hdel hok hni
   subst hm hdel
   have hsl:sl=#[k0,k1,k2,k3,some (.builtin "ValueError.__new__"),k5]:=by
    obtain⟨l⟩:=sl
    simp only at hs
    rw[hs]
   subst hsl
   exact⟨bm,ns,nm,qn,bs,hd,sn,sub,ab,col,dd,k0,k1,k2,k3,k5,_,X _ _ ho,.of_isNs (PySem.W.isNs_of_in X hok),PySem.W.nsMap_none_of_in X hok hni,PySem.W.tail_of_in X ht⟩
  ·cases q
 ·cases q
def tRaise(C:Addr)(E:XK)(t:TA):TS:=fun _ σ H=>t σ H fun vs H1=>vs.length<=sizeLine/\E (.ref C) none H1
theorem ps_raise{P:Program}{w:World}{K:PySem.W.Frag}{mg:Str->Option Value}{base:Heap}{N:List Str}{qual:Str}{scope:Scope}{f:Addr}{cd:Value}{A:Around}{outer:List Env}{s0:Shared}{H0:Hp}{E:XK}{C:Addr}{x:Str}{np cpos pos:Pos}{e₀:Expr}{rest:List Expr}{t:TA}
  (c:XCls K C) (hm:mg x=some (.ref C)) (ha:PA (cxOf (CXW P w) P w K mg base N qual scope f cd A outer s0 H0 E) (e₀ :: rest) t)
  (hg:Gl (cxOf (CXW P w) P w K mg base N qual scope f cd A outer s0 H0 E) x:=by rfl) (hd:(x == ("__debug__":Str))=false:=by decide)
  (he:starEach (e₀ :: rest) (cxOf (CXW P w) P w K mg base N qual scope f cd A outer s0 H0 E).env=(false,eval e₀ (cxOf (CXW P w) P w K mg base N qual scope f cd A outer s0 H0 E).env) :: starEach rest (cxOf (CXW P w) P w K mg base N qual scope f cd A outer s0 H0 E).env:=by rfl)
  (hplain:(backTo cpos (starEach rest (cxOf (CXW P w) P w K mg base N qual scope f cd A outer s0 H0 E).env)).any (·.1)=false:=by rfl) :
  PS (cxOf (CXW P w) P w K mg base N qual scope f cd A outer s0 H0 E) (.Raise (some (.Call (.Name x np) (e₀ :: rest) [] cpos)) none pos) (tRaise C E t):=by
 intro pins s σ H D I h
 obtain⟨tl,NN,nm,q,bs,hdct,sn,sub,ab,col,dd,k0,k1,k2,k3,k5,mN,hC,hN,hni,T⟩:=c.obj I.ok.mod.kin
 refine wpAny_Raise_call_subT (C:=C) (nm:=nm) (q:=q) (N:=NN) (bs:=bs) (bm:=tl) (hdct:=hdct) (sn:=sn) (sub:=sub) (ab:=ab) (col:=col) (dd:=dd) (k0:=k0) (k1:=k1) (k2:=k2) (k3:=k3) (k5:=k5)
  PySem.F.excBase_ValueError (mN:=mN) (T.hasType PySem.F.excBase_ValueError.hasBase) (I.ok.hd rfl) (by rw[he];show(false || (backTo cpos (starEach rest _)).any (·.1))=false;rw[hplain];rfl) hni (ld_glob I hg hm ⟨rfl,?_⟩ hd)
 have h:=ha cpos pins s σ H _ I h
 rw[he]at h ⊢
 refine Calls.evalArgs_plain (wpAny_mono h (fun vs s₂ h₂=>?_) fun _ _ y=>y)
 obtain⟨zs,H2,I2,rz,hz,hE⟩:=h₂
 refine⟨rfl,by rw[<- rz.length];exact hz,I2.bk _ _ hC,hN.keeps I2.bk,T.keeps I2.bk,fun h' e hme=>?_⟩
 exact leave_made rfl rfl rfl I2 hme hE
section
variable{X:Cx}{pins:List (Addr × Obj)}{σ:St}{H:Hp}{s:Shared}{e C:Addr}
end
section
variable{X:Cx}{pins pins':List (Addr × Obj)}{σ:St}{H:Hp}{s:Shared}{R:St->XK}{e C:Addr}{oe:Obj}
end
section
variable{X:Cx}{CX:CXT}{k:Nat}{f C:Addr}{fd:FuncData}{ps:List Str}{sp:Sp}{dvs:List V}{ds:List Value}{R:St->XK}{x m:Str}{p pos apos:Pos}{e o:Expr}{es:List Expr}{ta:TE}{t:TA}
end
end L2
namespace L2
open PySem PySem.Spec PyProof.Rows PySem.W PySem.Calls Builtin Builtin.ObjectAttr Builtin.Getset_descriptor
section
variable{prog:Program}{w:World}{A:Around}{E:Value->Shared->Prop}{K:PySem.W.Frag}{x C:Addr}{ox:Obj}
end
theorem XCls.isSome{K:PySem.W.Frag}{C:Addr}(c:XCls K C):(clsIn K C).isSome=true:=by
 have q:=c.ex
 unfold excIn at q
 unfold clsIn
 split at q
 ·rename_i dd cd sl ho
  rw[ho]
  rfl
 ·cases q
section
variable{X:Cx}
end
end L2
namespace L2
open PySem PySem.Spec PyProof.Rows
theorem log_small{a:Int}(h1:-(10 ^ 70)<a)(h2:a<10 ^ 70):a.natAbs.log2<1920:=by
 have h:a.natAbs<10 ^ 70:=by omega
 by_cases h0:a.natAbs=0
 ·rw[h0];decide
 ·exact(Nat.log2_lt h0).mpr (Nat.lt_trans h (by decide))
def PJ(X:Cx)(es:List Expr)(t:St->Hp->(Hp->Prop)->Prop):Prop:=∀(n:Nat) (pins:List (Addr × Obj)) (s:Shared) (σ:St) (H:Hp) (acc:Str) (Q:Hp->Prop),acc.length<=4000 * n->n+es.length<=100->Inv X pins σ H s->t σ H Q ->
 wpAny (model X.prog X.w) X.A (joinParts acc (evalEach es X.env)) (fun v s'=>∃ x tk H',v=Value.str x tk/\Inv X pins σ H' s'/\Q H') X.xe s
section
variable{X:Cx}{es:List Expr}{e:Expr}{te:TE}{t:St->Hp->(Hp->Prop)->Prop}{pos:Pos}
theorem line4:4000 * 100<=sizeLine:=by decide
theorem pj_nil:PJ X [] (fun _ H Q=>Q H):=fun n pins s σ H acc Q ha hn I h=>by
 refine joinParts_nil ⟨acc,_,H,rfl,I.tok _,h⟩ (Nat.le_trans ha (Nat.le_trans (Nat.mul_le_mul_left _ ?_) line4))
 simpa using hn
theorem pj_str{x:Str}{j:Nat}{p:Pos}(hr:PJ X es t)(hz:x.length<=4000:=by decide +kernel):PJ X (.Constant (.str x) j p :: es) t:=fun n pins s σ H acc Q ha hn I h=>by
 have hl:(acc++x).length=acc.length+x.length:=strLen_append ..
 rw[List.length_cons]at hn
 have hb:(acc++x).length<=4000 * (n+1):=by rw[hl];omega
 refine joinParts_cons (Calls.Constant_str ⟨Nat.le_trans hb (Nat.le_trans (Nat.mul_le_mul_left _ (by omega)) line4),?_⟩)
 exact hr (n+1) pins _ σ H _ Q hb (by omega) (I.tok _) h
def jInt(te:TE)(t:St->Hp->(Hp->Prop)->Prop):St->Hp->(Hp->Prop)->Prop:=fun σ H Q=>te σ H fun v H1=>∃ a:Int,v=.int a/\-(10 ^ 70)<a/\a<10 ^ 70/\t σ H1 Q
theorem pj_int{p:Pos}(he:PE X e te)(hr:PJ X es t):PJ X (.FormattedValue e (-1) none p :: es) (jInt te t):=fun n pins s σ H acc Q ha hn I h=>by
 rw[List.length_cons]at hn
 refine joinParts_cons (FormattedValue_plain (thn (he pins s σ H _ I h) fun u s1 ⟨v,H1,I1,r,a,ev,a1,a2,q⟩=>?_))
 subst ev
 obtain⟨tk,rfl⟩:=r
 have hlog:=log_small a1 a2
 have hlen:(Str.ofString (toString a)).length<=4000:=by
  have z:=int_text_length_le (k:=1920) (by decide) hlog
  rw[PySem.ofString_length]
  omega
 refine formatField_int_small hlog ?_
 have hl:(acc++Str.ofString (toString a)).length=acc.length+(Str.ofString (toString a)).length:=strLen_append ..
 have hb:(acc++Str.ofString (toString a)).length<=4000 * (n+1):=by rw[hl];omega
 refine⟨Nat.le_trans hb (Nat.le_trans (Nat.mul_le_mul_left _ (by omega)) line4),?_⟩
 exact hr (n+1) pins _ σ H1 _ Q hb (by omega) (I1.tok _) q
def tJoin(t:St->Hp->(Hp->Prop)->Prop):TE:=fun σ H Q=>t σ H fun H'=>∀ x:Str,Q (.str x) H'
theorem pe_fstr{v₁ v₂:Expr}{rest:List Expr}(h:PJ X (v₁ :: v₂ :: rest) t)(hn:(v₁ :: v₂ :: rest).length<=100:=by decide):PE X (.JoinedStr (v₁ :: v₂ :: rest) pos) (tJoin t):=fun pins s σ H Q I hq =>
 JoinedStr_many (thn (h 0 pins s σ H Str.empty _ (by decide) (by simpa using hn) I hq) fun u s1 ⟨x,tk,H1,eu,I1,q⟩=>by
  subst eu
  exact⟨.str x,H1,I1,⟨tk,rfl⟩,q x⟩)
end
theorem passN{P:Program}{w:World}{X:Cx}:Passes (CXW P w) X E0:=fun _ _ _ _ _ _ _ h=>by
 obtain⟨_,_,_,_,_,_,_,_,_,z⟩:=h
 exact z.elim
end L2
namespace My
open PySem L2
theorem cat_ok{H:Hp}{p1 p2:Addr}{l1 l2:List Int}{Q:VK}(h1:H p1=some (.lst (IL l1)))(h2:H p2=some (.lst (IL l2)))(hl:l1.length+l2.length<=1000000)(k:∀ r,H r=none->Q (.ref r) (upd H r (.lst (IL (l1++l2))))):rCat (.ref p1) (.ref p2) H Q:=by
 refine⟨p1,p2,_,_,rfl,rfl,h1,h2,?_,fun r hr=>?_⟩
 ·rw[ζ3,ζ3]
  exact small60 hl
 ·have:=k r hr
  rw[il_append]at this
  exact this
def cutI(ns:List Int)(lo hi:Option Int):List Int:=(ns.drop (HT.sIx ns.length 0 lo)).take (HT.sIx ns.length ns.length hi - HT.sIx ns.length 0 lo)
theorem cutI_eq(ns:List Int)(lo hi:Option Int):cutV (IL ns) lo hi=IL (cutI ns lo hi):=by
 unfold cutV cutI
 rw[il_take,il_drop,ζ3]
theorem xI{α:Type}{p:α->Prop}{w:α}(h:p w):∃ x,p x:=⟨w,h⟩
end My
namespace L2
open PySem PySem.Spec PyProof.Rows
theorem vals_of_ints:∀ {us:List Value} {ns:List Int},IntsAre us ns->Vals (ns.map V.int) us
 | [],[],_=>.nil
 | _ :: _,[],h=>by cases h
 | [],_ :: _,h=>by cases h
 | u :: us,n :: ns,h=>by
  cases h with
  | cons _ _ t=>exact .cons ⟨_,rfl⟩ (vals_of_ints t)
section
variable{X:Cx}
theorem call_sortedK (K:PySem.W.Frag) (hk:X.K=K:=by rfl):CallR X (.builtin "sorted") (fun xs H Q=>∃(p:Addr) (ns:List Int),xs=[.ref p]/\SqL K H p (ns.map V.int)/\ns.length<64 /\
  ∀ ms:List Int,ms.Perm ns->ms.Pairwise (·<=·)->∀ l,H l=none->Q (.ref l) (upd H l (.lst (ms.map V.int)))):=by
 subst hk
 intro pins s σ H xs us Q I r h
 obtain⟨p,ns,rfl,hq,hn,q⟩:=h
 obtain⟨u,rfl,ru⟩:=vals1 r
 obtain rfl:u=Value.ref p:=ru
 obtain⟨its,rv,pl,hz⟩:=I.list hq
 have hi:=ints_of_vals rv
 have hl:its.length=ns.length:=by rw[<- rv.length,List.length_map]
 refine sorted_ints pl.isList hi (by omega) fun out ms h1 h2 h3=>?_
 obtain⟨e,he⟩:=sortedAll_at s.heap its out
 have hml:ms.length=ns.length:=h2.length_eq
 refine⟨.ref (s.heap.objs.size+1),_,I.laid (t':=s.toks) (o:=.lst (ms.map V.int)) (fun b o g=>sortedAll_old g) (Nat.le_succ _) ⟨?_,out.toList,e,vals_of_ints h1,?_⟩,rfl,q ms h2 h3 _ (I.hok.fresh (Nat.le_succ _))⟩
 ·rw[List.length_map,hml]
  have:sizeLine=16777216:=sizeLine_eq
  omega
 ·exact he
section
variable{prog:Program}{w:World}{A:Around}{E:Value->Shared->Prop}{s:Shared}{it a:Addr}{items:Array Value}
end
end
section
variable{X:Cx}{p p2 pos pos2:Pos}{e:Expr}{t:TA}
end
end L2
namespace My
open PySem L2
theorem isSet_iff{m:Nat}{ns:List Int}:IsSet m ns↔(∀ z∈ns,0<=z/\z<(m:Int))/\ns.Pairwise (· < ·):=by
 constructor
 ·intro h
  refine⟨h.all,?_⟩
  rw[List.pairwise_iff_getElem]
  intro i j hi hj hij
  induction j with
  | zero=>exact absurd hij (Nat.not_lt_zero i)
  | succ j ih =>
   have hj':j<ns.length:=by omega
   have key:=(h (j+1) ns[j+1] (List.getElem?_eq_getElem hj)).2.2 ns[j] (by omega) (by rw[Nat.add_sub_cancel];exact List.getElem?_eq_getElem hj')
   by_cases e:i=j
   ·subst e;exact key
   ·have:=ih hj' (by omega)
    omega
 ·rintro⟨ha,hp⟩ i z hz
  obtain⟨hi,ei⟩:=List.getElem?_eq_some_iff.mp hz
  have hm:=ha z (List.mem_of_getElem? hz)
  refine⟨hm.1,hm.2,fun y h0 hy=>?_⟩
  obtain⟨hi',ei'⟩:=List.getElem?_eq_some_iff.mp hy
  have:=List.pairwise_iff_getElem.mp hp (i - 1) i hi' hi (by omega)
  rw[ei,ei']at this
  exact this
theorem lt_nodup{ns:List Int}(h:ns.Pairwise (· < ·)):ns.Nodup:=h.imp fun hab e=>by omega
theorem IsSet.nodup{m:Nat}{ns:List Int}(h:IsSet m ns):ns.Nodup:=lt_nodup (isSet_iff.mp h).2
end My
namespace My
theorem snoc_ind{α:Type}{P:List α->Prop}(h0:P [])(h1:∀ l x,P l->P (l++[x])):∀ l,P l:=by
 intro l
 rw[<- List.reverse_reverse l]
 induction l.reverse with
 | nil=>exact h0
 | cons x r ih =>
  rw[List.reverse_cons]
  exact h1 _ _ ih
inductive Conn (es:List (Nat × Nat)):Nat->Nat->Prop
 | refl (i:Nat):Conn es i i
 | edge {a b:Nat} (h:(a,b)∈es):Conn es a b
 | symm {i j:Nat}:Conn es i j->Conn es j i
 | trans {i j k:Nat}:Conn es i j->Conn es j k->Conn es i k
theorem Conn.mono{es fs:List (Nat × Nat)}(h:∀ e∈es,e∈fs){i j:Nat}(c:Conn es i j):Conn fs i j:=by
 induction c with
 | refl i=>exact .refl i
 | edge q=>exact .edge (h _ q)
 | symm _ ih=>exact .symm ih
 | trans _ _ i1 i2=>exact .trans i1 i2
theorem mk_range{n i:Nat}(h:i<n):mk ((List.range n).map fun(i:Nat)=>(i:Int)) i=(i:Int):=by
 rw[mk_map' h]
where
 mk_map' {n i:Nat} (h:i<n):mk ((List.range n).map fun(i:Nat)=>(i:Int)) i=(i:Int):=by
  simp[mk,List.getD_eq_getElem?_getD,List.getElem?_map,List.getElem?_range h]
def InN(n:Nat)(es:List (Nat × Nat)):Prop:=∀ e∈es,e.1<n/\e.2<n
theorem InN.snoc{n:Nat}{es:List (Nat × Nat)}{e:Nat × Nat}(h:InN n (es++[e])):InN n es/\e.1<n/\e.2<n:=⟨fun x hx=>h x (List.mem_append_left _ hx),h e (by simp)⟩
theorem lms_edge{n:Nat}:∀ es:List (Nat × Nat),InN n es->∀ e∈es,mk (lms n es) e.1=mk (lms n es) e.2:=by
 refine snoc_ind (fun _ e h=>by cases h) fun es x ih hn e he=>?_
 obtain⟨h1,h2,h3⟩:=hn.snoc
 have hl:=lms_length n es
 have hx:=hn e he
 rw[lms_snoc]
 refine(lm_iff (by omega) (by omega)).mpr ?_
 rcases List.mem_append.mp he with q | q
 ·exact .inl (ih h1 e q)
 ·rw[List.mem_singleton.mp q]
  exact .inr ⟨.inl rfl,.inr rfl⟩
theorem lms_conn{n:Nat}:∀ es:List (Nat × Nat),InN n es->∀ i j,i<n->j<n->mk (lms n es) i=mk (lms n es) j->Conn es i j:=by
 refine snoc_ind (fun _ i j hi hj h=>?_) fun es x ih hn i j hi hj h=>?_
 ·have h:mk ((List.range n).map fun(i:Nat)=>(i:Int)) i=mk ((List.range n).map fun(i:Nat)=>(i:Int)) j:=h
  rw[mk_range hi,mk_range hj]at h
  have:i=j:=by omega
  subst this
  exact .refl i
 ·obtain⟨h1,h2,h3⟩:=hn.snoc
  have hl:=lms_length n es
  have up:∀ {i j:Nat},Conn es i j->Conn (es++[x]) i j:=fun c=>c.mono fun e he=>List.mem_append_left _ he
  have ex:Conn (es++[x]) x.1 x.2:=.edge (by simp)
  rw[lms_snoc]at h
  rcases(lm_iff (by omega) (by omega)).mp h with q | ⟨q1,q2⟩
  ·exact up (ih h1 i j hi hj q)
  ·have ci:Conn (es++[x]) i x.1:=by
    rcases q1 with q | q
    ·exact up (ih h1 i _ hi h2 q)
    ·exact(up (ih h1 i _ hi h3 q)).trans ex.symm
   have cj:Conn (es++[x]) j x.1:=by
    rcases q2 with q | q
    ·exact up (ih h1 j _ hj h2 q)
    ·exact(up (ih h1 j _ hj h3 q)).trans ex.symm
   exact ci.trans cj.symm
theorem conn_lms{n:Nat}{es:List (Nat × Nat)}(hn:InN n es){i j:Nat}(c:Conn es i j):i=j\/(i<n/\j<n/\mk (lms n es) i=mk (lms n es) j):=by
 induction c with
 | refl i=>exact .inl rfl
 | edge q=>exact .inr ⟨(hn _ q).1,(hn _ q).2,lms_edge es hn _ q⟩
 | symm _ ih =>
  rcases ih with e | ⟨a,b,c⟩
  ·exact .inl e.symm
  ·exact .inr ⟨b,a,c.symm⟩
 | trans _ _ i1 i2 =>
  rcases i1 with e | ⟨a,b,c⟩
  ·rw[e];exact i2
  ·rcases i2 with e | ⟨a',b',c'⟩
   ·rw[<- e];exact .inr ⟨a,b,c⟩
   ·exact .inr ⟨a,b',c.trans c'⟩
theorem lms_iff{n:Nat}{es:List (Nat × Nat)}(hn:InN n es){i j:Nat}(hi:i<n)(hj:j<n):mk (lms n es) i=mk (lms n es) j↔Conn es i j:=by
 constructor
 ·exact lms_conn es hn i j hi hj
 ·intro c
  rcases conn_lms hn c with e | ⟨_,_,e⟩
  ·rw[e]
  ·exact e
theorem pms_iff{n:Nat}{es:List (Nat × Nat)}(hn:InN n es){i j:Nat}(hi:i<n)(hj:j<n):mk (pms n es) i=mk (pms n es) j↔Conn es i j:=by
 rw[<- lms_iff hn hi hj]
 have s:=same_pms (n:=n) (es:=es) hn
 exact s.2 i j (by rw[pms_length];exact hi) (by rw[pms_length];exact hj)
def cnt(M:List Int):Nat:=(fstA M M.length).length
theorem fst_ex(M:List Int){i:Nat}:∃ p,p<=i/\mk M p=mk M i/\fstB M p=true:=by
 induction i using Nat.strongRecOn with
 | ind i ih =>
  by_cases h:fstB M i=true
  ·exact⟨i,Nat.le_refl _,rfl,h⟩
  ·have:∃ j,j<i/\mk M j=mk M i:=by
    by_cases q:∃ j,j<i/\mk M j=mk M i
    ·exact q
    ·exact absurd (fstB_iff.mpr fun j hj e=>q ⟨j,hj,e⟩) h
   obtain⟨j,hj,e⟩:=this
   obtain⟨p,h1,h2,h3⟩:=ih j hj
   exact⟨p,by omega,h2.trans e,h3⟩
theorem count_less{p q:Nat->Bool}{x n:Nat}(hx:x<n)(hpx:p x=true)(h:∀ y,y<n->q y=(p y && !decide (y=x))):((List.range n).filter q).length+1=((List.range n).filter p).length:=by
 induction n with
 | zero=>exact absurd hx (Nat.not_lt_zero x)
 | succ n ih =>
  rw[List.range_succ,List.filter_append,List.filter_append,List.length_append,List.length_append]
  by_cases e:x=n
  ·subst e
   have e1:(List.range x).filter q=(List.range x).filter p:=List.filter_congr fun y hy=>by
    have hy:=List.mem_range.mp hy
    rw[h y (by omega),show decide (y=x)=false from decide_eq_false (by omega)]
    simp
   have e2:q x=false:=by rw[h x (by omega)];simp
   rw[e1]
   simp[List.filter_cons,e2,hpx]
  ·have hq:q n=p n:=by rw[h n (by omega),show decide (n=x)=false from decide_eq_false (fun z=>e z.symm)];simp
   have:=ih (by omega) fun y hy=>h y (by omega)
   simp only [List.filter_cons,List.filter_nil,hq]
   omega
theorem fst_uniq{M:List Int}{p q:Nat}(hp:fstB M p=true)(hq:fstB M q=true)(e:mk M p=mk M q):p=q:=by
 rcases Nat.lt_trichotomy p q with h | h | h
 ·exact absurd e (fstB_iff.mp hq p h)
 ·exact h
 ·exact absurd e.symm (fstB_iff.mp hp q h)
theorem cnt_step{m:List Int}{a b:Nat}(ha:a<m.length)(hb:b<m.length)(hne:mk m a≠mk m b):cnt (lm m a b)+1=cnt m:=by
 obtain⟨A,hA1,hA2,hA3⟩:=fst_ex m (i:=a)
 obtain⟨B,hB1,hB2,hB3⟩:=fst_ex m (i:=b)
 have hAB:A≠B:=fun e=>hne (by rw[<- hA2,<- hB2,e])
 unfold cnt fstA
 rw[lm_length]
 refine count_less (x:=max A B) (by omega) ?_ fun y hy=>?_
 ·rcases Nat.le_total A B with h | h
  ·rw[Nat.max_eq_right h];exact hB3
  ·rw[Nat.max_eq_left h];exact hA3
 ·rw[Bool.eq_iff_iff,Bool.and_eq_true,fstB_iff,fstB_iff]
  have key:∀ i,i<y->(mk (lm m a b) i=mk (lm m a b) y↔Mrg m a b i y):=fun i hi=>lm_iff (by omega) hy
  have nmax:(!decide (y=max A B))=true↔y≠max A B:=by simp
  rw[nmax]
  constructor
  ·intro q
   refine⟨fun i hi e=>q i hi ((key i hi).mpr (.inl e)),fun e=>?_⟩
   rcases Nat.lt_or_gt_of_ne hAB with h | h
   ·have ey:y=B:=by omega
    subst ey
    exact q A h ((key A h).mpr (.inr ⟨.inl hA2,.inr hB2⟩))
   ·have ey:y=A:=by omega
    subst ey
    exact q B h ((key B h).mpr (.inr ⟨.inr hB2,.inl hA2⟩))
  ·rintro⟨q1,q2⟩ i hi e
   rcases(key i hi).mp e with e | ⟨e1,e2⟩
   ·exact q1 i hi e
   ·have fy:fstB m y=true:=fstB_iff.mpr q1
    rcases e2 with e2 | e2
    ·have ey:y=A:=fst_uniq fy hA3 (e2.trans hA2.symm)
     rcases e1 with e1 | e1
     ·exact q1 i hi (e1.trans e2.symm)
     ·obtain⟨p,p1,p2,p3⟩:=fst_ex m (i:=i)
      have:p=B:=fst_uniq p3 hB3 (by rw[p2,e1,hB2])
      omega
    ·have ey:y=B:=fst_uniq fy hB3 (e2.trans hB2.symm)
     rcases e1 with e1 | e1
     ·obtain⟨p,p1,p2,p3⟩:=fst_ex m (i:=i)
      have:p=A:=fst_uniq p3 hA3 (by rw[p2,e1,hA2])
      omega
     ·exact q1 i hi (e1.trans e2.symm)
theorem cnt_range(n:Nat):cnt ((List.range n).map fun(i:Nat)=>(i:Int))=n:=by
 unfold cnt fstA
 rw[List.length_map,List.length_range]
 have e:(List.range n).filter (fstB ((List.range n).map fun(i:Nat)=>(i:Int)))=List.range n:=by
  refine List.filter_eq_self.mpr fun p hp=>fstB_iff.mpr fun i hi e=>?_
  have hp:=List.mem_range.mp hp
  rw[mk_range (by omega),mk_range hp]at e
  omega
 rw[e,List.length_range]
theorem cnt_one{M:List Int}(hM:1<=M.length):cnt M=1↔∀ i j,i<M.length->j<M.length->mk M i=mk M j:=by
 have e:cnt M=(grp M).length:=by
  unfold cnt grp
  rw[grpA_eq,List.length_map]
 rw[e]
 exact grp_one hM
end My
namespace My
open PySem L2
theorem seq_ix{i:Int}{n:Nat}(h0:0<=i)(h1:i<(n:Int)):seqIndex? i n=some i.toNat:=by
 have e:(if i<0 then i+(n:Int) else i)=i:=if_neg (by omega)
 unfold seqIndex?
 simp only [e]
 rw[if_pos (by simp;omega)]
def IsTree(n:Int)(ps:List (Int × Int))(ns:List Int):Prop:=IsSet ps.length ns/\(ns.length:Int)=n - 1/\∀ i j,i<n.toNat->j<n.toNat->Conn (endsOf ps ns) i j
theorem ends_in{n:Int}{ps:List (Int × Int)}{ns:List Int}(g:GoodW n ps)(h:∀ z∈ns,0<=z/\z<(ps.length:Int)):InN n.toNat (endsOf ps ns):=fun e he=>by
 obtain⟨z,hz,rfl⟩:=List.mem_map.mp he
 obtain⟨z0,z1⟩:=h z hz
 have hp:ps[z.toNat]?=some (ps[z.toNat]'(by omega)):=List.getElem?_eq_getElem _
 rw[getD_of hp]
 obtain⟨b1,b2,b3,b4⟩:=g.2.2.2 _ (List.mem_of_getElem? hp)
 exact⟨by omega,by omega⟩
theorem ends_sub{ps:List (Int × Int)}{ns ms:List Int}(h:∀ z∈ns,z∈ms):∀ e∈endsOf ps ns,e∈endsOf ps ms:=fun e he=>by
 obtain⟨z,hz,rfl⟩:=List.mem_map.mp he
 exact List.mem_map.mpr ⟨z,h z hz,rfl⟩
theorem one_conn{n:Nat}{es:List (Nat × Nat)}(h:InN n es):(∀ i j,i<(lms n es).length->j<(lms n es).length->mk (lms n es) i=mk (lms n es) j)↔∀ i j,i<n->j<n->Conn es i j:=by
 rw[lms_length]
 constructor
 ·intro q i j hi hj;exact(lms_iff h hi hj).mp (q i j hi hj)
 ·intro q i j hi hj;exact(lms_iff h hi hj).mpr (q i j hi hj)
theorem grp_conn{n:Nat}{es:List (Nat × Nat)}(hn:1<=n)(h:InN n es):(grp (pms n es)).length=1↔∀ i j,i<n->j<n->Conn es i j:=by
 rw[grp_one (by rw[pms_length];exact hn),(same_pms h).one]
 exact one_conn h
theorem conn_perm{ps:List (Int × Int)}{ns ms:List Int}(h:∀ z,z∈ns↔z∈ms){i j:Nat}:Conn (endsOf ps ns) i j↔Conn (endsOf ps ms) i j :=
 ⟨fun c=>c.mono (ends_sub fun z hz=>(h z).mp hz),fun c=>c.mono (ends_sub fun z hz=>(h z).mpr hz)⟩
section
variable{K:PySem.W.Frag}{a:Addr}{xs:List V}{g:TG}{tt:TT}{te:TE}{o:Nat}{fr:List Nat}{σ:St}{H:Hp}{Q:VK}
theorem lc_enum(Pv:Nat->List V->Hp->Prop)(h0:Pv 0 [] H)(hz:xs.length<sizeLine)(hl:∀ i ys H,i<=xs.length->Pv i ys H->SqL K H a xs/\ys.length<=i)
  (hs:∀(i:Nat) x ys H (p:Addr),H p=none->xs[i]?=some x->Pv i ys H->LcTurn Pv g tt te o fr σ i (.ref p) ys (upd H p (.tup [.int i,x]))) (hd:∀ ys H,Pv xs.length ys H->∀ p,H p=none->Q (.ref p) (upd H p (.lst ys))):LcR (Ite K a) g tt te o fr σ H Q:=by
 refine⟨fun i m ys H=>m=xs.length - i/\i<=xs.length/\Pv i ys H,⟨xs.length,by simp,Nat.zero_le _,h0⟩,?_⟩
 rintro i m ys H ⟨rfl,hi,p⟩
 obtain⟨q,hy⟩:=hl i ys H hi p
 by_cases hlt:i<xs.length
 ·refine .inr ⟨⟨xs,xs[i],q,by simp[hlt]⟩,by omega,fun x H' ⟨T,y,hT,ex,eH,hyy⟩=>?_⟩
  subst ex eH
  exact hs i y ys H T hT (hyy xs q) p (fun j ys H=>∃ m',m'<xs.length - i/\m'=xs.length - j/\j<=xs.length/\Pv j ys H) fun ys H p'=>⟨xs.length - (i+1),by omega,rfl,hlt,p'⟩
 ·have e:i=xs.length:=by omega
  subst e
  exact .inl ⟨⟨xs,q,Nat.le_refl _⟩,by omega,hd ys H p⟩
end
def unlike(M:List Int)(ps:List (Int × Int))(i:Nat):List Int:=((List.range i).filter fun k=>decide (mk M (ps.getD k (0,0)).1.toNat≠mk M (ps.getD k (0,0)).2.toNat)).map fun(k:Nat)=>(k:Int)
theorem unlike_succ(M:List Int)(ps:List (Int × Int))(i:Nat):unlike M ps (i+1)=unlike M ps i++(if mk M (ps.getD i (0,0)).1.toNat≠mk M (ps.getD i (0,0)).2.toNat then [(i:Int)] else []):=by
 unfold unlike
 rw[List.range_succ,List.filter_append,List.map_append]
 congr 1
 by_cases h:mk M (ps.getD i (0,0)).1.toNat≠mk M (ps.getD i (0,0)).2.toNat
 ·rw[if_pos h,List.filter_cons,if_pos (decide_eq_true h)];rfl
 ·rw[if_neg h,List.filter_cons,if_neg (by simpa using h)];rfl
theorem unlike_len(M:List Int)(ps:List (Int × Int))(i:Nat):(unlike M ps i).length<=i:=by
 unfold unlike
 rw[List.length_map]
 exact Nat.le_trans (List.length_filter_le _ _) (by simp)
def wo(ns:List Int)(z:Int):List Int:=ns.filter fun y=>decide (y≠z)
theorem wo_mem{ns:List Int}{z y:Int}:y∈wo ns z↔y∈ns/\y≠z:=by unfold wo;rw[List.mem_filter];simp
theorem wo_len(ns:List Int)(z:Int):(wo ns z).length<=ns.length:=List.length_filter_le _ _
theorem wo_take_succ{ns:List Int}{i:Nat}{y z:Int}(h:ns[i]?=some y):wo (ns.take (i+1)) z=wo (ns.take i) z++(if y≠z then [y] else []):=by
 unfold wo
 rw[List.take_succ,h,List.filter_append]
 congr 1
 by_cases e:y≠z
 ·rw[if_pos e];show List.filter _ [y]=_;rw[List.filter_cons,if_pos (decide_eq_true e)];rfl
 ·rw[if_neg e];show List.filter _ [y]=_;rw[List.filter_cons,if_neg (by simpa using e)];rfl
theorem unlike_same{n:Int}{ps:List (Int × Int)}{M L:List Int}(g:GoodW n ps)(hM:M.length=n.toNat)(s:SameP M L):unlike M ps ps.length=unlike L ps ps.length:=by
 unfold unlike
 congr 1
 refine List.filter_congr fun k hk=>?_
 have hk:=List.mem_range.mp hk
 have hp:ps[k]?=some ps[k]:=List.getElem?_eq_getElem hk
 rw[getD_of hp]
 obtain⟨b1,b2,b3,b4⟩:=g.2.2.2 _ (List.mem_of_getElem? hp)
 have:=s.2 ps[k].1.toNat ps[k].2.toNat (by omega) (by omega)
 rw[Bool.eq_iff_iff,decide_eq_true_iff,decide_eq_true_iff]
 exact not_congr this
def ringA(n:Int)(ps:List (Int × Int))(ns:List Int)(z:Int)(l:List Int):List Int:=l.filter fun y=>decide (z∈unlike (lms n.toNat (endsOf ps (wo ns y))) ps ps.length)
theorem ringA_succ{n:Int}{ps:List (Int × Int)}{ns:List Int}{z:Int}{l:List Int}{i:Nat}{y:Int}(h:l[i]?=some y) :
  ringA n ps ns z (l.take (i+1))=ringA n ps ns z (l.take i)++(if z∈unlike (lms n.toNat (endsOf ps (wo ns y))) ps ps.length then [y] else []):=by
 unfold ringA
 rw[List.take_succ,h,List.filter_append]
 congr 1
 by_cases e:z∈unlike (lms n.toNat (endsOf ps (wo ns y))) ps ps.length
 ·rw[if_pos e];show List.filter _ [y]=_;rw[List.filter_cons,if_pos (decide_eq_true e)];rfl
 ·rw[if_neg e];show List.filter _ [y]=_;rw[List.filter_cons,if_neg (by simpa using e)];rfl
theorem ringA_len(n:Int)(ps:List (Int × Int))(ns:List Int)(z:Int)(l:List Int):(ringA n ps ns z l).length<=l.length:=List.length_filter_le _ _
theorem unlike_mem{M:List Int}{ps:List (Int × Int)}{z:Int}(h0:0<=z)(h1:z<(ps.length:Int)):z∈unlike M ps ps.length↔mk M (ps.getD z.toNat (0,0)).1.toNat≠mk M (ps.getD z.toNat (0,0)).2.toNat:=by
 unfold unlike
 rw[List.mem_map]
 constructor
 ·rintro⟨k,hk,rfl⟩
  have:=of_decide_eq_true (List.mem_filter.mp hk).2
  rw[Int.toNat_natCast]
  exact this
 ·intro h
  exact⟨z.toNat,List.mem_filter.mpr ⟨List.mem_range.mpr (by omega),decide_eq_true h⟩,by omega⟩
theorem sorted_uniq{a b:List Int}(h:a.Perm b)(h1:a.Pairwise (·<=·))(h2:b.Pairwise (·<=·)):a=b:=by
 induction a generalizing b with
 | nil=>exact(List.Perm.nil_eq h)
 | cons x a ih =>
  cases b with
  | nil=>exact absurd h.length_eq (by simp)
  | cons y b =>
   obtain⟨hx,ha⟩:=List.pairwise_cons.mp h1
   obtain⟨hy,hb⟩:=List.pairwise_cons.mp h2
   have e:x=y:=by
    have m1:y∈x :: a:=h.mem_iff.mpr List.mem_cons_self
    have m2:x∈y :: b:=h.mem_iff.mp List.mem_cons_self
    rcases List.mem_cons.mp m1 with e1 | e1
    ·exact e1.symm
    ·rcases List.mem_cons.mp m2 with e2 | e2
     ·exact e2
     ·have:=hx y e1;have:=hy x e2;omega
   subst e
   rw[ih (List.Perm.cons_inv h) ha hb]
end My
namespace L2
open PySem PySem.Spec PyProof.Rows
section
variable{prog:Program}{w:World}{A:Around}{E:Value->Shared->Prop}{s:Shared}
theorem collect_tup {tp:Addr} {vs:List Value} {Q:List Value->Shared->Prop} {ot:Obj} {m:Nat} (ht:s.heap.get? tp=some ot) (hc:ot.cls=.type "tuple") (hd:ot.data=.seq vs.toArray m) (hz:vs.length<=sizeLine)
  (k:Q vs { s with heap:=(s.heap.push (seqObj "list" #[] 0)).update s.heap.objs.size (Obj.mapSeq (·++vs.toArray)) }):wpAny (model prog w) A (collect (.ref tp)) Q E s:=by
 have ht1:(s.heap.push (seqObj "list" #[] 0)).get? tp=some ot:=Heap.get?_push_of_some _ ht
 have hL1:(s.heap.push (seqObj "list" #[] 0)).get? s.heap.objs.size=some (seqObj "list" #[] 0):=Heap.get?_push_size _ rfl
 unfold collect
 refine wpAny_bind (wpAny_runValue (codeAny_builtin entry_proto_collect' ?_))
 show wpAny _ _ (do again (.builtin "list.__iadd__" ⟨[<- newList [],.ref tp],[]⟩)) _ _ s
 refine wpAny_bind (wpAny_newList (wpAny_pure ⟨Code.quiet_builtin _ (by decide +kernel),codeAny_builtin entry_list_iadd' ?_⟩))
 show wpAny _ _ (Builtin.List.listExtendWith (.ref s.heap.objs.size) (.ref tp) (.ref s.heap.objs.size)) _ _ { s with heap:=s.heap.push (seqObj "list" #[] 0) }
 unfold Builtin.List.listExtendWith
 refine wpAny_bind (wpAny_typeOf (T:="tuple") ⟨ot,ht1,hc⟩ ?_)
 rw [if_pos (by rw [show(Value.type "tuple" == Value.type "tuple")=true from rfl];simp)]
 refine wpAny_bind (listItems_at ht1 hd ?_)
 refine wpAny_bind (listItems_at (xs:=#[]) (n:=0) hL1 rfl ?_)
 rw[if_neg (by simp)]
 refine wpAny_bind (listUpdate_at (xs:=#[]) (n:=0) hL1 rfl ?_ (Nat.zero_le _) (by show(#[]++vs.toArray).size<=sizeLine+1;simp only [Array.size_append,List.size_toArray,List.length_nil];omega))
 refine wpAny_pure ?_
 refine wpAny_bind (wpAny_load (get?_update_seq hL1 _) ?_)
 show wpAny _ _ (pure ((#[]:Array Value)++vs.toArray).toList) Q E _
 rw[show((#[]:Array Value)++vs.toArray).toList=vs by simp]
 exact wpAny_pure k
theorem sorted_tupI {tp:Addr} {vs:List Value} {ns:List Int} {Q:Value->Shared->Prop} {ot:Obj} {m:Nat} (ht:s.heap.get? tp=some ot) (hc:ot.cls=.type "tuple") (hd:ot.data=.seq vs.toArray m) (hI:IntsAre vs ns) (h64:vs.length<64)
  (k:∀(out:Array Value) (ms:List Int),IntsAre out.toList ms->ms.Perm ns->ms.Pairwise (·<=·)->Q (.ref (s.heap.objs.size+1)) { s with heap:=sortedAll s.heap vs out }) :
  wpAny (model prog w) A (call (.builtin "sorted") [.ref tp]) Q E s:=by
 have hsl:sizeLine=16777216:=sizeLine_eq
 have hsz:((s.heap.push (seqObj "list" #[] 0)).update s.heap.objs.size (Obj.mapSeq (·++vs.toArray))).objs.size=s.heap.objs.size+1:=by
  rw[Heap.size_update,size_push']
 have hoL:(((s.heap.push (seqObj "list" #[] 0)).update s.heap.objs.size (Obj.mapSeq (·++vs.toArray))).push (seqObj "list" vs.toArray 0)).get? (s.heap.objs.size+1)=some (seqObj "list" vs.toArray 0):=by
  rw[<- hsz]
  exact Heap.get?_push_size _ rfl
 refine Calls.call_function_entry kind_sorted plain_sorted entry_sorted (args_sorted1 _) ?_
 unfold Builtin.«sorted»
 refine wpAny_bind (m:=checkCount "sorted" 1 1 _) (wpAny_pure ?_)
 refine wpAny_bind (collect_tup ht hc hd (by omega) ?_)
 refine wpAny_bind (wpAny_newList ?_)
 show wpAny _ _ _ _ _ { s with heap:=((s.heap.push (seqObj "list" #[] 0)).update s.heap.objs.size (Obj.mapSeq (·++vs.toArray))).push (seqObj "list" vs.toArray 0) }
 rw[hsz]
 refine wpAny_bind (wpAny_holding (wpAny_call_entry slot_list_sort ⟨_,hoL,rfl⟩ entry_list_sort (list_sort_tree hoL hI h64 fun out ms b1 b2 b3=>⟨_,rfl,?_⟩) (args_list_sort _)))
 exact wpAny_pure ⟨_,rfl,k out ms b1 b2 b3⟩
end
section
variable{X:Cx}
theorem call_sortedT (K:PySem.W.Frag) (hk:X.K=K:=by rfl):CallR X (.builtin "sorted") (fun xs H Q=>∃(p:Addr) (ns:List Int),xs=[.ref p]/\SqT K H p (ns.map V.int)/\ns.length<64 /\
  ∀ ms:List Int,ms.Perm ns->ms.Pairwise (·<=·)->∀ l,H l=none->Q (.ref l) (upd H l (.lst (ms.map V.int)))):=by
 subst hk
 intro pins s σ H xs us Q I r h
 obtain⟨p,ns,rfl,hq,hn,q⟩:=h
 obtain⟨u,rfl,ru⟩:=vals1 r
 obtain rfl:u=Value.ref p:=ru
 obtain⟨its,rv,⟨ot,h1,h2,m,h3⟩,hz⟩:=I.tuple hq
 have hi:=ints_of_vals rv
 have hl:its.length=ns.length:=by rw[<- rv.length,List.length_map]
 refine sorted_tupI h1 h2 h3 hi (by omega) fun out ms b1 b2 b3=>?_
 obtain⟨e,he⟩:=sortedAll_at s.heap its out
 have hml:ms.length=ns.length:=b2.length_eq
 refine⟨.ref (s.heap.objs.size+1),_,I.laid (t':=s.toks) (o:=.lst (ms.map V.int)) (fun b o g=>sortedAll_old g) (Nat.le_succ _) ⟨?_,out.toList,e,vals_of_ints b1,he⟩,rfl,q ms b2 b3 _ (I.hok.fresh (Nat.le_succ _))⟩
 rw[List.length_map,hml]
 have:sizeLine=16777216:=sizeLine_eq
 omega
end
section
variable{X:Cx}
def rCatU(K:PySem.W.Frag):R2:=fun x y H Q=>∃ a b xs ys,x=.ref a/\y=.ref b/\SqT K H a xs/\SqT K H b ys/\xs.length+ys.length<=sizeLine /\
 (xs=[]->Q (.ref b) H)/\(xs≠[]->ys=[]->Q (.ref a) H)/\(xs≠[]->ys≠[]->∀ p,H p=none->Q (.ref p) (upd H p (.tup (xs++ys))))
theorem op_catU(K:PySem.W.Frag)(hk:X.K=K:=by rfl):OpR X (binaryOp .Add) (rCatU K):=by
 intro pins s σ H x y v u Q I rx ry h
 obtain⟨a,b,xs,ys,e1,e2,ha,hb,hz,q0,q1,q2⟩:=id h
 by_cases hx:xs=[]
 ·subst hk e1 e2
  cases rx
  cases ry
  obtain⟨its,r1,p1,_⟩:=I.tuple ha
  obtain⟨its2,r2,p2,_⟩:=I.tuple hb
  have hi:its=[]:=r1.nil_iff.mpr hx
  obtain⟨⟨cls,dd,data,sl⟩,ho,hc,n,hd⟩:=id p1
  obtain⟨⟨cls2,dd2,data2,sl2⟩,ho2,hc2,n2,hd2⟩:=id p2
  simp only at hc hd hc2 hd2
  subst hc hd hc2 hd2
  exact concat_meets ⟨_,ho,rfl⟩ ⟨_,ho2,rfl⟩ noFill_tuple_add seq_tuple_add PySem.F.slot_tuple_add PySem.F.entry_tuple_add (PySem.F.args_tuple_add_2 _ _)
   (tuple_addW0 a b its.toArray its2.toArray n n2 dd dd2 sl sl2 (by simp[hi])) ⟨ho,ho2,⟨.ref b,H,I,rfl,q0 hx⟩⟩
 ·exact op_catTK K hk pins s σ H x y v u Q I rx ry ⟨a,b,xs,ys,e1,e2,ha,hb,hx,hz,q1 hx,q2 hx⟩
end
end L2
namespace My
open PySem L2
theorem lm_id{m:List Int}{a b:Nat}(h:mk m a=mk m b):lm m a b=m:=by unfold lm;rw[if_neg (fun z=>z h)]
theorem cnt_less{m:List Int}{a b:Nat}(ha:a<m.length)(hb:b<m.length):cnt m<=cnt (lm m a b)+1:=by
 by_cases e:mk m a=mk m b
 ·rw[lm_id e];omega
 ·have:=cnt_step ha hb e;omega
theorem cnt_lms{n:Nat}:∀ es:List (Nat × Nat),InN n es->n<=cnt (lms n es)+es.length:=by
 refine snoc_ind (fun _=>?_) fun es x ih hn=>?_
 ·have:cnt (lms n [])=n:=cnt_range n
  omega
 ·obtain⟨h1,h2,h3⟩:=hn.snoc
  have hl:=lms_length n es
  have:=cnt_less (m:=lms n es) (a:=x.1) (b:=x.2) (by omega) (by omega)
  have:=ih h1
  rw[lms_snoc,List.length_append,List.length_cons,List.length_nil]
  omega
theorem cnt_pos{M:List Int}(h:1<=M.length):1<=cnt M:=by
 unfold cnt fstA
 refine List.length_pos_of_mem (a:=0) (List.mem_filter.mpr ⟨List.mem_range.mpr (by omega),fstB_iff.mpr fun i hi=>absurd hi (Nat.not_lt_zero i)⟩)
theorem cnt_conn{n:Nat}{es:List (Nat × Nat)}(hn:1<=n)(h:InN n es):cnt (lms n es)=1↔∀ i j,i<n->j<n->Conn es i j:=by
 rw[cnt_one (by rw[lms_length];exact hn)]
 exact one_conn h
theorem wo_length{ts:List Int}{o:Int}(hn:ts.Nodup)(ho:o∈ts):(wo ts o).length+1=ts.length:=by
 induction ts with
 | nil=>cases ho
 | cons x r ih =>
  obtain⟨h1,h2⟩:=List.nodup_cons.mp hn
  unfold wo
  rw[List.filter_cons]
  by_cases e:x=o
  ·subst e
   rw[if_neg (by simp)]
   have:r.filter (fun y=>decide (y≠x))=r:=List.filter_eq_self.mpr fun y hy=>decide_eq_true fun e=>h1 (e ▸ hy)
   rw[this];rfl
  ·rw[if_pos (decide_eq_true e)]
   have:=ih h2 ((List.mem_cons.mp ho).resolve_left fun z=>e z.symm)
   unfold wo at this
   rw[List.length_cons,List.length_cons]
   omega
def endOf(ps:List (Int × Int))(z:Int):Nat × Nat:=((ps.getD z.toNat (0,0)).1.toNat,(ps.getD z.toNat (0,0)).2.toNat)
theorem ends_snoc(ps:List (Int × Int))(ns:List Int)(z:Int):endsOf ps (ns++[z])=endsOf ps ns++[endOf ps z]:=by unfold endsOf endOf;rw[List.map_append];rfl
theorem end_in{n:Int}{ps:List (Int × Int)}{z:Int}(g:GoodW n ps)(z0:0<=z)(z1:z<(ps.length:Int)):(endOf ps z).1<n.toNat/\(endOf ps z).2<n.toNat:=by
 have:=ends_in (ns:=[z]) g (fun y hy=>by rw[List.mem_singleton.mp hy];exact⟨z0,z1⟩)
 exact this (endOf ps z) (by unfold endsOf endOf;simp)
theorem wo_all{n:Int}{ps:List (Int × Int)}{ts:List Int}{o:Int}(hT:IsTree n ps ts):∀ y∈wo ts o,0<=y/\y<(ps.length:Int):=fun y hy=>hT.1.all y (wo_mem.mp hy).1
theorem exch{n:Int}{ps:List (Int × Int)}{ts:List Int}{o z:Int}(g:GoodW n ps)(hT:IsTree n ps ts)(ho:o∈ts)(z0:0<=z)(z1:z<(ps.length:Int)) :
  (∀ i j,i<n.toNat->j<n.toNat->Conn (endsOf ps (wo ts o++[z])) i j)↔¬ Conn (endsOf ps (wo ts o)) (endOf ps z).1 (endOf ps z).2:=by
 have hn:1<=n.toNat:=by have:=g.1;omega
 have hw:=wo_length hT.1.nodup ho
 have hl:(ts.length:Int)=n - 1:=hT.2.1
 have i0:InN n.toNat (endsOf ps (wo ts o)):=ends_in g (wo_all hT)
 have hz:=end_in g z0 z1
 have ob:=hT.1.all o ho
 have hoe:=end_in g ob.1 ob.2
 have i1:InN n.toNat (endsOf ps (wo ts o)++[endOf ps z]):=fun e he=>(List.mem_append.mp he).elim (i0 e) fun q=>by rw[List.mem_singleton.mp q];exact hz
 have i2:InN n.toNat (endsOf ps (wo ts o)++[endOf ps o]):=fun e he=>(List.mem_append.mp he).elim (i0 e) fun q=>by rw[List.mem_singleton.mp q];exact hoe
 have hL:=lms_length n.toNat (endsOf ps (wo ts o))
 have le:(endsOf ps (wo ts o)).length=(wo ts o).length:=by unfold endsOf;rw[List.length_map]
 rw[ends_snoc]
 constructor
 ·intro hc c
  have h1:cnt (lms n.toNat (endsOf ps (wo ts o)++[endOf ps z]))=1:=(cnt_conn hn i1).mpr hc
  rw[lms_snoc,lm_id ((lms_iff i0 hz.1 hz.2).mpr c)]at h1
  have:=cnt_lms _ i0
  omega
 ·intro hc
  have h2:cnt (lms n.toNat (endsOf ps (wo ts o)++[endOf ps o]))=1:=by
   refine(cnt_conn hn i2).mpr fun i j hi hj=>?_
   rw[<- ends_snoc]
   refine(conn_perm fun y=>?_).mp (hT.2.2 i j hi hj)
   rw[List.mem_append,wo_mem,List.mem_singleton]
   constructor
   ·intro hy
    by_cases e:y=o
    ·exact .inr e
    ·exact .inl ⟨hy,e⟩
   ·rintro(q | q)
    ·exact q.1
    ·rw[q];exact ho
  rw[lms_snoc]at h2
  have h3:=cnt_less (m:=lms n.toNat (endsOf ps (wo ts o))) (a:=(endOf ps o).1) (b:=(endOf ps o).2) (by omega) (by omega)
  have h4:=cnt_step (m:=lms n.toNat (endsOf ps (wo ts o))) (a:=(endOf ps z).1) (b:=(endOf ps z).2) (by omega) (by omega) (fun e=>hc ((lms_iff i0 hz.1 hz.2).mp e))
  have h5:=cnt_pos (M:=lm (lms n.toNat (endsOf ps (wo ts o))) (endOf ps z).1 (endOf ps z).2) (by rw[lm_length];omega)
  refine(cnt_conn hn i1).mp ?_
  rw[lms_snoc]
  omega
def cutT(n:Int)(ps:List (Int × Int))(ts:List Int)(o:Int):List Int:=unlike (lms n.toNat (endsOf ps (wo ts o))) ps ps.length
theorem unlike_bnd{M:List Int}{ps:List (Int × Int)}{i:Nat}{z:Int}(h:z∈unlike M ps i):0<=z/\z<(i:Int):=by
 unfold unlike at h
 obtain⟨k,hk,rfl⟩:=List.mem_map.mp h
 have:=List.mem_range.mp (List.mem_filter.mp hk).1
 omega
theorem cutT_mem{n:Int}{ps:List (Int × Int)}{ts:List Int}{o z:Int}(g:GoodW n ps)(hT:IsTree n ps ts)(z0:0<=z)(z1:z<(ps.length:Int)):z∈cutT n ps ts o↔¬ Conn (endsOf ps (wo ts o)) (endOf ps z).1 (endOf ps z).2:=by
 have hz:=end_in g z0 z1
 unfold cutT
 rw[unlike_mem z0 z1]
 exact not_congr (lms_iff (ends_in g (wo_all hT)) hz.1 hz.2)
def exg(n:Int)(ps:List (Int × Int))(ts:List Int)(o z:Int):Prop:=o∈ts/\z≠o/\z∈cutT n ps ts o
instance (n:Int) (ps:List (Int × Int)) (ts:List Int) (o z:Int):Decidable (exg n ps ts o z):=by unfold exg;infer_instance
theorem exg_iff{n:Int}{ps:List (Int × Int)}{ts:List Int}{o z:Int}(g:GoodW n ps)(hT:IsTree n ps ts) :
  exg n ps ts o z↔o∈ts/\z∉ts/\0<=z/\z<(ps.length:Int)/\∀ i j,i<n.toNat->j<n.toNat->Conn (endsOf ps (wo ts o++[z])) i j:=by
 constructor
 ·rintro⟨h1,h2,h3⟩
  obtain⟨z0,z1⟩:=unlike_bnd h3
  have hc:=(cutT_mem g hT z0 z1).mp h3
  refine⟨h1,fun hz=>hc ?_,z0,z1,(exch g hT h1 z0 z1).mpr hc⟩
  refine .edge ?_
  exact List.mem_map.mpr ⟨z,wo_mem.mpr ⟨hz,h2⟩,rfl⟩
 ·rintro⟨h1,h2,z0,z1,hc⟩
  exact⟨h1,fun e=>h2 (e ▸ h1),(cutT_mem g hT z0 z1).mpr ((exch g hT h1 z0 z1).mp hc)⟩
theorem wo_lt{l:List Int}(z:Int)(h:l.Pairwise (· < ·)):(wo l z).Pairwise (· < ·):=List.Pairwise.sublist List.filter_sublist h
end My
namespace L2
open PySem PySem.Spec PyProof.Rows
def IsRv (h:Heap) (r l:Addr) (i:Int):Prop:=∃ o,h.get? r=some o/\o.cls=.type "reversed"/\o.data=.fields #[.ref l,rawInt i]
theorem IsRv.keep{h h':Heap}{r l:Addr}{i:Int}(x:IsRv h r l i)(e:∀ o,h.get? r=some o->h'.get? r=some o):IsRv h' r l i:=let ⟨o,a,b⟩:=x;⟨o,e _ a,b⟩
section
variable{prog:Program}{w:World}{A:Around}{E:Value->Shared->Prop}{s:Shared}
end
section
variable{prog:Program}{w:World}{A:Around}{E:Value->Shared->Prop}{s:Shared}{it a:Addr}{items:Array Value}
end
section
variable{X:Cx}{p p2 pos pos2:Pos}{e:Expr}{t:TA}
end
section
variable{prog:Program}{w:World}{A:Around}{E:Value->Shared->Prop}{s:Shared}
end
section
variable{X:Cx}
end
end L2
namespace My
open PySem L2
end My
namespace L2
open PySem PySem.Spec PyProof.Rows
section
variable{X:Cx}
end
end L2
namespace My
open PySem L2
theorem cut_own{n:Int}{ps:List (Int × Int)}{ts:List Int}{o y:Int}(g:GoodW n ps)(hT:IsTree n ps ts)(ho:o∈ts)(hy:y∈ts):y∈cutT n ps ts o↔y=o:=by
 have yb:=hT.1.all y hy
 rw[cutT_mem g hT yb.1 yb.2]
 constructor
 ·intro h
  by_cases e:y=o
  ·exact e
  ·exact absurd (.edge (List.mem_map.mpr ⟨y,wo_mem.mpr ⟨hy,e⟩,rfl⟩)) h
 ·rintro rfl
  refine(exch g hT hy yb.1 yb.2).mp fun i j hi hj=>(conn_perm fun z=>?_).mp (hT.2.2 i j hi hj)
  rw[List.mem_append,wo_mem,List.mem_singleton]
  constructor
  ·intro hz
   by_cases e:z=y
   ·exact .inr e
   ·exact .inl ⟨hz,e⟩
  ·rintro(q | q)
   ·exact q.1
   ·rw[q];exact hy
theorem ringA_mem{n:Int}{ps:List (Int × Int)}{ts l:List Int}{z y:Int}:y∈ringA n ps ts z l↔y∈l/\z∈cutT n ps ts y:=by
 unfold ringA
 rw[List.mem_filter,decide_eq_true_iff]
 exact Iff.rfl
theorem exg_tree{n:Int}{ps:List (Int × Int)}{ts ms:List Int}{o z:Int}(g:GoodW n ps)(hT:IsTree n ps ts)(hx:exg n ps ts o z)(hpm:ms.Perm (wo ts o++[z]))(hpw:ms.Pairwise (·<=·)):IsTree n ps ms:=by
 obtain⟨ho,hz,z0,z1,hc⟩:=(exg_iff g hT).mp hx
 have nd:(wo ts o++[z]).Nodup:=nd_snoc (hT.1.nodup.sublist List.filter_sublist) fun h=>hz (wo_mem.mp h).1
 have ndm:ms.Nodup:=hpm.nodup_iff.mpr nd
 have hl:=wo_length hT.1.nodup ho
 have hl2:=hpm.length_eq
 rw[List.length_append,List.length_singleton]at hl2
 refine⟨isSet_iff.mpr ⟨fun y hy=>?_,(List.pairwise_and_iff.mpr ⟨hpw,ndm⟩).imp fun {x y} h=>by have:=h.1;have:=h.2;omega⟩,by rw[hl2,hl];exact hT.2.1,fun i j hi hj=>(conn_perm fun y=>hpm.mem_iff).mpr (hc i j hi hj)⟩
 rcases List.mem_append.mp (hpm.mem_iff.mp hy) with h | h
 ·exact hT.1.all y (wo_mem.mp h).1
 ·rw[List.mem_singleton.mp h];exact⟨z0,z1⟩
section
variable{n:Int}{ps:List (Int × Int)}{ts ms:List Int}{o z:Int}(g:GoodW n ps)(hT:IsTree n ps ts)(hx:exg n ps ts o z)(hpm:ms.Perm (wo ts o++[z]))(hpw:ms.Pairwise (·<=·))
include g hT hx hpm hpw
end
def grd(n:Nat)(ps:List (Int × Int)):Nat->List Int
 | 0=>[]
 | k+1=>if mk (lms n (endsOf ps (grd n ps k))) (endOf ps (k:Int)).1=mk (lms n (endsOf ps (grd n ps k))) (endOf ps (k:Int)).2 then grd n ps k else grd n ps k++[(k:Int)]
theorem grd_succ(n:Nat)(ps:List (Int × Int))(k:Nat):grd n ps (k+1)=if mk (lms n (endsOf ps (grd n ps k))) (endOf ps (k:Int)).1=mk (lms n (endsOf ps (grd n ps k))) (endOf ps (k:Int)).2 then grd n ps k else grd n ps k++[(k:Int)]:=rfl
theorem grd_lt{n:Nat}{ps:List (Int × Int)}:∀ k,∀ z∈grd n ps k,0<=z/\z<(k:Int)
 | 0,z,h=>by cases h
 | k+1,z,h=>by
  rw[grd_succ]at h
  split at h
  ·have:=grd_lt k z h;omega
  ·rcases List.mem_append.mp h with h | h
   ·have:=grd_lt k z h;omega
   ·rw[List.mem_singleton.mp h];omega
theorem grd_asc{n:Nat}{ps:List (Int × Int)}:∀ k,(grd n ps k).Pairwise (· < ·)
 | 0=>List.Pairwise.nil
 | k+1=>by
  rw[grd_succ]
  split
  ·exact grd_asc k
  ·rw[List.pairwise_append]
   exact⟨grd_asc k,List.pairwise_singleton ..,fun a ha b hb=>by rw[List.mem_singleton.mp hb];exact(grd_lt k a ha).2⟩
theorem grd_set{n:Nat}{ps:List (Int × Int)}{k:Nat}(hk:k<=ps.length):IsSet ps.length (grd n ps k):=isSet_iff.mpr ⟨fun z hz=>by have:=grd_lt k z hz;omega,grd_asc k⟩
theorem grd_in{n:Int}{ps:List (Int × Int)}(g:GoodW n ps){k:Nat}(hk:k<=ps.length):InN n.toNat (endsOf ps (grd n.toNat ps k)):=ends_in g (grd_set hk).all
theorem grd_sub{n:Nat}{ps:List (Int × Int)}{j:Nat}:∀ k,j<=k->∀ z,z∈grd n ps j↔z∈grd n ps k/\z<(j:Int)
 | 0,h,z=>by
  have:j=0:=by omega
  subst this
  exact⟨fun h=>(by cases h),fun h=>h.1⟩
 | k+1,h,z=>by
  by_cases e:j=k+1
  ·subst e
   exact⟨fun h=>⟨h,(grd_lt _ z h).2⟩,fun h=>h.1⟩
  ·have ih:=grd_sub (n:=n) (ps:=ps) (j:=j) k (by omega) z
   rw[grd_succ,ih]
   split
   ·exact Iff.rfl
   ·rw[List.mem_append,List.mem_singleton]
    constructor
    ·rintro⟨h1,h2⟩;exact⟨.inl h1,h2⟩
    ·rintro⟨h1 | h1,h2⟩
     ·exact⟨h1,h2⟩
     ·omega
theorem grd_out{n:Int}{ps:List (Int × Int)}(g:GoodW n ps){k j:Nat}(hk:k<=ps.length)(hj:j<k)(hn:(j:Int)∉grd n.toNat ps k):Conn (endsOf ps (grd n.toNat ps j)) (endOf ps (j:Int)).1 (endOf ps (j:Int)).2:=by
 have he:=end_in (z:=(j:Int)) g (by omega) (by omega)
 have h1:(j:Int)∉grd n.toNat ps (j+1):=fun h=>hn ((grd_sub k hj _).mp h).1
 rw[grd_succ]at h1
 split at h1
 ·rename_i h
  exact(lms_iff (grd_in g (by omega)) he.1 he.2).mp h
 ·exact absurd (List.mem_append_right _ (List.mem_singleton.mpr rfl)) h1
theorem grd_cnt{n:Int}{ps:List (Int × Int)}(g:GoodW n ps):∀ k,k<=ps.length->cnt (lms n.toNat (endsOf ps (grd n.toNat ps k)))+(grd n.toNat ps k).length=n.toNat
 | 0,_=>cnt_range n.toNat
 | k+1,hk=>by
  have ih:=grd_cnt g k (by omega)
  have he:=end_in (z:=(k:Int)) g (by omega) (by omega)
  have hl:=lms_length n.toNat (endsOf ps (grd n.toNat ps k))
  rw[grd_succ]
  split
  ·exact ih
  ·rename_i h
   rw[ends_snoc,lms_snoc,List.length_append,List.length_singleton]
   have:=cnt_step (m:=lms n.toNat (endsOf ps (grd n.toNat ps k))) (by omega) (by omega) h
   omega
theorem grd_conn{n:Int}{ps:List (Int × Int)}(g:GoodW n ps){ts:List Int}(ht:∀ z∈ts,0<=z/\z<(ps.length:Int)){i j:Nat}(c:Conn (endsOf ps ts) i j):Conn (endsOf ps (grd n.toNat ps ps.length)) i j:=by
 induction c with
 | refl i=>exact .refl i
 | symm _ ih=>exact .symm ih
 | trans _ _ i1 i2=>exact .trans i1 i2
 | @edge a b h =>
  obtain⟨z,hz,e⟩:=List.mem_map.mp h
  obtain⟨z0,z1⟩:=ht z hz
  have ez:z=((z.toNat:Nat):Int):=by omega
  by_cases hm:z∈grd n.toNat ps ps.length
  ·exact .edge (List.mem_map.mpr ⟨z,hm,e⟩)
  ·rw[ez]at hm
   have c:=grd_out g (Nat.le_refl _) (by omega) hm
   have c2:=c.mono (ends_sub fun y hy=>((grd_sub ps.length (by omega) y).mp hy).1)
   rw[<- ez]at c2
   have ea:a=(endOf ps z).1:=(congrArg Prod.fst e).symm
   have eb:b=(endOf ps z).2:=(congrArg Prod.snd e).symm
   rw[ea,eb]
   exact c2
theorem grd_full{n:Int}{ps:List (Int × Int)}(g:GoodW n ps)(h:¬ ((grd n.toNat ps ps.length).length:Int)<n - 1):IsTree n ps (grd n.toNat ps ps.length):=by
 have h2:=grd_cnt g ps.length (Nat.le_refl _)
 have h3:=cnt_pos (M:=lms n.toNat (endsOf ps (grd n.toNat ps ps.length))) (by rw[lms_length];have:=g.1;omega)
 exact⟨grd_set (Nat.le_refl _),by have:=g.1;omega,(cnt_conn (by have:=g.1;omega) (grd_in g (Nat.le_refl _))).mp (by omega)⟩
end My
namespace L2
open PySem PySem.Spec PyProof.Rows
section
variable{prog:Program}{w:World}{A:Around}{I S:Addr}{fp wr:List Addr}{n:Nat}{P:Nat->Value->Prop}{St:Nat->Heap->Prop}{R:Result->Shared->Prop}
def TupsAt(S:Addr)(wr:List Addr)(P:Nat->Value->Prop)(L:Nat->List Int)(h:Heap):Prop:=∀ i v,P i v->∃ a vs,v=.ref a/\a≠S/\a∉wr/\IsTup h a vs/\IntsAre vs.toList (L i)
theorem TupsAt.keep{L:Nat->List Int}{h h':Heap}(x:TupsAt S wr P L h)(k:∀ b o,b≠S->b∉wr->h.get? b=some o->h'.get? b=some o):TupsAt S wr P L h':=fun i v p=>by
 obtain⟨a,vs,e,n1,n2,⟨o,ho,z⟩,hi⟩:=x i v p
 exact⟨a,vs,e,n1,n2,⟨o,k a o n1 n2 ho,z⟩,hi⟩
end
section
variable{X:Cx}
end
end L2
namespace My
open PySem L2
def TupV(H:Hp)(v:V)(l:List Int):Prop:=∃ a,v=.ref a/\H a=some (.tup (IL l))
def TupsV(H:Hp)(xs:List V)(L:List (List Int)):Prop:=xs.length=L.length/\∀(i:Nat) (l:List Int),L[i]?=some l->∃ v,xs[i]?=some v/\TupV H v l
theorem TupsV.same{H H':Hp}{xs:List V}{L:List (List Int)}(s:Same H H')(h:TupsV H xs L):TupsV H' xs L:=⟨h.1,fun i l e=>let ⟨v,e1,a,e2,e3⟩:=h.2 i l e;⟨v,e1,a,e2,s _ _ e3⟩⟩
theorem TupsV.at{H:Hp}{xs:List V}{L:List (List Int)}(h:TupsV H xs L){i:Nat}{v:V}(e:xs[i]?=some v):∃ l,L[i]?=some l/\TupV H v l:=by
 have hi:i<xs.length:=(List.getElem?_eq_some_iff.mp e).1
 have hp:i<L.length:=by rw[<- h.1];exact hi
 obtain⟨v',e1,q⟩:=h.2 i L[i] (List.getElem?_eq_getElem hp)
 rw[e]at e1
 cases e1
 exact⟨_,List.getElem?_eq_getElem hp,q⟩
theorem TupsV.nil{H:Hp}:TupsV H [] []:=⟨rfl,fun i p e=>by simp at e⟩
theorem TupsV.app{H:Hp}{xs ys:List V}{L M:List (List Int)}(h:TupsV H xs L)(h2:TupsV H ys M):TupsV H (xs++ys) (L++M):=by
 refine⟨by rw[List.length_append,List.length_append,h.1,h2.1],fun i l e=>?_⟩
 by_cases hi:i<L.length
 ·rw[List.getElem?_append_left hi]at e
  obtain⟨v,e1,q⟩:=h.2 i l e
  exact⟨v,by rw[List.getElem?_append_left (by rw[h.1];exact hi)];exact e1,q⟩
 ·rw[List.getElem?_append_right (by omega)]at e
  obtain⟨v,e1,q⟩:=h2.2 _ l e
  exact⟨v,by rw[List.getElem?_append_right (by rw[h.1];omega),h.1];exact e1,q⟩
theorem TupsV.one{H:Hp}{v:V}{l:List Int}(q:TupV H v l):TupsV H [v] [l]:=⟨rfl,fun i m e=>by
 cases i with
 | zero=>have e:l=m:=(by simpa using e);exact⟨v,rfl,e ▸ q⟩
 | succ i=>simp at e⟩
theorem TupsV.snoc{H:Hp}{xs:List V}{L:List (List Int)}{v:V}{l:List Int}(h:TupsV H xs L)(q:TupV H v l):TupsV H (xs++[v]) (L++[l]):=h.app (.one q)
theorem TupsV.mut{H:Hp}{d:Addr}{ys zs xs:List V}{L:List (List Int)}(hP:TupsV H xs L)(hl:H d=some (.lst ys)):TupsV (upd H d (.lst zs)) xs L:=by
 refine⟨hP.1,fun j p e=>?_⟩
 obtain⟨v,e1,tt,e2,e3⟩:=hP.2 j p e
 exact⟨v,e1,tt,e2,by rw[upd_ne (ne_of e3 hl (fun z=>nomatch z))];exact e3⟩
def nxt(s:List Int):Int:=match s.getLast? with | none=>0 | some x=>x+1
def ext1(m:Int)(s:List Int):List (List Int):=(List.range (m - nxt s).toNat).map fun(i:Nat)=>s++[nxt s+(i:Int)]
def cmb(m:Int):Nat->List (List Int)
 | 0=>[[]]
 | k+1=>(cmb m k).flatMap (ext1 m)
theorem ext1_len{m:Nat}{s:List Int}(h:IsSet m s):(ext1 (m:Int) s).length<=m:=by
 unfold ext1
 rw[List.length_map,List.length_range]
 have n0:0<=nxt s:=by
  unfold nxt
  cases q:s.getLast? with
  | none=>exact Int.le_refl 0
  | some x=>have:=(h.all x (List.mem_of_getLast? q)).1;show 0<=x+1;omega
 omega
theorem flat_len{m:Nat}:∀ L:List (List Int),(∀ s∈L,IsSet m s)->(L.flatMap (ext1 (m:Int))).length<=m * L.length
 | [],_=>Nat.zero_le _
 | s :: L,h=>by
  have:=flat_len L fun x hx=>h x (List.mem_cons_of_mem _ hx)
  have:=ext1_len (h s List.mem_cons_self)
  rw[List.flatMap_cons,List.length_append,List.length_cons,Nat.mul_succ]
  omega
theorem asc_sub:∀ {w t:List Int},t.Pairwise (· < ·)->w.Pairwise (· < ·)->(∀ z∈t,z∈w)->t.Sublist w
 | [],[],_,_,_=>List.Sublist.slnil
 | [],x :: t,_,_,h=>absurd (h x List.mem_cons_self) (by simp)
 | y :: w,[],_,_,_=>List.nil_sublist _
 | y :: w,x :: t,ht,hw,h=>by
  obtain⟨h1,h2⟩:=List.pairwise_cons.mp ht
  obtain⟨h3,h4⟩:=List.pairwise_cons.mp hw
  by_cases e:x=y
  ·subst e
   refine List.Sublist.cons₂ _ (asc_sub h2 h4 fun z hz=>?_)
   rcases List.mem_cons.mp (h z (List.mem_cons_of_mem _ hz)) with q | q
   ·have:=h1 z hz;omega
   ·exact q
  ·have hx:x∈w:=(List.mem_cons.mp (h x List.mem_cons_self)).resolve_left e
   refine List.Sublist.cons _ (asc_sub ht h4 fun z hz=>?_)
   rcases List.mem_cons.mp (h z hz) with q | q
   ·have:=h3 x hx
    rcases List.mem_cons.mp hz with q2 | q2
    ·rw[q2];exact hx
    ·have:=h1 z q2;omega
   ·exact q
theorem cross{n:Int}{ps:List (Int × Int)}{T W:List Int}{o:Int}(g:GoodW n ps)(hT:IsTree n ps T)(hW:IsTree n ps W)(ho:o∈T):∃ z∈W,z∈cutT n ps T o:=by
 refine Classical.byContradiction fun hno=>?_
 have all:∀ i j,Conn (endsOf ps W) i j->Conn (endsOf ps (wo T o)) i j:=fun i j c=>by
  induction c with
  | refl i=>exact .refl i
  | symm _ ih=>exact .symm ih
  | trans _ _ i1 i2=>exact .trans i1 i2
  | @edge a b h =>
   obtain⟨z,hz,e⟩:=List.mem_map.mp h
   obtain⟨z0,z1⟩:=hW.1.all z hz
   have c:Conn (endsOf ps (wo T o)) (endOf ps z).1 (endOf ps z).2:=Classical.byContradiction fun hc=>hno ⟨z,hz,(cutT_mem g hT z0 z1).mpr hc⟩
   have ea:a=(endOf ps z).1:=(congrArg Prod.fst e).symm
   have eb:b=(endOf ps z).2:=(congrArg Prod.snd e).symm
   rw[ea,eb]
   exact c
 have ob:=hT.1.all o ho
 have he:=end_in g ob.1 ob.2
 exact(cutT_mem g hT ob.1 ob.2).mp ((cut_own g hT ho ho).mpr rfl) (all _ _ (hW.2.2 _ _ he.1 he.2))
theorem reach{n:Int}{ps:List (Int × Int)}{W:List Int}(g:GoodW n ps)(hW:IsTree n ps W)(R:List Int->Prop)
  (close:∀ T o z ms,R T->IsTree n ps T->exg n ps T o z->ms.Perm (wo T o++[z])->ms.Pairwise (·<=·)->R ms):∀(k:Nat) (T:List Int),R T->IsTree n ps T->(T.filter fun y=>decide (y∉W)).length=k->R W
 | 0,T,hR,hT,h=>by
  have hsub:∀ z∈T,z∈W:=fun z hz=>Classical.byContradiction fun hn=>by
   have:z∈T.filter fun y=>decide (y∉W):=List.mem_filter.mpr ⟨hz,decide_eq_true hn⟩
   rw[List.length_eq_zero_iff.mp h]at this
   cases this
  have:=(asc_sub (isSet_iff.mp hT.1).2 (isSet_iff.mp hW.1).2 hsub).eq_of_length (by have:=hT.2.1;have:=hW.2.1;omega)
  exact this ▸ hR
 | k+1,T,hR,hT,h=>by
  obtain⟨o,hof⟩:∃ o,o∈T.filter fun y=>decide (y∉W):=List.exists_mem_of_length_pos (by omega)
  have ho:=(List.mem_filter.mp hof).1
  have hoW:o∉W:=of_decide_eq_true (List.mem_filter.mp hof).2
  obtain⟨z,hzW,hzc⟩:=cross g hT hW ho
  have hzo:z≠o:=fun e=>hoW (e ▸ hzW)
  have hx:exg n ps T o z:=⟨ho,hzo,hzc⟩
  have hpm:((wo T o++[z]).mergeSort fun a b=>decide (a<=b)).Perm (wo T o++[z]):=List.mergeSort_perm ..
  have hpw:((wo T o++[z]).mergeSort fun a b=>decide (a<=b)).Pairwise (·<=·):=by
   have:=List.pairwise_mergeSort (le:=fun(a b:Int)=>decide (a<=b)) (fun a b c h1 h2=>by simp only [decide_eq_true_eq]at *;omega) (fun a b=>by simp only [Bool.or_eq_true,decide_eq_true_eq];omega) (wo T o++[z])
   exact this.imp fun h=>by simpa using h
  refine reach g hW R close k _ (close T o z _ hR hT hx hpm hpw) (exg_tree g hT hx hpm hpw) ?_
  rw[(hpm.filter _).length_eq,List.filter_append]
  have e1:[z].filter (fun y=>decide (y∉W))=[]:=by rw[List.filter_cons,if_neg (by simpa using hzW)];rfl
  rw[e1,List.append_nil]
  have e2:(wo T o).filter (fun y=>decide (y∉W))=wo (T.filter fun y=>decide (y∉W)) o:=by
   unfold wo
   rw[List.filter_filter,List.filter_filter]
   refine List.filter_congr fun y _=>Bool.and_comm ..
  rw[e2]
  have:=wo_length (hT.1.nodup.sublist List.filter_sublist) hof
  omega
def pmf(M:List Int)(es:List (Nat × Nat)):List Int:=es.foldl (fun m e=>pm m e.1 e.2) M
theorem pmf_snoc(M:List Int)(es:List (Nat × Nat))(e:Nat × Nat):pmf M (es++[e])=pm (pmf M es) e.1 e.2:=by unfold pmf;rw[List.foldl_append];rfl
theorem pmf_length(M:List Int):∀ es:List (Nat × Nat),(pmf M es).length=M.length:=by
 intro es
 unfold pmf
 induction es generalizing M with
 | nil=>rfl
 | cons e l ih=>rw[List.foldl_cons,ih,pm_length]
theorem cut_upto{xs:List V}{i:Int}(h0:0<=i):cutV xs none (some i)=xs.take i.toNat:=by
 have e:HT.sIx xs.length xs.length (some i)=min i.toNat xs.length:=by
  show(if i<0 then (i+(xs.length:Int)).toNat else min i.toNat xs.length)=_
  rw[if_neg (by omega)]
 unfold cutV
 rw[e,HT.sIx_none,List.drop_zero,Nat.sub_zero]
 by_cases h:i.toNat<=xs.length
 ·rw[Nat.min_eq_left h]
 ·rw[Nat.min_eq_right (by omega),List.take_of_length_le (Nat.le_refl _),List.take_of_length_le (by omega)]
def rgL(m:Nat):List Int:=(List.range m).map fun(i:Nat)=>(i:Int)
theorem rgL_mem{m:Nat}{z:Int}:z∈rgL m↔0<=z/\z<(m:Int):=by
 unfold rgL
 rw[List.mem_map]
 constructor
 ·rintro⟨i,hi,rfl⟩
  have:=List.mem_range.mp hi
  omega
 ·intro h
  exact⟨z.toNat,List.mem_range.mpr (by omega),by omega⟩
theorem rgL_length(m:Nat):(rgL m).length=m:=by unfold rgL;simp
theorem rgL_asc(m:Nat):(rgL m).Pairwise (· < ·):=by
 unfold rgL
 rw[List.pairwise_map]
 exact List.pairwise_lt_range.imp fun h=>by omega
theorem rgL_set(m:Nat):IsSet m (rgL m):=isSet_iff.mpr ⟨fun z hz=>rgL_mem.mp hz,rgL_asc m⟩
theorem rngI_rgL(m:Nat):rngI 0 (m:Int)=rgL m:=by
 unfold rngI rgL
 rw[Int.sub_zero,Int.toNat_natCast]
 exact List.map_congr_left fun i _=>by omega
def Joined(n:Int)(ps:List (Int × Int)):Prop:=∀ i j,i<n.toNat->j<n.toNat->Conn (endsOf ps (rgL ps.length)) i j
end My
namespace L2
open PySem PySem.Spec PyProof.Rows
section
variable{prog:Program}{w:World}{A:Around}{E:Value->Shared->Prop}{s:Shared}
theorem collect_rng{r:Addr}{a b c:Int}{t u v:Tok}{n:Nat}{Q:List Value->Shared->Prop}(hh:A.handled=none)(hr:IsRange s.heap r a b c t u v)(hm:Builtin.Range.small a b c=true)(hn:Builtin.Range.rangeSize a b c=n)(hl:n<=2 ^ 24)
  (k:∀(h':Heap) (tk:Nat) (acc:Array Value),(∀ b o,s.heap.get? b=some o->h'.get? b=some o)->ItemsOf (fun i v=>∃ t,v=.int (a+i * c) t) acc n->Q acc.toList { s with heap:=h',toks:=tk }):wpAny (model prog w) A (collect (.ref r)) Q E s:=by
 have hL1:(s.heap.push (seqObj "list" #[] 0)).get? s.heap.objs.size=some (seqObj "list" #[] 0):=Heap.get?_push_size _ rfl
 unfold collect
 refine wpAny_bind (wpAny_runValue (codeAny_builtin entry_proto_collect' ?_))
 show wpAny _ A.in1 (do again (.builtin "list.__iadd__" ⟨[<- newList [],.ref r],[]⟩)) _ _ s
 refine wpAny_bind (wpAny_newList (wpAny_pure ⟨Code.quiet_builtin _ (by decide +kernel),codeAny_builtin entry_list_iadd' ?_⟩))
 show wpAny _ A.in1 (Builtin.List.listExtendWith (.ref s.heap.objs.size) (.ref r) (.ref s.heap.objs.size)) _ _ { s with heap:=s.heap.push (seqObj "list" #[] 0) }
 refine wpAny_mono (wpAny_extend_range (A:=A) (R:=fun x s'=>∃(h':Heap) (tk:Nat) (acc:Array Value) (c':Nat),x=.ok (.ret (.ref s.heap.objs.size))/\s'={ s with heap:=h',toks:=tk }/\(∀ b o,s.heap.get? b=some o->h'.get? b=some o) /\
   h'.get? s.heap.objs.size=some { cls:=.type "list",dict:=none,data:=.seq acc c',slots:=#[] }/\ItemsOf (fun i v=>∃ t,v=.int (a+i * c) t) acc n)
  (s:={ s with heap:=s.heap.push (seqObj "list" #[] 0) }) hh (Heap.get?_push_of_some _ hr) hm hn hl _ _ 0 hL1 fun h' tk acc c' k1 k2 k3=>⟨h',tk,acc,c',rfl,rfl,fun b o e=>k1 b o (Nat.ne_of_lt (Heap.lt_size e)) (Heap.get?_push_of_some _ e),k2,k3⟩) (fun fin s' z=>?_) (fun e s' z=>?_)
 ·cases fin with
  | done f =>
   obtain⟨h',tk,acc,c',e,rfl,k1,k2,k3⟩:=z
   cases e
   refine wpAny_bind (wpAny_load k2 ?_)
   exact wpAny_pure (k h' tk acc k1 k3)
  | again c' =>
   refine⟨z.1,codeAny_mono z.2 fun x s2 z=>?_⟩
   obtain⟨h',tk,acc,c',rfl,rfl,k1,k2,k3⟩:=z
   refine wpAny_bind (wpAny_load k2 ?_)
   exact wpAny_pure (k h' tk acc k1 k3)
 ·obtain⟨h',tk,acc,c',e,_⟩:=z
  cases e
theorem new_tuple_rng{r:Addr}{a b c:Int}{t u v:Tok}{n:Nat}(hm:Builtin.Range.small a b c=true)(hn:Builtin.Range.rangeSize a b c=n)(hl:n<=2 ^ 24) :
  Meets (Builtin.«tuple.__new__» ⟨[.type "tuple",.ref r],[]⟩) (fun A R s=>A.handled=none/\IsRange s.heap r a b c t u v/\∀(h':Heap) (tk:Nat) (acc:Array Value),(∀ b o,s.heap.get? b=some o->h'.get? b=some o)->ItemsOf (fun i v=>∃ t,v=.int (a+i * c) t) acc n ->
   R (.ok (.ret (.ref h'.objs.size))) { s with heap:=h'.push (seqObj "tuple" acc 0),toks:=tk }) :=
 .of_wp fun prog w A R s h=>by
  obtain⟨hh,hr,h⟩:=h
  have e1:=sub_tuple_self
  have e2:=init_tuple_lookup
  have e3:=madeHere_tuple
  have hT:s.TypeIs (.ref r) "range":=⟨_,hr,rfl⟩
  have hh1:A.in1.handled=none:=hh
  wp_walk using wpAny_typeOf hT,collect_rng hh1 hr hm hn hl
  intro h' tk acc hk hacc
  show wpAny _ _ (Builtin.Tuple.tupleExact acc.toList.toArray >>= ret) _ _ _
  unfold Builtin.Tuple.tupleExact
  have e:acc.toList.toArray=acc:=by simp
  rw[e]
  refine wpAny_bind (wpAny_newObj_type ?_ (by show acc.size<=sizeLine;rw[hacc.1,sizeLine_eq];exact hl))
  exact wpAny_pure ⟨_,rfl,h h' tk acc hk hacc⟩
theorem call_tuple_range{r:Addr}{a b c:Int}{t u v:Tok}{n:Nat}{Q:Value->Shared->Prop}(hh:A.handled=none)(hr:IsRange s.heap r a b c t u v)(hm:Builtin.Range.small a b c=true)(hn:Builtin.Range.rangeSize a b c=n)(hl:n<=2 ^ 24)
  (k:∀(h':Heap) (tk:Nat) (acc:Array Value),(∀ b o,s.heap.get? b=some o->h'.get? b=some o)->ItemsOf (fun i v=>∃ t,v=.int (a+i * c) t) acc n->Q (.ref h'.objs.size) { s with heap:=h'.push (seqObj "tuple" acc 0),toks:=tk }):wpAny (model prog w) A (call (.type "tuple") [.ref r]) Q E s :=
 callType_new F.called_tuple (by decide) (F.typeCall_tuple_1 _) (F.newCall_tuple_1 _) (fun o=>F.args_object_init_2 o _) F.entry_tuple_new (new_tuple_rng (t:=t) (u:=u) (v:=v) hm hn hl)
  ⟨hh,hr,fun h' tk acc hk hacc=>⟨⟨_,Heap.get?_push_size _ rfl,rfl⟩,k h' tk acc hk hacc⟩⟩
end
section
variable{X:Cx}
theorem call_tuple_rng (hc:X.calm=true):CallR X (.type "tuple") (fun xs H Q=>∃ p lo hi,xs=[.ref p]/\H p=some (.rng lo hi)/\(-(2 ^ 62)<=lo/\lo<2 ^ 62/\-(2 ^ 62)<=hi/\hi<2 ^ 62)/\(hi - lo).toNat<=16777216 /\
  ∀ l,H l=none->Q (.ref l) (upd H l (.tup ((rngI lo hi).map V.int)))):=by
 intro pins s σ H xs us Q I r h
 obtain⟨p,lo,hi,rfl,hp,⟨b1,b2,b3,b4⟩,hz,q⟩:=h
 obtain⟨u,rfl,ru⟩:=vals1 r
 obtain rfl:u=Value.ref p:=ru
 obtain⟨t,u,v,e⟩:=(show ObjOk X.prog X.w H s.heap p (.rng lo hi) from I.hok p _ hp)
 have hn:Builtin.Range.rangeSize lo hi 1=(((hi - lo).toNat:Nat):Int):=by rw[rangeSize_one];split <;> omega
 refine call_tuple_range (I.ok.hd hc) (t:=t) (u:=u) (v:=v) e (small_one b1 b2 b3 b4) hn hz fun h' tk acc hk ha=>?_
 have hl:acc.toList.length=(hi - lo).toNat:=by rw[Array.length_toList];exact ha.1
 have rv:Vals ((rngI lo hi).map V.int) acc.toList:=vals_rng (lo:=lo) hl fun j w ew=>by
  obtain⟨t,e⟩:=ha.2 j w (by simpa using ew)
  exact⟨t,by rw[e,Int.mul_one]⟩
 have I1:Inv X pins σ H { s with heap:=h',toks:=tk }:=I.kept (t':=tk) hk
 have hz2:((rngI lo hi).map V.int).length<=sizeLine:=by
  rw[List.length_map,rngI_length]
  have:sizeLine=16777216:=sizeLine_eq
  omega
 have I2:Inv X pins σ (upd H h'.objs.size (.tup ((rngI lo hi).map V.int))) { s with heap:=h'.push (seqObj "tuple" acc.toList.toArray 0),toks:=tk } :=
  I1.laid (t':=tk) (fun b o e=>Heap.get?_push_of_some _ e) (Nat.le_refl _) (show ObjOk X.prog X.w _ _ _ (.tup ((rngI lo hi).map V.int)) from⟨hz2,acc.toList,rv,IsTup.new _ _⟩)
 have ea:acc.toList.toArray=acc:=by simp
 rw[ea]at I2
 exact⟨.ref h'.objs.size,_,I2,rfl,q _ (I1.hok.fresh (Nat.le_refl _))⟩
end
end L2
namespace My
open PySem L2
def gst(n:Nat)(ps:List (Int × Int))(G:List Int)(z:Int):List Int:=if mk (lms n (endsOf ps G)) (endOf ps z).1=mk (lms n (endsOf ps G)) (endOf ps z).2 then G else G++[z]
def grw(n:Nat)(ps:List (Int × Int))(zs:List Int):List Int:=zs.foldl (gst n ps) []
theorem grw_snoc(n:Nat)(ps:List (Int × Int))(zs:List Int)(z:Int):grw n ps (zs++[z])=gst n ps (grw n ps zs) z:=by unfold grw;rw[List.foldl_append];rfl
theorem grw_app(n:Nat)(ps:List (Int × Int))(zs:List Int):∀ ys,∃ us,grw n ps (zs++ys)=grw n ps zs++us/\us.Sublist ys:=by
 refine snoc_ind ⟨[],by simp⟩ fun ys y ih=>?_
 obtain⟨us,e,s⟩:=ih
 rw[<- List.append_assoc,grw_snoc,e]
 unfold gst
 split
 ·exact⟨us,rfl,s.trans (List.sublist_append_left _ _)⟩
 ·exact⟨us++[y],by rw[List.append_assoc],s.append (List.Sublist.refl _)⟩
theorem grw_sub(n:Nat)(ps:List (Int × Int))(zs:List Int):(grw n ps zs).Sublist zs:=by
 obtain⟨us,e,s⟩:=grw_app n ps [] zs
 rw[List.nil_append]at e
 rw[e]
 exact s
theorem grw_range(n:Nat)(ps:List (Int × Int)):∀ k,grw n ps ((List.range k).map fun(i:Nat)=>(i:Int))=grd n ps k
 | 0=>rfl
 | k+1=>by rw[List.range_succ,List.map_append,List.map_singleton,grw_snoc,grw_range n ps k,grd_succ];rfl
theorem grw_all{n:Nat}{ps:List (Int × Int)}{zs:List Int}(h:∀ z∈zs,0<=z/\z<(ps.length:Int)):∀ z∈grw n ps zs,0<=z/\z<(ps.length:Int):=fun z hz=>h z ((grw_sub n ps zs).subset hz)
theorem grw_in{n:Int}{ps:List (Int × Int)}(g:GoodW n ps){zs:List Int}(h:∀ z∈zs,0<=z/\z<(ps.length:Int)):InN n.toNat (endsOf ps (grw n.toNat ps zs)):=ends_in g (grw_all h)
theorem grw_cnt{n:Int}{ps:List (Int × Int)}(g:GoodW n ps):∀ zs:List Int,(∀ z∈zs,0<=z/\z<(ps.length:Int))->cnt (lms n.toNat (endsOf ps (grw n.toNat ps zs)))+(grw n.toNat ps zs).length=n.toNat:=by
 refine snoc_ind (fun _=>cnt_range n.toNat) fun zs z ih h=>?_
 have h1:∀ z∈zs,0<=z/\z<(ps.length:Int):=fun y hy=>h y (List.mem_append_left _ hy)
 have ih:=ih h1
 obtain⟨z0,z1⟩:=h z (List.mem_append_right _ (List.mem_singleton.mpr rfl))
 have he:=end_in (z:=z) g z0 z1
 have hl:=lms_length n.toNat (endsOf ps (grw n.toNat ps zs))
 rw[grw_snoc]
 unfold gst
 split
 ·exact ih
 ·rename_i h
  rw[ends_snoc,lms_snoc,List.length_append,List.length_singleton]
  have:=cnt_step (m:=lms n.toNat (endsOf ps (grw n.toNat ps zs))) (by omega) (by omega) h
  omega
theorem grw_len{n:Int}{ps:List (Int × Int)}(g:GoodW n ps){zs:List Int}(h:∀ z∈zs,0<=z/\z<(ps.length:Int)):(grw n.toNat ps zs).length<=14:=by
 have:=grw_cnt g zs h
 have:=g.2.1
 omega
theorem grd_joined{n:Int}{ps:List (Int × Int)}(g:GoodW n ps):Joined n ps↔¬ ((grd n.toNat ps ps.length).length:Int)<n - 1:=by
 constructor
 ·intro h
  have hc:∀ i j,i<n.toNat->j<n.toNat->Conn (endsOf ps (grd n.toNat ps ps.length)) i j:=fun i j hi hj=>grd_conn g (fun z hz=>rgL_mem.mp hz) (h i j hi hj)
  have h1:=(cnt_conn (by have:=g.1;omega) (grd_in g (Nat.le_refl _))).mpr hc
  have h2:=grd_cnt g ps.length (Nat.le_refl _)
  have:=g.1
  omega
 ·intro h i j hi hj
  exact((grd_full g h).2.2 i j hi hj).mono (ends_sub fun z hz=>rgL_mem.mpr (by have:=grd_lt ps.length z hz;omega))
end My
namespace PyProof.Rows
open PySem
abbrev dK:Keyed:=(Value.none,Value.none)
section
variable{M:Model}{A:Around}{E:Value->Shared->Prop}{s:Shared}{O:KeyOrd}{key:Keyed->O.α}{kd:SortKind}{S:Keyed->Prop}
end
section
variable{M:Model}{A:Around}{E:Value->Shared->Prop}{s:Shared}{O:KeyOrd}{key:Keyed->O.α}{kd:SortKind}{S:Keyed->Prop}
def RK(O:KeyOrd)(key:Keyed->O.α)(x y:Keyed):Prop:=O.kle (key x) (key y)
structure MI (O:KeyOrd) (key:Keyed->O.α) (la lb:List Keyed) (out:Array Keyed) (ia ib:Nat):Prop where
 so:out.toList.Pairwise (RK O key)
 oa:∀ x∈out.toList,∀ y∈la.drop ia,RK O key x y
 ob:∀ x∈out.toList,∀ y∈lb.drop ib,RK O key x y
 pm:(out.toList++la.drop ia++lb.drop ib).Perm (la++lb)
abbrev LoS:=Option (Array Keyed) × Array Keyed × Nat × Nat × Nat × Nat × Nat
section
variable{a b out:Array Keyed}{ia ib:Nat}{st:SortSt}{R:ForInStep LoS->SortSt->Prop}
end
section
variable{a b:Array Keyed}{st:SortSt}
end
end
section
variable{M:Model}{A:Around}{E:Value->Shared->Prop}{s:Shared}{O:KeyOrd}{key:Keyed->O.α}{kd:SortKind}{S:Keyed->Prop}
structure MH (O:KeyOrd) (key:Keyed->O.α) (la lb:List Keyed) (out:Array Keyed) (na nb:Nat):Prop where
 so:out.toList.Pairwise fun x y=>RK O key y x
 oa:∀ x∈la.take na,∀ y∈out.toList,RK O key x y
 ob:∀ x∈lb.take nb,∀ y∈out.toList,RK O key x y
 pm:(la.take na++lb.take nb++out.toList).Perm (la++lb)
abbrev HiS:=Option (Array Keyed) × Nat × Nat × Array Keyed × Nat × Nat × Nat
section
variable{a b out:Array Keyed}{na nb:Nat}{st:SortSt}{R:ForInStep HiS->SortSt->Prop}
end
section
variable{a b:Array Keyed}{st:SortSt}
end
end
section
variable{M:Model}{A:Around}{E:Value->Shared->Prop}{s:Shared}{O:KeyOrd}{key:Keyed->O.α}{kd:SortKind}{S:Keyed->Prop}
end
section
variable{M:Model}{A:Around}{E:Value->Shared->Prop}{s:Shared}{O:KeyOrd}{key:Keyed->O.α}{kd:SortKind}{S:Keyed->Prop}
def Stp(lo:Nat)(st st':SortSt):Prop:=kindOf st'=kindOf st/\failedOf st'=failedOf st/\pendingOf st'=pendingOf st/\(arrOf st').Perm (arrOf st)/\∀ i,i<lo->(arrOf st')[i]?=(arrOf st)[i]?
theorem Stp.refl(lo:Nat)(st:SortSt):Stp lo st st:=⟨rfl,rfl,rfl,Array.Perm.refl _,fun _ _=>rfl⟩
theorem Stp.trans{lo:Nat}{a b c:SortSt}(h:Stp lo a b)(k:Stp lo b c):Stp lo a c:=⟨k.1.trans h.1,k.2.1.trans h.2.1,k.2.2.1.trans h.2.2.1,k.2.2.2.1.trans h.2.2.2.1,fun i hi=>(k.2.2.2.2 i hi).trans (h.2.2.2.2 i hi)⟩
theorem Stp.size{lo:Nat}{a b:SortSt}(h:Stp lo a b):(arrOf b).size=(arrOf a).size:=h.2.2.2.1.size_eq
theorem Stp.all{lo:Nat}{a b:SortSt}(h:Stp lo a b)(hS:∀ x∈(arrOf a).toList,S x):∀ x∈(arrOf b).toList,S x:=fun x hx=>hS x ((Array.perm_iff_toList_perm.mp h.2.2.2.1).mem_iff.mp hx)
end
section
variable{M:Model}{A:Around}{E:Value->Shared->Prop}{s:Shared}{O:KeyOrd}{key:Keyed->O.α}{kd:SortKind}{S:Keyed->Prop}
def offs:List (List Keyed)->Nat->List (Nat × Nat)
 | [],_=>[]
 | g :: gs,o=>(o,g.length) :: offs gs (o+g.length)
structure PI (O:KeyOrd) (key:Keyed->O.α) (kd:SortKind) (a₀:Array Keyed) (st:SortSt) (segs:List (List Keyed)) (rest:List Keyed):Prop where
 kind:kindOf st=kd
 fail:failedOf st=none
 perm:(arrOf st).Perm a₀
 arr:(arrOf st).toList=segs.flatten++rest
 srt:∀ g∈segs,1<=g.length/\g.Pairwise (RK O key)
 pend:(pendingOf st).toList.map (fun p=>(p.1,p.2.1))=offs segs 0
theorem PI.size{a₀:Array Keyed}{st:SortSt}{segs:List (List Keyed)}{rest:List Keyed}(h:PI O key kd a₀ st segs rest):a₀.size=segs.flatten.length+rest.length:=by
 rw[<- h.perm.size_eq,<- Array.length_toList,h.arr,List.length_append]
end
end PyProof.Rows
namespace L2
open PySem PySem.Spec PyProof.Rows
section
variable{prog:Program}{w:World}{A:Around}{E:Value->Shared->Prop}{s:Shared}
def sameBut(a:Addr)(h h':Heap):Prop:=∀ b o,b≠a->h.get? b=some o->h'.get? b=some o
end
end L2
namespace L2
open PySem PySem.Spec PyProof.Rows My
section
variable{X:Cx}
end
end L2
namespace L2
open PySem PySem.Spec PyProof.Rows
section
variable{X:Cx}
end
end L2
namespace My
open PySem L2
end My
namespace L2
open PySem PySem.Spec PyProof.Rows
section
variable{X:Cx}
end
end L2
namespace L2
open PySem PySem.Spec PyProof.Rows
open PySem.SeqAt
open PySem.AutoSeq1 (wpAny_loadPart')
open PySem.MeetsSeq PySem.MeetsSeq2 PySem.MeetsSeq3
end L2
namespace L2
open PySem PySem.Spec PyProof.Rows My
section
variable{prog:Program}{w:World}{A:Around}{E:Value->Shared->Prop}{s:Shared}
end
section
variable{X:Cx}
end
end L2
namespace L2
open PySem PySem.Spec PyProof.Rows
def CMulC(i j:Int):Prop:=(-(10 ^ 200)<i/\i<10 ^ 200)/\(-(10 ^ 200)<j/\j<10 ^ 200)
theorem bits_great{a:Int}(h1:-(10 ^ 200)<a)(h2:a<10 ^ 200):Builtin.Int.intBits a<=1000:=by
 have h:a.natAbs<10 ^ 200:=by omega
 exact PySem.intBits_le_iff.mpr (Nat.lt_trans h (by decide))
section
variable{X:Cx}
theorem op_mulC:OpR X (binaryOp .Mult) (rI CMulC fun i j=>.int (i * j)):=opI fun _ _ _ _ _ _ _ hc q=>mul_int q (.of_bits (Nat.le_trans (bits_great hc.1.1 hc.1.2) (by decide)) (Nat.le_trans (bits_great hc.2.1 hc.2.2) (by decide)))
end
end L2
namespace My
open PySem L2
end My
namespace L2
open PySem PySem.Spec PyProof.Rows
section
variable{X:Cx}
end
end L2
namespace My
open PySem L2
inductive WP (n:Int) (ps:List (Int × Int)) (W:List Int) (T0:List Int):List Int->List (Int × Int)->List Int->Prop
 | nil:WP n ps W T0 [] [] T0
 | skip {l:List Int} {ws:List (Int × Int)} {T:List Int} {z:Int}:WP n ps W T0 l ws T->z∈T->WP n ps W T0 (l++[z]) ws T
 | step {l:List Int} {ws:List (Int × Int)} {T T':List Int} {z o:Int}:WP n ps W T0 l ws T->z∉T->o∈ringA n ps T z T->o∉W->(∀ y∈ringA n ps T z T,y∉W->o<=y)->T'.Perm (wo T o++[z])->T'.Pairwise (·<=·)->WP n ps W T0 (l++[z]) (ws++[(o,z)]) T'
theorem asc_ext{a b:List Int}(ha:a.Pairwise (· < ·))(hb:b.Pairwise (· < ·))(h:∀ z,z∈a↔z∈b):a=b :=
 (asc_sub ha hb fun z hz=>(h z).mp hz).eq_of_length (Nat.le_antisymm (asc_sub ha hb fun z hz=>(h z).mp hz).length_le (asc_sub hb ha fun z hz=>(h z).mpr hz).length_le)
end My
namespace L2
open PySem PySem.Spec PyProof.Rows
section
variable{prog:Program}{w:World}{A:Around}{E:Value->Shared->Prop}{s:Shared}{l:Addr}{xs:Array (Int × Tok)}
end
section
variable{X:Cx}
end
end L2
namespace My
open PySem L2
theorem cut_from2{xs:List V}{i:Int}(h0:0<=i):cutV xs (some i) none=xs.drop i.toNat:=by
 have e:HT.sIx xs.length 0 (some i)=min i.toNat xs.length:=by
  show(if i<0 then (i+(xs.length:Int)).toNat else min i.toNat xs.length)=_
  rw[if_neg (by omega)]
 unfold cutV
 rw[e,HT.sIx_none,List.take_of_length_le (by rw[List.length_drop];exact Nat.le_refl _)]
 by_cases h:i.toNat<=xs.length
 ·rw[Nat.min_eq_left h]
 ·rw[Nat.min_eq_right (by omega),List.drop_eq_nil_of_le (Nat.le_refl _),List.drop_eq_nil_of_le (by omega)]
def cutz{α:Type}(l:List α)(z:Int):List α:=l.take z.toNat++l.drop (z.toNat+1)
theorem cut_z{xs:List V}{z:Int}(h0:0<=z):cutV xs none (some z)++cutV xs (some (z+1)) none=cutz xs z:=by
 rw[cut_upto h0,cut_from2 (by omega),show(z+1).toNat=z.toNat+1 by omega]
 rfl
theorem cutz_len{α:Type}(l:List α)(z:Int):(cutz l z).length<=l.length:=by
 unfold cutz
 rw[List.length_append,List.length_take,List.length_drop]
 omega
theorem rgL_get{n i:Nat}(h:i<n):(rgL n)[i]?=some (i:Int):=by
 unfold rgL
 rw[List.getElem?_map,List.getElem?_range h]
 rfl
theorem rgL_succ(i:Nat):rgL (i+1)=rgL i++[(i:Int)]:=by unfold rgL;rw[List.range_succ,List.map_append];rfl
end My
namespace L2
open PySem PySem.Spec PyProof.Rows
section
variable{X:Cx}
def rIxQ(K:PySem.W.Frag):R2:=fun x y H Q=>∃(k:Bool) (p:Addr) (xs:List V) (i:Int) (v:V),x=.ref p/\y=.int i/\My.SqK k K H p xs/\atI xs i=some v/\Q v H
theorem ix_seqK(K:PySem.W.Frag)(h:X.K=K:=by rfl):IxR X (rIxQ K):=by
 intro value slice pins s σ H x y v u Q I rx ry h1 hs
 obtain⟨k,p,xs,i,z,e1,e2,hq,he,q⟩:=h1
 cases k with
 | false=>exact ix_listK K h value slice pins s σ H x y v u Q I rx ry ⟨p,xs,i,z,e1,e2,hq,he,q⟩ hs
 | true=>exact ix_tupK K h value slice pins s σ H x y v u Q I rx ry ⟨p,xs,i,z,e1,e2,hq,he,q⟩ hs
end
theorem nx_mk{N a b:St->Hp->Prop}{r:VK}{σ:St}{H:Hp}(h:N σ H):Ends.nx { nx:=N,rt:=r,bk:=a,ct:=b } σ H:=h
end L2
namespace My
theorem len1{α:Type}{l:List α}(h:l.length=1):∃ a,l=[a]:=by
 cases l with
 | nil=>cases h
 | cons a l=>cases l with
  | nil=>exact⟨a,rfl⟩
  | cons b l=>simp at h
theorem len2{α:Type}{l:List α}(h:l.length=2):∃ a b,l=[a,b]:=by
 cases l with
 | nil=>cases h
 | cons a l =>
  obtain⟨b,rfl⟩:=len1 (Nat.succ.inj h)
  exact⟨a,b,rfl⟩
theorem len3{α:Type}{l:List α}(h:l.length=3):∃ a b c,l=[a,b,c]:=by
 cases l with
 | nil=>cases h
 | cons a l =>
  obtain⟨b,c,rfl⟩:=len2 (Nat.succ.inj h)
  exact⟨a,b,c,rfl⟩
theorem len4{α:Type}{l:List α}(h:l.length=4):∃ a b c d,l=[a,b,c,d]:=by
 cases l with
 | nil=>cases h
 | cons a l =>
  obtain⟨b,c,d,rfl⟩:=len3 (Nat.succ.inj h)
  exact⟨a,b,c,d,rfl⟩
end My
namespace L2
open PySem PySem.Spec PyProof.Rows
section
variable{X:Cx}
end
end L2
namespace Att
open PySem PySem.W PySem.Calls PyProof.Rows
end Att
namespace L2
open PySem PySem.Spec PyProof.Rows
end L2
namespace My
open PySem L2
end My
namespace L2
open PySem PySem.Spec PyProof.Rows
section
variable{X:Cx}
end
end L2
namespace My
open PySem L2
end My
namespace L2
open PySem PySem.Spec PyProof.Rows
section
variable{prog:Program}{w:World}{A:Around}{E:Value->Shared->Prop}{s:Shared}{it a:Addr}{items:Array Value}
end
section
variable{X:Cx}{p p2 pos pos2:Pos}{e:Expr}{t:TA}
end
section
variable{X:Cx}
def rCatQ:R2:=fun x y H Q=>∃ a b xs ys,x=.ref a/\y=.ref b/\H a=some (.tup xs)/\H b=some (.tup ys)/\xs.length+ys.length<=sizeLine/\∀(r:Addr) (H':Hp),Same H H'->H' r=some (.tup (xs++ys))->Q (.ref r) H'
theorem op_catQ(K:PySem.W.Frag)(hk:X.K=K:=by rfl):OpR X (binaryOp .Add) rCatQ:=by
 intro pins s σ H x y v u Q I rx ry h
 obtain⟨a,b,xs,ys,e1,e2,ha,hb,hz,q⟩:=h
 refine op_catU K hk pins s σ H x y v u Q I rx ry ⟨a,b,xs,ys,e1,e2,SqT.of ha,SqT.of hb,hz,fun hx=>?_,fun _ hy=>?_,fun _ _ p hp=>q p _ (My.same_at hp) ζ1⟩
 ·subst hx
  exact q b H (Same.refl H) hb
 ·subst hy
  exact q a H (Same.refl H) (by rw[List.append_nil];exact ha)
end
end L2
namespace My
open PySem L2
theorem Conn.lift{es fs:List (Nat × Nat)}(h:∀ e∈es,Conn fs e.1 e.2){i j:Nat}(c:Conn es i j):Conn fs i j:=by
 induction c with
 | refl i=>exact .refl i
 | edge e=>exact h _ e
 | symm _ ih=>exact ih.symm
 | trans _ _ ih1 ih2=>exact ih1.trans ih2
end My
namespace L2
open PySem PySem.Spec PyProof.Rows
section
variable{X:Cx}
end
end L2
namespace My
open PySem L2
inductive Wk (n:Int) (ps:List (Int × Int)) (T0:List Int):List (Int × Int)->List Int->Prop
 | nil:Wk n ps T0 [] T0
 | step {ws:List (Int × Int)} {T T':List Int} {o z:Int}:Wk n ps T0 ws T->exg n ps T o z->T'.Perm (wo T o++[z])->T'.Pairwise (·<=·)->Wk n ps T0 (ws++[(o,z)]) T'
def Fr(n:Nat)(ps:List (Int × Int))(l:List Int):Bool:=decide (grw n ps l=l)
def frs(n:Nat)(ps:List (Int × Int))(k:Nat):List (List Int):=(cmb (ps.length:Int) k).filter (Fr n ps)
theorem sum_perm{f:Int->Int}{a b:List Int}(h:a.Perm b):(a.map f).sum=(b.map f).sum:=by
 induction h with
 | nil=>rfl
 | cons x _ ih=>rw[List.map_cons,List.map_cons,List.sum_cons,List.sum_cons,ih]
 | swap x y l=>rw[List.map_cons,List.map_cons,List.map_cons,List.map_cons,List.sum_cons,List.sum_cons,List.sum_cons,List.sum_cons];omega
 | trans _ _ i1 i2=>exact i1.trans i2
theorem srt_strict{a:List Int}(h:a.Pairwise (·<=·))(hn:a.Nodup):a.Pairwise (· < ·):=(h.and hn).imp fun h=>by have:=h.1;have:=h.2;omega
theorem asc_split{p r:List Int}{x:Int}(h:(p++x :: r).Pairwise (· < ·)):(∀ z∈p,z<x)/\∀ z∈x :: r,x<=z:=by
 have a:=List.pairwise_append.mp h
 refine⟨fun z hz=>a.2.2 z hz x List.mem_cons_self,fun z hz=>?_⟩
 rcases List.mem_cons.mp hz with h | h
 ·rw[h];exact Int.le_refl _
 ·exact Int.le_of_lt ((List.pairwise_cons.mp a.2.1).1 z h)
end My
namespace L2
open PySem PySem.Spec PyProof.Rows
section
variable{X:Cx}
end
end L2
namespace My
open PySem L2
end My
namespace L2
open PySem PySem.Spec PyProof.Rows
section
variable{X:Cx}
end
end L2
namespace My
open PySem L2
def TC(n:Int)(ps:List (Int × Int))(c:Nat):Prop:=∃ L:List (List Int),L.Nodup/\(∀ l,l∈L↔IsTree n ps l)/\L.length=c
theorem TC.uniq{n:Int}{ps:List (Int × Int)}{c d:Nat}(h1:TC n ps c)(h2:TC n ps d):c=d:=by
 obtain⟨L,a1,a2,rfl⟩:=h1
 obtain⟨M,b1,b2,rfl⟩:=h2
 exact((List.perm_ext_iff_of_nodup a1 b1).mpr fun l=>by rw[a2,b2]).length_eq
theorem set_snoc{m:Nat}{T:List Int}:IsSet (m+1) (T++[(m:Int)])↔IsSet m T:=by
 constructor
 ·intro h
  have a:=isSet_iff.mp h
  have b:=List.pairwise_append.mp a.2
  refine isSet_iff.mpr ⟨fun z hz=>?_,b.1⟩
  have c:=a.1 z (List.mem_append_left _ hz)
  have d:=b.2.2 z hz m (List.mem_singleton.mpr rfl)
  omega
 ·exact fun h=>h.snoc
theorem set_last{m:Nat}{T:List Int}(h:IsSet (m+1) T):IsSet m T\/∃ T',T=T'++[(m:Int)]/\IsSet m T':=by
 have a:=isSet_iff.mp h
 by_cases hm:(m:Int)∈T
 ·obtain⟨p,r,e⟩:=List.append_of_mem hm
  have b:=asc_split (e ▸ a.2)
  cases r with
  | nil=>exact .inr ⟨p,e,set_snoc.mp (e ▸ h)⟩
  | cons y r =>
   have h1:=a.1 y (by rw[e];simp)
   have h2:=(List.pairwise_cons.mp (List.pairwise_append.mp (e ▸ a.2)).2.1).1 y List.mem_cons_self
   omega
 ·refine .inl (isSet_iff.mpr ⟨fun z hz=>?_,a.2⟩)
  have h1:=a.1 z hz
  have h2:z≠(m:Int):=fun e=>hm (e ▸ hz)
  omega
theorem ends_up{qs:List (Int × Int)}{p:Int × Int}{T:List Int}(h:IsSet qs.length T):endsOf (qs++[p]) T=endsOf qs T:=by
 unfold endsOf
 refine List.map_congr_left fun z hz=>?_
 have a:=h.all z hz
 rw[List.getD_eq_getElem?_getD,List.getD_eq_getElem?_getD,List.getElem?_append_left (by omega)]
theorem conn_flip{es:List (Nat × Nat)}{a b i j:Nat}(c:Conn (es++[(a,b)]) i j):Conn (es++[(b,a)]) i j:=c.lift fun e he=>by
 rcases List.mem_append.mp he with q | q
 ·exact .edge (List.mem_append_left _ q)
 ·rw[List.mem_singleton.mp q]
  exact .symm (.edge (by simp))
end My
namespace L2
open PySem PySem.Spec PyProof.Rows
section
variable{X:Cx}
end
end L2
namespace My
open PySem L2
theorem prod_lt{a b M N:Int}(a0:0<=a)(aM:a<M)(b0:0<=b)(bN:b<N):0<=a * b/\a * b<M * N:=⟨Int.mul_nonneg a0 b0,Int.lt_of_le_of_lt (Int.mul_le_mul_of_nonneg_left (Int.le_of_lt bN) a0) (Int.mul_lt_mul_of_pos_right aM (by omega))⟩
theorem PairsV.set{H:Hp}{xs:List V}{ps:List (Int × Int)}{v:V}{p:Int × Int}(h:PairsV H xs ps)(i:Nat)(q:PairV H v p):PairsV H (xs.set i v) (ps.set i p):=by
 refine⟨by rw[List.length_set,List.length_set];exact h.1,fun j x e=>?_⟩
 have hl:=h.1
 by_cases c:i=j
 ·subst c
  rw[List.getElem?_set]at e
  rw[if_pos rfl]at e
  by_cases hlt:i<ps.length
  ·rw[if_pos hlt]at e
   obtain rfl:=Option.some.inj e
   exact⟨v,by rw[List.getElem?_set,if_pos rfl,if_pos (by omega)],q⟩
  ·rw[if_neg hlt]at e
   cases e
 ·rw[List.getElem?_set,if_neg c]at e
  obtain⟨w,e1,r⟩:=h.2 j x e
  exact⟨w,by rw[List.getElem?_set,if_neg c];exact e1,r⟩
end My
namespace L2
open PySem PySem.Spec PyProof.Rows
def Itz(K:PySem.W.Frag)(a b:Addr):It :=
 ⟨fun i H=>∃ xs ys x y,SqL K H a xs/\SqL K H b ys/\xs[i]?=some x/\ys[i]?=some y,fun i H v H'=>∃ T x y,H T=none/\v=.ref T/\H'=upd H T (.tup [x,y])/\(∀ xs,SqL K H a xs->xs[i]?=some x)/\∀ ys,SqL K H b ys->ys[i]?=some y,
  fun i H=>∃ xs ys,SqL K H a xs/\SqL K H b ys/\(xs.length<=i\/ys.length<=i)⟩
theorem turn_zip{P:Program}{w:World}{K:PySem.W.Frag}{elts:List Expr}{x1:Nat}{pos:Pos}(a b z TI TO i1 i2:Addr)(D:ZipApart z TI TO i1 i2 a b) :
  Turn P w K (.Tuple elts x1 pos) (Itz K a b) [z,TI,TO,i1,i2] z (fun i h=>IsZip h z TI TO .none/\IsPair h TI (.ref i1) (.ref i2)/\(∃ c d,IsPair h TO c d)/\h.IsListIter i1 a i/\h.IsListIter i2 b i) where
 mem:=by simp
 obj:=fun i h st c hc=>by
  obtain⟨hz,hTI,⟨u,v,hTO⟩,⟨o1,e1,_,d1⟩,⟨o2,e2,_,d2⟩⟩:=st
  have hc':c=z\/c=TI\/c=TO\/c=i1\/c=i2:=by simpa using hc
  rcases hc' with rfl | rfl | rfl | rfl | rfl
  ·exact⟨_,hz,fun v q=>by
    have q':Data.fields _=Data.cell v:=q
    cases q'⟩
  ·exact⟨_,hTI,fun v q=>by
    have q':Data.seq _ _=Data.cell v:=q
    cases q'⟩
  ·exact⟨_,hTO,fun v q=>by
    have q':Data.seq _ _=Data.cell v:=q
    cases q'⟩
  ·exact⟨o1,e1,fun v q=>by rw[d1]at q;cases q⟩
  ·exact⟨o2,e2,fun v q=>by rw[d2]at q;cases q⟩
 keep:=fun i h h' st k=>by
  obtain⟨hz,hTI,⟨u,v,hTO⟩,h1,h2⟩:=st
  exact⟨k z (by simp) _ hz,k TI (by simp) _ hTI,⟨u,v,k TO (by simp) _ hTO⟩,h1.at fun o e=>k i1 (by simp) o e,h2.at fun o e=>k i2 (by simp) o e⟩
 item:=by
  intro X hP hw hK hc i pins s σ H E I hf st hg
  subst hP hw hK
  obtain⟨xs,ys,x,y,hq,hq2,hx,hy⟩:=hg
  obtain⟨hz,hTI,⟨u0,v0,hTO⟩,h1,h2⟩:=st
  obtain⟨its,rv,p,_⟩:=I.list hq
  obtain⟨u,hu,ru⟩:=rv.get hx
  obtain⟨its2,rv2,p2,_⟩:=I.list hq2
  obtain⟨v,hv,rv'⟩:=rv2.get hy
  have fz:=hf z (by simp)
  have fTO:=hf TO (by simp)
  have fi1:=hf i1 (by simp)
  have fi2:=hf i2 (by simp)
  have hT0:H s.heap.objs.size=none:=I.hok.fresh (Nat.le_refl _)
  refine wpAny_pyNext_zip_item D hz hTI hTO h1 h2 p.isList p2.isList (x:=u) (y:=v) (by simpa using hu) (by simpa using hv) fun h' a1 a2 a3 a4 a5 hsz hk=>?_
  have ltT:∀ b ob,s.heap.get? b=some ob->b≠s.heap.objs.size:=fun b ob z=>Nat.ne_of_lt (Heap.lt_size z)
  have ltH:∀ b ob,H b=some ob->b≠s.heap.objs.size:=fun b ob z=>Nat.ne_of_lt (I.hok.lt z)
  have nof:∀ c ob,H c=some ob->c≠z/\c≠TO/\c≠i1/\c≠i2:=fun c ob q=>⟨fun e=>(by rw[e,fz.1]at q;cases q),fun e=>(by rw[e,fTO.1]at q;cases q),fun e=>(by rw[e,fi1.1]at q;cases q),fun e=>(by rw[e,fi2.1]at q;cases q)⟩
  have hkc:∀ c o,c∉[z,TO,i1,i2]->s.heap.get? c=some o->h'.get? c=some o:=fun c o hcx q=>hk c o (fun e=>hcx (by simp[e])) (fun e=>hcx (by simp[e])) (fun e=>hcx (by simp[e])) (fun e=>hcx (by simp[e])) q
  have I1:Inv X pins σ (upd H s.heap.objs.size (.tup [x,y])) { s with heap:=h' }:=by
   refine I.step (g':=s.gens) (d':=s.drawn) (t':=s.toks) (ch:=[z,TO,i1,i2]) (fun c hb=>?_) (fun c o _ _ hcx q _=>hkc c o hcx q) (fun c o _ _ hcx q _=>⟨o.slots,hkc c o hcx q⟩)
    (fun c o _ q n=>by rw[upd_ne (ltT c o q)];exact n) (fun c o hcx q=>⟨o,hkc c o hcx q⟩) (fun c ys q=>by rw[upd_ne (ltH c _ q)];exact q) (fun c o v q=>by rw[upd_ne (ltH c _ q)];exact q)
    (fun c ps q=>⟨#[],by rw[upd_ne (ltH c _ q),q];simp⟩) (fun m hm=>?_) (fun c v' q=>?_) I.bare
   ·have hc':c=z\/c=TO\/c=i1\/c=i2:=by simpa using hb
    rcases hc' with rfl | rfl | rfl | rfl
    ·exact⟨fz.2.2.2.1,fz.2.1,fz.2.2.2.2.1,fz.2.2.2.2.2⟩
    ·exact⟨fTO.2.2.2.1,fTO.2.1,fTO.2.2.2.2.1,fTO.2.2.2.2.2⟩
    ·exact⟨fi1.2.2.2.1,fi1.2.1,fi1.2.2.2.2.1,fi1.2.2.2.2.2⟩
    ·exact⟨fi2.2.2.2.1,fi2.2.1,fi2.2.2.2.2.1,fi2.2.2.2.2.2⟩
   ·obtain⟨o,es,ep,ho',r⟩:=hm
    exact⟨o,es,ep,hk _ o (Ne.symm fz.2.1) (Ne.symm fTO.2.1) (Ne.symm fi1.2.1) (Ne.symm fi2.2.1) ho',r⟩
   ·by_cases hb:c=s.heap.objs.size
    ·subst hb
     rw[ζ1]at q
     cases q
     exact⟨by show 2<=sizeLine;decide,[u,v],.cons ru (.cons rv' .nil),⟨_,a5,rfl,_,rfl⟩⟩
    ·rw[upd_ne hb]at q
     refine(I.hok c v' q).stay (fun e w' hc' q'=>?_) (fun e q=>by rw[upd_ne (ltH e _ q)];exact q) fun e ys q=>by rw[upd_ne (ltH e _ q)];exact q
     rcases hc' with rfl | hc'
     ·have:=nof e _ q
      exact hk e w' this.1 this.2.1 this.2.2.1 this.2.2.2 q'
     ·have:=nof e _ hc'
      exact hk e w' this.1 this.2.1 this.2.2.1 this.2.2.2 q'
  refine⟨_,rfl,wpAny_letOwnedTupleGo_zip a1 fun h2 hz2 hs2=>?_⟩
  have fT:z≠s.heap.objs.size:=ltT z _ hz
  have I2:Inv X pins σ (upd H s.heap.objs.size (.tup [x,y])) { s with heap:=h2 }:=Inv.turned (s:={ s with heap:=h' }) (h':=h2) (t':=s.toks) (it:=z) I1 (fun b o hb q=>hs2.extBut b o hb q) (by rw[upd_ne fT];exact fz.1) fz.2.1 fz.2.2.2.1 fz.2.2.2.2.1 fz.2.2.2.2.2
  refine⟨.ref s.heap.objs.size,_,I2,rfl,⟨_,x,y,hT0,rfl,rfl,fun ys hy'=>by rw[I.list_inj hy' hq];exact hx,fun ys hy'=>by rw[I.list_inj hy' hq2];exact hy⟩,
   ⟨hz2,hs2.extBut _ _ D.TIz (hkc _ _ (by have:=D.TIz;have:=D.TITO;have:=D.TIi1;have:=D.TIi2;simp;exact⟨D.TIz,D.TITO,D.TIi1,D.TIi2⟩) hTI),⟨u,v,hs2.extBut _ _ D.TOz a2⟩,a3.at fun o q=>hs2.extBut i1 o D.i1z q,a4.at fun o q=>hs2.extBut i2 o D.i2z q⟩,fun c hc=>?_⟩
  have hc':c=z\/c=TI\/c=TO\/c=i1\/c=i2:=by simpa using hc
  have hn:=(hf c hc).1
  rcases hc' with rfl | rfl | rfl | rfl | rfl
  ·rw[upd_ne fT];exact hn
  ·rw[upd_ne (ltT _ _ hTI)];exact hn
  ·rw[upd_ne (ltT _ _ hTO)];exact hn
  ·obtain⟨o,eo,_⟩:=h1
   rw[upd_ne (ltT _ o eo)];exact hn
  ·obtain⟨o,eo,_⟩:=h2
   rw[upd_ne (ltT _ o eo)];exact hn
 done:=by
  intro X hP hw hK hc i pins s σ H E I hf st hg
  subst hP hw hK
  obtain⟨xs,ys,hq,hq2,hend⟩:=hg
  obtain⟨hz,hTI,⟨u0,v0,hTO⟩,h1,h2⟩:=st
  obtain⟨its,rv,p,_⟩:=I.list hq
  obtain⟨its2,rv2,p2,_⟩:=I.list hq2
  have l1:=rv.length
  have l2:=rv2.length
  have fz:=hf z (by simp)
  have fTO:=hf TO (by simp)
  have fi1:=hf i1 (by simp)
  have fi2:=hf i2 (by simp)
  refine wpAny_pyNext_zip_end (I.ok.hd hc) D hz hTI hTO h1 h2 p.isList p2.isList (by
   rcases hend with e | e
   ·exact .inl (by simp;omega)
   ·exact .inr (by simp;omega)) fun h' hk=>⟨rfl,?_⟩
  have hkc:∀ c o,c∉[z,TO,i1,i2]->s.heap.get? c=some o->h'.get? c=some o:=fun c o hcx q=>hk c o (fun e=>hcx (by simp[e])) (fun e=>hcx (by simp[e])) (fun e=>hcx (by simp[e])) (fun e=>hcx (by simp[e])) q
  have nof:∀ c ob,H c=some ob->c≠z/\c≠TO/\c≠i1/\c≠i2:=fun c ob q=>⟨fun e=>(by rw[e,fz.1]at q;cases q),fun e=>(by rw[e,fTO.1]at q;cases q),fun e=>(by rw[e,fi1.1]at q;cases q),fun e=>(by rw[e,fi2.1]at q;cases q)⟩
  refine I.step (g':=s.gens) (d':=s.drawn) (t':=s.toks) (ch:=[z,TO,i1,i2]) (fun c hb=>?_) (fun c o _ _ hcx q _=>hkc c o hcx q) (fun c o _ _ hcx q _=>⟨o.slots,hkc c o hcx q⟩)
   (fun c o _ q n=>n) (fun c o hcx q=>⟨o,hkc c o hcx q⟩) (fun c ys q=>q) (fun c o v q=>q)
   (fun c ps q=>⟨#[],by rw[q];simp⟩) (fun m hm=>?_) (fun c v' q=>?_) I.bare
  ·have hc':c=z\/c=TO\/c=i1\/c=i2:=by simpa using hb
   rcases hc' with rfl | rfl | rfl | rfl
   ·exact⟨fz.2.2.2.1,fz.2.1,fz.2.2.2.2.1,fz.2.2.2.2.2⟩
   ·exact⟨fTO.2.2.2.1,fTO.2.1,fTO.2.2.2.2.1,fTO.2.2.2.2.2⟩
   ·exact⟨fi1.2.2.2.1,fi1.2.1,fi1.2.2.2.2.1,fi1.2.2.2.2.2⟩
   ·exact⟨fi2.2.2.2.1,fi2.2.1,fi2.2.2.2.2.1,fi2.2.2.2.2.2⟩
  ·obtain⟨o,es,ep,ho',r⟩:=hm
   exact⟨o,es,ep,hk _ o (Ne.symm fz.2.1) (Ne.symm fTO.2.1) (Ne.symm fi1.2.1) (Ne.symm fi2.2.1) ho',r⟩
  ·refine(I.hok c v' q).stay (fun e w' hc' q'=>?_) (fun e q=>q) fun e ys q=>q
   rcases hc' with rfl | hc'
   ·have:=nof e _ q
    exact hk e w' this.1 this.2.1 this.2.2.1 this.2.2.2 q'
   ·have:=nof e _ hc'
    exact hk e w' this.1 this.2.1 this.2.2.1 this.2.2.2 q'
 self:=fun _ _ _ _ _ st h=>wpAny_pyIter_zip st.1 h
def iZip(K:PySem.W.Frag)(ta:TA):TI:=fun σ H R=>ta σ H fun vs H1=>∃ a b,vs=[.ref a,.ref b]/\(∃ xs ys,SqL K H1 a xs/\SqL K H1 b ys)/\R (Itz K a b) H1
section
variable{X:Cx}
theorem pi_zip (K:PySem.W.Frag) {elts:List Expr} {x1:Nat} {tpos:Pos} {e f:Expr} {ta:TA} {p pos:Pos} (hg:Gl X "zip") (hm:X.mg "zip"=none) (ha:PA X [e,f] ta) (hs:starEach [e,f] X.env=(false,eval e X.env) :: starEach [f] X.env:=by rfl) (hpl:(backTo pos (starEach [f] X.env)).any (·.1)=false:=by rfl) (hk:X.K=K:=by rfl) :
  PI X (.Tuple elts x1 tpos) (.Call (.Name "zip" p) [e,f] [] pos) (iZip K ta):=by
 subst hk
 intro pins s σ H R I h
 refine Call_ (ld_blt I hg hm Boot.«zip» (PyProof.Rows.callWith_type1 (thn (ha pos pins s σ H _ I h) fun us s1 ⟨vs,H1,I1,r1,q1⟩=>?_) hs hpl))
 obtain⟨a,b,ev,⟨xs,ys,hq,hq2⟩,q⟩:=q1
 subst ev
 obtain⟨u,u',rfl,ru,ru'⟩:=vals2 r1
 obtain rfl:u=Value.ref a:=ru
 obtain rfl:u'=Value.ref b:=ru'
 obtain⟨its,rv,pl,_⟩:=I1.list hq
 obtain⟨its2,rv2,pl2,_⟩:=I1.list hq2
 have lt1:a<s1.heap.objs.size:=let ⟨_,_,e,_⟩:=pl;Heap.lt_size e
 have lt2:b<s1.heap.objs.size:=let ⟨_,_,e,_⟩:=pl2;Heap.lt_size e
 have D:ZipApart (s1.heap.objs.size+4) (s1.heap.objs.size+2) (s1.heap.objs.size+3) s1.heap.objs.size (s1.heap.objs.size+1) a b:=by
  have key:∀ n x y:Nat,x<n->y<n->ZipApart (n+4) (n+2) (n+3) n (n+1) x y:=fun n x y h1 h2=>by constructor <;> (intro q;have q':(_:Nat)=_:=q;omega)
  exact key _ _ _ lt1 lt2
 refine call_zip_2 pl.isList pl2.isList fun h' hz hTI hTO hi1 hi2 hsz hk=>?_
 refine wpAny_pyIter_zip (s:={ s1 with heap:=h' }) hz ?_
 refine⟨s1.heap.objs.size+4,[s1.heap.objs.size+4,s1.heap.objs.size+2,s1.heap.objs.size+3,s1.heap.objs.size,s1.heap.objs.size+1],_,_,H1,rfl,I1.kept (t':=s1.toks) hk,turn_zip a b _ _ _ _ _ D,⟨hz,hTI,⟨_,_,hTO⟩,hi1,hi2⟩,fun c hc=>?_,q⟩
 have hle:s1.heap.objs.size<=c:=by
  have hc':c=s1.heap.objs.size+4\/c=s1.heap.objs.size+2\/c=s1.heap.objs.size+3\/c=s1.heap.objs.size\/c=s1.heap.objs.size+1:=by simpa using hc
  rcases hc' with e | e | e | e | e <;> rw[e] <;> first | exact Nat.le_refl _ | exact Nat.le_add_right _ _
 exact I1.fpOk hle (I1.hok.fresh hle)
end
end L2
namespace My
open PySem L2
section
variable{K:PySem.W.Frag}{a b:Addr}{xs ys:List V}{g:TG}{tt:TT}{te:TE}{o:Nat}{fr:List Nat}{σ:St}{H:Hp}{Q:VK}
theorem lc_zip(Pv:Nat->List V->Hp->Prop)(h0:Pv 0 [] H)(hxy:xs.length=ys.length)(hz:xs.length<sizeLine)(hl:∀ i zs H,i<=xs.length->Pv i zs H->SqL K H a xs/\SqL K H b ys/\zs.length<=i)
  (hs:∀(i:Nat) x y zs H (p:Addr),H p=none->xs[i]?=some x->ys[i]?=some y->Pv i zs H->LcTurn Pv g tt te o fr σ i (.ref p) zs (upd H p (.tup [x,y]))) (hd:∀ zs H,Pv xs.length zs H->∀ p,H p=none->Q (.ref p) (upd H p (.lst zs))):LcR (Itz K a b) g tt te o fr σ H Q:=by
 refine⟨fun i m zs H=>m=xs.length - i/\i<=xs.length/\Pv i zs H,⟨xs.length,by simp,Nat.zero_le _,h0⟩,?_⟩
 rintro i m zs H ⟨rfl,hi,p⟩
 obtain⟨q,q2,hy⟩:=hl i zs H hi p
 by_cases hlt:i<xs.length
 ·refine .inr ⟨⟨xs,ys,xs[i],ys[i]'(by omega),q,q2,by simp[hlt],List.getElem?_eq_getElem (by omega)⟩,by omega,fun x H' ⟨T,u,v,hT,ex,eH,hu,hv⟩=>?_⟩
  subst ex eH
  exact hs i u v zs H T hT (hu xs q) (hv ys q2) p (fun j zs H=>∃ m',m'<xs.length - i/\m'=xs.length - j/\j<=xs.length/\Pv j zs H) fun zs H p'=>⟨xs.length - (i+1),by omega,rfl,hlt,p'⟩
 ·have e:i=xs.length:=by omega
  subst e
  exact .inl ⟨⟨xs,ys,q,q2,.inl (Nat.le_refl _)⟩,by omega,hd zs H p⟩
end
end My
namespace My
abbrev Mx:=Nat->Nat->Int
def sm:Nat->(Nat->Int)->Int
 | 0,_=>0
 | n+1,f=>sm n f+f n
theorem sm_congr{f g:Nat->Int}:∀ {n:Nat},(∀ i,i<n->f i=g i)->sm n f=sm n g
 | 0,_=>rfl
 | n+1,h=>by
  show sm n f+f n=sm n g+g n
  rw[sm_congr fun i hi=>h i (by omega),h n (by omega)]
theorem sm_add{f g:Nat->Int}:∀ {n:Nat},sm n (fun i=>f i+g i)=sm n f+sm n g
 | 0=>rfl
 | n+1=>by
  show sm n (fun i=>f i+g i)+(f n+g n)=sm n f+f n+(sm n g+g n)
  rw[sm_add]
  omega
theorem sm_mul{c:Int}{f:Nat->Int}:∀ {n:Nat},sm n (fun i=>c * f i)=c * sm n f
 | 0=>(Int.mul_zero c).symm
 | n+1=>by
  show sm n (fun i=>c * f i)+c * f n=c * (sm n f+f n)
  rw[sm_mul,Int.mul_add]
theorem sm_zero:∀ {n:Nat},sm n (fun _=>0)=0
 | 0=>rfl
 | n+1=>by
  show sm n (fun _=>0)+0=0
  rw[sm_zero]
  rfl
theorem sm_none{f:Nat->Int}{n:Nat}(h:∀ i,i<n->f i=0):sm n f=0:=by rw[sm_congr h];exact sm_zero
theorem sm_first{f:Nat->Int}:∀ {n:Nat},sm (n+1) f=f 0+sm n (fun i=>f (i+1))
 | 0=>by show 0+f 0=f 0+0;omega
 | n+1=>by
  show sm (n+1) f+f (n+1)=f 0+(sm n (fun i=>f (i+1))+f (n+1))
  rw[sm_first]
  omega
theorem sm_swap{f:Nat->Nat->Int}{m:Nat}:∀ {n:Nat},sm n (fun i=>sm m (f i))=sm m (fun j=>sm n (fun i=>f i j))
 | 0=>sm_zero.symm
 | n+1=>by
  show sm n (fun i=>sm m (f i))+sm m (f n)=sm m (fun j=>sm n (fun i=>f i j)+f n j)
  rw[sm_swap,sm_add]
def sk(j k:Nat):Nat:=if k<j then k else k+1
def mn(A:Mx)(j:Nat):Mx:=fun i k=>A (i+1) (sk j k)
def sg(j:Nat):Int:=if j % 2=0 then 1 else -1
theorem sg_succ(j:Nat):sg (j+1)=- sg j:=by
 unfold sg
 by_cases h:j % 2=0
 ·rw[if_pos h,if_neg (by omega)]
 ·rw[if_neg h,if_pos (by omega)];rfl
def det:Nat->Mx->Int
 | 0,_=>1
 | n+1,A=>sm (n+1) fun j=>sg j * A 0 j * det n (mn A j)
theorem sk_lt{j k n:Nat}(h:k<n):sk j k<n+1:=by unfold sk;split <;> omega
theorem det_congr:∀ {n:Nat} {A B:Mx},(∀ i j,i<n->j<n->A i j=B i j)->det n A=det n B
 | 0,_,_,_=>rfl
 | n+1,A,B,h=>sm_congr fun j hj=>by
  rw[h 0 j (by omega) hj,det_congr (A:=mn A j) (B:=mn B j) fun i k hi hk=>h (i+1) (sk j k) (by omega) (sk_lt hk)]
theorem det_lin:∀ {n:Nat} {A B C:Mx} {c:Int} {i:Nat},i<n->(∀ r j,r<n->j<n->r≠i->A r j=B r j/\A r j=C r j)->(∀ j,j<n->A i j=c * B i j+C i j)->det n A=c * det n B+det n C
 | 0,_,_,_,_,_,hi,_,_=>absurd hi (Nat.not_lt_zero _)
 | n+1,A,B,C,c,i,hi,h1,h2=>by
  show sm (n+1) (fun j=>sg j * A 0 j * det n (mn A j))=c * sm (n+1) (fun j=>sg j * B 0 j * det n (mn B j))+sm (n+1) (fun j=>sg j * C 0 j * det n (mn C j))
  rw[<- sm_mul,<- sm_add]
  refine sm_congr fun j hj=>?_
  cases i with
  | zero =>
   have e1:det n (mn B j)=det n (mn A j):=det_congr fun r k hr hk=>(h1 (r+1) (sk j k) (by omega) (sk_lt hk) (by omega)).1.symm
   have e2:det n (mn C j)=det n (mn A j):=det_congr fun r k hr hk=>(h1 (r+1) (sk j k) (by omega) (sk_lt hk) (by omega)).2.symm
   rw[e1,e2,h2 j hj]
   generalize det n (mn A j)=d
   generalize sg j=s
   rw[Int.mul_add,Int.add_mul,<- Int.mul_assoc s c,Int.mul_comm s c,Int.mul_assoc c s,Int.mul_assoc c]
  | succ i =>
   have e:=det_lin (n:=n) (A:=mn A j) (B:=mn B j) (C:=mn C j) (c:=c) (i:=i) (by omega) (fun r k hr hk hne=>h1 (r+1) (sk j k) (by omega) (sk_lt hk) (by omega)) (fun k hk=>h2 (sk j k) (sk_lt hk))
   have e0:=h1 0 j (by omega) hj (by omega)
   rw[e,<- e0.1,<- e0.2]
   generalize det n (mn B j)=d
   generalize det n (mn C j)=d'
   generalize sg j * A 0 j=s
   rw[Int.mul_add,<- Int.mul_assoc,<- Int.mul_assoc,Int.mul_comm s c]
theorem mn_mn{A:Mx}{j k i l:Nat}(h:j<=k):mn (mn A j) k i l=mn (mn A (k+1)) j i l:=by
 show A (i+1+1) (sk j (sk k l))=A (i+1+1) (sk (k+1) (sk j l))
 refine congrArg _ ?_
 unfold sk
 by_cases h1:l<j
 ·rw[if_pos (show l<k by omega),if_pos h1,if_pos (show l<k+1 by omega)]
 ·rw[if_neg h1]
  by_cases h2:l<k
  ·rw[if_pos h2,if_neg h1,if_pos (show l+1<k+1 by omega)]
  ·rw[if_neg h2,if_neg (show ¬ l+1<j by omega),if_neg (show ¬ l+1<k+1 by omega)]
theorem det_next:∀ {n:Nat} {A:Mx} {i:Nat},i+1<n->(∀ j,j<n->A i j=A (i+1) j)->det n A=0
 | 0,_,_,hi,_=>absurd hi (Nat.not_lt_zero _)
 | n+1,A,i+1,hi,h=>sm_none fun j hj=>by
  rw[det_next (A:=mn A j) (i:=i) (by omega) fun k hk=>h (sk j k) (sk_lt hk),Int.mul_zero]
 | 1,_,0,hi,_=>absurd hi (by omega)
 | n+2,A,0,_,h=>by
  obtain⟨t,ht⟩:∃ t:Nat->Nat->Int,t=fun j k=>sg j * A 0 j * (sg k * A 1 (sk j k) * det n (mn (mn A j) k)):=⟨_,rfl⟩
  have e1:det (n+2) A=sm (n+2) fun j=>sm (n+1) (t j):=sm_congr fun j hj=>by
   rw[ht,sm_mul]
   rfl
  have e2:∀ j k,j<=k->k<n+1->t (k+1) j=- t j k:=fun j k hjk hk=>by
   rw[ht]
   show sg (k+1) * A 0 (k+1) * (sg j * A 1 (sk (k+1) j) * det n (mn (mn A (k+1)) j))=- (sg j * A 0 j * (sg k * A 1 (sk j k) * det n (mn (mn A j) k)))
   have f1:sk (k+1) j=j:=by unfold sk;rw[if_pos (by omega)]
   have f2:sk j k=k+1:=by unfold sk;rw[if_neg (by omega)]
   have f3:det n (mn (mn A (k+1)) j)=det n (mn (mn A j) k):=det_congr fun i l _ _=>(mn_mn hjk).symm
   rw[f1,f2,f3,sg_succ,<- h j (by omega),<- h (k+1) (by omega)]
   generalize det n (mn (mn A j) k)=d
   generalize A 0 j=x
   generalize A 0 (k+1)=y
   generalize sg j=s
   generalize sg k=u
   simp only [Int.neg_mul,Int.neg_inj]
   simp only [Int.mul_comm,Int.mul_left_comm,Int.mul_assoc]
  have e3:sm (n+2) (fun j=>sm (n+1) (t j))=sm (n+2) (fun j=>sm (n+1) fun k=>if k<j then t j k else 0)+sm (n+2) (fun j=>sm (n+1) fun k=>if k<j then 0 else t j k):=by
   rw[<- sm_add]
   refine sm_congr fun j _=>?_
   rw[<- sm_add]
   refine sm_congr fun k _=>?_
   split <;> omega
  have e4:sm (n+2) (fun j=>sm (n+1) fun k=>if k<j then t j k else 0)=sm (n+1) (fun k=>sm (n+1) fun j=>if k<=j then t (j+1) k else 0):=by
   rw[sm_swap]
   refine sm_congr fun k _=>?_
   rw[sm_first,if_neg (by omega),Int.zero_add]
   refine sm_congr fun j _=>?_
   by_cases c:k<=j
   ·rw[if_pos c,if_pos (by omega)]
   ·rw[if_neg c,if_neg (by omega)]
  have e5:sm (n+2) (fun j=>sm (n+1) fun k=>if k<j then 0 else t j k)=sm (n+1) (fun j=>sm (n+1) fun k=>if j<=k then t j k else 0):=by
   show sm (n+1) (fun j=>sm (n+1) fun k=>if k<j then 0 else t j k)+sm (n+1) (fun k=>if k<n+1 then 0 else t (n+1) k)=_
   rw[sm_none (f:=fun k=>if k<n+1 then 0 else t (n+1) k) fun k hk=>if_pos hk,Int.add_zero]
   refine sm_congr fun j _=>sm_congr fun k _=>?_
   by_cases c:j<=k
   ·rw[if_pos c,if_neg (by omega)]
   ·rw[if_neg c,if_pos (by omega)]
  rw[e1,e3,e4,e5,<- sm_add]
  refine sm_none fun j hj=>?_
  rw[<- sm_add]
  refine sm_none fun k hk=>?_
  by_cases c:j<=k
  ·rw[if_pos c,if_pos c,e2 j k c hk]
   omega
  ·rw[if_neg c,if_neg c]
   rfl
def put2(A:Mx)(i:Nat)(x y:Nat->Int):Mx:=fun r=>if r=i then x else if r=i+1 then y else A r
theorem det_put2{n:Nat}{A:Mx}{i:Nat}{x x' y:Nat->Int}(hi:i+1<n):det n (put2 A i (fun j=>x j+x' j) y)=det n (put2 A i x y)+det n (put2 A i x' y):=by
 have:=det_lin (n:=n) (A:=put2 A i (fun j=>x j+x' j) y) (B:=put2 A i x y) (C:=put2 A i x' y) (c:=1) (i:=i) (by omega) (fun r j _ _ hne=>by unfold put2;rw[if_neg hne,if_neg hne,if_neg hne];exact⟨rfl,rfl⟩) (fun j _=>by unfold put2;rw[if_pos rfl,if_pos rfl,if_pos rfl,Int.one_mul])
 rw[this,Int.one_mul]
theorem det_put2'{n:Nat}{A:Mx}{i:Nat}{x y y':Nat->Int}(hi:i+1<n):det n (put2 A i x (fun j=>y j+y' j))=det n (put2 A i x y)+det n (put2 A i x y'):=by
 have ne:¬ i+1=i:=by omega
 have:=det_lin (n:=n) (A:=put2 A i x (fun j=>y j+y' j)) (B:=put2 A i x y) (C:=put2 A i x y') (c:=1) (i:=i+1) (by omega) (fun r j _ _ hne=>by unfold put2;rw[if_neg hne,if_neg hne,if_neg hne];exact⟨rfl,rfl⟩) (fun j _=>by unfold put2;rw[if_neg ne,if_neg ne,if_neg ne,if_pos rfl,if_pos rfl,if_pos rfl,Int.one_mul])
 rw[this,Int.one_mul]
theorem det_same{n:Nat}{A:Mx}{i:Nat}{x:Nat->Int}(hi:i+1<n):det n (put2 A i x x)=0:=det_next hi fun j _=>by
 unfold put2
 rw[if_pos rfl,if_neg (by omega),if_pos rfl]
theorem det_turn{n:Nat}{A:Mx}{i:Nat}{x y:Nat->Int}(hi:i+1<n):det n (put2 A i y x)=- det n (put2 A i x y):=by
 have h:=det_same (A:=A) (x:=fun j=>x j+y j) hi
 rw[det_put2 hi,det_put2' hi,det_put2' hi,det_same hi,det_same hi]at h
 omega
theorem put2_own{A:Mx}{i:Nat}:put2 A i (A i) (A (i+1))=A:=by
 funext r
 unfold put2
 by_cases h:r=i
 ·rw[if_pos h,h]
 ·rw[if_neg h]
  by_cases h2:r=i+1
  ·rw[if_pos h2,h2]
  ·rw[if_neg h2]
theorem det_swap{n:Nat}{A:Mx}{i:Nat}(hi:i+1<n):det n (put2 A i (A (i+1)) (A i))=- det n A:=by
 have:=det_turn (A:=A) (x:=A i) (y:=A (i+1)) hi
 rw[put2_own]at this
 exact this
theorem det_alike{n:Nat}{a:Nat}:∀ {d:Nat} {A:Mx},a+d+1<n->(∀ j,j<n->A a j=A (a+d+1) j)->det n A=0
 | 0,A,hn,h=>det_next hn h
 | d+1,A,hn,h=>by
  have e:=det_swap (n:=n) (A:=A) (i:=a+d+1) (by omega)
  have z:det n (put2 A (a+d+1) (A (a+d+1+1)) (A (a+d+1)))=0:=by
   refine det_alike (a:=a) (d:=d) (by omega) fun j hj=>?_
   unfold put2
   rw[if_neg (by omega),if_neg (by omega),if_pos rfl]
   exact h j hj
  omega
def rotN(k t i:Nat):Nat:=if i<k then i else if i=k then k+t else if i<=k+t then i - 1 else i
theorem rotN_zero(k i:Nat):rotN k 0 i=i:=by
 unfold rotN
 by_cases h:i<k
 ·rw[if_pos h]
 ·rw[if_neg h]
  by_cases h2:i=k
  ·rw[if_pos h2,h2];rfl
  ·rw[if_neg h2,if_neg (by omega)]
theorem det_rot{n k:Nat}:∀ {t:Nat} {A:Mx},k+t<n->det n (fun i=>A (rotN k t i))=sg t * det n A
 | 0,A,_=>by
  rw[show sg 0=1 from rfl,Int.one_mul]
  exact det_congr fun i j _ _=>by rw[rotN_zero]
 | t+1,A,h=>by
  have e:=det_rot (n:=n) (k:=k) (t:=t) (A:=put2 A (k+t) (A (k+t+1)) (A (k+t))) (by omega)
  rw[det_swap (by omega)]at e
  have f:det n (fun i=>A (rotN k (t+1) i))=det n (fun i=>put2 A (k+t) (A (k+t+1)) (A (k+t)) (rotN k t i)):=det_congr fun i j _ _=>by
   refine congrFun ?_ j
   have r1:rotN k (t+1) i=if i<k then i else if i=k then k+(t+1) else if i<=k+(t+1) then i - 1 else i:=rfl
   have r2:rotN k t i=if i<k then i else if i=k then k+t else if i<=k+t then i - 1 else i:=rfl
   unfold put2
   by_cases h1:i<k
   ·rw[if_pos h1]at r1 r2
    rw[r1,r2,if_neg (by omega),if_neg (by omega)]
   ·rw[if_neg h1]at r1 r2
    by_cases h2:i=k
    ·rw[if_pos h2]at r1 r2
     rw[r1,r2,if_pos rfl]
     rfl
    ·rw[if_neg h2]at r1 r2
     by_cases h3:i<=k+t
     ·rw[if_pos (by omega)]at r1
      rw[if_pos h3]at r2
      rw[r1,r2,if_neg (by omega),if_neg (by omega)]
     ·rw[if_neg h3]at r2
      by_cases h4:i=k+t+1
      ·rw[if_pos (by omega)]at r1
       rw[r1,r2,if_neg (by omega),if_pos h4]
       exact congrArg A (by omega)
      ·rw[if_neg (by omega)]at r1
       rw[r1,r2,if_neg (by omega),if_neg h4]
  rw[f,e,sg_succ,Int.mul_neg,Int.neg_mul]
theorem det_col0:∀ {n:Nat} {A:Mx},(∀ i,i<n+1->A i 0=0)->det (n+1) A=0
 | 0,A,h=>by
  show 0+sg 0 * A 0 0 * 1=0
  rw[h 0 (by omega),Int.mul_zero]
  rfl
 | n+1,A,h=>sm_none fun j hj=>by
  cases j with
  | zero=>rw[h 0 (by omega),Int.mul_zero,Int.zero_mul]
  | succ j =>
   rw[det_col0 (A:=mn A (j+1)) fun i hi=>?_,Int.mul_zero]
   show A (i+1) (sk (j+1) 0)=0
   rw[show sk (j+1) 0=0 from rfl]
   exact h (i+1) (by omega)
theorem det_first{n:Nat}{A:Mx}(h:∀ i,i<n->A (i+1) 0=0):det (n+1) A=A 0 0 * det n (fun i j=>A (i+1) (j+1)):=by
 show sm (n+1) (fun j=>sg j * A 0 j * det n (mn A j))=_
 rw[sm_first,sm_none fun j hj=>?_]
 ·rw[Int.add_zero,show sg 0=1 from rfl,Int.one_mul]
  refine congrArg (A 0 0 * ·) (det_congr fun i j _ _=>?_)
  rfl
 ·cases n with
  | zero=>exact absurd hj (Nat.not_lt_zero _)
  | succ n =>
   rw[det_col0 (A:=mn A (j+1)) fun i hi=>?_,Int.mul_zero]
   exact h i hi
theorem det_row0{n:Nat}{A:Mx}{i:Nat}(hi:i<n)(h:∀ j,j<n->A i j=0):det n A=0:=by
 have:=det_lin (A:=A) (B:=A) (C:=A) (c:=1) hi (fun r j _ _ _=>⟨rfl,rfl⟩) (fun j hj=>by rw[h j hj];rfl)
 omega
theorem det_scale{c:Int}:∀ {n:Nat} {A:Mx},det n (fun i j=>c * A i j)=c ^ n * det n A
 | 0,_=>by show(1:Int)=c ^ 0 * 1;rw[Int.pow_zero];rfl
 | n+1,A=>by
  show sm (n+1) (fun j=>sg j * (c * A 0 j) * det n (mn (fun i j=>c * A i j) j))=c ^ (n+1) * sm (n+1) (fun j=>sg j * A 0 j * det n (mn A j))
  rw[<- sm_mul]
  refine sm_congr fun j _=>?_
  have e:det n (mn (fun i j=>c * A i j) j)=c ^ n * det n (mn A j):=det_scale (A:=mn A j)
  rw[e,Int.pow_succ]
  generalize det n (mn A j)=d
  generalize c ^ n=p
  generalize sg j=s
  generalize A 0 j=x
  simp only [Int.mul_comm,Int.mul_left_comm,Int.mul_assoc]
def offN(R:Mx):Mx:=fun i j=>R 0 0 * R (i+1) (j+1) - R (i+1) 0 * R 0 (j+1)
def offB(R:Mx)(k:Nat):Mx:=fun r j=>if r=0 then R 0 j else if r<=k then R 0 0 * R r j - R r 0 * R 0 j else R r j
theorem det_offB{m:Nat}{R:Mx}:∀ {k:Nat},k<m+1->det (m+1) (offB R k)=R 0 0 ^ k * det (m+1) R
 | 0,_=>by
  rw[Int.pow_zero,Int.one_mul]
  refine det_congr fun i j _ _=>?_
  unfold offB
  by_cases h:i=0
  ·rw[if_pos h,h]
  ·rw[if_neg h,if_neg (by omega)]
 | k+1,hk=>by
  have ih:=det_offB (m:=m) (R:=R) (k:=k) (by omega)
  obtain⟨C,hC⟩:∃ C:Mx,C=fun r j=>if r=k+1 then - R (k+1) 0 * R 0 j else offB R k r j:=⟨_,rfl⟩
  obtain⟨B,hB⟩:∃ B:Mx,B=fun r j=>if r=k+1 then R 0 j else offB R k r j:=⟨_,rfl⟩
  obtain⟨Z,hZ⟩:∃ Z:Mx,Z=fun r j=>if r=k+1 then 0 else offB R k r j:=⟨_,rfl⟩
  have hBz:det (m+1) B=0:=det_alike (n:=m+1) (a:=0) (d:=k) (by omega) fun j hj=>by
   rw[hB]
   show(if 0=k+1 then _ else offB R k 0 j)=if 0+k+1=k+1 then _ else _
   rw[if_neg (by omega),if_pos (by omega)]
   rfl
  have hZz:det (m+1) Z=0:=det_row0 (i:=k+1) hk fun j hj=>by rw[hZ];exact if_pos rfl
  have hCz:det (m+1) C=0:=by
   have:=det_lin (A:=C) (B:=B) (C:=Z) (c:=- R (k+1) 0) hk (fun r j _ _ hne=>by
    rw[hC,hB,hZ]
    show(if r=k+1 then _ else offB R k r j)=(if r=k+1 then _ else offB R k r j)/\(if r=k+1 then _ else offB R k r j)=(if r=k+1 then _ else offB R k r j)
    rw[if_neg hne,if_neg hne,if_neg hne]
    exact⟨rfl,rfl⟩) (fun j _=>by
    rw[hC,hB,hZ]
    show(if k+1=k+1 then _ else _)=_ * (if k+1=k+1 then _ else _)+(if k+1=k+1 then _ else _)
    rw[if_pos rfl,if_pos rfl,if_pos rfl,Int.add_zero])
   rw[this,hBz,hZz,Int.mul_zero]
   rfl
  have:=det_lin (A:=offB R (k+1)) (B:=offB R k) (C:=C) (c:=R 0 0) hk (fun r j _ _ hne=>by
   have e1:offB R (k+1) r j=offB R k r j:=by
    unfold offB
    by_cases h0:r=0
    ·rw[if_pos h0,if_pos h0]
    ·rw[if_neg h0,if_neg h0]
     by_cases h1:r<=k
     ·rw[if_pos h1,if_pos (by omega)]
     ·rw[if_neg h1,if_neg (by omega)]
   refine⟨e1,?_⟩
   rw[hC,e1]
   show _=if r=k+1 then _ else _
   rw[if_neg hne]) (fun j _=>by
   have e1:offB R (k+1) (k+1) j=R 0 0 * R (k+1) j - R (k+1) 0 * R 0 j:=by
    unfold offB
    rw[if_neg (by omega),if_pos (by omega)]
   have e2:offB R k (k+1) j=R (k+1) j:=by
    unfold offB
    rw[if_neg (by omega),if_neg (by omega)]
   rw[e1,e2,hC]
   show _=_+(if k+1=k+1 then - R (k+1) 0 * R 0 j else _)
   rw[if_pos rfl,Int.neg_mul]
   rfl)
  rw[this,hCz,ih,Int.add_zero,Int.pow_succ]
  rw[<- Int.mul_assoc,Int.mul_comm (R 0 0)]
theorem det_off{m:Nat}{R:Mx}:R 0 0 * det m (offN R)=R 0 0 ^ m * det (m+1) R:=by
 rw[<- det_offB (k:=m) (by omega),det_first fun i hi=>?_]
 ·have e0:offB R m 0 0=R 0 0:=if_pos rfl
  rw[e0]
  refine congrArg (R 0 0 * ·) (det_congr fun i j hi hj=>?_)
  unfold offB offN
  rw[if_neg (by omega),if_pos (by omega)]
 ·unfold offB
  rw[if_neg (by omega),if_pos (by omega),Int.mul_comm]
  omega
def ex(k:Nat)(r:Nat->Nat)(i:Nat):Nat:=if i<k then i else k+r (i - k)
def Bar(A:Mx)(k M:Nat)(R:Mx)(last:Int):Prop:=last≠0/\∀(m:Nat) (r c:Nat->Nat),(∀ i,i<m+1->r i<M/\c i<M) ->
 det (m+1) (fun i j=>R (r i) (c j))=det (k+m+1) (fun i j=>A (ex k r i) (ex k c j)) * last ^ m
theorem bar_start(A:Mx)(n:Nat):Bar A 0 n A 1:=⟨by decide,fun m r c _=>by
 rw[Int.one_pow,Int.mul_one,Nat.zero_add]
 refine det_congr fun i j _ _=>?_
 unfold ex
 rw[if_neg (Nat.not_lt_zero _),if_neg (Nat.not_lt_zero _),Nat.zero_add,Nat.zero_add,Nat.sub_zero,Nat.sub_zero]⟩
theorem pow_ne{p:Int}(h:p≠0):∀ n:Nat,p ^ n≠0
 | 0=>by rw[Int.pow_zero];decide
 | n+1=>by rw[Int.pow_succ];exact Int.mul_ne_zero (pow_ne h n) h
def bef(r:Nat->Nat):Nat->Nat
 | 0=>0
 | i+1=>r i+1
theorem ex_bef(k:Nat)(r:Nat->Nat)(i:Nat):ex k (bef r) i=ex (k+1) r i:=by
 unfold ex
 by_cases h:i<k
 ·rw[if_pos h,if_pos (by omega)]
 ·rw[if_neg h]
  by_cases h2:i=k
  ·rw[if_pos (by omega),h2,Nat.sub_self]
   rfl
  ·rw[if_neg (by omega)]
   obtain⟨d,rfl⟩:∃ d,i=k+d+1:=⟨i - k - 1,by omega⟩
   rw[show k+d+1 - k=d+1 by omega,show k+d+1 - (k+1)=d by omega]
   show k+(r d+1)=k+1+r d
   omega
theorem bar_off{A:Mx}{k M:Nat}{R:Mx}{last:Int}(h:Bar A k (M+1) R last)(hp:R 0 0≠0){m:Nat}{r c:Nat->Nat}(hb:∀ i,i<m+1->r i<M/\c i<M) :
  det (m+1) (fun i j=>offN R (r i) (c j))=R 0 0 ^ m * (last ^ (m+1) * det (k+1+m+1) (fun i j=>A (ex (k+1) r i) (ex (k+1) c j))):=by
 have e1:=det_off (m:=m+1) (R:=fun i j=>R (bef r i) (bef c j))
 have e2:=h.2 (m+1) (bef r) (bef c) fun i hi=>by
  cases i with
  | zero=>exact⟨Nat.succ_pos _,Nat.succ_pos _⟩
  | succ i=>have:=hb i (by omega);exact⟨Nat.succ_lt_succ this.1,Nat.succ_lt_succ this.2⟩
 have e3:det (m+1) (offN fun i j=>R (bef r i) (bef c j))=det (m+1) (fun i j=>offN R (r i) (c j)):=rfl
 have e4:det (k+(m+1)+1) (fun i j=>A (ex k (bef r) i) (ex k (bef c) j))=det (k+1+m+1) (fun i j=>A (ex (k+1) r i) (ex (k+1) c j)):=by
  rw[show k+(m+1)+1=k+1+m+1 by omega]
  exact det_congr fun i j _ _=>by rw[ex_bef,ex_bef]
 rw[e3]at e1
 rw[e4]at e2
 have e5:R (bef r 0) (bef c 0)=R 0 0:=rfl
 rw[e5,e2]at e1
 generalize det (m+1) (fun i j=>offN R (r i) (c j))=x at *
 generalize det (k+1+m+1) (fun i j=>A (ex (k+1) r i) (ex (k+1) c j))=y at *
 rw[Int.pow_succ]at e1
 refine Int.eq_of_mul_eq_mul_left hp ?_
 rw[e1,Int.mul_comm y,Int.mul_comm (R 0 0 ^ m),Int.mul_assoc]
theorem det_one(A:Mx):det 1 A=A 0 0:=by
 show 0+sg 0 * A 0 0 * 1=A 0 0
 rw[show sg 0=1 from rfl]
 omega
theorem bar_num{A:Mx}{k M:Nat}{R:Mx}{last:Int}(h:Bar A k (M+1) R last)(hp:R 0 0≠0){i j:Nat}(hi:i<M)(hj:j<M) :
  offN R i j=last * det (k+2) (fun a b=>A (ex (k+1) (fun _=>i) a) (ex (k+1) (fun _=>j) b)):=by
 have:=bar_off h hp (m:=0) (r:=fun _=>i) (c:=fun _=>j) fun _ _=>⟨hi,hj⟩
 rw[det_one,Int.pow_zero,Int.one_mul,Int.pow_succ,Int.pow_zero,Int.one_mul]at this
 exact this
theorem bar_step{A:Mx}{k M:Nat}{R R':Mx}{last:Int}(h:Bar A k (M+1) R last)(hp:R 0 0≠0)(hR:∀ i j,i<M->j<M->R' i j=(offN R i j).fdiv last):Bar A (k+1) M R' (R 0 0):=by
 refine⟨hp,fun m r c hb=>?_⟩
 have ex1:∀ i j,i<M->j<M->offN R i j=last * R' i j:=fun i j hi hj=>by
  rw[hR i j hi hj,bar_num h hp hi hj,Int.mul_fdiv_cancel_left _ h.1]
 have e1:=bar_off h hp hb
 have e2:det (m+1) (fun i j=>offN R (r i) (c j))=last ^ (m+1) * det (m+1) (fun i j=>R' (r i) (c j)):=by
  rw[<- det_scale]
  exact det_congr fun i j hi hj=>ex1 _ _ (hb i hi).1 (hb j hj).2
 rw[e2]at e1
 refine Int.eq_of_mul_eq_mul_left (pow_ne h.1 (m+1)) ?_
 rw[e1]
 generalize det (k+1+m+1) (fun i j=>A (ex (k+1) r i) (ex (k+1) c j))=y
 rw[Int.mul_left_comm,Int.mul_comm y]
theorem bar_rot{A:Mx}{k M t:Nat}{R:Mx}{last:Int}(h:Bar A k M R last)(ht:t<M):Bar (fun i=>A (rotN k t i)) k M (fun i=>R (rotN 0 t i)) last:=by
 refine⟨h.1,fun m r c hb=>?_⟩
 have e:=h.2 m (fun i=>rotN 0 t (r i)) c fun i hi=>⟨by
  have:=(hb i hi).1
  unfold rotN
  rw[if_neg (by omega)]
  split
  ·omega
  ·split <;> omega,(hb i hi).2⟩
 rw[e]
 refine congrArg (· * last ^ m) (det_congr fun i j _ _=>?_)
 refine congrArg (fun a=>A a (ex k c j)) ?_
 unfold ex
 by_cases hi:i<k
 ·rw[if_pos hi,if_pos hi]
  unfold rotN
  rw[if_pos hi]
 ·rw[if_neg hi,if_neg hi]
  show k+rotN 0 t (r (i - k))=rotN k t (k+r (i - k))
  generalize r (i - k)=a
  have r1:rotN 0 t a=if a<0 then a else if a=0 then 0+t else if a<=0+t then a - 1 else a:=rfl
  have r2:rotN k t (k+a)=if k+a<k then k+a else if k+a=k then k+t else if k+a<=k+t then k+a - 1 else k+a:=rfl
  rw[if_neg (by omega)]at r1 r2
  by_cases h1:a=0
  ·rw[if_pos h1]at r1
   rw[if_pos (by omega)]at r2
   rw[r1,r2]
   omega
  ·rw[if_neg h1]at r1
   rw[if_neg (by omega)]at r2
   by_cases h2:a<=t
   ·rw[if_pos (by omega)]at r1
    rw[if_pos (by omega)]at r2
    rw[r1,r2]
    omega
   ·rw[if_neg (by omega)]at r1
    rw[if_neg (by omega)]at r2
    rw[r1,r2]
theorem ex_id(k i:Nat):ex k (fun i=>i) i=i:=by
 unfold ex
 by_cases h:i<k
 ·rw[if_pos h]
 ·rw[if_neg h]
  show k+(i - k)=i
  omega
theorem bar_none{A:Mx}{k M:Nat}{R:Mx}{last:Int}(h:Bar A k (M+1) R last)(h0:∀ i,i<M+1->R i 0=0):det (k+M+1) A=0:=by
 have e:=h.2 M (fun i=>i) (fun i=>i) fun i hi=>⟨hi,hi⟩
 rw[det_col0 (A:=fun i j=>R i j) h0]at e
 have e2:det (k+M+1) (fun i j=>A (ex k (fun i=>i) i) (ex k (fun i=>i) j))=det (k+M+1) A:=det_congr fun i j _ _=>by rw[ex_id,ex_id]
 rw[e2]at e
 rcases Int.mul_eq_zero.mp e.symm with z | z
 ·exact z
 ·exact absurd z (pow_ne h.1 M)
theorem bar_end{A:Mx}{k:Nat}{R:Mx}{last:Int}(h:Bar A k 1 R last):R 0 0=det (k+1) A:=by
 have e:=h.2 0 (fun i=>i) (fun i=>i) fun i hi=>⟨by omega,by omega⟩
 rw[det_one,Int.pow_zero,Int.mul_one]at e
 have e2:det (k+0+1) (fun i j=>A (ex k (fun i=>i) i) (ex k (fun i=>i) j))=det (k+1) A:=det_congr fun i j _ _=>by rw[ex_id,ex_id]
 rw[e2]at e
 exact e
end My
namespace L2
open PySem PySem.Spec PyProof.Rows
def CMulL(i j:Int):Prop:=i.natAbs<2 ^ 9000/\j.natAbs<2 ^ 9000
def CDivL(i j:Int):Prop:=j≠0/\j.natAbs<2 ^ 9000
theorem bits_long{a:Int}(h:a.natAbs<2 ^ 9000):Builtin.Int.intBits a<=9000:=PySem.intBits_le_iff.mpr h
section
variable{X:Cx}
theorem op_mulL:OpR X (binaryOp .Mult) (rI CMulL fun i j=>.int (i * j)):=opI fun _ _ _ _ _ _ _ hc q=>mul_int q (.of_bits (Nat.le_trans (bits_long hc.1) (by decide)) (Nat.le_trans (bits_long hc.2) (by decide)))
theorem op_fdivL:OpR X (binaryOp .FloorDiv) (rI CDivL fun i j=>.int (i.fdiv j)):=opI fun _ _ _ _ _ _ _ hc q=>floordiv_int hc.1 q (.inl (PyProof.noPylong_of_log2 ((Nat.log2_lt (by have:=hc.1;omega)).mpr hc.2)))
end
end L2
namespace My
def fnL(L:List (List Int)):Mx:=fun i j=>(L.getD i []).getD j 0
theorem fnL_at{L:List (List Int)}{l:List Int}{i j:Nat}{x:Int}(h:L[i]?=some l)(h2:l[j]?=some x):fnL L i j=x:=by
 have e:L.getD i []=l:=by rw[List.getD_eq_getElem?_getD,h];rfl
 unfold fnL
 rw[e,List.getD_eq_getElem?_getD,h2]
 rfl
def bnd(B:Nat):Nat->Nat
 | 0=>1
 | n+1=>(n+1) * (B * bnd B n)
theorem sm_abs{f:Nat->Int}{C:Nat}:∀ {n:Nat},(∀ i,i<n->(f i).natAbs<=C)->(sm n f).natAbs<=n * C
 | 0,_=>by show(0:Int).natAbs<=0 * C;rw[Nat.zero_mul];exact Nat.le_refl 0
 | n+1,h=>by
  have h1:=sm_abs (n:=n) fun i hi=>h i (by omega)
  have h2:=h n (by omega)
  have h3:(sm n f+f n).natAbs<=(sm n f).natAbs+(f n).natAbs:=Int.natAbs_add_le ..
  show(sm n f+f n).natAbs<=(n+1) * C
  rw[Nat.succ_mul]
  omega
theorem det_abs{B:Nat}:∀ {n:Nat} {A:Mx},(∀ i j,i<n->j<n->(A i j).natAbs<=B)->(det n A).natAbs<=bnd B n
 | 0,_,_=>Nat.le_refl 1
 | n+1,A,h=>by
  refine sm_abs fun j hj=>?_
  have e:(sg j).natAbs=1:=by
   unfold sg
   split <;> rfl
  rw[Int.natAbs_mul,Int.natAbs_mul,e,Nat.one_mul]
  exact Nat.mul_le_mul (h 0 j (by omega) hj) (det_abs fun i k hi hk=>h (i+1) (sk j k) (by omega) (sk_lt hk))
theorem bnd_le{b:Nat}:∀ {n:Nat},n<=16->bnd (2 ^ b) n<=2 ^ ((b+4) * n)
 | 0,_=>by show 1<=2 ^ ((b+4) * 0);rw[Nat.mul_zero];exact Nat.le_refl 1
 | n+1,h=>by
  have ih:=bnd_le (b:=b) (n:=n) (by omega)
  have e:2 ^ ((b+4) * (n+1))=16 * (2 ^ b * 2 ^ ((b+4) * n)):=by
   rw[Nat.mul_succ,Nat.pow_add,Nat.pow_add,Nat.mul_comm (2 ^ ((b+4) * n)),Nat.mul_comm (2 ^ b) (2 ^ 4),Nat.mul_assoc]
  rw[e]
  show(n+1) * (2 ^ b * bnd (2 ^ b) n)<=_
  exact Nat.mul_le_mul h (Nat.mul_le_mul (Nat.le_refl _) ih)
theorem det_small{n:Nat}{A:Mx}(hn:n<=16)(h:∀ i j,i<n->j<n->(A i j).natAbs<=2 ^ 400):(det n A).natAbs<2 ^ 9000:=by
 have h1:=det_abs h
 have h2:=bnd_le (b:=400) hn
 have h3:2 ^ ((400+4) * n)<=2 ^ (404 * 16):=Nat.pow_le_pow_right (by decide) (Nat.mul_le_mul (Nat.le_refl _) hn)
 have h4:2 ^ (404 * 16)<2 ^ 9000:=Nat.pow_lt_pow_right (by decide) (by decide)
 exact Nat.lt_of_le_of_lt (Nat.le_trans h1 (Nat.le_trans h2 h3)) h4
theorem bar_at{A:Mx}{k M:Nat}{R:Mx}{last:Int}(h:Bar A k M R last){i j:Nat}(hi:i<M)(hj:j<M):R i j=det (k+1) (fun a b=>A (ex k (fun _=>i) a) (ex k (fun _=>j) b)):=by
 have:=h.2 0 (fun _=>i) (fun _=>j) fun _ _=>⟨hi,hj⟩
 rw[det_one,Int.pow_zero,Int.mul_one]at this
 exact this
theorem bar_small{A:Mx}{k M n:Nat}{R:Mx}{last:Int}(h:Bar A k M R last)(hn:k+M=n)(hn16:n<=16)(hA:∀ i j,i<n->j<n->(A i j).natAbs<=2 ^ 400){i j:Nat}(hi:i<M)(hj:j<M):(R i j).natAbs<2 ^ 9000:=by
 rw[bar_at h hi hj]
 refine det_small (by omega) fun a b ha hb=>hA _ _ ?_ ?_
 ·have e:ex k (fun _=>i) a=if a<k then a else k+i:=rfl
  rw[e]
  split <;> omega
 ·have e:ex k (fun _=>j) b=if b<k then b else k+j:=rfl
  rw[e]
  split <;> omega
theorem rot_get{L:List (List Int)}{l:List Int}{t:Nat}(h:L[t]?=some l)(i:Nat):(l :: L.eraseIdx t)[i]?=L[rotN 0 t i]?:=by
 have ht:=(List.getElem?_eq_some_iff.mp h).1
 have r:rotN 0 t i=if i<0 then i else if i=0 then 0+t else if i<=0+t then i - 1 else i:=rfl
 rw[if_neg (by omega)]at r
 cases i with
 | zero =>
  rw[if_pos rfl,Nat.zero_add]at r
  rw[r,h]
  rfl
 | succ i =>
  rw[if_neg (by omega),Nat.zero_add]at r
  rw[r,List.getElem?_cons_succ,List.getElem?_eraseIdx]
  by_cases c:i+1<=t
  ·rw[if_pos c,if_pos (by omega)]
   rfl
  ·rw[if_neg c,if_neg (by omega)]
theorem rot_fnL{L:List (List Int)}{l:List Int}{t:Nat}(h:L[t]?=some l):fnL (l :: L.eraseIdx t)=fun i=>fnL L (rotN 0 t i):=by
 funext i j
 show((l :: L.eraseIdx t).getD i []).getD j 0=(L.getD (rotN 0 t i) []).getD j 0
 refine congrArg (fun r:List Int=>r.getD j 0) ?_
 rw[List.getD_eq_getElem?_getD,List.getD_eq_getElem?_getD,rot_get h]
def tkn(y:Int)(p:List Int)(last:Int)(l:List Int):List Int:=List.zipWith (fun own other=>(y * own - l.headD 0 * other).fdiv last) l.tail p
theorem tkn_len{y last:Int}{p l:List Int}(h:l.length=p.length+1):(tkn y p last l).length=p.length:=by
 unfold tkn
 rw[List.length_zipWith,List.length_tail]
 omega
theorem tkn_fnL{y last:Int}{p:List Int}{L:List (List Int)}{M:Nat}(hp:p.length=M)(hL:L.length=M)(hl:∀ l∈L,l.length=M+1){i j:Nat}(hi:i<M)(hj:j<M) :
  fnL (L.map (tkn y p last)) i j=(offN (fnL ((y :: p) :: L)) i j).fdiv last:=by
 obtain⟨l,hli⟩:∃ l,L[i]?=some l:=⟨_,List.getElem?_eq_getElem (by omega)⟩
 have hll:=hl l (List.mem_of_getElem? hli)
 obtain⟨x,l',rfl⟩:∃ x l',l=x :: l':=by
  cases l with
  | nil=>cases hll
  | cons x l'=>exact⟨x,l',rfl⟩
 have hl':l'.length=M:=by rw[List.length_cons]at hll;omega
 obtain⟨u,hu⟩:∃ u,l'[j]?=some u:=⟨_,List.getElem?_eq_getElem (by omega)⟩
 obtain⟨v,hv⟩:∃ v,p[j]?=some v:=⟨_,List.getElem?_eq_getElem (by omega)⟩
 have e1:fnL (L.map (tkn y p last)) i j=(y * u - x * v).fdiv last:=fnL_at (l:=tkn y p last (x :: l')) (by rw[List.getElem?_map,hli];rfl) (by
  show(List.zipWith _ l' p)[j]?=_
  rw[List.getElem?_zipWith,hu,hv]
  rfl)
 have e2:fnL ((y :: p) :: L) 0 0=y:=rfl
 have e3:fnL ((y :: p) :: L) (i+1) (j+1)=u:=fnL_at (l:=x :: l') hli hu
 have e4:fnL ((y :: p) :: L) (i+1) 0=x:=fnL_at (l:=x :: l') hli rfl
 have e5:fnL ((y :: p) :: L) 0 (j+1)=v:=fnL_at (l:=y :: p) rfl hv
 rw[e1]
 unfold offN
 rw[e2,e3,e4,e5]
end My
namespace My
open PySem L2
def RowV(K:PySem.W.Frag)(H:Hp)(v:V)(l:List Int):Prop:=∃(r:Addr) (k:Bool),v=.ref r/\SqK k K H r (IL l)
theorem RowV.same{K:PySem.W.Frag}{H H':Hp}{v:V}{l:List Int}(s:Same H H')(h:RowV K H v l):RowV K H' v l:=by
 obtain⟨r,k,e,h⟩:=h
 exact⟨r,k,e,h.same s⟩
def LiV(d:Addr)(H:Hp)(v:V)(l:List Int):Prop:=∃ r,v=.ref r/\H r=some (.lst (IL l))/\r≠d
theorem LiV.same{d:Addr}{H H':Hp}{v:V}{l:List Int}(s:Same H H')(h:LiV d H v l):LiV d H' v l:=by
 obtain⟨r,e,h,n⟩:=h
 exact⟨r,e,s _ _ h,n⟩
theorem LiV.mut{d:Addr}{H:Hp}{v:V}{l:List Int}{o:HO}(h:LiV d H v l):LiV d (upd H d o) v l:=by
 obtain⟨r,e,h,n⟩:=h
 exact⟨r,e,by rw[upd_ne n];exact h,n⟩
theorem LiV.list{d:Addr}{H:Hp}{v:V}{l:List Int}(h:LiV d H v l):ListV H v l:=by
 obtain⟨r,e,h,_⟩:=h
 exact⟨r,e,h⟩
theorem Bears.erase{α:Type}[DecidableEq α]{R:V->α->Prop}{xs:List V}{l:List α}(h:Bears R xs l)(t:Nat):Bears R (xs.eraseIdx t) (l.eraseIdx t):=by
 have hl:=h.1
 refine⟨by rw[List.length_eraseIdx,List.length_eraseIdx,hl],fun i a e=>?_⟩
 rw[List.getElem?_eraseIdx]at e
 rw[List.getElem?_eraseIdx]
 split at e
 ·next c=>rw[if_pos c];exact h.2 _ _ e
 ·next c=>rw[if_neg c];exact h.2 _ _ e
theorem cut_tail(x:Int)(l:List Int):cutV (IL (x :: l)) (some 1) none=IL l:=by
 rw[cut_from2 (by decide)]
 rfl
theorem sg_sq(t:Nat):sg t * sg t=1:=by
 unfold sg
 split <;> rfl
end My
namespace My
theorem sm_reord{f:Nat->Nat->Int}{n m:Nat}:sm n (fun i=>sm m (fun j=>f i j))=sm m (fun j=>sm n (fun i=>f i j)):=sm_swap
theorem det_col:∀ {n:Nat} {A:Mx},det (n+1) A=sm (n+1) fun i=>sg i * A i 0 * det n (fun r c=>A (sk i r) (c+1))
 | 0,A=>rfl
 | n+1,A=>by
  have e1:det (n+2) A=sg 0 * A 0 0 * det (n+1) (mn A 0)+sm (n+1) fun j=>sg (j+1) * A 0 (j+1) * det (n+1) (mn A (j+1)):=sm_first
  have e2:sm (n+2) (fun i=>sg i * A i 0 * det (n+1) (fun r c=>A (sk i r) (c+1)))=sg 0 * A 0 0 * det (n+1) (fun r c=>A (sk 0 r) (c+1))+sm (n+1) fun i=>sg (i+1) * A (i+1) 0 * det (n+1) (fun r c=>A (sk (i+1) r) (c+1)):=sm_first
  rw[e1,e2]
  have e3:det (n+1) (mn A 0)=det (n+1) (fun r c=>A (sk 0 r) (c+1)):=det_congr fun r c _ _=>rfl
  rw[e3]
  refine congrArg (fun z:Int=>sg 0 * A 0 0 * det (n+1) (fun r c=>A (sk 0 r) (c+1))+z) ?_
  obtain⟨D,hD⟩:∃ D:Nat->Nat->Int,D=fun i j=>det n (fun r c=>A (sk i r+1) (sk (j+1) (c+1))):=⟨_,rfl⟩
  have e4:∀ j,j<n+1->det (n+1) (mn A (j+1))=sm (n+1) fun i=>sg i * A (i+1) 0 * D i j:=fun j _=>by
   rw[det_col,hD]
   rfl
  have e5:∀ i,i<n+1->det (n+1) (fun r c=>A (sk (i+1) r) (c+1))=sm (n+1) fun j=>sg j * A 0 (j+1) * D i j:=fun i hi=>by
   show sm (n+1) (fun j=>sg j * A (sk (i+1) 0) (j+1) * det n (mn (fun r c=>A (sk (i+1) r) (c+1)) j))=_
   refine sm_congr fun j _=>?_
   rw[hD]
   show sg j * A (sk (i+1) 0) (j+1) * det n (mn (fun r c=>A (sk (i+1) r) (c+1)) j)=sg j * A 0 (j+1) * det n (fun r c=>A (sk i r+1) (sk (j+1) (c+1)))
   rw[show sk (i+1) 0=0 from rfl]
   refine congrArg (sg j * A 0 (j+1) * ·) (det_congr fun r c _ _=>?_)
   show A (sk (i+1) (r+1)) (sk j c+1)=A (sk i r+1) (sk (j+1) (c+1))
   have f1:sk (i+1) (r+1)=sk i r+1:=by
    unfold sk
    by_cases h:r<i
    ·rw[if_pos h,if_pos (by omega)]
    ·rw[if_neg h,if_neg (by omega)]
   have f2:sk j c+1=sk (j+1) (c+1):=by
    unfold sk
    by_cases h:c<j
    ·rw[if_pos h,if_pos (by omega)]
    ·rw[if_neg h,if_neg (by omega)]
   rw[f1,f2]
  have e6:sm (n+1) (fun j=>sg (j+1) * A 0 (j+1) * det (n+1) (mn A (j+1)))=sm (n+1) fun j=>sm (n+1) fun i=>sg (j+1) * A 0 (j+1) * (sg i * A (i+1) 0 * D i j):=sm_congr fun j hj=>by rw[e4 j hj,sm_mul]
  have e7:sm (n+1) (fun i=>sg (i+1) * A (i+1) 0 * det (n+1) (fun r c=>A (sk (i+1) r) (c+1)))=sm (n+1) fun i=>sm (n+1) fun j=>sg (i+1) * A (i+1) 0 * (sg j * A 0 (j+1) * D i j):=sm_congr fun i hi=>by rw[e5 i hi,sm_mul]
  rw[e6,e7,sm_reord]
  refine sm_congr fun i _=>sm_congr fun j _=>?_
  rw[sg_succ,sg_succ]
  generalize D i j=d
  generalize A 0 (j+1)=x
  generalize A (i+1) 0=y
  generalize sg i=s
  generalize sg j=u
  simp only [Int.neg_mul,Int.neg_inj]
  simp only [Int.mul_comm,Int.mul_left_comm,Int.mul_assoc]
theorem det_T:∀ {n:Nat} {A:Mx},det n (fun i j=>A j i)=det n A
 | 0,_=>rfl
 | n+1,A=>by
  rw[det_col (A:=A)]
  refine sm_congr fun j _=>?_
  show sg j * A j 0 * det n (fun i k=>A (sk j k) (i+1))=sg j * A j 0 * det n (fun r c=>A (sk j r) (c+1))
  rw[<- det_T (A:=fun r c=>A (sk j r) (c+1))]
theorem det_two{n a b:Nat}{A:Mx}(ha:a<n)(hb:b<n)(hne:a≠b)(h:∀ j,j<n->A a j=A b j):det n A=0:=by
 rcases Nat.lt_or_gt_of_ne hne with c | c
 ·obtain⟨d,rfl⟩:∃ d,b=a+d+1:=⟨b - a - 1,by omega⟩
  exact det_alike hb h
 ·obtain⟨d,rfl⟩:∃ d,a=b+d+1:=⟨a - b - 1,by omega⟩
  exact det_alike ha fun j hj=>(h j hj).symm
def putr(A:Mx)(i:Nat)(x:Nat->Int):Mx:=fun r=>if r=i then x else A r
theorem det_putr{n i:Nat}{A:Mx}{c:Int}{x y:Nat->Int}(hi:i<n):det n (putr A i (fun j=>c * x j+y j))=c * det n (putr A i x)+det n (putr A i y) :=
 det_lin hi (fun r j _ _ hne=>by unfold putr;rw[if_neg hne,if_neg hne,if_neg hne];exact⟨rfl,rfl⟩) (fun j _=>by unfold putr;rw[if_pos rfl,if_pos rfl,if_pos rfl])
theorem putr_own{A:Mx}{i:Nat}:putr A i (A i)=A:=by
 funext r
 unfold putr
 by_cases h:r=i
 ·rw[if_pos h,h]
 ·rw[if_neg h]
theorem det_addr{n a b:Nat}{A:Mx}{c:Int}(ha:a<n)(hb:b<n)(hne:a≠b):det n (putr A a (fun j=>A a j+c * A b j))=det n A:=by
 have e:(fun j=>A a j+c * A b j)=fun j=>c * A b j+A a j:=by funext j;omega
 rw[e,det_putr ha,putr_own,det_two ha hb hne (A:=putr A a (A b)) fun j _=>?_,Int.mul_zero,Int.zero_add]
 unfold putr
 rw[if_pos rfl,if_neg (Ne.symm hne)]
theorem rot_sk(a i:Nat):rotN 0 a (i+1)=sk a i:=by
 have r:rotN 0 a (i+1)=if i+1<0 then i+1 else if i+1=0 then 0+a else if i+1<=0+a then i+1 - 1 else i+1:=rfl
 rw[if_neg (by omega),if_neg (by omega)]at r
 rw[r]
 unfold sk
 by_cases h:i<a
 ·rw[if_pos h,if_pos (by omega)]
  omega
 ·rw[if_neg h,if_neg (by omega)]
theorem sm_only{f:Nat->Int}{a:Nat}:∀ {n:Nat},a<n->(∀ j,j<n->j≠a->f j=0)->sm n f=f a
 | 0,h,_=>absurd h (Nat.not_lt_zero _)
 | n+1,h,h0=>by
  show sm n f+f n=f a
  by_cases c:a=n
  ·rw[sm_none fun i hi=>h0 i (by omega) (by omega),c,Int.zero_add]
  ·rw[sm_only (n:=n) (by omega) fun j hj hne=>h0 j (by omega) hne,h0 n (by omega) (by omega),Int.add_zero]
theorem det_unit{n a:Nat}{A:Mx}(ha:a<n+1):det (n+1) (putr A a (fun j=>if j=a then 1 else 0))=det n (fun i j=>A (sk a i) (sk a j)):=by
 have e:=det_rot (n:=n+1) (k:=0) (t:=a) (A:=putr A a (fun j=>if j=a then 1 else 0)) (by omega)
 have r0:rotN 0 a 0=a:=by
  show(if 0<0 then 0 else if 0=0 then 0+a else _)=a
  rw[if_neg (by omega),if_pos rfl,Nat.zero_add]
 have top:det (n+1) (fun i=>putr A a (fun j=>if j=a then 1 else 0) (rotN 0 a i))=sg a * det n (fun i j=>A (sk a i) (sk a j)):=by
  show sm (n+1) (fun j=>sg j * putr A a (fun j=>if j=a then 1 else 0) (rotN 0 a 0) j * det n (mn (fun i=>putr A a (fun j=>if j=a then 1 else 0) (rotN 0 a i)) j))=_
  rw[sm_only ha fun j _ hne=>?_]
  ·rw[r0]
   have e1:putr A a (fun j=>if j=a then 1 else 0) a a=1:=by unfold putr;rw[if_pos rfl,if_pos rfl]
   rw[e1,Int.mul_one]
   refine congrArg (sg a * ·) (det_congr fun i j _ _=>?_)
   show putr A a (fun j=>if j=a then 1 else 0) (rotN 0 a (i+1)) (sk a j)=A (sk a i) (sk a j)
   rw[rot_sk]
   unfold putr
   rw[if_neg (by unfold sk;split <;> omega)]
  ·rw[r0]
   have e1:putr A a (fun j=>if j=a then 1 else 0) a j=0:=by unfold putr;rw[if_pos rfl,if_neg hne]
   rw[e1,Int.mul_zero,Int.zero_mul]
 rw[top]at e
 have h:=congrArg (sg a * ·) e
 simp only [<- Int.mul_assoc]at h
 rw[show sg a * sg a=1 by unfold sg;split <;> rfl,Int.one_mul,Int.one_mul]at h
 exact h.symm
theorem det_diag{n a:Nat}{A:Mx}{w:Int}(ha:a<n+1):det (n+1) (fun i j=>A i j+w * ((if i=a then 1 else 0) * (if j=a then 1 else 0)))=det (n+1) A+w * det n (fun i j=>A (sk a i) (sk a j)):=by
 have e:det (n+1) (fun i j=>A i j+w * ((if i=a then 1 else 0) * (if j=a then 1 else 0)))=det (n+1) (putr A a (fun j=>w * (fun j=>if j=a then 1 else 0) j+A a j)):=det_congr fun i j _ _=>by
  unfold putr
  by_cases h:i=a
  ·subst h
   rw[if_pos rfl,if_pos rfl,Int.one_mul]
   show A i j+w * (if j=i then 1 else 0)=w * (if j=i then 1 else 0)+A i j
   exact Int.add_comm ..
  ·rw[if_neg h,if_neg h,Int.zero_mul,Int.mul_zero,Int.add_zero]
 rw[e,det_putr ha,putr_own,det_unit ha]
 omega
def ind(u v i:Nat):Int:=(if i=u then 1 else 0) - (if i=v then 1 else 0)
def fold2(A:Mx)(a b:Nat):Mx:=fun i j=>(A i j+(if i=b then A a j else 0))+(if j=b then A i a+(if i=b then A a a else 0) else 0)
theorem det_fold2{n a b:Nat}{A:Mx}(ha:a<n)(hb:b<n)(hne:a≠b):det n (fold2 A a b)=det n A:=by
 have e1:det n A=det n (putr A b (fun j=>A b j+1 * A a j)):=(det_addr hb ha (Ne.symm hne)).symm
 obtain⟨R,hR⟩:∃ R:Mx,R=putr A b (fun j=>A b j+1 * A a j):=⟨_,rfl⟩
 have e2:det n R=det n (putr (fun i j=>R j i) b (fun j=>(fun i j=>R j i) b j+1 * (fun i j=>R j i) a j)):=by
  rw[det_addr (A:=fun i j=>R j i) hb ha (Ne.symm hne)]
  exact det_T.symm
 rw[e1,<- hR,e2,<- det_T (A:=putr (fun i j=>R j i) b (fun j=>(fun i j=>R j i) b j+1 * (fun i j=>R j i) a j))]
 refine det_congr fun i j _ _=>?_
 have rv:∀ r c,R r c=A r c+(if r=b then A a c else 0):=fun r c=>by
  rw[hR]
  unfold putr
  by_cases h:r=b
  ·rw[if_pos h,if_pos h,h];omega
  ·rw[if_neg h,if_neg h];omega
 unfold fold2
 show _=(putr (fun i j=>R j i) b (fun j=>R j b+1 * R j a)) j i
 unfold putr
 by_cases h:j=b
 ·rw[if_pos h,if_pos h,rv,rv,h]
  by_cases h2:i=b
  ·rw[if_pos h2,if_pos h2];omega
  ·rw[if_neg h2,if_neg h2];omega
 ·rw[if_neg h,if_neg h]
  show _=R i j
  rw[rv]
  omega
theorem det_tie{n a b:Nat}{A:Mx}{w:Int}(ha:a<n+1)(hb:b<n+1)(hne:a≠b):det (n+1) (fun i j=>A i j+w * (ind a b i * ind a b j))=det (n+1) A+w * det n (fun i j=>fold2 A a b (sk a i) (sk a j)):=by
 have e1:=det_fold2 (A:=fun i j=>A i j+w * (ind a b i * ind a b j)) ha hb hne
 have e2:det (n+1) (fold2 (fun i j=>A i j+w * (ind a b i * ind a b j)) a b)=det (n+1) (fun i j=>fold2 A a b i j+w * ((if i=a then 1 else 0) * (if j=a then 1 else 0))):=det_congr fun i j _ _=>by
  have na:¬ a=b:=hne
  have nb:¬ b=a:=Ne.symm hne
  unfold fold2 ind
  by_cases hi:i=b
  ·subst hi
   by_cases hj:j=i
   ·subst hj
    simp[na,nb]
    omega
   ·by_cases hj2:j=a
    ·subst hj2
     simp[na,nb,hj]
     omega
    ·simp[na,nb,hj,hj2]
  ·by_cases hi2:i=a
   ·subst hi2
    by_cases hj:j=b
    ·subst hj
     simp[na,nb]
     omega
    ·by_cases hj2:j=i
     ·subst hj2
      simp[na,nb]
     ·simp[na,nb,hj,hj2]
   ·by_cases hj:j=b
    ·subst hj
     simp[na,nb,hi,hi2]
    ·by_cases hj2:j=a
     ·subst hj2
      simp[na,nb,hi,hi2]
     ·simp[na,nb,hi,hi2,hj,hj2]
 rw[<- e1,e2,det_diag ha,det_fold2 ha hb hne]
end My
namespace My
open PySem L2
abbrev Ed:=Nat × Nat × Int
def lapE:List Ed->Mx
 | []=>fun _ _=>0
 | e :: E=>fun i j=>e.2.2 * (ind e.1 e.2.1 i * ind e.1 e.2.1 j)+lapE E i j
theorem lapE_snoc(E:List Ed)(e:Ed)(i j:Nat):lapE (E++[e]) i j=lapE E i j+e.2.2 * (ind e.1 e.2.1 i * ind e.1 e.2.1 j):=by
 induction E with
 | nil=>show _+0=0+_;omega
 | cons f E ih =>
  show _+lapE (E++[e]) i j=_+lapE E i j+_
  rw[ih]
  omega
def edE(E:List Ed)(z:Int):Nat × Nat:=((E.getD z.toNat (0,0,0)).1,(E.getD z.toNat (0,0,0)).2.1)
def wtE(E:List Ed):List Int->Int
 | []=>1
 | z :: T=>(E.getD z.toNat (0,0,0)).2.2 * wtE E T
theorem wtE_app(E:List Ed)(S T:List Int):wtE E (S++T)=wtE E S * wtE E T:=by
 induction S with
 | nil=>show _=1 * _;rw[Int.one_mul];rfl
 | cons z S ih=>show _ * wtE E (S++T)=_ * _ * _;rw[ih,Int.mul_assoc]
def IsT(k:Nat)(E:List Ed)(T:List Int):Prop:=IsSet E.length T/\T.length=k/\∀ i j,i<k+1->j<k+1->Conn (T.map (edE E)) i j
def TW(k:Nat)(E:List Ed)(s:Int):Prop:=∃ L:List (List Int),L.Nodup/\(∀ T,T∈L↔IsT k E T)/\(L.map (wtE E)).sum=s
theorem getD_up{E:List Ed}{e:Ed}{z:Int}(h0:0<=z)(h1:z<(E.length:Int)):(E++[e]).getD z.toNat (0,0,0)=E.getD z.toNat (0,0,0):=by
 rw[List.getD_eq_getElem?_getD,List.getD_eq_getElem?_getD,List.getElem?_append_left (by omega)]
theorem getD_last(E:List Ed)(e:Ed):(E++[e]).getD (E.length:Int).toNat (0,0,0)=e:=by
 rw[List.getD_eq_getElem?_getD,Int.toNat_natCast,List.getElem?_append_right (Nat.le_refl _),Nat.sub_self]
 rfl
theorem map_up{E:List Ed}{e:Ed}{T:List Int}(h:IsSet E.length T):T.map (edE (E++[e]))=T.map (edE E):=List.map_congr_left fun z hz=>by
 have:=h.all z hz
 unfold edE
 rw[getD_up this.1 this.2]
theorem wt_up{E:List Ed}{e:Ed}{T:List Int}(h:∀ z∈T,0<=z/\z<(E.length:Int)):wtE (E++[e]) T=wtE E T:=by
 induction T with
 | nil=>rfl
 | cons z T ih =>
  have hz:=h z List.mem_cons_self
  show _ * wtE (E++[e]) T=_ * wtE E T
  rw[getD_up hz.1 hz.2,ih fun y hy=>h y (List.mem_cons_of_mem _ hy)]
theorem isT_up{k:Nat}{E:List Ed}{e:Ed}{T:List Int}(h:IsSet E.length T):IsT k (E++[e]) T↔IsT k E T:=by
 have h2:IsSet (E++[e]).length T:=by rw[List.length_append];exact h.up
 constructor
 ·rintro⟨_,a,b⟩
  exact⟨h,a,by rw[map_up h]at b;exact b⟩
 ·rintro⟨_,a,b⟩
  exact⟨h2,a,by rw[map_up h];exact b⟩
theorem map_snoc{E:List Ed}{e:Ed}{T:List Int}(h:IsSet E.length T):(T++[(E.length:Int)]).map (edE (E++[e]))=T.map (edE E)++[(e.1,e.2.1)]:=by
 rw[List.map_append,map_up h]
 show _++[edE (E++[e]) (E.length:Int)]=_
 unfold edE
 rw[getD_last]
def sh(a x:Nat):Nat:=if x<a then x else x - 1
def dl(a b x:Nat):Nat:=if x=a then sh a b else sh a x
theorem sh_sk(a y:Nat):sh a (sk a y)=y:=by
 unfold sk
 by_cases h:y<a
 ·rw[if_pos h]
  unfold sh
  rw[if_pos h]
 ·rw[if_neg h]
  unfold sh
  rw[if_neg (by omega)]
  omega
theorem sk_ne(a y:Nat):sk a y≠a:=by
 unfold sk
 split <;> omega
theorem sk_sh{a x:Nat}(h:x≠a):sk a (sh a x)=x:=by
 unfold sh
 by_cases c:x<a
 ·rw[if_pos c]
  unfold sk
  rw[if_pos c]
 ·rw[if_neg c]
  unfold sk
  rw[if_neg (by omega)]
  omega
theorem dl_sk(a b y:Nat):dl a b (sk a y)=y:=by
 unfold dl
 rw[if_neg (sk_ne a y),sh_sk]
theorem sh_inj{a x y:Nat}(hx:x≠a)(hy:y≠a)(h:sh a x=sh a y):x=y:=by
 have:=congrArg (sk a) h
 rw[sk_sh hx,sk_sh hy]at this
 exact this
theorem dl_eq{a b x y:Nat}(hne:b≠a)(h:dl a b x=dl a b y):x=y\/(x=a/\y=b)\/(x=b/\y=a):=by
 unfold dl at h
 by_cases hx:x=a
 ·rw[if_pos hx]at h
  by_cases hy:y=a
  ·exact .inl (hx.trans hy.symm)
  ·rw[if_neg hy]at h
   exact .inr (.inl ⟨hx,(sh_inj hne hy h).symm⟩)
 ·rw[if_neg hx]at h
  by_cases hy:y=a
  ·rw[if_pos hy]at h
   exact .inr (.inr ⟨sh_inj hx hne h,hy⟩)
  ·rw[if_neg hy]at h
   exact .inl (sh_inj hx hy h)
theorem dl_ab(a b:Nat)(hne:b≠a):dl a b a=dl a b b:=by
 unfold dl
 rw[if_pos rfl,if_neg hne]
theorem cdl_down{a b:Nat}{es:List (Nat × Nat)}{i j:Nat}(hne:b≠a)(c:Conn (es++[(a,b)]) i j):Conn (es.map fun e=>(dl a b e.1,dl a b e.2)) (dl a b i) (dl a b j):=by
 induction c with
 | refl i=>exact .refl _
 | edge q =>
  rcases List.mem_append.mp q with q | q
  ·exact .edge (List.mem_map.mpr ⟨_,q,rfl⟩)
  ·have e:=List.mem_singleton.mp q
   injection e with e1 e2
   rw[e1,e2,dl_ab a b hne]
   exact .refl _
 | symm _ ih=>exact .symm ih
 | trans _ _ a b=>exact .trans a b
theorem cdl_lift{a b:Nat}{es:List (Nat × Nat)}{u v:Nat}(hne:b≠a)(c:Conn (es.map fun e=>(dl a b e.1,dl a b e.2)) u v):∀ i j,dl a b i=u->dl a b j=v->Conn (es++[(a,b)]) i j:=by
 have he:Conn (es++[(a,b)]) a b:=.edge (by simp)
 have same:∀ i j,dl a b i=dl a b j->Conn (es++[(a,b)]) i j:=fun i j e=>by
  rcases dl_eq hne e with e | ⟨e1,e2⟩ | ⟨e1,e2⟩
  ·rw[e];exact .refl _
  ·rw[e1,e2];exact he
  ·rw[e1,e2];exact he.symm
 induction c with
 | refl u=>exact fun i j e1 e2=>same i j (e1.trans e2.symm)
 | edge q =>
  intro i j e1 e2
  obtain⟨⟨x,y⟩,hxy,e⟩:=List.mem_map.mp q
  injection e with x1 x2
  exact(same i x (e1.trans x1.symm)).trans (.trans (.edge (List.mem_append_left _ hxy)) (same y j (x2.trans e2.symm)))
 | symm _ ih=>exact fun i j e1 e2=>(ih j i e2 e1).symm
 | @trans x y z _ _ ih1 ih2=>exact fun i j e1 e2=>(ih1 i (sk a y) e1 (dl_sk a b y)).trans (ih2 (sk a y) j (dl_sk a b y) e2)
theorem dl_lt{a b x k:Nat}(ha:a<k+1)(hb:b<k+2)(hne:b≠a)(hx:x<k+2):dl a b x<k+1:=by
 unfold dl sh
 by_cases h:x=a
 ·rw[if_pos h]
  split <;> omega
 ·rw[if_neg h]
  split <;> omega
theorem cdl{a b k:Nat}{es:List (Nat × Nat)}(ha:a<k+1)(hb:b<k+2)(hne:b≠a):(∀ i j,i<k+2->j<k+2->Conn (es++[(a,b)]) i j)↔∀ i j,i<k+1->j<k+1->Conn (es.map fun e=>(dl a b e.1,dl a b e.2)) i j:=by
 constructor
 ·intro c i j h1 h2
  have:=cdl_down hne (c (sk a i) (sk a j) (sk_lt h1) (sk_lt h2))
  rw[dl_sk,dl_sk]at this
  exact this
 ·exact fun c i j h1 h2=>cdl_lift hne (c _ _ (dl_lt ha hb hne h1) (dl_lt ha hb hne h2)) i j rfl rfl
def drE(a b:Nat)(E:List Ed):List Ed:=E.map fun e=>(dl a b e.1,dl a b e.2.1,e.2.2)
theorem drE_get{a b:Nat}{E:List Ed}{z:Int}(h0:0<=z)(h1:z<(E.length:Int)):(drE a b E).getD z.toNat (0,0,0)=(dl a b (E.getD z.toNat (0,0,0)).1,dl a b (E.getD z.toNat (0,0,0)).2.1,(E.getD z.toNat (0,0,0)).2.2):=by
 unfold drE
 rw[List.getD_eq_getElem?_getD,List.getD_eq_getElem?_getD,List.getElem?_map,List.getElem?_eq_getElem (by omega)]
 rfl
theorem drE_map{a b:Nat}{E:List Ed}{T:List Int}(h:IsSet E.length T):T.map (edE (drE a b E))=(T.map (edE E)).map fun e=>(dl a b e.1,dl a b e.2):=by
 rw[List.map_map]
 refine List.map_congr_left fun z hz=>?_
 have:=h.all z hz
 unfold edE
 rw[drE_get this.1 this.2]
 rfl
theorem drE_wt{a b:Nat}{E:List Ed}{T:List Int}(h:∀ z∈T,0<=z/\z<(E.length:Int)):wtE (drE a b E) T=wtE E T:=by
 induction T with
 | nil=>rfl
 | cons z T ih =>
  have hz:=h z List.mem_cons_self
  show _ * wtE (drE a b E) T=_ * wtE E T
  rw[drE_get hz.1 hz.2,ih fun y hy=>h y (List.mem_cons_of_mem _ hy)]
theorem isT_dr{k a b:Nat}{E:List Ed}{e:Ed}{T:List Int}(ha:a<k+1)(hb:b<k+2)(hne:b≠a)(he:(e.1=a/\e.2.1=b)\/(e.1=b/\e.2.1=a))(h:IsSet E.length T):IsT (k+1) (E++[e]) (T++[(E.length:Int)])↔IsT k (drE a b E) T:=by
 have hl:(drE a b E).length=E.length:=List.length_map ..
 have hc:(∀ i j,i<k+2->j<k+2->Conn ((T++[(E.length:Int)]).map (edE (E++[e]))) i j)↔∀ i j,i<k+2->j<k+2->Conn (T.map (edE E)++[(a,b)]) i j:=by
  rw[map_snoc h]
  rcases he with ⟨e1,e2⟩ | ⟨e1,e2⟩
  ·rw[e1,e2]
  ·rw[e1,e2]
   exact⟨fun c i j x y=>conn_flip (c i j x y),fun c i j x y=>conn_flip (c i j x y)⟩
 have h2:IsSet (E++[e]).length (T++[(E.length:Int)]):=by rw[List.length_append];exact h.snoc
 constructor
 ·rintro⟨_,x,y⟩
  refine⟨hl ▸ h,?_,?_⟩
  ·rw[List.length_append,List.length_singleton]at x
   omega
  ·rw[drE_map h]
   exact(cdl ha hb hne).mp (hc.mp y)
 ·rintro⟨_,x,y⟩
  rw[drE_map h]at y
  refine⟨h2,by rw[List.length_append,List.length_singleton,x],hc.mpr ((cdl ha hb hne).mpr y)⟩
theorem isT_loop{k:Nat}{E:List Ed}{e:Ed}{T:List Int}(hE:∀ f∈E,f.1<k+1/\f.2.1<k+1)(he:e.1=e.2.1)(h:IsSet E.length T):¬ IsT k (E++[e]) (T++[(E.length:Int)]):=by
 rintro⟨_,x,y⟩
 rw[map_snoc h]at y
 have hcov:∀ i j,i<k+1->j<k+1->Conn (T.map (edE E)) i j:=fun i j hi hj=>(y i j hi hj).lift fun f hf=>by
  rcases List.mem_append.mp hf with q | q
  ·exact .edge q
  ·rw[List.mem_singleton.mp q,he]
   exact .refl _
 have hin:InN (k+1) (T.map (edE E)):=fun f hf=>by
  obtain⟨z,hz,rfl⟩:=List.mem_map.mp hf
  have:=h.all z hz
  unfold edE
  rw[List.getD_eq_getElem?_getD,List.getElem?_eq_getElem (by omega)]
  exact hE _ (List.getElem_mem _)
 have h2:=(cnt_conn (by omega) hin).mpr hcov
 have h3:=cnt_lms _ hin
 rw[List.length_map]at h3
 rw[List.length_append,List.length_singleton]at x
 omega
theorem tw_loop{k:Nat}{E:List Ed}{e:Ed}{s:Int}(hE:∀ f∈E,f.1<k+1/\f.2.1<k+1)(he:e.1=e.2.1)(h:TW k E s):TW k (E++[e]) s:=by
 obtain⟨L,a1,a2,a3⟩:=h
 refine⟨L,a1,fun T=>?_,?_⟩
 ·rw[a2]
  constructor
  ·exact fun h=>(isT_up h.1).mpr h
  ·intro h
   have hs:=h.1
   rw[List.length_append]at hs
   rcases set_last hs with c | ⟨T',c,c2⟩
   ·exact(isT_up c).mp h
   ·exact absurd (c ▸ h) (isT_loop hE he c2)
 ·rw[<- a3]
  refine congrArg List.sum (List.map_congr_left fun T hT=>wt_up ((a2 T).mp hT).1.all)
theorem sum_app(a b:List Int):(a++b).sum=a.sum+b.sum:=by
 induction a with
 | nil=>rw[List.nil_append,List.sum_nil,Int.zero_add]
 | cons x a ih=>rw[List.cons_append,List.sum_cons,List.sum_cons,ih];omega
theorem sum_scale(w:Int)(l:List (List Int))(f:List Int->Int):(l.map fun T=>f T * w).sum=w * (l.map f).sum:=by
 induction l with
 | nil=>rw[List.map_nil,List.map_nil,List.sum_nil,Int.mul_zero]
 | cons x l ih=>rw[List.map_cons,List.map_cons,List.sum_cons,List.sum_cons,ih,Int.mul_add,Int.mul_comm]
theorem tw_part{k a b:Nat}{E:List Ed}{e:Ed}{s1 s2:Int}(ha:a<k+1)(hb:b<k+2)(hne:b≠a)(he:(e.1=a/\e.2.1=b)\/(e.1=b/\e.2.1=a))(h1:TW (k+1) E s1)(h2:TW k (drE a b E) s2):TW (k+1) (E++[e]) (s1+e.2.2 * s2):=by
 obtain⟨L,a1,a2,a3⟩:=h1
 obtain⟨M,b1,b2,b3⟩:=h2
 have hl:(drE a b E).length=E.length:=List.length_map ..
 refine⟨L++M.map (·++[(E.length:Int)]),List.nodup_append.mpr ⟨a1,?_,fun x hx y hy c=>?_⟩,fun T=>?_,?_⟩
 ·exact List.Pairwise.map _ (fun x y h c=>h (List.append_cancel_right c)) b1
 ·obtain⟨z,hz,c2⟩:=List.mem_map.mp hy
  have:=((a2 x).mp hx).1.all (E.length:Int) (by rw[c,<- c2];simp)
  omega
 ·rw[List.mem_append,a2,List.mem_map]
  constructor
  ·rintro(h | ⟨T',hT,rfl⟩)
   ·exact(isT_up h.1).mpr h
   ·have:=(b2 T').mp hT
    exact(isT_dr ha hb hne he (hl ▸ this.1)).mpr this
  ·intro h
   have hs:=h.1
   rw[List.length_append]at hs
   rcases set_last hs with c | ⟨T',c,c2⟩
   ·exact .inl ((isT_up c).mp h)
   ·exact .inr ⟨T',(b2 T').mpr ((isT_dr ha hb hne he c2).mp (c ▸ h)),c.symm⟩
 ·rw[List.map_append,sum_app,List.map_map]
  have e1:L.map (wtE (E++[e]))=L.map (wtE E):=List.map_congr_left fun T hT=>wt_up ((a2 T).mp hT).1.all
  have e2:M.map (wtE (E++[e]) ∘ (·++[(E.length:Int)]))=M.map fun T=>wtE (drE a b E) T * e.2.2:=List.map_congr_left fun T hT=>by
   have hs:IsSet E.length T:=hl ▸ ((b2 T).mp hT).1
   show wtE (E++[e]) (T++[(E.length:Int)])=_
   rw[wtE_app,wt_up hs.all,drE_wt hs.all]
   show _ * (((E++[e]).getD (E.length:Int).toNat (0,0,0)).2.2 * 1)=_
   rw[getD_last,Int.mul_one]
  rw[e1,e2,a3,sum_scale,b3]
theorem ind_dl{a b u v i:Nat}(hne:b≠a):ind (dl a b u) (dl a b v) i=ind u v (sk a i)+(if sk a i=b then ind u v a else 0):=by
 have key:∀ x:Nat,((if i=dl a b x then 1 else 0:Int))=(if sk a i=x then 1 else 0)+(if sk a i=b then (if a=x then 1 else 0) else 0):=fun x=>by
  unfold dl
  by_cases hx:x=a
  ·rw[if_pos hx,if_neg (show ¬ sk a i=x from hx ▸ sk_ne a i),Int.zero_add]
   by_cases h:sk a i=b
   ·rw[if_pos h,if_pos hx.symm,if_pos]
    rw[<- h,sh_sk]
   ·rw[if_neg h,if_neg]
    intro e
    exact h (by rw[e,sk_sh hne])
  ·rw[if_neg hx]
   have e2:(if sk a i=b then (if a=x then 1 else 0:Int) else 0)=0:=by
    rw[if_neg (Ne.symm hx)]
    split <;> rfl
   rw[e2,Int.add_zero]
   by_cases h:sk a i=x
   ·rw[if_pos h,if_pos]
    rw[<- h,sh_sk]
   ·rw[if_neg h,if_neg]
    intro e
    exact h (by rw[e,sk_sh hx])
 unfold ind
 rw[key u,key v]
 by_cases h:sk a i=b
 ·rw[if_pos h,if_pos h,if_pos h]
  omega
 ·rw[if_neg h,if_neg h,if_neg h]
  omega
theorem lapE_dr{a b:Nat}(hne:b≠a)(i j:Nat):∀ E:List Ed,lapE (drE a b E) i j=fold2 (lapE E) a b (sk a i) (sk a j)
 | []=>by
  show(0:Int)=_
  unfold fold2 lapE
  by_cases h:sk a i=b
  ·by_cases h2:sk a j=b
   ·rw[if_pos h,if_pos h2];rfl
   ·rw[if_pos h,if_neg h2];rfl
  ·by_cases h2:sk a j=b
   ·rw[if_neg h,if_pos h2];rfl
   ·rw[if_neg h,if_neg h2];rfl
 | e :: E=>by
  have ih:=lapE_dr hne i j E
  show e.2.2 * (ind (dl a b e.1) (dl a b e.2.1) i * ind (dl a b e.1) (dl a b e.2.1) j)+lapE (drE a b E) i j=_
  rw[ih,ind_dl hne,ind_dl hne]
  unfold fold2
  show _=(e.2.2 * (ind e.1 e.2.1 (sk a i) * ind e.1 e.2.1 (sk a j))+lapE E (sk a i) (sk a j)+(if sk a i=b then e.2.2 * (ind e.1 e.2.1 a * ind e.1 e.2.1 (sk a j))+lapE E a (sk a j) else 0))+(if sk a j=b then (e.2.2 * (ind e.1 e.2.1 (sk a i) * ind e.1 e.2.1 a)+lapE E (sk a i) a)+(if sk a i=b then e.2.2 * (ind e.1 e.2.1 a * ind e.1 e.2.1 a)+lapE E a a else 0) else 0)
  generalize ind e.1 e.2.1 (sk a i)=x
  generalize ind e.1 e.2.1 (sk a j)=y
  generalize ind e.1 e.2.1 a=z
  generalize e.2.2=w
  by_cases h:sk a i=b
  ·by_cases h2:sk a j=b
   ·simp only [if_pos h,if_pos h2,Int.mul_add,Int.add_mul]
    omega
   ·simp only [if_pos h,if_neg h2,Int.mul_add,Int.add_mul,Int.add_zero,Int.mul_zero]
    omega
  ·by_cases h2:sk a j=b
   ·simp only [if_neg h,if_pos h2,Int.mul_add,Int.add_mul,Int.add_zero,Int.zero_mul]
    omega
   ·simp only [if_neg h,if_neg h2,Int.add_zero]
theorem ind_swap(u v i:Nat):ind v u i=- ind u v i:=by
 unfold ind
 omega
theorem det_lap{k a b:Nat}{E:List Ed}{e:Ed}(ha:a<k+1)(hb:b<k+2)(hne:b≠a)(he:(e.1=a/\e.2.1=b)\/(e.1=b/\e.2.1=a)):det (k+1) (lapE (E++[e]))=det (k+1) (lapE E)+e.2.2 * det k (lapE (drE a b E)):=by
 have e1:det (k+1) (lapE (E++[e]))=det (k+1) (fun i j=>lapE E i j+e.2.2 * (ind a b i * ind a b j)):=det_congr fun i j _ _=>by
  rw[lapE_snoc]
  rcases he with ⟨x,y⟩ | ⟨x,y⟩
  ·rw[x,y]
  ·rw[x,y,ind_swap a b i,ind_swap a b j,Int.neg_mul_neg]
 have e2:det k (lapE (drE a b E))=det k (fun i j=>fold2 (lapE E) a b (sk a i) (sk a j)):=det_congr fun i j _ _=>lapE_dr hne i j E
 rw[e1,e2]
 by_cases hk:b<k+1
 ·exact det_tie ha hk (Ne.symm hne)
 ·have e3:det (k+1) (fun i j=>lapE E i j+e.2.2 * (ind a b i * ind a b j))=det (k+1) (fun i j=>lapE E i j+e.2.2 * ((if i=a then 1 else 0) * (if j=a then 1 else 0))):=det_congr fun i j hi hj=>by
   unfold ind
   rw[if_neg (show ¬ i=b by omega),if_neg (show ¬ j=b by omega),Int.sub_zero,Int.sub_zero]
  have e4:det k (fun i j=>fold2 (lapE E) a b (sk a i) (sk a j))=det k (fun i j=>lapE E (sk a i) (sk a j)):=det_congr fun i j hi hj=>by
   have h1:=sk_lt (j:=a) hi
   have h2:=sk_lt (j:=a) hj
   unfold fold2
   rw[if_neg (show ¬ sk a i=b by omega),if_neg (show ¬ sk a j=b by omega),Int.add_zero,Int.add_zero]
  rw[e3,e4]
  exact det_diag ha
theorem lapE_loop{E:List Ed}{e:Ed}(he:e.1=e.2.1):lapE (E++[e])=lapE E:=by
 funext i j
 rw[lapE_snoc,he]
 unfold ind
 rw[Int.sub_self,Int.zero_mul,Int.mul_zero,Int.add_zero]
theorem matrix_tree:∀(m k:Nat) (E:List Ed),E.length=m->(∀ e∈E,e.1<k+1/\e.2.1<k+1)->TW k E (det k (lapE E))
 | 0,k,E,hm,_=>by
  obtain rfl:=List.length_eq_zero_iff.mp hm
  cases k with
  | zero =>
   refine⟨[[]],by simp,fun T=>?_,rfl⟩
   rw[List.mem_singleton]
   constructor
   ·rintro rfl
    exact⟨IsSet.nil _,rfl,fun i j hi hj=>by
     have:i=j:=by omega
     rw[this]
     exact .refl j⟩
   ·intro h
    exact List.length_eq_zero_iff.mp h.2.1
  | succ k =>
   refine⟨[],.nil,fun T=>⟨fun h=>(by cases h),fun h=>?_⟩,?_⟩
   ·have h1:=h.1.len
    have h2:=h.2.1
    rw[List.length_nil]at h1
    omega
   ·exact(det_row0 (i:=0) (by omega) fun j _=>rfl).symm
 | m+1,k,E,hm,hE=>by
  obtain⟨E',e,rfl⟩:∃ E' e,E=E'++[e]:=⟨E.dropLast,E.getLast (fun h=>by rw[h]at hm;cases hm),(List.dropLast_concat_getLast _).symm⟩
  have hm':E'.length=m:=by rw[List.length_append]at hm;simpa using hm
  have hE':∀ f∈E',f.1<k+1/\f.2.1<k+1:=fun f hf=>hE f (List.mem_append_left _ hf)
  have he:=hE e (by simp)
  have ih:=matrix_tree m k E' hm' hE'
  by_cases hl:e.1=e.2.1
  ·rw[lapE_loop hl]
   exact tw_loop hE' hl ih
  ·obtain⟨k',rfl⟩:∃ k',k=k'+1:=⟨k - 1,by omega⟩
   obtain⟨a,b,ha,hb,hne,hab⟩:∃ a b,a<k'+1/\b<k'+2/\b≠a/\((e.1=a/\e.2.1=b)\/(e.1=b/\e.2.1=a)):=by
    by_cases c:e.1<k'+1
    ·exact⟨e.1,e.2.1,c,he.2,fun h=>hl h.symm,.inl ⟨rfl,rfl⟩⟩
    ·exact⟨e.2.1,e.1,by omega,he.1,hl,.inr ⟨rfl,rfl⟩⟩
   have ih2:=matrix_tree m k' (drE a b E') (by unfold drE;rw[List.length_map];exact hm') fun f hf=>by
    obtain⟨g,hg,rfl⟩:=List.mem_map.mp hf
    have:=hE' g hg
    exact⟨dl_lt ha hb hne this.1,dl_lt ha hb hne this.2⟩
   rw[det_lap ha hb hne hab]
   exact tw_part ha hb hne hab ih ih2
def edsOf(ps:List (Int × Int))(ws:List Int):List Ed:=List.zipWith (fun p w=>(p.1.toNat,p.2.toNat,w)) ps ws
theorem isT_web{n:Int}{ps:List (Int × Int)}{ws:List Int}{T:List Int}(h1:1<=n)(hw:ws.length=ps.length):IsT (n - 1).toNat (edsOf ps ws) T↔IsTree n ps T:=by
 have hl:(edsOf ps ws).length=ps.length:=by unfold edsOf;rw[List.length_zipWith];omega
 have hm:IsSet ps.length T->T.map (edE (edsOf ps ws))=endsOf ps T:=fun hs=>List.map_congr_left fun z hz=>by
  have:=hs.all z hz
  unfold edE edsOf
  rw[List.getD_eq_getElem?_getD,List.getElem?_zipWith,List.getElem?_eq_getElem (by omega),List.getElem?_eq_getElem (show z.toNat<ws.length by omega),List.getD_eq_getElem?_getD,List.getElem?_eq_getElem (by omega)]
  rfl
 unfold IsT IsTree
 rw[hl]
 constructor
 ·rintro⟨a,b,c⟩
  rw[hm a]at c
  exact⟨a,by omega,fun i j hi hj=>c i j (by omega) (by omega)⟩
 ·rintro⟨a,b,c⟩
  rw[hm a]
  exact⟨a,by omega,fun i j hi hj=>c i j (by omega) (by omega)⟩
theorem wt_one{E:List Ed}(h:∀ e∈E,e.2.2=1):∀ {T:List Int},(∀ z∈T,0<=z/\z<(E.length:Int))->wtE E T=1
 | [],_=>rfl
 | z :: T,hb=>by
  have hz:=hb z List.mem_cons_self
  show(E.getD z.toNat (0,0,0)).2.2 * wtE E T=1
  rw[wt_one h fun y hy=>hb y (List.mem_cons_of_mem _ hy),Int.mul_one,List.getD_eq_getElem?_getD,List.getElem?_eq_getElem (by omega)]
  exact h _ (List.getElem_mem _)
theorem sum_ones{l:List (List Int)}{f:List Int->Int}(h:∀ T∈l,f T=1):(l.map f).sum=(l.length:Int):=by
 induction l with
 | nil=>rfl
 | cons x l ih =>
  rw[List.map_cons,List.sum_cons,ih fun T hT=>h T (List.mem_cons_of_mem _ hT),h x List.mem_cons_self,List.length_cons]
  omega
theorem eds_in{n:Int}{ps:List (Int × Int)}(g:GoodW n ps)(ws:List Int):∀ e∈edsOf ps ws,e.1<(n - 1).toNat+1/\e.2.1<(n - 1).toNat+1:=fun e he=>by
 unfold edsOf at he
 obtain⟨i,hi⟩:=List.getElem?_of_mem he
 rw[List.getElem?_zipWith]at hi
 have g1:=g.1
 cases h1:ps[i]? with
 | none=>rw[h1]at hi;cases hi
 | some p =>
  cases h2:ws[i]? with
  | none=>rw[h1,h2]at hi;cases hi
  | some w =>
   rw[h1,h2]at hi
   obtain rfl:=Option.some.inj hi
   obtain⟨a,b,c,d⟩:=g.2.2.2 p (List.mem_of_getElem? h1)
   exact⟨by show p.1.toNat<_;omega,by show p.2.toNat<_;omega⟩
theorem tree_det{n:Int}{ps:List (Int × Int)}(g:GoodW n ps){L:List (List Int)}(hL:L.Nodup)(hm:∀ l,l∈L↔IsTree n ps l):det (n - 1).toNat (lapE (edsOf ps (List.replicate ps.length 1)))=(L.length:Int):=by
 have g1:=g.1
 have hw:(List.replicate ps.length (1:Int)).length=ps.length:=List.length_replicate
 obtain⟨M,a1,a2,a3⟩:=matrix_tree _ (n - 1).toNat (edsOf ps (List.replicate ps.length 1)) rfl (eds_in g _)
 have hl:(edsOf ps (List.replicate ps.length 1)).length=ps.length:=by unfold edsOf;rw[List.length_zipWith,hw];omega
 have w1:∀ e∈edsOf ps (List.replicate ps.length (1:Int)),e.2.2=1:=fun e he=>by
  unfold edsOf at he
  obtain⟨i,hi⟩:=List.getElem?_of_mem he
  rw[List.getElem?_zipWith]at hi
  cases h1:ps[i]? with
  | none=>rw[h1]at hi;cases hi
  | some p =>
   cases h2:(List.replicate ps.length (1:Int))[i]? with
   | none=>rw[h1,h2]at hi;cases hi
   | some w =>
    rw[h1,h2]at hi
    obtain rfl:=Option.some.inj hi
    exact List.eq_of_mem_replicate (List.mem_of_getElem? h2)
 rw[<- a3,sum_ones fun T hT=>wt_one w1 ((a2 T).mp hT).1.all]
 have hp:M.Perm L:=(List.perm_ext_iff_of_nodup a1 hL).mpr fun l=>by rw[a2,hm,isT_web g1 hw]
 rw[hp.length_eq]
end My
namespace L2
open PySem PySem.Spec PyProof.Rows
section
variable{X:Cx}
def rGetL(K:PySem.W.Frag):V->V->Hp->VK->Prop:=fun x y H Q=>∃ p xs i v,x=.ref p/\y=.int i/\SqL K H p xs/\0<=i/\xs[i.toNat]?=some v/\Q v H
theorem get_listK(K:PySem.W.Frag)(hk:X.K=K:=by rfl):PGet X (rGetL K):=by
 subst hk
 intro pins s σ H o i ov iv Q I ro ri h
 obtain⟨p,xs,j,z,rfl,rfl,hq,h0,he,q⟩:=h
 cases ro
 obtain⟨t,rfl⟩:=ri
 obtain⟨its,r,pl,hz⟩:=I.list hq
 obtain⟨w,ew,rw'⟩:=r.get he
 have hl:=r.length
 have hn:=line63
 have hlt:=(List.getElem?_eq_some_iff.mp he).1
 exact wpAny_getItem_list pl.isList h0 (by omega) (by simpa using ew) ⟨z,H,I,rw',q⟩
end
end L2
namespace My
open PySem L2
theorem for_zip{K:PySem.W.Frag}{a b:Addr}{xs ys:List V}{g:TG}{tb:TS}{D:Ends}{σ:St}{H:Hp}(hxy:xs.length=ys.length)(Pv:Nat->St->Hp->Prop)(h0:Pv 0 σ H)(hl:∀ i σ H,i<=xs.length->Pv i σ H->SqL K H a xs/\SqL K H b ys)
  (hs:∀(i:Nat) x y σ H (p:Addr),H p=none->xs[i]?=some x->ys[i]?=some y->Pv i σ H->g (.ref p) σ (upd H p (.tup [x,y])) fun σ2 H2=>tb { D with nx:=Pv (i+1),ct:=Pv (i+1),bk:=D.nx } σ2 H2) (hd:∀ σ H,Pv xs.length σ H->D.nx σ H) :
  ∃ W:Nat->Nat->St->Hp->Prop,(∃ m,W 0 m σ H)/\∀ i m σ H,W i m σ H ->
   ((Itz K a b).stop i H/\D.nx σ H)\/((Itz K a b).go i H/\∃ N:St->Hp->Prop,(∀ σ' H',N σ' H'->∃ m',m'<m/\W (i+1) m' σ' H')/\∀ x H',(Itz K a b).yld i H x H'->g x σ H' fun σ2 H2=>tb { D with nx:=N,ct:=N,bk:=D.nx } σ2 H2):=by
 refine⟨fun i m σ H=>m=xs.length - i/\i<=xs.length/\Pv i σ H,⟨xs.length,by simp,Nat.zero_le _,h0⟩,?_⟩
 rintro i m σ H ⟨rfl,hi,p⟩
 obtain⟨q,q2⟩:=hl i σ H hi p
 by_cases hlt:i<xs.length
 ·refine .inr ⟨⟨xs,ys,xs[i],ys[i]'(by omega),q,q2,by simp[hlt],List.getElem?_eq_getElem (by omega)⟩,Pv (i+1),fun σ' H' p'=>⟨xs.length - (i+1),by omega,rfl,hlt,p'⟩,fun x H' ⟨T,u,v,hT,ex,eH,hu,hv⟩=>?_⟩
  subst ex eH
  exact hs i u v σ H T hT (hu xs q) (hv ys q2) p
 ·have e:i=xs.length:=by omega
  subst e
  exact .inl ⟨⟨xs,ys,q,q2,.inl (Nat.le_refl _)⟩,hd σ H p⟩
structure TabAt (H0:Hp) (r:Addr) (n:Nat) (H:Hp) (ys:List V) (L:List (List Int)):Prop where
 tab:H r=some (.lst ys)
 rows:Bears (LiV r H) ys L
 len:L.length=n
 all:∀ l∈L,l.length=n
 nd:ys.Nodup
 new:∀ A,V.ref A∈ys->H0 A=none
theorem TabAt.same{H0 H H':Hp}{r:Addr}{n:Nat}{ys:List V}{L:List (List Int)}(s:Same H H')(h:TabAt H0 r n H ys L):TabAt H0 r n H' ys L:=⟨s _ _ h.tab,h.rows.imp fun _ _ q=>q.same s,h.len,h.all,h.nd,h.new⟩
theorem TabAt.at{H0 H:Hp}{r:Addr}{n:Nat}{ys:List V}{L:List (List Int)}(h:TabAt H0 r n H ys L){i:Nat}(hi:i<n):∃(A:Addr) (l:List Int),ys[i]?=some (.ref A)/\L[i]?=some l/\H A=some (.lst (IL l))/\l.length=n/\H0 A=none/\A≠r:=by
 have hl:=h.len
 obtain⟨l,e⟩:∃ l,L[i]?=some l:=⟨_,List.getElem?_eq_getElem (by omega)⟩
 obtain⟨v,e1,A,rfl,e2,e3⟩:=h.rows.2 i l e
 exact⟨A,l,e1,e,e2,h.all l (List.mem_of_getElem? e),h.new A (List.mem_of_getElem? e1),e3⟩
theorem TabAt.put{H0 H:Hp}{r:Addr}{n:Nat}{ys:List V}{L:List (List Int)}(h:TabAt H0 r n H ys L){i:Nat}{A:Addr}{l l':List Int}(e1:ys[i]?=some (.ref A))(e2:L[i]?=some l)(e3:A≠r)(hl:l'.length=n):TabAt H0 r n (upd H A (.lst (IL l'))) ys (L.set i l'):=by
 have hi:=(List.getElem?_eq_some_iff.mp e2).1
 have hil:=(List.getElem?_eq_some_iff.mp e1).1
 refine⟨by rw[upd_ne (Ne.symm e3)];exact h.tab,⟨by rw[List.length_set];exact h.rows.1,fun j m em=>?_⟩,by rw[List.length_set];exact h.len,fun m hm=>?_,h.nd,h.new⟩
 ·rw[List.getElem?_set]at em
  by_cases c:i=j
  ·subst c
   rw[if_pos rfl,if_pos hi]at em
   obtain rfl:=Option.some.inj em
   exact⟨_,e1,A,rfl,ζ1,e3⟩
  ·rw[if_neg c]at em
   obtain⟨v,f1,B,rfl,f2,f3⟩:=h.rows.2 j m em
   refine⟨_,f1,B,rfl,?_,f3⟩
   rw[upd_ne]
   ·exact f2
   ·intro e
    rw[e]at f1
    exact c (nodup_get h.nd e1 f1)
 ·rcases List.mem_or_eq_of_mem_set hm with e | e
  ·exact h.all m e
  ·rw[e];exact hl
theorem fnL_put{L:List (List Int)}{l:List Int}{i j:Nat}{x:Int}(hi:L[i]?=some l)(hj:j<l.length)(a b:Nat):fnL (L.set i (l.set j x)) a b=if a=i/\b=j then x else fnL L a b:=by
 have hil:=(List.getElem?_eq_some_iff.mp hi).1
 unfold fnL
 by_cases ha:a=i
 ·subst ha
  have e1:(L.set a (l.set j x)).getD a []=l.set j x:=by rw[List.getD_eq_getElem?_getD,List.getElem?_set,if_pos rfl,if_pos hil];rfl
  have e2:L.getD a []=l:=by rw[List.getD_eq_getElem?_getD,hi];rfl
  rw[e1,e2]
  by_cases hb:b=j
  ·subst hb
   rw[if_pos ⟨rfl,rfl⟩,List.getD_eq_getElem?_getD,List.getElem?_set,if_pos rfl,if_pos hj]
   rfl
  ·rw[if_neg (fun h=>hb h.2),List.getD_eq_getElem?_getD,List.getElem?_set,if_neg (Ne.symm hb),<- List.getD_eq_getElem?_getD]
 ·have e1:(L.set i (l.set j x)).getD a []=L.getD a []:=by rw[List.getD_eq_getElem?_getD,List.getD_eq_getElem?_getD,List.getElem?_set,if_neg (Ne.symm ha)]
  rw[e1,if_neg (fun h=>ha h.1)]
theorem four{A:Mx}{u v:Nat}{w:Int}(hne:u≠v)(a b:Nat){B C D E:Mx}(h1:∀ a b,B a b=if a=u/\b=u then A u u+w else A a b)(h2:∀ a b,C a b=if a=v/\b=v then B v v+w else B a b)(h3:∀ a b,D a b=if a=u/\b=v then C u v - w else C a b)(h4:∀ a b,E a b=if a=v/\b=u then D v u - w else D a b):E a b=A a b+w * (ind u v a * ind u v b):=by
 have nv:¬ v=u:=Ne.symm hne
 unfold ind
 by_cases x1:a=u
 ·subst x1
  by_cases y1:b=a
  ·subst y1
   simp[h4,h3,h2,h1,hne,nv]
  ·by_cases y2:b=v
   ·subst y2
    simp[h4,h3,h2,h1,hne,nv]
    omega
   ·simp[h4,h3,h2,h1,hne,nv,y1,y2]
 ·by_cases x2:a=v
  ·subst x2
   by_cases y1:b=u
   ·subst y1
    simp[h4,h3,h2,h1,hne,nv]
    omega
   ·by_cases y2:b=a
    ·subst y2
     simp[h4,h3,h2,h1,hne,nv]
    ·simp[h4,h3,h2,h1,hne,nv,y1,y2]
  ·simp[h4,h3,h2,h1,hne,nv,x1,x2]
theorem eds_snoc{ps:List (Int × Int)}{ws:List Int}{i:Nat}{p:Int × Int}{w:Int}(hp:ps[i]?=some p)(hw:ws[i]?=some w):edsOf (ps.take (i+1)) (ws.take (i+1))=edsOf (ps.take i) (ws.take i)++[(p.1.toNat,p.2.toNat,w)]:=by
 have h1:=(List.getElem?_eq_some_iff.mp hp).1
 have h2:=(List.getElem?_eq_some_iff.mp hw).1
 unfold edsOf
 rw[List.take_succ,List.take_succ,hp,hw]
 rw[List.zipWith_append (by rw[List.length_take,List.length_take];omega)]
 rfl
end My
namespace L2
open PySem
end L2
namespace L2
open PySem PySem.Spec PyProof.Rows
section
variable{prog:Program}{w:World}{A:Around}{E:Value->Shared->Prop}{s:Shared}
end
section
variable{prog:Program}{w:World}{A:Around}{R:Result->Shared->Prop}{I:Addr}{fp wr:List Addr}{G:Array GenState->Array GenState->Prop}{n:Nat}{P:Nat->Value->Prop}{St:Nat->Shared->Prop}
end
section
variable{prog:Program}{w:World}{A:Around}{E:Value->Shared->Prop}{s:Shared}
end
section
variable{prog:Program}{w:World}{A:Around}{E:Value->Shared->Prop}{s:Shared}
end
def IsSi (h:Heap) (I a:Addr) (f:Value) (i n ep:Nat):Prop:=∃ o,h.get? I=some o/\o.cls=.type "set_iterator"/\o.data=.fields #[f,rawInt (i:Int),.ref a,rawInt (n:Int),rawInt (ep:Int)]
theorem IsSi.keep{h h':Heap}{I a:Addr}{f:Value}{i n ep:Nat}(x:IsSi h I a f i n ep)(e:∀ o,h.get? I=some o->h'.get? I=some o):IsSi h' I a f i n ep:=let ⟨o,p,q⟩:=x;⟨o,e _ p,q⟩
def SetIs(h:Heap)(a:Addr)(es:Array (Int × Value))(ep:Nat)(t:SetTable):Prop:=∃ o,h.get? a=some o/\o.ExactSet/\o.data=.set es ep t
theorem SetIs.keep{h h':Heap}{a:Addr}{es:Array (Int × Value)}{ep:Nat}{t:SetTable}(x:SetIs h a es ep t)(e:∀ o,h.get? a=some o->h'.get? a=some o):SetIs h' a es ep t:=let ⟨o,p,q⟩:=x;⟨o,e _ p,q⟩
section
variable{prog:Program}{w:World}{A:Around}{E:Value->Shared->Prop}{s:Shared}
end
section
variable{prog:Program}{w:World}{A:Around}{E:Value->Shared->Prop}{s:Shared}
end
section
variable{prog:Program}{w:World}{A:Around}{E:Value->Shared->Prop}{s:Shared}
def IsPl(h:Heap)(b:Addr)(pl:List Nat):Prop:=∃ o n,h.get? b=some o/\o.data=.seq (pl.map fun(i:Nat)=>rawInt (i:Int)).toArray n
theorem IsPl.keep{h h':Heap}{b:Addr}{pl:List Nat}(x:IsPl h b pl)(e:∀ o,h.get? b=some o->h'.get? b=some o):IsPl h' b pl:=let ⟨o,n,p,q⟩:=x;⟨o,n,e _ p,q⟩
end
section
variable{prog:Program}{w:World}{A B:Around}{E:Value->Shared->Prop}{s:Shared}
end
section
variable{prog:Program}{w:World}{A:Around}{E:Value->Shared->Prop}{s:Shared}
end
section
variable{prog:Program}{w:World}{A:Around}{E:Value->Shared->Prop}{s:Shared}
end
section
variable{X:Cx}{p p2 pos pos2:Pos}{e:Expr}{t:TA}
end
end L2
namespace My
open PySem L2
def PC(n:Int)(ps:List (Int × Int))(I O:List Int)(c:Nat):Prop:=∃ L:List (List Int),L.Nodup/\(∀ l,l∈L↔IsTree n ps l/\(∀ z∈I,z∈l)/\∀ z∈O,z∉l)/\L.length=c
section
variable{n:Int}{ps:List (Int × Int)}{I O S:List Int}{f g:Nat->Nat}{k:Nat}
end
section
variable{N:Nat}{es:List (Nat × Nat)}{F:List Int}
end
theorem tc_map{n n':Int}{ps ps':List (Int × Int)}{c:Nat}(F G:List Int->List Int)(hF:∀ T,IsTree n ps T->IsTree n' ps' (F T)/\G (F T)=T)(hG:∀ T,IsTree n' ps' T->IsTree n ps (G T)/\F (G T)=T)(h:TC n ps c):TC n' ps' c:=by
 obtain⟨L,h1,h2,h3⟩:=h
 have nd:(L.map F).Nodup:=List.pairwise_map.mpr (h1.imp_of_mem fun {a b} ha hb hab e=>hab (by rw[<- (hF a ((h2 a).mp ha)).2,<- (hF b ((h2 b).mp hb)).2,e]))
 refine⟨L.map F,nd,fun T=>?_,by rw[List.length_map,h3]⟩
 ·rw[List.mem_map]
  exact⟨fun⟨S,hS,e⟩=>e ▸ (hF S ((h2 S).mp hS)).1,fun hT=>⟨G T,(h2 _).mpr (hG T hT).1,(hG T hT).2⟩⟩
section
variable{K:PySem.W.Frag}{a:Addr}{xs:List V}{g:TG}{tt:TT}{te:TE}{o:Nat}{fr:List Nat}{σ:St}{H:Hp}{Q:VK}
end
section
variable{n:Int}{ps:List (Int × Int)}{I O:List Int}{i b c:Nat}
end
end My
namespace L2
open PySem PySem.Spec PyProof.Rows
section
variable{X:Cx}
end
end L2
namespace My
open PySem L2
theorem contS{s rest:TS}{D:Ends}{σ:L2.St}{H:Hp}(P:L2.St->Hp->Prop)(h1:∀ σ' H',P σ' H'->rest D σ' H')(h2:∀ K:L2.St->Hp->Prop,(∀ σ' H',P σ' H'->K σ' H')->s { D with nx:=K } σ H):tSeq s rest D σ H:=h2 _ h1
theorem asgC{c:V}{i:Nat}{rest:TS}{D:Ends}{σ:L2.St}{H:Hp}(h:rest D (σ.set i (some c)) H):tSeq (tAsg (tC c) (gName i)) rest D σ H:=h
end My
namespace L2
open PySem PySem.Spec PyProof.Rows
section
variable{X:Cx}
end
end L2
namespace My
open PySem L2
end My
namespace HT
open PySem PyProof.Rows
section
open PySem.SeqAt
open PySem.AutoSeq1 (wpAny_loadPart')
open PySem.MeetsSeq PySem.MeetsSeq2 PySem.MeetsSeq3
end
section
variable{prog:Program}{w:World}{A:Around}{E:Value->Shared->Prop}{s:Shared}
end
end HT
namespace L2
open PySem PySem.Spec PyProof.Rows
section
variable{X:Cx}
end
end L2
namespace My
open PySem L2
end My
namespace L2
open PySem PySem.Spec PyProof.Rows
section
variable{M:Model}{A:Around}{E:Value->Shared->Prop}{s:Shared}
end
structure CompScopeD (sc0:Scope) (N N':List Str) (o:Nat) (fr:List Nat) (scope:Scope) (xo:Str):Prop where
 kind:scope.kind=.function
 one:(scope.names.filter fun y=>y.2 == .cell)=[(xo,.cell)]
 loc:(scope.names.all fun y=>y.2 != .local || scope.names.lookup y.1 == some .local)=true
 free:(scope.names.all fun y=>y.2 != .free || (y.1 != xo && (sc0.names.lookup y.1 == some .cell || sc0.names.lookup y.1 == some .free)))=true
 len:N'.length=o+fr.length
 sees:((List.range fr.length).all fun j=>match fr[j]? with
  | none=>false
  | some y=>match N[y]? with
   | none=>false
   | some x=>N'[o+j]? == some x && scope.names.lookup x == some .free)=true
section
variable{X:Cx}{pins:List (Addr × Obj)}{σ:St}{H:Hp}{s:Shared}{N':List Str}{o:Nat}{fr:List Nat}{scope:Scope}{fp:List Addr}{xo:Str}
end
section
variable{xo:Str}{X:Cx}{N':List Str}{o:Nat}{fr:List Nat}{scope:Scope}{elt tg iter:Expr}{ifs:List Expr}{pos:Pos}{wi:TI}{g:TG}{tt:TT}{te:TE}
end
end L2
namespace My
open PySem L2
end My
namespace L2
open PySem PySem.Spec PyProof.Rows
section
variable{prog:Program}{w:World}{A:Around}{E:Value->Shared->Prop}{s:Shared}
theorem nxT_item{j t:Addr}{i:Nat}{us:Array Value}{u:Value}{Q:Value->Shared->Prop}(hj:s.heap.IsTupleIter j t i)(ht:s.heap.IsTuple t us)(hu:us[i]?=some u)
  (q:∀ h',h'.IsTupleIter j t (i+1)->Heap.SameBut j s.heap h'->Q u { s with heap:=h' }):wpAny (model prog w) A (Builtin.SmallTypes.nextOf (.ref j)) Q E s:=by
 obtain⟨o1,e1,c1,d1⟩:=id hj
 obtain⟨o2,e2,_,n2,d2⟩:=ht
 unfold Builtin.SmallTypes.nextOf
 refine wpAny_bind (wpAny_callSpecial?_slot (name:=Str.ofString "__next__") hj.typeIs F.slot_tuple_iterator_next (wpAny_call_entry F.slot_tuple_iterator_next hj.typeIs F.entry_tuple_iterator_next ?_ (F.args_tuple_iterator_next_1 _)))
 show wpAny _ _ (field (.ref j) 0 >>= _) _ _ s
 refine wpAny_bind (wpAny_field e1 d1 (x:=.ref t) rfl ?_)
 rw[if_neg (show ¬ (Value.ref t == Value.none)=true from Bool.false_ne_true)]
 show wpAny _ _ (field (.ref j) 1 >>= _) _ _ s
 refine wpAny_bind (wpAny_field e1 d1 (x:=.int i 0) rfl ?_)
 show wpAny _ _ (seqItems? (.ref t) >>= _) _ _ s
 refine wpAny_bind (wpAny_seqItems e2 d2 ?_)
 simp only [hu,Int.toNat_natCast]
 refine wpAny_bind (wpAny_setField e1 d1 (by simp) (wpAny_pure ⟨u,rfl,wpAny_pure (q _ ?_ (Heap.SameBut.update ..))⟩))
 refine⟨_,Heap.get?_update_self _ e1 (Obj.isFreed_of_fields (Obj.data_mapFields d1 _)),(Obj.cls_mapFields ..).trans c1,?_⟩
 rw[Obj.data_mapFields d1]
 simp[rawInt]
theorem nxT_end{j t:Addr}{i:Nat}{us:Array Value}{Q:Value->Shared->Prop}(hh:A.handled=none)(hj:s.heap.IsTupleIter j t i)(ht:s.heap.IsTuple t us)(hu:us[i]?=none)
  (q:∀ h' e,Heap.ExtBut j s.heap h'->(∃ o,h'.get? e=some o/\o.cls=.type "StopIteration")->E (.ref e) { s with heap:=h' }):wpAny (model prog w) A (Builtin.SmallTypes.nextOf (.ref j)) Q E s:=by
 obtain⟨o1,e1,c1,d1⟩:=id hj
 obtain⟨o2,e2,_,n2,d2⟩:=ht
 unfold Builtin.SmallTypes.nextOf
 refine wpAny_bind (wpAny_callSpecial?_slot (name:=Str.ofString "__next__") hj.typeIs F.slot_tuple_iterator_next (wpAny_call_entry F.slot_tuple_iterator_next hj.typeIs F.entry_tuple_iterator_next ?_ (F.args_tuple_iterator_next_1 _)))
 show wpAny _ _ (field (.ref j) 0 >>= _) _ _ s
 refine wpAny_bind (wpAny_field e1 d1 (x:=.ref t) rfl ?_)
 rw[if_neg (show ¬ (Value.ref t == Value.none)=true from Bool.false_ne_true)]
 show wpAny _ _ (field (.ref j) 1 >>= _) _ _ s
 refine wpAny_bind (wpAny_field e1 d1 (x:=.int i 0) rfl ?_)
 show wpAny _ _ (seqItems? (.ref t) >>= _) _ _ s
 refine wpAny_bind (wpAny_seqItems e2 d2 ?_)
 simp only [hu,Int.toNat_natCast]
 refine wpAny_bind (wpAny_rule (wpAny_bind (wpAny_setField e1 d1 (by simp) (wpAny_bind (m:=newExc (.type "StopIteration") []) ?_))))
 simp only [newTuple,newExc]
 refine wpAny_bind (wpAny_newObj_type (wpAny_bind (m:=firstArgMember _ _) (wpAny_of_eq (a:=Value.none) (by first | rfl | (simp only [firstArgMember];rfl)) (wpAny_newObj_type ?_ (by size_fits)))) (by size_fits))
 unfold raiseNew
 refine wpAny_bind (wpAny_handled ?_)
 first
  | rw[hh]
  | rw[show A.in1.handled=none from hh]
 refine wpAny_bind (wpAny_pure (wpAny_throw (q _ _ (((Heap.SameBut.update ..).extBut.push _).push _) ⟨_,Heap.get?_push_size _ rfl,rfl⟩)))
end
section
variable{prog:Program}{w:World}{A:Around}{E:Value->Shared->Prop}{s:Shared}
end
section
variable{X:Cx}
end
end L2
namespace My
open PySem L2
def ev(b:Int):List Int->Int
 | []=>0
 | d :: l=>d+b * ev b l
end My
namespace L2
open PySem PySem.Spec PyProof.Rows
section
variable{X:Cx}
end
end L2
namespace My
open PySem L2
section
variable{n:Nat}{es:List (Nat × Nat)}(h:InN n es)
include h
end
abbrev lnz(ls:List Int)(z:Int):Int:=ls.getD z.toNat 0
def lwS(ls:List Int)(x:Int):List Int:=(rgL ls.length).filter fun z=>decide (lnz ls z<x)
def mA(N:Nat)(ps:List (Int × Int))(ls:List Int)(x:Int):List Int:=pms N (endsOf ps (lwS ls x))
section
variable{n:Int}{ps:List (Int × Int)}{ls T:List Int}(g:GoodW n ps)(hl:ls.length=ps.length)
include g hl
end
end My
namespace L2
open PySem PySem.Spec PyProof.Rows
section
variable{prog:Program}{w:World}{A:Around}{E:Value->Shared->Prop}{s:Shared}{l:Addr}{xs:Array (Int × Tok)}
end
section
variable{X:Cx}
end
end L2
namespace My
open PySem L2
section
variable{n:Int}{ps:List (Int × Int)}{ls T:List Int}(g:GoodW n ps)(hl:ls.length=ps.length)
include g hl
omit hl in
end
section
variable{n:Int}{ps:List (Int × Int)}{ls Ls S:List Int}{j:Nat}{x:Int}(g:GoodW n ps)(hl:ls.length=ps.length)(hLa:Ls.Pairwise (· < ·))(hLm:∀ z,z∈Ls↔z∈ls)(hx:Ls[j]?=some x)
include hLa hx
include g hl hLm
end
section
variable{n:Int}{ps:List (Int × Int)}{ls T:List Int}(g:GoodW n ps)
include g
end
end My
namespace L2
open PySem PySem.Spec PyProof.Rows My
section
variable{prog:Program}{w:World}{A:Around}{E:Value->Shared->Prop}{s:Shared}
end
section
variable{X:Cx}
end
section
variable{M:Model}{A:Around}{E:Value->Shared->Prop}{s:Shared}
end
section
variable{prog:Program}{w:World}{A:Around}{E:Value->Shared->Prop}{s:Shared}
end
section
variable{X:Cx}
end
end L2
namespace My
open PySem L2
end My
namespace L2
open PySem PySem.Spec PyProof.Rows
section
variable{prog:Program}{w:World}{A:Around}{E:Value->Shared->Prop}{s:Shared}
end
section
variable{prog:Program}{w:World}{A:Around}{E:Value->Shared->Prop}{s:Shared}
end
section
variable{X:Cx}
end
end L2
namespace My
open PySem L2
section
variable{K:PySem.W.Frag}{kd:Bool}{a b:Addr}{xs ys:List V}{g:TG}{tt:TT}{te:TE}{o:Nat}{fr:List Nat}{σ:St}{H:Hp}{Q:VK}
end
section
variable{K:PySem.W.Frag}{kd:Bool}{a b:Addr}{xs ys:List V}{g:TG}{tt:TT}{te:TE}{o:Nat}{fr:List Nat}{σ:St}{H:Hp}{Q:VK}
end
end My
namespace L2
open PySem PySem.Spec PyProof.Rows
section
theorem isTup_tuple{h:Heap}{a:Addr}{us:Array Value}(p:IsTup h a us):h.IsTuple a us:=by
 obtain⟨o,e,c,n,d⟩:=p
 exact⟨o,e,c,n,d⟩
theorem drawsT{prog:Program}{w:World}{A:Around}(hh:A.handled=none)(it l:Addr)(ne:l≠it)(us:Array Value) :
  Draws prog w A it [it,l] us.size (fun i v=>us[i]?=some v) (fun i h=>h.IsTupleIter it l i/\h.IsTuple l us) where
 live:=fun _ _ st=>by
  obtain⟨⟨o,ho,_⟩,_⟩:=st
  exact⟨o,ho⟩
 frame:=fun _ _ _ st hk=>by
  obtain⟨⟨o,ho,r⟩,o2,ho2,r2⟩:=st
  exact⟨⟨o,hk it (by simp) o ho,r⟩,o2,hk l (by simp) o2 ho2,r2⟩
 item:=fun i s Q E hi st q=>nxT_item st.1 st.2 (u:=us[i]) (by simp[hi]) fun g t1 sb=>q _ g s.toks (by simp[hi]) ⟨t1,st.2.extBut sb.extBut ne⟩ sb
 done:=fun s Q E st q=>nxT_end hh st.1 st.2 (by simp) q
variable{prog:Program}{w:World}{A:Around}{E:Value->Shared->Prop}{s:Shared}
set_option maxRecDepth 100000 in
theorem enumT_new(l:Addr)(us:Array Value) :
  Meets (Builtin.«enumerate.__new__» ⟨[.type "enumerate",.ref l],[]⟩) (fun _ R s=>s.heap.IsTuple l us /\
   R (.ok (.ret (.ref (s.heap.push { cls:=.type "tuple_iterator",data:=.fields #[.ref l,.int 0 0] }).objs.size)))
    { s with heap:=(s.heap.push { cls:=.type "tuple_iterator",data:=.fields #[.ref l,.int 0 0] }).push { cls:=.type "enumerate",data:=.fields #[.none,.bool false,.ref s.heap.objs.size,rawInt 0,.none,.none] } }) :=
 .of_wp fun prog w A R s h=>by
  obtain⟨hp,g,d,tk,os⟩:=s
  obtain⟨hl,h⟩:=h
  have q0:=sub_enumerate
  have hL:Heap.IsTuple (Shared.heap ⟨hp,g,d,tk,os⟩) l us:=hl
  obtain⟨⟨c,dct,dt,sl⟩,e1,e2,n,e3⟩:=hl
  simp only at e2 e3
  subst e2 e3
  wp_walk using AutoSeq1.wpAny_loadPart' e1
  refine wpAny_stack_any fun st=>wpAny_pure ?_
  split
  ·rename_i c _ _ _ _ _
   cases (c == Value.type "enumerate")
   all_goals
    wp_walk using AutoSeq1.wpAny_loadPart' e1,wpAny_pyIter_tuple hL
    exact⟨_,rfl,h⟩
  ·wp_walk using AutoSeq1.wpAny_loadPart' e1,wpAny_pyIter_tuple hL
   exact⟨_,rfl,h⟩
theorem call_enumT{l:Addr}{us:Array Value}{Q:Value->Shared->Prop}(ht:s.heap.IsTuple l us)
  (q:∀ g,IsEnum g (s.heap.objs.size+1) s.heap.objs.size 0 .none->g.IsTupleIter s.heap.objs.size l 0->g.objs.size=s.heap.objs.size+2->(∀ b o,s.heap.get? b=some o->g.get? b=some o)->Q (.ref (s.heap.objs.size+1)) { s with heap:=g }) :
  wpAny (model prog w) A (call (.type "enumerate") [.ref l]) Q E s:=by
 refine callType_new F.called_enumerate (by decide) (F.typeCall_enumerate_1 _) (F.newCall_enumerate_1 _) (fun ob=>F.args_object_init_2 ob _) F.entry_enumerate_new (enumT_new l us) ⟨ht,?_⟩
 obtain⟨G,hG⟩:∃ G,G=s.heap.push { cls:=.type "tuple_iterator",data:=.fields #[.ref l,.int 0 0] }:=⟨_,rfl⟩
 have z:G.objs.size=s.heap.objs.size+1:=by rw[hG];exact Heap.size_push ..
 show _/\_
 rw[<- hG,z]
 have e1:=Heap.get?_push_size G (o:={ cls:=.type "enumerate",data:=.fields #[.none,.bool false,.ref s.heap.objs.size,rawInt 0,.none,.none] }) rfl
 rw[z]at e1
 have i1:G.IsTupleIter s.heap.objs.size l 0:=by rw[hG];exact⟨_,Heap.get?_push_size _ rfl,rfl,rfl⟩
 obtain⟨o1,i2,i3⟩:=i1
 refine⟨⟨_,e1,rfl⟩,q _ e1 ⟨o1,Heap.get?_push_of_some _ i2,i3⟩ (by rw[Heap.size_push,z]) fun b o x=>Heap.get?_push_of_some _ (by rw[hG];exact Heap.get?_push_of_some _ x)⟩
end
def IteT(K:PySem.W.Frag)(a:Addr):It :=
 ⟨fun i H=>∃ xs x,SqT K H a xs/\xs[i]?=some x,fun i H v H'=>∃ T x,H T=none/\v=.ref T/\H'=upd H T (.tup [.int i,x])/\∀ xs,SqT K H a xs->xs[i]?=some x,fun i H=>∃ xs,SqT K H a xs/\xs.length<=i⟩
theorem turn_enumT{P:Program}{w:World}{K:PySem.W.Frag}{elts:List Expr}{x1:Nat}{pos:Pos}(a e it:Addr)(hne:e≠it)(hae:a≠e)(hai:a≠it):Turn P w K (.Tuple elts x1 pos) (IteT K a) [e,it] e (fun i h=>(∃ old,IsEnum h e it i old)/\h.IsTupleIter it a i) where
 mem:=by simp
 obj:=fun i h st b hb=>by
  obtain⟨⟨old,he⟩,o,eo,c,d⟩:=st
  rcases List.mem_cons.mp hb with z | hb
  ·subst z
   exact⟨_,he,fun v z=>by
    have z':Data.fields _=Data.cell v:=z
    cases z'⟩
  ·have z:b=it:=by simpa using hb
   subst z
   exact⟨o,eo,fun v z=>by rw[d]at z;cases z⟩
 keep:=fun i h h' st k=>by
  obtain⟨⟨old,he⟩,o,ho,r⟩:=st
  exact⟨⟨old,k e (by simp) _ he⟩,o,k it (by simp) o ho,r⟩
 item:=by
  intro X hP hw hK hc i pins s σ H E I hf st hg
  subst hP hw hK
  obtain⟨xs,x,hq,hx⟩:=hg
  obtain⟨⟨old,he⟩,hit⟩:=st
  obtain⟨its,rv,p,hz⟩:=I.tuple hq
  obtain⟨u,hu,ru⟩:=rv.get hx
  obtain⟨f0,f1,f2,f3,f4,f5⟩:=hf e (by simp)
  obtain⟨g0,g1,g2,g3,g4,g5⟩:=hf it (by simp)
  have hT0:H s.heap.objs.size=none:=I.hok.fresh (Nat.le_refl _)
  have hlt:i<its.toArray.size:=by simpa using (List.getElem?_eq_some_iff.mp hu).1
  have pT:s.heap.IsTuple a its.toArray:=isTup_tuple p
  refine wpAny_pyNext_enum_itemD (drawsT (A:=X.A.in1) (by simpa using I.ok.hd hc) it a hai its.toArray) he ⟨hit,pT⟩ hlt hne (by simp[hne,Ne.symm hae]) fun x' h' tk hx' ho st' hT hsz hk=>?_
  have ex':x'=u:=by
   have e1:its.toArray[i]?=some u:=by simpa using hu
   have e2:its.toArray[i]?=some x':=hx'
   rw[e1]at e2
   exact(Option.some.inj e2).symm
  subst ex'
  have ltT:∀ b ob,s.heap.get? b=some ob->b≠s.heap.objs.size:=fun b ob z=>Nat.ne_of_lt (Heap.lt_size z)
  have ltH:∀ b ob,H b=some ob->b≠s.heap.objs.size:=fun b ob z=>Nat.ne_of_lt (I.hok.lt z)
  have nof:∀ b ob,H b=some ob->b≠e/\b≠it:=fun b ob z=>⟨fun q=>(by rw[q,f0]at z;cases z),fun q=>(by rw[q,g0]at z;cases z)⟩
  have I1:Inv X pins σ (upd H s.heap.objs.size (.tup [.int i,x])) { s with heap:=h',toks:=tk+1 }:=by
   refine I.step (g':=s.gens) (d':=s.drawn) (ch:=[e,it]) (fun b hb=>?_) (fun b o _ _ hcx z _=>hk b o (fun q=>hcx (by simp[q])) (fun q=>hcx (by simp[q])) z) (fun b o _ _ hcx z _=>⟨o.slots,hk b o (fun q=>hcx (by simp[q])) (fun q=>hcx (by simp[q])) z⟩)
    (fun b o _ z n=>by rw[upd_ne (ltT b o z)];exact n) (fun b o hcx z=>⟨o,hk b o (fun q=>hcx (by simp[q])) (fun q=>hcx (by simp[q])) z⟩) (fun b ys z=>by rw[upd_ne (ltH b _ z)];exact z) (fun b o v z=>by rw[upd_ne (ltH b _ z)];exact z)
    (fun b ps z=>⟨#[],by rw[upd_ne (ltH b _ z),z];simp⟩) (fun m hm=>?_) (fun b v z=>?_) I.bare
   ·rcases List.mem_cons.mp hb with q | hb
    ·rw[q];exact⟨f3,f1,f4,f5⟩
    ·have q:b=it:=by simpa using hb
     rw[q];exact⟨g3,g1,g4,g5⟩
   ·obtain⟨o,es,ep,ho',r⟩:=hm
    exact⟨o,es,ep,hk _ o (Ne.symm f1) (Ne.symm g1) ho',r⟩
   ·by_cases hb:b=s.heap.objs.size
    ·subst hb
     rw[ζ1]at z
     cases z
     exact⟨by show 2<=sizeLine;decide,[.int i tk,x'],.cons ⟨_,rfl⟩ (.cons ru .nil),⟨_,hT,rfl,_,rfl⟩⟩
    ·rw[upd_ne hb]at z
     refine(I.hok b v z).stay (fun c w' hc' q=>?_) (fun c q=>by rw[upd_ne (ltH c _ q)];exact q) fun c ys q=>by rw[upd_ne (ltH c _ q)];exact q
     rcases hc' with rfl | hc'
     ·exact hk c w' (nof c _ z).1 (nof c _ z).2 q
     ·exact hk c w' (nof c _ hc').1 (nof c _ hc').2 q
  refine⟨_,rfl,wpAny_letOwnedTupleGo_enum ho fun h2 he2 hs2=>?_⟩
  have fT:e≠s.heap.objs.size:=ltT e _ he
  have I2:Inv X pins σ (upd H s.heap.objs.size (.tup [.int i,x])) { s with heap:=h2,toks:=tk+1 }:=Inv.turned (s:={ s with heap:=h',toks:=tk+1 }) (h':=h2) (t':=tk+1) (it:=e) I1 (fun b o hb z=>hs2.extBut b o hb z) (by rw[upd_ne fT];exact f0) f1 f3 f4 f5
  refine⟨.ref s.heap.objs.size,_,I2,rfl,⟨_,x,hT0,rfl,rfl,fun ys hy=>by rw[I.tuple_inj hy hq];exact hx⟩,⟨⟨x',by simpa using he2⟩,st'.1.extBut hs2.extBut (Ne.symm hne)⟩,fun b hb=>?_⟩
  rcases List.mem_cons.mp hb with q | hb
  ·rw[q,upd_ne fT];exact f0
  ·have q:b=it:=by simpa using hb
   obtain⟨o,eo,_⟩:=hit
   rw[q,upd_ne (ltT it o eo)];exact g0
 done:=by
  intro X hP hw hK hc i pins s σ H E I hf st hg
  subst hP hw hK
  obtain⟨xs,hq,hx⟩:=hg
  obtain⟨⟨old,he⟩,hit⟩:=st
  obtain⟨its,rv,p,hz⟩:=I.tuple hq
  obtain⟨g0,g1,g2,g3,g4,g5⟩:=hf it (by simp)
  have hl:=rv.length
  have hT:s.TypeIs (.ref e) "enumerate":=⟨_,he,rfl⟩
  unfold pyNext
  refine wpAny_bind (wpAny_attempt (wpAny_callSpecial?_slot (name:=Str.ofString "__next__") hT F.slot_enumerate_next (wpAny_call_entry F.slot_enumerate_next hT F.entry_enumerate_next ?_ (F.args_enumerate_next_1 _))))
  show wpAny _ _ (field (.ref e) 2 >>= _) _ _ _
  refine wpAny_bind (wpAny_field he rfl (x:=.ref it) rfl (wpAny_bind (nxT_end (by simpa using I.ok.hd hc) hit (isTup_tuple p) (by simp;omega) fun h' x he' ⟨o,ho,hcl⟩=>wpAny_bind (wpAny_isInstance (T:="StopIteration") (b:=true) ⟨o,ho,hcl⟩ isSubtype_stop (wpAny_pure ?_)))))
  exact⟨rfl,I.turned (t':=s.toks) (it:=it) (fun b o hb z=>he' b o hb z) g0 g1 g3 g4 g5⟩
 self:=fun _ _ _ _ _ st h=>let ⟨⟨_,he⟩,_⟩:=st;wpAny_pyIter_enum he h
def IteQ(kd:Bool)(K:PySem.W.Frag)(a:Addr):It:=match kd with
 | false=>Ite K a
 | true=>IteT K a
def iEnumQ(K:PySem.W.Frag)(ta:TA):TI:=fun σ H R=>ta σ H fun vs H1=>∃ a kd,vs=[.ref a]/\(∃ xs,My.SqK kd K H1 a xs)/\R (IteQ kd K a) H1
section
variable{X:Cx}
theorem pi_enumQ (K:PySem.W.Frag) {elts:List Expr} {x1:Nat} {tpos:Pos} {a:Expr} {ta:TA} {p pos:Pos} (hg:Gl X "enumerate") (hm:X.mg "enumerate"=none) (ha:PA X [a] ta) (hs:starEach [a] X.env=[(false,eval a X.env)]:=by rfl) (hk:X.K=K:=by rfl) :
  PI X (.Tuple elts x1 tpos) (.Call (.Name "enumerate" p) [a] [] pos) (iEnumQ K ta):=by
 subst hk
 intro pins s σ H R I h
 refine Call_ (ld_blt I hg hm Boot.«enumerate» (PyProof.Rows.callWith_type1 (thn (ha pos pins s σ H _ I h) fun us s1 ⟨vs,H1,I1,r1,q1⟩=>?_) hs rfl))
 obtain⟨b,kd,e,⟨xs,hq⟩,q⟩:=q1
 subst e
 obtain⟨u,rfl,ru⟩:=vals1 r1
 obtain rfl:u=Value.ref b:=ru
 have nn:∀ k,s1.heap.objs.size<=k->H1 k=none:=fun k hk=>I1.hok.fresh hk
 have fin:∀ c∈[s1.heap.objs.size+1,s1.heap.objs.size],s1.heap.objs.size<=c:=fun c hc=>by
  rcases List.mem_cons.mp hc with q | hc
  ·rw[q];exact Nat.le_succ _
  ·have q:c=s1.heap.objs.size:=by simpa using hc
   rw[q];exact Nat.le_refl _
 cases kd with
 | false =>
  obtain⟨its,rv,pl,hz⟩:=I1.list hq
  refine call_enumerate_list pl.isList fun h' he hit hsz hk=>?_
  have I2:Inv X pins σ H1 { s1 with heap:=h' }:=I1.kept (t':=s1.toks) hk
  refine wpAny_pyIter_enum he ⟨s1.heap.objs.size+1,[s1.heap.objs.size+1,s1.heap.objs.size],_,_,H1,rfl,I2,turn_enum b _ _ (Nat.succ_ne_self _),⟨⟨_,he⟩,hit⟩,fun c hc=>?_,q⟩
  exact I1.fpOk (fin c hc) (nn c (fin c hc))
 | true =>
  obtain⟨its,rv,pl,hz⟩:=I1.tuple hq
  have pT:s1.heap.IsTuple b its.toArray:=isTup_tuple pl
  have ltb:b<s1.heap.objs.size:=let ⟨_,e,_⟩:=pT;Heap.lt_size e
  refine call_enumT pT fun h' he hit hsz hk=>?_
  have I2:Inv X pins σ H1 { s1 with heap:=h' }:=I1.kept (t':=s1.toks) hk
  refine wpAny_pyIter_enum he ⟨s1.heap.objs.size+1,[s1.heap.objs.size+1,s1.heap.objs.size],_,_,H1,rfl,I2,turn_enumT b _ _ (Nat.succ_ne_self _) (Nat.ne_of_lt (Nat.lt_succ_of_lt ltb)) (Nat.ne_of_lt ltb),⟨⟨_,he⟩,hit⟩,fun c hc=>?_,q⟩
  exact I1.fpOk (fin c hc) (nn c (fin c hc))
end
section
variable{prog:Program}{w:World}{A:Around}{E:Value->Shared->Prop}{s:Shared}
end
section
variable{X:Cx}{p p2 pos pos2:Pos}{e:Expr}{t:TA}
end
end L2
namespace My
open PySem L2
theorem for_enumQ{K:PySem.W.Frag}{kd:Bool}{a:Addr}{xs:List V}{g:TG}{tb:TS}{D:Ends}{σ:St}{H:Hp}(Pv:Nat->St->Hp->Prop)(h0:Pv 0 σ H)(hl:∀ i σ H,i<=xs.length->Pv i σ H->SqK kd K H a xs)
  (hs:∀(i:Nat) x σ H (p:Addr),H p=none->xs[i]?=some x->Pv i σ H->g (.ref p) σ (upd H p (.tup [.int i,x])) fun σ2 H2=>tb { D with nx:=Pv (i+1),ct:=Pv (i+1),bk:=D.nx } σ2 H2) (hd:∀ σ H,Pv xs.length σ H->D.nx σ H) :
  ∃ W:Nat->Nat->St->Hp->Prop,(∃ m,W 0 m σ H)/\∀ i m σ H,W i m σ H ->
   ((IteQ kd K a).stop i H/\D.nx σ H)\/((IteQ kd K a).go i H/\∃ N:St->Hp->Prop,(∀ σ' H',N σ' H'->∃ m',m'<m/\W (i+1) m' σ' H')/\∀ x H',(IteQ kd K a).yld i H x H'->g x σ H' fun σ2 H2=>tb { D with nx:=N,ct:=N,bk:=D.nx } σ2 H2):=by
 cases kd with
 | false=>exact for_enum Pv h0 hl hs hd
 | true =>
  refine⟨fun i m σ H=>m=xs.length - i/\i<=xs.length/\Pv i σ H,⟨xs.length,by simp,Nat.zero_le _,h0⟩,?_⟩
  rintro i m σ H ⟨rfl,hi,p⟩
  have q:SqT K H a xs:=hl i σ H hi p
  by_cases hlt:i<xs.length
  ·refine .inr ⟨⟨xs,xs[i],q,by simp[hlt]⟩,Pv (i+1),fun σ' H' p'=>⟨xs.length - (i+1),by omega,rfl,hlt,p'⟩,fun x H' ⟨T,y,hT,ex,eH,hy⟩=>?_⟩
   subst ex eH
   exact hs i y σ H T hT (hy xs q) p
  ·have e:i=xs.length:=by omega
   subst e
   exact .inl ⟨⟨xs,q,Nat.le_refl _⟩,hd σ H p⟩
section
variable{K:PySem.W.Frag}{kd:Bool}{a:Addr}{xs:List V}{g:TG}{tt:TT}{te:TE}{o:Nat}{fr:List Nat}{σ:St}{H:Hp}{Q:VK}
end
end My
namespace HT
open PySem PyProof.Rows
section
open PySem.SeqAt
open PySem.AutoSeq1 (wpAny_loadPart')
open PySem.MeetsSeq PySem.MeetsSeq2 PySem.MeetsSeq3
end
section
variable{prog:Program}{w:World}{A:Around}{E:Value->Shared->Prop}{s:Shared}
end
end HT
namespace My
open PySem L2
end My
namespace L2
open PySem PySem.Spec PyProof.Rows
section
variable{prog:Program}{w:World}{A:Around}{I S:Addr}{fp wr:List Addr}{n:Nat}{P:Nat->Value->Prop}{St:Nat->Heap->Prop}{R:Result->Shared->Prop}
end
section
variable{X:Cx}
end
section
variable{prog:Program}{w:World}{A:Around}{E:Value->Shared->Prop}{s:Shared}
end
section
variable{X:Cx}
end
end L2
namespace My
open PySem L2
def bkD(d:Int):Int:=if d % 2=0 then d+1 else d - 1
theorem bk_bk(d:Int):bkD (bkD d)=d:=by unfold bkD;split <;> split <;> omega
theorem bk_inj{a b:Int}(h:bkD a=bkD b):a=b:=by rw[<- bk_bk a,h,bk_bk]
theorem bk_range{d m:Int}(h:0<=d/\d<2 * m):0<=bkD d/\bkD d<2 * m:=by unfold bkD;split <;> omega
def ownD(ps:List (Int × Int))(x:Int):Int:=if x % 2=0 then (ps.getD (x / 2).toNat (0,0)).1 else (ps.getD (x / 2).toNat (0,0)).2
def dtU(ps:List (Int × Int))(p:Int):Nat->List Int
 | 0=>[]
 | i+1=>dtU ps p i++(if (ps.getD i (0,0)).1=p then [2 * (i:Int)] else [])++(if (ps.getD i (0,0)).2=p then [2 * (i:Int)+1] else [])
def dts(ps:List (Int × Int))(p:Int):List Int:=dtU ps p ps.length
theorem dtU_mem{ps:List (Int × Int)}{p x:Int}:∀ {i:Nat},x∈dtU ps p i↔(0<=x/\x<2 * (i:Int))/\ownD ps x=p
 | 0=>by
  constructor
  ·intro h;cases h
  ·rintro⟨h,_⟩;omega
 | i+1=>by
  have e0:ownD ps (2 * (i:Int))=(ps.getD i (0,0)).1:=by
   unfold ownD
   rw[if_pos (by omega),show(2 * (i:Int) / 2).toNat=i by omega]
  have e1:ownD ps (2 * (i:Int)+1)=(ps.getD i (0,0)).2:=by
   unfold ownD
   rw[if_neg (by omega),show((2 * (i:Int)+1) / 2).toNat=i by omega]
  show x∈dtU ps p i++(if (ps.getD i (0,0)).1=p then [2 * (i:Int)] else [])++(if (ps.getD i (0,0)).2=p then [2 * (i:Int)+1] else [])↔_
  rw[List.mem_append,List.mem_append,dtU_mem]
  constructor
  ·rintro((⟨h1,h2⟩ | h) | h)
   ·exact⟨⟨h1.1,by omega⟩,h2⟩
   ·split at h
    ·rename_i hp
     rw[List.mem_singleton.mp h]
     exact⟨⟨by omega,by omega⟩,e0.trans hp⟩
    ·cases h
   ·split at h
    ·rename_i hp
     rw[List.mem_singleton.mp h]
     exact⟨⟨by omega,by omega⟩,e1.trans hp⟩
    ·cases h
  ·rintro⟨⟨h1,h2⟩,h3⟩
   by_cases c:x<2 * (i:Int)
   ·exact .inl (.inl ⟨⟨h1,c⟩,h3⟩)
   ·by_cases c2:x=2 * (i:Int)
    ·subst c2
     rw[e0]at h3
     rw[if_pos h3]
     exact .inl (.inr (List.mem_singleton.mpr rfl))
    ·have c3:x=2 * (i:Int)+1:=by omega
     subst c3
     rw[e1]at h3
     rw[if_pos h3]
     exact .inr (List.mem_singleton.mpr rfl)
theorem dtU_asc{ps:List (Int × Int)}{p:Int}:∀ i,(dtU ps p i).Pairwise (· < ·)
 | 0=>.nil
 | i+1=>by
  show(dtU ps p i++(if (ps.getD i (0,0)).1=p then [2 * (i:Int)] else [])++(if (ps.getD i (0,0)).2=p then [2 * (i:Int)+1] else [])).Pairwise _
  refine List.pairwise_append.mpr ⟨List.pairwise_append.mpr ⟨dtU_asc i,by split <;> simp,fun a ha b hb=>?_⟩,by split <;> simp,fun a ha b hb=>?_⟩
  ·have:=(dtU_mem.mp ha).1
   split at hb
   ·rw[List.mem_singleton.mp hb];exact this.2
   ·cases hb
  ·split at hb
   ·rw[List.mem_singleton.mp hb]
    rcases List.mem_append.mp ha with h | h
    ·have:=(dtU_mem.mp h).1
     omega
    ·split at h
     ·rw[List.mem_singleton.mp h];omega
     ·cases h
   ·cases hb
theorem dtU_len{ps:List (Int × Int)}{p:Int}:∀ i,(dtU ps p i).length<=2 * i
 | 0=>Nat.le_refl _
 | i+1=>by
  show(dtU ps p i++(if (ps.getD i (0,0)).1=p then [2 * (i:Int)] else [])++(if (ps.getD i (0,0)).2=p then [2 * (i:Int)+1] else [])).length<=_
  have:=dtU_len (ps:=ps) (p:=p) i
  rw[List.length_append,List.length_append]
  split <;> split <;> simp <;> omega
theorem dts_mem{ps:List (Int × Int)}{p x:Int}:x∈dts ps p↔(0<=x/\x<2 * (ps.length:Int))/\ownD ps x=p:=dtU_mem
theorem dts_asc{ps:List (Int × Int)}{p:Int}:(dts ps p).Pairwise (· < ·):=dtU_asc _
def VT(n:Nat)(ps:List (Int × Int))(ts:List (List Int)):Prop:=ts.length=n/\∀(p:Nat) (row:List Int),ts[p]?=some row->row.Perm (dts ps (p:Int))
theorem asc_nd{l:List Int}(h:l.Pairwise (· < ·)):l.Nodup:=h.imp fun h=>by omega
section
variable{n:Nat}{ps:List (Int × Int)}{ts:List (List Int)}
theorem VT.mem(h:VT n ps ts){p:Nat}{row:List Int}(hp:ts[p]?=some row){x:Int}:x∈row↔(0<=x/\x<2 * (ps.length:Int))/\ownD ps x=p:=by
 rw[(h.2 p row hp).mem_iff,dts_mem]
theorem VT.nodup(h:VT n ps ts){p:Nat}{row:List Int}(hp:ts[p]?=some row):row.Nodup:=(h.2 p row hp).nodup_iff.mpr (asc_nd dts_asc)
theorem own_range(hg:∀ p∈ps,0<=p.1/\p.1<(n:Int)/\0<=p.2/\p.2<(n:Int)){x:Int}(hx:0<=x/\x<2 * (ps.length:Int)):0<=ownD ps x/\ownD ps x<(n:Int):=by
 obtain⟨q,hq⟩:∃ q,ps[(x / 2).toNat]?=some q:=⟨_,List.getElem?_eq_getElem (by omega)⟩
 have:=hg q (List.mem_of_getElem? hq)
 unfold ownD
 rw[getD_of hq]
 split <;> omega
theorem VT.has(h:VT n ps ts)(hg:∀ p∈ps,0<=p.1/\p.1<(n:Int)/\0<=p.2/\p.2<(n:Int)){x:Int}(hx:0<=x/\x<2 * (ps.length:Int)):∃(p:Nat) (row:List Int),ts[p]?=some row/\x∈row:=by
 have o:=own_range hg hx
 have hl:=h.1
 obtain⟨row,hr⟩:∃ row,ts[(ownD ps x).toNat]?=some row:=⟨_,List.getElem?_eq_getElem (by omega)⟩
 exact⟨_,row,hr,(h.mem hr).mpr ⟨hx,by omega⟩⟩
theorem VT.in(h:VT n ps ts){row:List Int}(hr:row∈ts){x:Int}(hx:x∈row):0<=x/\x<2 * (ps.length:Int):=by
 obtain⟨p,hp⟩:=List.getElem?_of_mem hr
 exact((h.mem hp).mp hx).1
end
def bhR(row:List Int)(k:Nat):List (Int × Int):=(List.range k).map fun i=>(bkD (row.getD i 0),row.getD ((i+1) % row.length) 0)
def bhL(ts:List (List Int)):List (Int × Int):=ts.flatMap fun row=>bhR row row.length
theorem bhL_mem{ts:List (List Int)}{x y:Int}:(x,y)∈bhL ts↔∃ row∈ts,∃ i,i<row.length/\x=bkD (row.getD i 0)/\y=row.getD ((i+1) % row.length) 0:=by
 unfold bhL bhR
 rw[List.mem_flatMap]
 constructor
 ·rintro⟨row,hr,h⟩
  obtain⟨i,hi,e⟩:=List.mem_map.mp h
  cases e
  exact⟨row,hr,i,List.mem_range.mp hi,rfl,rfl⟩
 ·rintro⟨row,hr,i,hi,rfl,rfl⟩
  exact⟨row,hr,List.mem_map.mpr ⟨i,List.mem_range.mpr hi,rfl⟩⟩
theorem getD_mem{l:List Int}{i:Nat}(h:i<l.length):l.getD i 0∈l:=by
 rw[List.getD_eq_getElem?_getD,List.getElem?_eq_getElem h]
 exact List.getElem_mem h
theorem getD_inj{l:List Int}(hn:l.Nodup){i j:Nat}(hi:i<l.length)(hj:j<l.length)(e:l.getD i 0=l.getD j 0):i=j:=by
 rw[List.getD_eq_getElem?_getD,List.getD_eq_getElem?_getD,List.getElem?_eq_getElem hi,List.getElem?_eq_getElem hj]at e
 exact(List.getElem_inj hn).mp e
section
variable{n:Nat}{ps:List (Int × Int)}{ts:List (List Int)}
theorem row_eq(h:VT n ps ts){r1 r2:List Int}(h1:r1∈ts)(h2:r2∈ts){x:Int}(hx1:x∈r1)(hx2:x∈r2):r1=r2:=by
 obtain⟨p,hp⟩:=List.getElem?_of_mem h1
 obtain⟨q,hq⟩:=List.getElem?_of_mem h2
 have a:=((h.mem hp).mp hx1).2
 have b:=((h.mem hq).mp hx2).2
 have:p=q:=by omega
 subst this
 rw[hp]at hq
 exact Option.some.inj hq
theorem nd_row(h:VT n ps ts){r:List Int}(hr:r∈ts):r.Nodup:=by
 obtain⟨p,hp⟩:=List.getElem?_of_mem hr
 exact h.nodup hp
theorem bh_fun(h:VT n ps ts){x y z:Int}(h1:(x,y)∈bhL ts)(h2:(x,z)∈bhL ts):y=z:=by
 obtain⟨r1,hr1,i,hi,e1,rfl⟩:=bhL_mem.mp h1
 obtain⟨r2,hr2,j,hj,e2,rfl⟩:=bhL_mem.mp h2
 have e:=bk_inj (e1.symm.trans e2)
 obtain rfl:=row_eq h hr1 hr2 (getD_mem hi) (by rw[e];exact getD_mem hj)
 rw[getD_inj (nd_row h hr1) hi hj e]
theorem bh_inj(h:VT n ps ts){x y z:Int}(h1:(x,z)∈bhL ts)(h2:(y,z)∈bhL ts):x=y:=by
 obtain⟨r1,hr1,i,hi,rfl,e1⟩:=bhL_mem.mp h1
 obtain⟨r2,hr2,j,hj,rfl,e2⟩:=bhL_mem.mp h2
 have e:=e1.symm.trans e2
 have p1:(i+1) % r1.length<r1.length:=Nat.mod_lt _ (by omega)
 have p2:(j+1) % r2.length<r2.length:=Nat.mod_lt _ (by omega)
 obtain rfl:=row_eq h hr1 hr2 (getD_mem p1) (by rw[e];exact getD_mem p2)
 have k:=getD_inj (nd_row h hr1) p1 p2 e
 have:i=j:=by
  by_cases c1:i+1=r1.length
  ·by_cases c2:j+1=r1.length
   ·omega
   ·rw[c1,Nat.mod_self,Nat.mod_eq_of_lt (by omega)]at k
    omega
  ·by_cases c2:j+1=r1.length
   ·rw[c2,Nat.mod_self,Nat.mod_eq_of_lt (by omega)]at k
    omega
   ·rw[Nat.mod_eq_of_lt (by omega),Nat.mod_eq_of_lt (by omega)]at k
    omega
 rw[this]
theorem bh_range(h:VT n ps ts){x y:Int}(h1:(x,y)∈bhL ts):(0<=x/\x<2 * (ps.length:Int))/\0<=y/\y<2 * (ps.length:Int):=by
 obtain⟨r,hr,i,hi,rfl,rfl⟩:=bhL_mem.mp h1
 exact⟨bk_range (h.in hr (getD_mem hi)),h.in hr (getD_mem (Nat.mod_lt _ (by omega)))⟩
theorem bh_ex(h:VT n ps ts)(hg:∀ p∈ps,0<=p.1/\p.1<(n:Int)/\0<=p.2/\p.2<(n:Int)){x:Int}(hx:0<=x/\x<2 * (ps.length:Int)):∃ y,(x,y)∈bhL ts:=by
 obtain⟨p,row,hp,hm⟩:=h.has hg (bk_range hx)
 obtain⟨i,hi,e⟩:=List.getElem_of_mem hm
 refine⟨_,bhL_mem.mpr ⟨row,List.mem_of_getElem? hp,i,hi,?_,rfl⟩⟩
 rw[List.getD_eq_getElem?_getD,List.getElem?_eq_getElem hi]
 show x=bkD row[i]
 rw[e,bk_bk]
end
def Orb(B:List (Int × Int))(d:Int)(row:List Int):Prop:=row[0]?=some d/\row.Nodup/\(∀ i x y,row[i]?=some x->row[i+1]?=some y->(x,y)∈B)/\∀ x,row[row.length - 1]?=some x->(x,d)∈B
theorem Orb.pos{B:List (Int × Int)}{d:Int}{row:List Int}(h:Orb B d row):0<row.length:=(List.getElem?_eq_some_iff.mp h.1).1
theorem orb_at{B:List (Int × Int)}(hf:∀ x y z,(x,y)∈B->(x,z)∈B->y=z){d:Int}{r1 r2:List Int}(h1:Orb B d r1)(h2:Orb B d r2):∀ i,i<r1.length->i<r2.length->r1[i]?=r2[i]?
 | 0,_,_=>by rw[h1.1,h2.1]
 | i+1,a,b=>by
  have ih:=orb_at hf h1 h2 i (by omega) (by omega)
  obtain⟨x,hx⟩:∃ x,r1[i]?=some x:=⟨_,List.getElem?_eq_getElem (by omega)⟩
  obtain⟨y,hy⟩:∃ y,r1[i+1]?=some y:=⟨_,List.getElem?_eq_getElem a⟩
  obtain⟨z,hz⟩:∃ z,r2[i+1]?=some z:=⟨_,List.getElem?_eq_getElem b⟩
  rw[hy,hz,hf _ _ _ (h1.2.2.1 i x y hx hy) (h2.2.2.1 i x z (by rw[<- ih];exact hx) hz)]
theorem orb_le{B:List (Int × Int)}(hf:∀ x y z,(x,y)∈B->(x,z)∈B->y=z){d:Int}{r1 r2:List Int}(h1:Orb B d r1)(h2:Orb B d r2):r2.length<=r1.length:=by
 rcases Nat.lt_or_ge r1.length r2.length with c | c
 ·exfalso
  have p1:=h1.pos
  obtain⟨x,hx⟩:∃ x,r1[r1.length - 1]?=some x:=⟨_,List.getElem?_eq_getElem (by omega)⟩
  have hx2:r2[r1.length - 1]?=some x:=by rw[<- orb_at hf h1 h2 _ (by omega) (by omega)];exact hx
  obtain⟨y,hy⟩:∃ y,r2[r1.length]?=some y:=⟨_,List.getElem?_eq_getElem c⟩
  have e:=hf _ _ _ (h1.2.2.2 x hx) (h2.2.2.1 (r1.length - 1) x y hx2 (by rw[show r1.length - 1+1=r1.length by omega];exact hy))
  rw[<- e]at hy
  have:=nodup_get h2.2.1 hy h2.1
  omega
 ·exact c
theorem Orb.uniq{B:List (Int × Int)}(hf:∀ x y z,(x,y)∈B->(x,z)∈B->y=z){d:Int}{r1 r2:List Int}(h1:Orb B d r1)(h2:Orb B d r2):r1=r2:=by
 have a:=orb_le hf h1 h2
 have b:=orb_le hf h2 h1
 refine List.ext_getElem? fun i=>?_
 by_cases c:i<r1.length
 ·exact orb_at hf h1 h2 i c (by omega)
 ·rw[List.getElem?_eq_none (by omega),List.getElem?_eq_none (by omega)]
theorem Orb.ahead{B:List (Int × Int)}(hi:∀ x y z,(x,z)∈B->(y,z)∈B->x=y){d:Int}{row:List Int}(h:Orb B d row){x y:Int}(hy:y∈row)(hb:(x,y)∈B):x∈row:=by
 obtain⟨i,hi'⟩:=List.getElem?_of_mem hy
 have p:=h.pos
 cases i with
 | zero =>
  rw[h.1]at hi'
  have e:d=y:=Option.some.inj hi'
  obtain⟨z,hz⟩:∃ z,row[row.length - 1]?=some z:=⟨_,List.getElem?_eq_getElem (by omega)⟩
  rw[hi _ _ _ hb (e ▸ h.2.2.2 z hz)]
  exact List.mem_of_getElem? hz
 | succ i =>
  have lt:=(List.getElem?_eq_some_iff.mp hi').1
  obtain⟨z,hz⟩:∃ z,row[i]?=some z:=⟨_,List.getElem?_eq_getElem (by omega)⟩
  rw[hi _ _ _ hb (h.2.2.1 i z y hz hi')]
  exact List.mem_of_getElem? hz
def Way(B:List (Int × Int))(d c:Int)(row:List Int):Prop:=row.Nodup/\(∀ i x y,row[i]?=some x->row[i+1]?=some y->(x,y)∈B)/\((row=[]/\c=d)\/(row[0]?=some d/\∀ x,row[row.length - 1]?=some x->(x,c)∈B))
theorem Way.snoc{B:List (Int × Int)}{d c e:Int}{row:List Int}(h:Way B d c row)(hn:c∉row)(hb:(c,e)∈B):Way B d e (row++[c]):=by
 obtain⟨h1,h2,h3⟩:=h
 refine⟨nd_snoc h1 hn,fun i x y ex ey=>?_,.inr ⟨?_,fun x ex=>?_⟩⟩
 ·have lt:=(List.getElem?_eq_some_iff.mp ey).1
  rw[List.length_append,List.length_singleton]at lt
  by_cases c1:i+1<row.length
  ·rw[List.getElem?_append_left (by omega)]at ex
   rw[List.getElem?_append_left c1]at ey
   exact h2 i x y ex ey
  ·rw[List.getElem?_append_left (by omega)]at ex
   rw[List.getElem?_append_right (by omega),show i+1 - row.length=0 by omega]at ey
   have ey:c=y:=Option.some.inj ey
   rcases h3 with ⟨rfl,_⟩ | ⟨_,h3⟩
   ·simp at ex
   ·rw[<- ey]
    exact h3 x (by rw[show row.length - 1=i by omega];exact ex)
 ·rcases h3 with ⟨rfl,rfl⟩ | ⟨h3,_⟩
  ·rfl
  ·rw[List.getElem?_append_left (List.getElem?_eq_some_iff.mp h3).1];exact h3
 ·rw[List.length_append,List.length_singleton,Nat.add_sub_cancel,List.getElem?_append_right (Nat.le_refl _),Nat.sub_self]at ex
  have ex:c=x:=Option.some.inj ex
  rw[<- ex];exact hb
theorem Way.meets{B:List (Int × Int)}(hi:∀ x y z,(x,z)∈B->(y,z)∈B->x=y){d c:Int}{row:List Int}(h:Way B d c row)(hc:c∈row):c=d:=by
 obtain⟨h1,h2,h3⟩:=h
 rcases h3 with ⟨rfl,e⟩ | ⟨h3,h4⟩
 ·exact e
 obtain⟨i,hi'⟩:=List.getElem?_of_mem hc
 cases i with
 | zero=>rw[h3]at hi';exact(Option.some.inj hi').symm
 | succ i =>
  have lt:=(List.getElem?_eq_some_iff.mp hi').1
  obtain⟨z,hz⟩:∃ z,row[i]?=some z:=⟨_,List.getElem?_eq_getElem (by omega)⟩
  obtain⟨w,hw⟩:∃ w,row[row.length - 1]?=some w:=⟨_,List.getElem?_eq_getElem (by omega)⟩
  have e:=hi _ _ _ (h4 w hw) (h2 i z c hz hi')
  rw[e]at hw
  have:=nodup_get h1 hw hz
  omega
theorem Way.orb{B:List (Int × Int)}{d:Int}{row:List Int}(h:Way B d d row)(hr:row≠[]):Orb B d row:=by
 obtain⟨h1,h2,h3⟩:=h
 rcases h3 with ⟨e,_⟩ | ⟨h3,h4⟩
 ·exact absurd e hr
 ·exact⟨h3,h1,h2,h4⟩
def Rds(B:List (Int × Int)):Nat->List (List Int)->Prop
 | 0,R=>R=[]
 | k+1,R=>∃ R',Rds B k R'/\(((k:Int)∈R'.flatten/\R=R')\/((k:Int)∉R'.flatten/\∃ row,Orb B k row/\R=R'++[row]))
theorem Rds.uniq{B:List (Int × Int)}(hf:∀ x y z,(x,y)∈B->(x,z)∈B->y=z):∀ {k:Nat} {R1 R2:List (List Int)},Rds B k R1->Rds B k R2->R1=R2
 | 0,_,_,h1,h2=>h1.trans h2.symm
 | k+1,_,_,⟨Q1,a1,b1⟩,⟨Q2,a2,b2⟩=>by
  have e:=Rds.uniq hf a1 a2
  subst e
  rcases b1 with ⟨c1,rfl⟩ | ⟨c1,r1,o1,rfl⟩
  ·rcases b2 with ⟨c2,rfl⟩ | ⟨c2,_⟩
   ·rfl
   ·exact absurd c1 c2
  ·rcases b2 with ⟨c2,rfl⟩ | ⟨c2,r2,o2,rfl⟩
   ·exact absurd c2 c1
   ·rw[o1.uniq hf o2]
theorem Rds.orbs{B:List (Int × Int)}:∀ {k:Nat} {R:List (List Int)},Rds B k R->∀ row∈R,∃ d,Orb B d row
 | 0,_,h,row,hr=>by rw[show _=[] from h]at hr;cases hr
 | k+1,_,⟨Q,a,b⟩,row,hr=>by
  rcases b with ⟨_,rfl⟩ | ⟨_,r,o,rfl⟩
  ·exact Rds.orbs a row hr
  ·rcases List.mem_append.mp hr with e | e
   ·exact Rds.orbs a row e
   ·rw[List.mem_singleton.mp e];exact⟨_,o⟩
theorem Rds.below{B:List (Int × Int)}:∀ {k:Nat} {R:List (List Int)},Rds B k R->∀ x:Int,0<=x->x<(k:Int)->x∈R.flatten
 | 0,_,_,x,h0,h1=>by omega
 | k+1,_,⟨Q,a,b⟩,x,h0,h1=>by
  rcases b with ⟨c,rfl⟩ | ⟨_,r,o,rfl⟩
  ·by_cases e:x=(k:Int)
   ·rw[e];exact c
   ·exact Rds.below a x h0 (by omega)
  ·rw[List.flatten_append,List.mem_append]
   by_cases e:x=(k:Int)
   ·rw[e]
    refine .inr ?_
    simp only [List.flatten_cons,List.flatten_nil,List.append_nil]
    exact List.mem_of_getElem? o.1
   ·exact .inl (Rds.below a x h0 (by omega))
theorem Rds.ahead{B:List (Int × Int)}(hi:∀ x y z,(x,z)∈B->(y,z)∈B->x=y){k:Nat}{R:List (List Int)}(h:Rds B k R){x y:Int}(hy:y∈R.flatten)(hb:(x,y)∈B):x∈R.flatten:=by
 obtain⟨row,hr,hm⟩:=List.mem_flatten.mp hy
 obtain⟨d,o⟩:=h.orbs row hr
 exact List.mem_flatten.mpr ⟨row,hr,o.ahead hi hm hb⟩
theorem orb_range{B:List (Int × Int)}{M:Int}(hr:∀ x y,(x,y)∈B->(0<=x/\x<M)/\0<=y/\y<M){d:Int}{row:List Int}(h:Orb B d row):∀ x∈row,0<=x/\x<M:=fun x hx=>by
 obtain⟨i,hi⟩:=List.getElem?_of_mem hx
 have lt:=(List.getElem?_eq_some_iff.mp hi).1
 by_cases c:i+1<row.length
 ·obtain⟨y,hy⟩:∃ y,row[i+1]?=some y:=⟨_,List.getElem?_eq_getElem c⟩
  exact(hr _ _ (h.2.2.1 i x y hi hy)).1
 ·exact(hr _ _ (h.2.2.2 x (by rw[show row.length - 1=i by omega];exact hi))).1
theorem nd_few:∀ {M:Nat} {l:List Int},l.Nodup->(∀ x∈l,0<=x/\x<(M:Int))->l.length<=M
 | 0,[],_,_=>Nat.le_refl _
 | 0,x :: l,_,h=>by have:=h x List.mem_cons_self;omega
 | M+1,l,hn,h=>by
  have key:(l.erase (M:Int)).length<=M:=nd_few (hn.erase _) fun x hx=>by
   have hx':=(List.Nodup.mem_erase_iff hn).mp hx
   have:=h x hx'.2
   have:=hx'.1
   omega
  by_cases c:(M:Int)∈l
  ·rw[List.length_erase_of_mem c]at key;omega
  ·rw[List.erase_of_not_mem c]at key;omega
theorem Rds.nodup{B:List (Int × Int)}(hi:∀ x y z,(x,z)∈B->(y,z)∈B->x=y):∀ {k:Nat} {R:List (List Int)},Rds B k R->R.flatten.Nodup
 | 0,_,h=>by rw[show _=[] from h];exact .nil
 | k+1,_,⟨Q,a,b⟩=>by
  rcases b with ⟨_,rfl⟩ | ⟨c,r,o,rfl⟩
  ·exact Rds.nodup hi a
  ·rw[List.flatten_append]
   simp only [List.flatten_cons,List.flatten_nil,List.append_nil]
   refine List.nodup_append.mpr ⟨Rds.nodup hi a,o.2.1,fun x hx y hy e=>?_⟩
   subst e
   obtain⟨i,hi'⟩:=List.getElem?_of_mem hy
   have back:∀(i:Nat) (x:Int),r[i]?=some x->x∈Q.flatten->(k:Int)∈Q.flatten:=by
    intro i
    induction i with
    | zero=>intro x e hx;rw[o.1]at e;cases e;exact hx
    | succ i ih =>
     intro x e hx
     have lt:=(List.getElem?_eq_some_iff.mp e).1
     obtain⟨z,hz⟩:∃ z,r[i]?=some z:=⟨_,List.getElem?_eq_getElem (by omega)⟩
     exact ih z hz (a.ahead hi hx (o.2.2.1 i z x hz e))
   exact c (back i x hi' hx)
end My
namespace L2
open PySem PySem.Spec PyProof.Rows
section
variable{X:Cx}
theorem call_sortedQ (K:PySem.W.Frag) (hk:X.K=K:=by rfl):CallR X (.builtin "sorted") (fun xs H Q=>∃(kd:Bool) (p:Addr) (ns:List Int),xs=[.ref p]/\My.SqK kd K H p (ns.map V.int)/\ns.length<64 /\
  ∀ ms:List Int,ms.Perm ns->ms.Pairwise (·<=·)->∀ l,H l=none->Q (.ref l) (upd H l (.lst (ms.map V.int)))):=by
 intro pins s σ H xs us Q I r h
 obtain⟨kd,p,ns,e,hq,h64,q⟩:=h
 cases kd with
 | false=>exact call_sortedK K hk pins s σ H xs us Q I r ⟨p,ns,e,hq,h64,q⟩
 | true=>exact call_sortedT K hk pins s σ H xs us Q I r ⟨p,ns,e,hq,h64,q⟩
end
end L2
namespace My
open PySem L2
def kvI(L:List (Int × Int)):List (Key × V):=L.map fun p=>(Sum.inl p.1,V.int p.2)
theorem kvI_none{L:List (Int × Int)}{x:Int}:(∀ p∈L,p.1≠x)->valV (kvI L) (Sum.inl x)=none:=by
 induction L with
 | nil=>intro _;rfl
 | cons p L ih =>
  intro h
  show valV ((Sum.inl p.1,V.int p.2) :: kvI L) _=none
  rw[valV_neg (by intro e;exact h p List.mem_cons_self (Sum.inl.inj e))]
  exact ih fun q hq=>h q (List.mem_cons_of_mem _ hq)
theorem kvI_val{L:List (Int × Int)}{x y:Int}:(L.map (·.1)).Nodup->(x,y)∈L->valV (kvI L) (Sum.inl x)=some (.int y):=by
 induction L with
 | nil=>intro _ h;cases h
 | cons p L ih =>
  intro hn h
  have hn':=List.nodup_cons.mp hn
  show valV ((Sum.inl p.1,V.int p.2) :: kvI L) _=_
  rcases List.mem_cons.mp h with e | e
  ·subst e
   rw[valV_pos rfl]
  ·rw[valV_neg (by
    intro z
    have z:p.1=x:=Sum.inl.inj z
    exact hn'.1 (List.mem_map.mpr ⟨(x,y),e,z.symm⟩))]
   exact ih hn'.2 e
theorem kvI_put{L:List (Int × Int)}{x y:Int}(h:∀ p∈L,p.1≠x):putK (kvI L) (Sum.inl x) (.int y)=kvI (L++[(x,y)]):=by
 rw[putK_new _ (kvI_none h)]
 unfold kvI
 rw[List.map_append]
 rfl
def Kys(kvs:List (Key × V))(S:List Int):Prop:=∀ x:Int,(valV kvs (Sum.inl x)).isSome=true↔x∈S
theorem Kys.nil:Kys [] []:=fun x=>by
 constructor
 ·intro h;rw[valV_nil]at h;cases h
 ·intro h;cases h
theorem Kys.put{kvs:List (Key × V)}{S:List Int}(h:Kys kvs S)(x:Int)(v:V):Kys (putK kvs (Sum.inl x) v) (S++[x]):=fun y=>by
 rw[valV_put,List.mem_append,List.mem_singleton]
 by_cases c:(Sum.inl y:Key)=Sum.inl x
 ·rw[if_pos c]
  exact⟨fun _=>.inr (Sum.inl.inj c),fun _=>rfl⟩
 ·rw[if_neg c,h y]
  exact⟨.inl,fun z=>z.elim id fun e=>absurd (congrArg Sum.inl e) c⟩
theorem bhR_keys{row:List Int}{k:Nat}(hk:k<=row.length):(bhR row k).map (·.1)=(row.take k).map bkD:=by
 unfold bhR
 rw[List.map_map]
 refine List.ext_getElem? fun i=>?_
 rw[List.getElem?_map,List.getElem?_map]
 by_cases c:i<k
 ·rw[List.getElem?_range c,List.getElem?_take_of_lt c,List.getElem?_eq_getElem (by omega)]
  show some (bkD (row.getD i 0))=some (bkD row[i])
  rw[List.getD_eq_getElem?_getD,List.getElem?_eq_getElem (by omega)]
  rfl
 ·rw[List.getElem?_eq_none (by rw[List.length_range];omega),List.getElem?_eq_none (by rw[List.length_take];omega)]
  rfl
theorem bhL_keys(ts:List (List Int)):(bhL ts).map (·.1)=ts.flatten.map bkD:=by
 unfold bhL
 induction ts with
 | nil=>rfl
 | cons r ts ih=>rw[List.flatMap_cons,List.map_append,ih,bhR_keys (Nat.le_refl _),List.take_length,List.flatten_cons,List.map_append]
theorem bhR_succ(row:List Int)(k:Nat):bhR row (k+1)=bhR row k++[(bkD (row.getD k 0),row.getD ((k+1) % row.length) 0)]:=by
 unfold bhR
 rw[List.range_succ,List.map_append]
 rfl
theorem bhL_take{ts:List (List Int)}{i:Nat}{row:List Int}(h:ts[i]?=some row):bhL (ts.take (i+1))=bhL (ts.take i)++bhR row row.length:=by
 unfold bhL
 rw[List.take_succ,h,List.flatMap_append]
 simp
theorem flat_take{ts:List (List Int)}{i:Nat}{row:List Int}(h:ts[i]?=some row):(ts.take (i+1)).flatten=(ts.take i).flatten++row:=by
 rw[List.take_succ,h,List.flatten_append]
 simp
theorem flat_nd{ts:List (List Int)}(hn:ts.flatten.Nodup){i:Nat}{row:List Int}(h:ts[i]?=some row):((ts.take i).flatten++row).Nodup:=by
 rw[<- flat_take h]
 have e:ts.flatten=(ts.take (i+1)).flatten++(ts.drop (i+1)).flatten:=by rw[<- List.flatten_append,List.take_append_drop]
 rw[e]at hn
 exact(List.nodup_append.mp hn).1
theorem bh_new{ts:List (List Int)}(hn:ts.flatten.Nodup){i k:Nat}{row:List Int}(h:ts[i]?=some row)(hk:k<row.length):∀ p∈bhL (ts.take i)++bhR row k,p.1≠bkD (row.getD k 0):=fun p hp e=>by
 have nd:=flat_nd hn h
 have e1:p.1∈(bhL (ts.take i)++bhR row k).map (·.1):=List.mem_map_of_mem hp
 rw[List.map_append,bhL_keys,bhR_keys (by omega),<- List.map_append]at e1
 obtain⟨z,hz,e2⟩:=List.mem_map.mp e1
 have e3:=bk_inj (e2.trans e)
 subst e3
 have e4:(ts.take i).flatten++row=((ts.take i).flatten++row.take k)++row.drop k:=by rw[List.append_assoc,List.take_append_drop]
 rw[e4]at nd
 refine(List.nodup_append.mp nd).2.2 _ hz _ ?_ rfl
 rw[List.getD_eq_getElem?_getD,List.getElem?_eq_getElem hk]
 exact List.mem_of_getElem? (i:=0) (by rw[List.getElem?_drop];exact List.getElem?_eq_getElem hk)
theorem bhR_len(row:List Int)(k:Nat):(bhR row k).length=k:=by unfold bhR;rw[List.length_map,List.length_range]
theorem bhL_len(ts:List (List Int)):(bhL ts).length=ts.flatten.length:=by
 have:=congrArg List.length (bhL_keys ts)
 rw[List.length_map,List.length_map]at this
 exact this
theorem VT.flat{n:Nat}{ps:List (Int × Int)}{ts:List (List Int)}(h:VT n ps ts):ts.flatten.Nodup:=by
 refine List.pairwise_flatten.mpr ⟨fun l hl=>nd_row h hl,List.pairwise_iff_getElem.mpr fun i j hi hj hij x hx y hy e=>?_⟩
 subst e
 have a:=((h.mem (List.getElem?_eq_getElem hi)).mp hx).2
 have b:=((h.mem (List.getElem?_eq_getElem hj)).mp hy).2
 omega
theorem VT.flat_mem{n:Nat}{ps:List (Int × Int)}{ts:List (List Int)}(h:VT n ps ts)(hg:∀ p∈ps,0<=p.1/\p.1<(n:Int)/\0<=p.2/\p.2<(n:Int)){x:Int}:x∈ts.flatten↔0<=x/\x<2 * (ps.length:Int):=by
 rw[List.mem_flatten]
 constructor
 ·rintro⟨r,hr,hx⟩
  exact h.in hr hx
 ·intro hx
  obtain⟨p,r,hp,hm⟩:=h.has hg hx
  exact⟨r,List.mem_of_getElem? hp,hm⟩
theorem VT.flat_len{n:Nat}{ps:List (Int × Int)}{ts:List (List Int)}(h:VT n ps ts):ts.flatten.length<=2 * ps.length:=by
 refine nd_few h.flat fun x hx=>?_
 obtain⟨r,hr,hm⟩:=List.mem_flatten.mp hx
 have:=h.in hr hm
 omega
theorem bh_nd{ts:List (List Int)}(hn:ts.flatten.Nodup):((bhL ts).map (·.1)).Nodup:=by
 rw[bhL_keys]
 exact List.Pairwise.map _ (fun a b h e=>h (bk_inj e)) hn
theorem xor_one{d:Int}(h:0<=d):Builtin.bitXor d 1=bkD d:=by
 rw[PyProof.Rows.bitXor_and,PyProof.Rows.bitAnd_m1]
 unfold bkD
 split <;> omega
structure JagAt (H0:Hp) (r:Addr) (H:Hp) (ys:List V) (L:List (List Int)):Prop where
 tab:H r=some (.lst ys)
 rows:Bears (LiV r H) ys L
 nd:ys.Nodup
 new:∀ A,V.ref A∈ys->H0 A=none
theorem JagAt.same{H0 H H':Hp}{r:Addr}{ys:List V}{L:List (List Int)}(s:Same H H')(h:JagAt H0 r H ys L):JagAt H0 r H' ys L:=⟨s _ _ h.tab,h.rows.imp fun _ _ q=>q.same s,h.nd,h.new⟩
theorem JagAt.lists{H0 H:Hp}{r:Addr}{ys:List V}{L:List (List Int)}(h:JagAt H0 r H ys L):Bears (ListV H) ys L:=h.rows.imp fun _ _ q=>q.list
theorem JagAt.at{H0 H:Hp}{r:Addr}{ys:List V}{L:List (List Int)}(h:JagAt H0 r H ys L){i:Nat}(hi:i<L.length):∃(A:Addr) (l:List Int),ys[i]?=some (.ref A)/\L[i]?=some l/\H A=some (.lst (IL l))/\H0 A=none/\A≠r:=by
 obtain⟨l,e⟩:∃ l,L[i]?=some l:=⟨_,List.getElem?_eq_getElem hi⟩
 obtain⟨v,e1,A,rfl,e2,e3⟩:=h.rows.2 i l e
 exact⟨A,l,e1,e,e2,h.new A (List.mem_of_getElem? e1),e3⟩
theorem JagAt.put{H0 H:Hp}{r:Addr}{ys:List V}{L:List (List Int)}(h:JagAt H0 r H ys L){i:Nat}{A:Addr}{l l':List Int}(e1:ys[i]?=some (.ref A))(e2:L[i]?=some l)(e3:A≠r):JagAt H0 r (upd H A (.lst (IL l'))) ys (L.set i l'):=by
 have hi:=(List.getElem?_eq_some_iff.mp e2).1
 refine⟨by rw[upd_ne (Ne.symm e3)];exact h.tab,⟨by rw[List.length_set];exact h.rows.1,fun j m em=>?_⟩,h.nd,h.new⟩
 rw[List.getElem?_set]at em
 by_cases c:i=j
 ·subst c
  rw[if_pos rfl,if_pos hi]at em
  obtain rfl:=Option.some.inj em
  exact⟨_,e1,A,rfl,ζ1,e3⟩
 ·rw[if_neg c]at em
  obtain⟨v,f1,B,rfl,f2,f3⟩:=h.rows.2 j m em
  refine⟨_,f1,B,rfl,?_,f3⟩
  rw[upd_ne]
  ·exact f2
  ·intro e
   rw[e]at f1
   exact c (nodup_get h.nd e1 f1)
theorem range_set{n k:Nat}{g:Nat->List Int}{v:List Int}:((List.range n).map g).set k v=(List.range n).map fun p=>if p=k then v else g p:=by
 refine List.ext_getElem? fun i=>?_
 rw[List.getElem?_set,List.length_map,List.length_range,List.getElem?_map]
 by_cases hi:i<n
 ·rw[List.getElem?_map,List.getElem?_range hi]
  by_cases c:k=i
  ·subst c
   rw[if_pos rfl,if_pos hi]
   simp
  ·rw[if_neg c]
   show _=some (if i=k then v else g i)
   rw[if_neg (Ne.symm c)]
   rfl
 ·rw[List.getElem?_eq_none (by rw[List.length_range];omega),List.getElem?_map,List.getElem?_eq_none (by rw[List.length_range];omega)]
  split
  ·rw[if_neg (by omega)];rfl
  ·rfl
theorem range_at{n k:Nat}{g:Nat->List Int}(h:k<n):((List.range n).map g)[k]?=some (g k):=by rw[List.getElem?_map,List.getElem?_range h];rfl
def dtA(n:Nat)(ps:List (Int × Int))(i:Nat):List (List Int):=(List.range n).map fun(p:Nat)=>dtU ps (p:Int) i
theorem dtA_succ{n:Nat}{ps:List (Int × Int)}{i:Nat}{a b:Nat}(e:ps.getD i (0,0)=((a:Int),(b:Int))):((dtA n ps i).set a (dtU ps a i++[2 * (i:Int)])).set b ((if b=a then dtU ps a i++[2 * (i:Int)] else dtU ps b i)++[2 * (i:Int)+1])=dtA n ps (i+1):=by
 unfold dtA
 rw[range_set,range_set]
 refine List.map_congr_left fun p _=>?_
 show _=dtU ps p i++(if (ps.getD i (0,0)).1=(p:Int) then [2 * (i:Int)] else [])++(if (ps.getD i (0,0)).2=(p:Int) then [2 * (i:Int)+1] else [])
 rw[e]
 show _=dtU ps p i++(if (a:Int)=(p:Int) then [2 * (i:Int)] else [])++(if (b:Int)=(p:Int) then [2 * (i:Int)+1] else [])
 by_cases c1:p=b
 ·subst c1
  rw[if_pos rfl,if_pos rfl]
  by_cases c2:p=a
  ·subst c2
   rw[if_pos rfl,if_pos rfl]
  ·rw[if_neg c2,if_neg (fun z=>c2 (by omega)),List.append_nil]
 ·rw[if_neg c1,if_neg (c:=(b:Int)=(p:Int)) (fun z=>c1 (by omega)),List.append_nil]
  by_cases c2:p=a
  ·subst c2
   rw[if_pos rfl,if_pos rfl]
  ·rw[if_neg c2,if_neg (fun z=>c2 (by omega)),List.append_nil]
theorem vt_iff{n:Nat}{ps:List (Int × Int)}{ts ss:List (List Int)}(hl:ss.length=ts.length)(h:∀(i:Nat) (a b:List Int),ts[i]?=some a->ss[i]?=some b->b.Perm a/\b.Pairwise (·<=·)):ss=dtA n ps ps.length↔VT n ps ts:=by
 have dl:(dtA n ps ps.length).length=n:=by unfold dtA;rw[List.length_map,List.length_range]
 constructor
 ·rintro rfl
  refine⟨by omega,fun p row hp=>?_⟩
  have hpn:p<n:=by have:=(List.getElem?_eq_some_iff.mp hp).1;omega
  exact(h p row _ hp (range_at hpn)).1.symm
 ·intro hv
  have hvl:=hv.1
  refine List.ext_getElem? fun p=>?_
  by_cases hp:p<n
  ·obtain⟨a,ea⟩:∃ a,ts[p]?=some a:=⟨_,List.getElem?_eq_getElem (by omega)⟩
   obtain⟨b,eb⟩:∃ b,ss[p]?=some b:=⟨_,List.getElem?_eq_getElem (by omega)⟩
   have e0:(dtA n ps ps.length)[p]?=some (dts ps (p:Int)):=range_at hp
   rw[e0,eb]
   obtain⟨h1,h2⟩:=h p a b ea eb
   have h3:=h1.trans (hv.2 p a ea)
   have nd:b.Nodup:=h3.nodup_iff.mpr (asc_nd dts_asc)
   exact congrArg some (asc_ext (srt_strict h2 nd) dts_asc fun z=>h3.mem_iff)
  ·rw[List.getElem?_eq_none (by omega),List.getElem?_eq_none (by omega)]
theorem JagAt.nil{H0:Hp}{r:Addr}{H:Hp}(h:H r=some (.lst [])):JagAt H0 r H [] []:=⟨h,⟨rfl,fun i l e=>by simp at e⟩,.nil,fun A h=>by cases h⟩
theorem JagAt.snoc{H0 H:Hp}{r A:Addr}{ys:List V}{L:List (List Int)}{l:List Int}(h:JagAt H0 r H ys L)(hA:H A=some (.lst (IL l)))(h0:H0 A=none)(hne:A≠r)(hny:V.ref A∉ys):JagAt H0 r (upd H r (.lst (ys++[.ref A]))) (ys++[.ref A]) (L++[l]):=by
 refine⟨ζ1,?_,nd_snoc h.nd hny,fun B hB=>?_⟩
 ·exact(h.rows.imp fun _ _ q=>q.mut).snoc ⟨A,rfl,by rw[upd_ne hne];exact hA,hne⟩
 ·rcases List.mem_append.mp hB with e | e
  ·exact h.new B e
  ·have:B=A:=by simpa using e
   rw[this];exact h0
theorem JagAt.oth{H0 H:Hp}{r g:Addr}{ys:List V}{L:List (List Int)}{o:HO}(h:JagAt H0 r H ys L)(hr:g≠r)(hg:∀ xs,H g≠some (.lst xs)):JagAt H0 r (upd H g o) ys L:=by
 refine⟨by rw[upd_ne (Ne.symm hr)];exact h.tab,h.rows.imp fun _ _ ⟨A,e,h1,h2⟩=>⟨A,e,?_,h2⟩,h.nd,h.new⟩
 rw[upd_ne]
 ·exact h1
 ·intro z
  rw[z]at h1
  exact hg _ h1
theorem JagAt.fresh{H0 H:Hp}{r A:Addr}{ys:List V}{L:List (List Int)}(h:JagAt H0 r H ys L)(hA:H A=none):V.ref A∉ys:=fun hm=>by
 obtain⟨i,hi⟩:=List.getElem?_of_mem hm
 obtain⟨l,_,B,e,h1,_⟩:=h.rows.at hi
 cases e
 rw[hA]at h1
 cases h1
def RdW(ps:List (Int × Int))(ts:List (List Int))(R:List (List Int)):Prop:=(ps.length=0/\R=[[]])\/(0<ps.length/\Rds (bhL ts) (2 * ps.length) R)
theorem RdW.uniq{n:Nat}{ps:List (Int × Int)}{ts R1 R2:List (List Int)}(h:VT n ps ts)(h1:RdW ps ts R1)(h2:RdW ps ts R2):R1=R2:=by
 rcases h1 with ⟨a,rfl⟩ | ⟨a,b⟩
 ·rcases h2 with ⟨_,rfl⟩ | ⟨c,_⟩
  ·rfl
  ·omega
 ·rcases h2 with ⟨c,_⟩ | ⟨_,d⟩
  ·omega
  ·exact b.uniq (fun x y z=>bh_fun h) d
theorem Rds.range{B:List (Int × Int)}{M:Int}(hr:∀ x y,(x,y)∈B->(0<=x/\x<M)/\0<=y/\y<M){k:Nat}{R:List (List Int)}(h:Rds B k R):∀ x∈R.flatten,0<=x/\x<M:=fun x hx=>by
 obtain⟨row,h1,h2⟩:=List.mem_flatten.mp hx
 obtain⟨d,o⟩:=h.orbs row h1
 exact orb_range hr o x h2
def putR(one:Int)(other:Option Int)(d0 d1:Int)(row:List Int):List Int:=row.flatMap fun d=>(if d=one then [d0] else [])++(if some d=other then [d1] else [])++[d]
theorem putR_perm(one d0 d1:Int)(other:Option Int):∀ {row:List Int},row.Nodup->(putR one other d0 d1 row).Perm (row++(if one∈row then [d0] else [])++(if ∃ o,other=some o/\o∈row then [d1] else []))
 | [],_=>by simp[putR]
 | z :: row,h=>by
  have h':=List.nodup_cons.mp h
  have ih:=putR_perm one d0 d1 other h'.2
  have e:putR one other d0 d1 (z :: row)=(if z=one then [d0] else [])++(if some z=other then [d1] else [])++[z]++putR one other d0 d1 row:=rfl
  rw[e]
  refine((List.Perm.refl _).append ih).trans ?_
  have c1:(if one∈z :: row then [d0] else [])=(if z=one then [d0] else [])++(if one∈row then [d0] else []):=by
   by_cases a:z=one
   ·rw[if_pos a,if_pos (by rw[a];exact List.mem_cons_self),if_neg (fun hm=>h'.1 (by rw[a];exact hm))];rfl
   ·rw[if_neg a]
    by_cases b:one∈row
    ·rw[if_pos b,if_pos (List.mem_cons_of_mem _ b)];rfl
    ·rw[if_neg b,if_neg (fun hm=>(List.mem_cons.mp hm).elim (fun e=>a e.symm) b)];rfl
  have c2:(if ∃ o,other=some o/\o∈z :: row then [d1] else [])=(if some z=other then [d1] else [])++(if ∃ o,other=some o/\o∈row then [d1] else []):=by
   by_cases a:some z=other
   ·rw[if_pos a,if_pos ⟨z,a.symm,List.mem_cons_self⟩,if_neg (fun⟨o,e1,e2⟩=>h'.1 (by rw[<- a]at e1;rw[Option.some.inj e1];exact e2))];rfl
   ·rw[if_neg a]
    by_cases b:∃ o,other=some o/\o∈row
    ·rw[if_pos b,if_pos (let ⟨o,e1,e2⟩:=b;⟨o,e1,List.mem_cons_of_mem _ e2⟩)];rfl
    ·rw[if_neg b,if_neg (fun⟨o,e1,e2⟩=>(List.mem_cons.mp e2).elim (fun e=>a (by rw[e1,e])) fun hm=>b ⟨o,e1,hm⟩)];rfl
  rw[c1,c2]
  generalize (if z=one then [d0] else ([]:List Int))=A
  generalize (if some z=other then [d1] else ([]:List Int))=B
  generalize (if one∈row then [d0] else ([]:List Int))=C
  generalize (if ∃ o,other=some o/\o∈row then [d1] else ([]:List Int))=D
  refine List.perm_iff_count.mpr fun x=>?_
  simp only [List.count_append,List.cons_append,List.count_cons,List.count_nil]
  omega
theorem dts_snoc(ps:List (Int × Int))(e:Int × Int)(p:Int):dts (ps++[e]) p=dts ps p++(if e.1=p then [2 * (ps.length:Int)] else [])++(if e.2=p then [2 * (ps.length:Int)+1] else []):=by
 have cg:∀ i,i<=ps.length->dtU (ps++[e]) p i=dtU ps p i:=fun i=>by
  induction i with
  | zero=>intro _;rfl
  | succ i ih =>
   intro hi
   have g:(ps++[e]).getD i (0,0)=ps.getD i (0,0):=by rw[List.getD_eq_getElem?_getD,List.getElem?_append_left (by omega),<- List.getD_eq_getElem?_getD]
   show dtU (ps++[e]) p i++_++_=dtU ps p i++_++_
   rw[ih (by omega),g]
 unfold dts
 rw[List.length_append,List.length_singleton]
 have g:(ps++[e]).getD ps.length (0,0)=e:=by rw[List.getD_eq_getElem?_getD,List.getElem?_append_right (Nat.le_refl _),Nat.sub_self];rfl
 show dtU (ps++[e]) p ps.length++(if ((ps++[e]).getD ps.length (0,0)).1=p then _ else _)++(if ((ps++[e]).getD ps.length (0,0)).2=p then _ else _)=_
 rw[cg _ (Nat.le_refl _),g]
def NewD(m:Nat)(d0 d1:Int)(a b:Int)(e:Int × Int):Prop:=(d0=2 * (m:Int)/\d1=2 * (m:Int)+1/\e=(a,b))\/(d0=2 * (m:Int)+1/\d1=2 * (m:Int)/\e=(b,a))
theorem new_row{ps:List (Int × Int)}{d0 d1 a b:Int}{e:Int × Int}(hN:NewD ps.length d0 d1 a b e){p:Int}{l:List Int}(hl:l.Perm (dts ps p)):(l++(if a=p then [d0] else [])++(if b=p then [d1] else [])).Perm (dts (ps++[e]) p):=by
 rw[dts_snoc]
 rcases hN with ⟨rfl,rfl,rfl⟩ | ⟨rfl,rfl,rfl⟩
 ·exact(hl.append (.refl _)).append (.refl _)
 ·refine List.perm_iff_count.mpr fun x=>?_
  have:=List.perm_iff_count.mp hl x
  show List.count x (l++(if a=p then [2 * (ps.length:Int)+1] else [])++(if b=p then [2 * (ps.length:Int)] else []))=List.count x (dts ps p++(if b=p then [2 * (ps.length:Int)] else [])++(if a=p then [2 * (ps.length:Int)+1] else []))
  simp only [List.count_append]
  omega
section
variable{n:Nat}{ps:List (Int × Int)}{ts:List (List Int)}
theorem VT.place(h:VT n ps ts){x:Int}{p q:Nat}{row row':List Int}(hp:ts[p]?=some row)(hx:x∈row)(hq:ts[q]?=some row'):x∈row'↔(p:Int)=q:=by
 have a:=((h.mem hp).mp hx)
 constructor
 ·intro hx'
  have b:=((h.mem hq).mp hx').2
  omega
 ·intro e
  exact(h.mem hq).mpr ⟨a.1,by omega⟩
theorem vt_join(h:VT n ps ts){one other d0 d1:Int}{p q:Nat}{r1 r2:List Int}{e:Int × Int}(hp:ts[p]?=some r1)(hx:one∈r1)(hq:ts[q]?=some r2)(hy:other∈r2)(hN:NewD ps.length d0 d1 p q e):VT n (ps++[e]) (ts.map (putR one (some other) d0 d1)):=by
 refine⟨by rw[List.length_map];exact h.1,fun k row hk=>?_⟩
 rw[List.getElem?_map]at hk
 cases hr:ts[k]? with
 | none=>rw[hr]at hk;cases hk
 | some r =>
  rw[hr]at hk
  obtain rfl:putR one (some other) d0 d1 r=row:=Option.some.inj hk
  refine(putR_perm one d0 d1 (some other) (h.nodup hr)).trans ?_
  have c1:(one∈r)=((p:Int)=k):=propext (h.place hp hx hr)
  have c2:(∃ o,some other=some o/\o∈r)=((q:Int)=k):=propext ⟨fun⟨o,e1,e2⟩=>(h.place hq hy hr).mp (by rw[Option.some.inj e1];exact e2),fun z=>⟨other,rfl,(h.place hq hy hr).mpr z⟩⟩
  have:=new_row hN (p:=(k:Int)) (h.2 k r hr)
  by_cases a1:(p:Int)=k
  ·rw[if_pos a1]at this
   rw[if_pos (c1 ▸ a1)]
   by_cases a2:(q:Int)=k
   ·rw[if_pos a2]at this
    rw[if_pos (c2 ▸ a2)]
    exact this
   ·rw[if_neg a2]at this
    rw[if_neg (c2 ▸ a2)]
    exact this
  ·rw[if_neg a1]at this
   rw[if_neg (c1 ▸ a1)]
   by_cases a2:(q:Int)=k
   ·rw[if_pos a2]at this
    rw[if_pos (c2 ▸ a2)]
    exact this
   ·rw[if_neg a2]at this
    rw[if_neg (c2 ▸ a2)]
    exact this
theorem vt_grow(h:VT n ps ts)(hg:∀ p∈ps,0<=p.1/\p.1<(n:Int)/\0<=p.2/\p.2<(n:Int)){one d0 d1:Int}{p:Nat}{r1:List Int}{e:Int × Int}(hp:ts[p]?=some r1)(hx:one∈r1)(hN:NewD ps.length d0 d1 p n e):VT (n+1) (ps++[e]) (ts.map (putR one none d0 d1)++[[d1]]):=by
 have hl:=h.1
 have hpn:=(List.getElem?_eq_some_iff.mp hp).1
 refine⟨by rw[List.length_append,List.length_map,hl];rfl,fun k row hk=>?_⟩
 by_cases c:k<n
 ·rw[List.getElem?_append_left (by rw[List.length_map];omega),List.getElem?_map]at hk
  cases hr:ts[k]? with
  | none=>rw[hr]at hk;cases hk
  | some r =>
   rw[hr]at hk
   obtain rfl:putR one none d0 d1 r=row:=Option.some.inj hk
   refine(putR_perm one d0 d1 none (h.nodup hr)).trans ?_
   have c1:(one∈r)=((p:Int)=k):=propext (h.place hp hx hr)
   have:=new_row hN (p:=(k:Int)) (h.2 k r hr)
   rw[if_neg (show ¬ (n:Int)=(k:Int) by omega)]at this
   rw[if_neg (show ¬ ∃ o,(none:Option Int)=some o/\o∈r from fun⟨o,e1,_⟩=>by cases e1)]
   by_cases a1:(p:Int)=k
   ·rw[if_pos a1]at this
    rw[if_pos (c1 ▸ a1)]
    exact this
   ·rw[if_neg a1]at this
    rw[if_neg (c1 ▸ a1)]
    exact this
 ·have lt:=(List.getElem?_eq_some_iff.mp hk).1
  rw[List.length_append,List.length_map,List.length_singleton]at lt
  have ek:k=n:=by omega
  subst ek
  rw[List.getElem?_append_right (by rw[List.length_map];omega),List.length_map,hl,Nat.sub_self]at hk
  obtain rfl:[d1]=row:=Option.some.inj hk
  have d0e:dts ps (k:Int)=[]:=by
   refine List.eq_nil_iff_forall_not_mem.mpr fun x hx=>?_
   have:=dts_mem.mp hx
   have:=own_range hg this.1
   omega
  have:=new_row hN (p:=(k:Int)) (l:=[]) (by rw[d0e])
  rw[if_neg (show ¬ (p:Int)=(k:Int) by omega),if_pos rfl]at this
  exact this
end
def plR(row:List Int)(k:Int):List (Int × Int):=row.map fun d=>(d,k)
def plL(ts:List (List Int)):Nat->List (Int × Int)
 | 0=>[]
 | i+1=>plL ts i++plR (ts.getD i []) i
theorem plL_keys(ts:List (List Int)):∀ i,i<=ts.length->(plL ts i).map (·.1)=(ts.take i).flatten
 | 0,_=>by simp[plL]
 | i+1,h=>by
  obtain⟨row,hr⟩:∃ row,ts[i]?=some row:=⟨_,List.getElem?_eq_getElem (by omega)⟩
  show(plL ts i++plR (ts.getD i []) i).map (·.1)=_
  rw[List.map_append,plL_keys ts i (by omega),flat_take hr,show ts.getD i []=row by rw[List.getD_eq_getElem?_getD,hr];rfl]
  unfold plR
  rw[List.map_map]
  congr 1
  exact List.map_id'' (fun _=>rfl) row
theorem plL_mem{ts:List (List Int)}{p:Nat}{row:List Int}{x:Int}(hp:ts[p]?=some row)(hx:x∈row):∀ {i:Nat},p<i->(x,(p:Int))∈plL ts i
 | i+1,h=>by
  show _∈plL ts i++plR (ts.getD i []) i
  rw[List.mem_append]
  by_cases c:p=i
  ·subst c
   refine .inr (List.mem_map.mpr ⟨x,?_,rfl⟩)
   rw[List.getD_eq_getElem?_getD,hp]
   exact hx
  ·exact .inl (plL_mem hp hx (by omega))
end My
namespace L2
open PySem PySem.Spec PyProof.Rows
section
variable{X:Cx}{a b c:Expr}{ta tb tc:TE}{pos:Pos}
theorem pe_lst1(ha:PE X a ta)(h1:starEach [a] X.env=[(false,eval a X.env)]:=by rfl):PE X (.List [a] pos) (tLst (tCons ta tNil)):=pe_lst (ζ0 ha ζ4 h1)
theorem pe_lst2(ha:PE X a ta)(hb:PE X b tb)(h1:starEach [a,b] X.env=(false,eval a X.env) :: starEach [b] X.env:=by rfl)(h2:starEach [b] X.env=[(false,eval b X.env)]:=by rfl):PE X (.List [a,b] pos) (tLst (tCons ta (tCons tb tNil))):=pe_lst (ζ0 ha (ζ0 hb ζ4 h2) h1)
theorem pe_tup2{k:Nat}(ha:PE X a ta)(hb:PE X b tb)(h1:starEach [a,b] X.env=(false,eval a X.env) :: starEach [b] X.env:=by rfl)(h2:starEach [b] X.env=[(false,eval b X.env)]:=by rfl):PE X (.Tuple [a,b] k pos) (tTup (tCons ta (tCons tb tNil))):=pe_tup (ζ0 ha (ζ0 hb ζ4 h2) h1)
theorem pe_tup3{k:Nat}(ha:PE X a ta)(hb:PE X b tb)(hc:PE X c tc)(h1:starEach [a,b,c] X.env=(false,eval a X.env) :: starEach [b,c] X.env:=by rfl)(h2:starEach [b,c] X.env=(false,eval b X.env) :: starEach [c] X.env:=by rfl)(h3:starEach [c] X.env=[(false,eval c X.env)]:=by rfl):PE X (.Tuple [a,b,c] k pos) (tTup (tCons ta (tCons tb (tCons tc tNil)))):=pe_tup (ζ0 ha (ζ0 hb (ζ0 hc ζ4 h3) h2) h1)
end
end L2
namespace My
open PySem L2
def Flat(n:Int)(ps:List (Int × Int))(R:List (List Int)):Prop:=Joined n ps/\n - (ps.length:Int)+(R.length:Int)=2
def rnR(R:List (List Int))(d:Int):Int:=((plL R R.length).find? fun p=>decide (p.1=d)).elim 0 (·.2)
def owT(R:List (List Int))(m:Nat):List (Int × Int):=(List.range m).map fun(k:Nat)=>(rnR R (2 * (k:Int)),rnR R (2 * (k:Int)+1))
theorem rnR_val{R:List (List Int)}{d:Int}(h:d∈R.flatten):valV (kvI (plL R R.length)) (Sum.inl d)=some (.int (rnR R d))/\0<=rnR R d/\rnR R d<(R.length:Int):=by
 have hk:d∈(plL R R.length).map (·.1):=by rw[plL_keys R _ (Nat.le_refl _),List.take_length];exact h
 have rng:∀ i,∀ p∈plL R i,0<=p.2/\p.2<(i:Int):=fun i=>by
  induction i with
  | zero=>intro p hp;cases hp
  | succ i ih =>
   intro p hp
   have hp:p∈plL R i++plR (R.getD i []) i:=hp
   rcases List.mem_append.mp hp with e | e
   ·have:=ih p e;omega
   ·obtain⟨z,_,rfl⟩:=List.mem_map.mp e
    show 0<=(i:Int)/\(i:Int)<_
    omega
 have key:∀ L:List (Int × Int),(∀ p∈L,0<=p.2/\p.2<(R.length:Int))->d∈L.map (·.1)->valV (kvI L) (Sum.inl d)=some (.int ((L.find? fun p=>decide (p.1=d)).elim 0 (·.2)))/\0<=(L.find? fun p=>decide (p.1=d)).elim 0 (·.2)/\(L.find? fun p=>decide (p.1=d)).elim 0 (·.2)<(R.length:Int):=fun L=>by
  induction L with
  | nil=>intro _ h;cases h
  | cons p L ih =>
   intro hb hm
   show valV ((Sum.inl p.1,V.int p.2) :: kvI L) _=_/\_
   by_cases c:p.1=d
   ·rw[valV_pos (by rw[c]),List.find?_cons,decide_eq_true c]
    exact⟨rfl,hb p List.mem_cons_self⟩
   ·rw[valV_neg (fun e=>c (Sum.inl.inj e)),List.find?_cons,decide_eq_false c]
    refine ih (fun q hq=>hb q (List.mem_cons_of_mem _ hq)) ?_
    rcases List.mem_cons.mp hm with e | e
    ·exact absurd e.symm c
    ·exact e
 exact key _ (rng _) hk
theorem RdW.nodup{n:Nat}{ps:List (Int × Int)}{ts R:List (List Int)}(hV:VT n ps ts)(h:RdW ps ts R):R.flatten.Nodup:=by
 rcases h with ⟨_,rfl⟩ | ⟨_,h⟩
 ·exact .nil
 ·exact h.nodup fun x y z=>bh_inj hV
theorem RdW.few{n:Nat}{ps:List (Int × Int)}{ts R:List (List Int)}(hV:VT n ps ts)(h:RdW ps ts R):R.flatten.length<=2 * ps.length/\R.length<=2 * ps.length+1:=by
 rcases h with ⟨_,rfl⟩ | ⟨_,h⟩
 ·exact⟨Nat.zero_le _,Nat.le_add_left _ _⟩
 ·have f:=nd_few (h.nodup fun x y z=>bh_inj hV) (h.range (M:=((2 * ps.length:Nat):Int)) fun x y hxy=>by have:=bh_range hV hxy;omega)
  have g:∀ L:List (List Int),(∀ l∈L,0<l.length)->L.length<=L.flatten.length:=fun L=>by
   induction L with
   | nil=>intro _;exact Nat.le_refl _
   | cons l L ih =>
    intro h
    have:=h l List.mem_cons_self
    have:=ih fun x hx=>h x (List.mem_cons_of_mem _ hx)
    rw[List.flatten_cons,List.length_append,List.length_cons]
    omega
  have:=g R fun l hl=>by obtain⟨_,o⟩:=h.orbs l hl;exact o.pos
  exact⟨f,by omega⟩
theorem RdW.all{n:Nat}{ps:List (Int × Int)}{ts R:List (List Int)}(hV:VT n ps ts)(h:RdW ps ts R){x:Int}(hx:0<=x/\x<2 * (ps.length:Int)):x∈R.flatten:=by
 rcases h with ⟨h0,_⟩ | ⟨_,h⟩
 ·omega
 ·exact h.below x hx.1 (by omega)
end My
namespace L2
open PySem PySem.Spec PyProof.Rows
section
variable{X:Cx}
end
end L2
namespace My
open PySem L2
def Ch(B:List (Int × Int))(l:List Int):Prop:=∀(i:Nat) (x y:Int),l[i]?=some x->l[i+1]?=some y->(x,y)∈B
theorem ch_append{B:List (Int × Int)}{a b:List Int}:Ch B (a++b)↔Ch B a/\Ch B b/\∀ x∈a.getLast?,∀ y∈b.head?,(x,y)∈B:=by
 constructor
 ·intro h
  refine⟨fun i x y h1 h2=>h i x y ?_ ?_,fun i x y h1 h2=>h (a.length+i) x y ?_ ?_,fun x hx y hy=>?_⟩
  ·rw[List.getElem?_append_left (List.getElem?_eq_some_iff.mp h1).1];exact h1
  ·rw[List.getElem?_append_left (List.getElem?_eq_some_iff.mp h2).1];exact h2
  ·rw[List.getElem?_append_right (by omega),Nat.add_sub_cancel_left];exact h1
  ·rw[List.getElem?_append_right (by omega),Nat.add_assoc,Nat.add_sub_cancel_left];exact h2
  ·have hx:a.getLast?=some x:=hx
   have hy:b.head?=some y:=hy
   rw[List.getLast?_eq_getElem?]at hx
   rw[List.head?_eq_getElem?]at hy
   have hl:=(List.getElem?_eq_some_iff.mp hx).1
   refine h (a.length - 1) x y ?_ ?_
   ·rw[List.getElem?_append_left hl];exact hx
   ·rw[List.getElem?_append_right (by omega),show a.length - 1+1 - a.length=0 by omega];exact hy
 ·rintro⟨h1,h2,h3⟩ i x y e1 e2
  by_cases c:i+1<a.length
  ·rw[List.getElem?_append_left (by omega)]at e1 e2
   exact h1 i x y e1 e2
  by_cases c2:i<a.length
  ·rw[List.getElem?_append_left c2]at e1
   rw[List.getElem?_append_right (by omega),show i+1 - a.length=0 by omega]at e2
   refine h3 x ?_ y ?_
   ·show a.getLast?=some x
    rw[List.getLast?_eq_getElem?,show a.length - 1=i by omega];exact e1
   ·show b.head?=some y
    rw[List.head?_eq_getElem?];exact e2
  ·rw[List.getElem?_append_right (by omega)]at e1 e2
   exact h2 (i - a.length) x y e1 (by rw[show i - a.length+1=i+1 - a.length by omega];exact e2)
theorem gl_app{a b:List Int}(h:b≠[]):(a++b).getLast?=b.getLast?:=by
 rw[List.getLast?_append]
 cases e:b.getLast? with
 | none=>exact absurd (List.getLast?_eq_none_iff.mp e) h
 | some x=>rfl
theorem hd_app{a b:List Int}(h:a≠[]):(a++b).head?=a.head?:=by
 cases a with
 | nil=>exact absurd rfl h
 | cons x t=>rfl
theorem ch_cons{B:List (Int × Int)}{x z:Int}{t:List Int}(h:Ch B (x :: z :: t)):(x,z)∈B/\Ch B (z :: t) :=
 ⟨h 0 x z rfl rfl,fun i a b h1 h2=>h (i+1) a b h1 h2⟩
def Cy(B:List (Int × Int))(row:List Int):Prop:=row≠[]/\row.Nodup/\Ch B row/\∀ x∈row.getLast?,∀ y∈row.head?,(x,y)∈B
theorem Orb.cy{B:List (Int × Int)}{d:Int}{row:List Int}(h:Orb B d row):Cy B row:=by
 have p:=h.pos
 refine⟨fun e=>by rw[e]at p;exact absurd p (by decide),h.2.1,h.2.2.1,fun x hx y hy=>?_⟩
 have e1:row.head?=some d:=by rw[List.head?_eq_getElem?];exact h.1
 rw[e1]at hy
 cases hy
 exact h.2.2.2 x (by rw[<- List.getLast?_eq_getElem?];exact hx)
theorem Cy.rot{B:List (Int × Int)}{a b:List Int}(h:Cy B (a++b)):Cy B (b++a):=by
 obtain⟨h1,h2,h3,h4⟩:=h
 by_cases ca:a=[]
 ·subst ca;rw[List.append_nil];exact⟨h1,h2,h3,h4⟩
 by_cases cb:b=[]
 ·subst cb;rw[List.append_nil]at h1 h2 h3 h4;exact⟨h1,h2,h3,h4⟩
 obtain⟨c1,c2,c3⟩:=ch_append.mp h3
 refine⟨by simp[ca],(List.perm_append_comm (l₁:=a) (l₂:=b)).nodup_iff.mp h2,ch_append.mpr ⟨c2,c1,fun x hx y hy=>h4 x ?_ y ?_⟩,fun x hx y hy=>c3 x ?_ y ?_⟩
 ·rw[gl_app cb];exact hx
 ·rw[hd_app ca];exact hy
 ·rw[gl_app ca]at hx;exact hx
 ·rw[hd_app cb]at hy;exact hy
theorem Cy.from{B:List (Int × Int)}{row:List Int}(h:Cy B row){x:Int}(hx:x∈row):∃ t,Cy B (x :: t)/\(x :: t).Perm row:=by
 obtain⟨s,t,rfl⟩:=List.append_of_mem hx
 exact⟨t++s,h.rot,List.perm_append_comm (l₁:=x :: t) (l₂:=s)⟩
theorem Cy.next{B:List (Int × Int)}(hf:∀ x y z,(x,y)∈B->(x,z)∈B->y=z){row:List Int}(h:Cy B row){x y:Int}(hx:x∈row)(hb:(x,y)∈B):y∈row:=by
 obtain⟨t,ht,hp⟩:=h.from hx
 refine hp.mem_iff.mp ?_
 cases t with
 | nil =>
  have:=ht.2.2.2 x rfl x rfl
  rw[hf _ _ _ hb this]
  exact List.mem_cons_self
 | cons z t =>
  have:=(ch_cons ht.2.2.1).1
  rw[hf _ _ _ hb this]
  exact List.mem_cons_of_mem _ List.mem_cons_self
theorem chain_sub{B:List (Int × Int)}(hf:∀ x y z,(x,y)∈B->(x,z)∈B->y=z){r:List Int}(h:Cy B r):∀ {l:List Int} {x:Int},Ch B (x :: l)->x∈r->∀ y∈x :: l,y∈r
 | [],x,_,hx,y,hy=>by rw[List.mem_singleton.mp hy];exact hx
 | z :: l,x,hc,hx,y,hy=>by
  obtain⟨h1,h2⟩:=ch_cons hc
  rcases List.mem_cons.mp hy with e | e
  ·rw[e];exact hx
  ·exact chain_sub hf h h2 (h.next hf hx h1) y e
theorem Cy.sub{B:List (Int × Int)}(hf:∀ x y z,(x,y)∈B->(x,z)∈B->y=z){r1 r2:List Int}(h1:Cy B r1)(h2:Cy B r2){x:Int}(hx1:x∈r1)(hx2:x∈r2):∀ y∈r1,y∈r2:=fun y hy=>by
 obtain⟨t,ht,hp⟩:=h1.from hx1
 exact chain_sub hf h2 ht.2.2.1 hx2 y (hp.mem_iff.mpr hy)
def OP(B:List (Int × Int))(M:Nat)(L:List (List Int)):Prop:=(∀ row∈L,Cy B row)/\L.flatten.Nodup/\∀ x:Int,x∈L.flatten↔0<=x/\x<(M:Int)
theorem oq_le{B:List (Int × Int)}(hf:∀ x y z,(x,y)∈B->(x,z)∈B->y=z){M:Nat}{L1 L2:List (List Int)}(h1:OP B M L1)(h2:OP B M L2):L1.length<=L2.length:=by
 obtain⟨a1,a2,a3⟩:=h1
 obtain⟨b1,b2,b3⟩:=h2
 have dis:=(List.pairwise_flatten.mp a2).2
 have ex:∀ row:List Int,∃ q:Int,row∈L1->(0<=q/\q<(L2.length:Int))/\∃ row2,L2[q.toNat]?=some row2/\∃ x∈row,x∈row2:=fun row=>by
  by_cases c:row∈L1
  ·obtain⟨x,hx⟩:∃ x,x∈row:=by
    cases row with
    | nil=>exact absurd rfl (a1 _ c).1
    | cons x t=>exact⟨x,List.mem_cons_self⟩
   obtain⟨row2,m2,hx2⟩:=List.mem_flatten.mp ((b3 x).mpr ((a3 x).mp (List.mem_flatten.mpr ⟨row,c,hx⟩)))
   obtain⟨i,hi⟩:=List.getElem?_of_mem m2
   have:=(List.getElem?_eq_some_iff.mp hi).1
   exact⟨(i:Int),fun _=>⟨by omega,row2,by rw[Int.toNat_natCast];exact hi,x,hx,hx2⟩⟩
  ·exact⟨0,fun h=>absurd h c⟩
 obtain⟨g,hg⟩:∃ g:List Int->Int,∀ row,row∈L1->(0<=g row/\g row<(L2.length:Int))/\∃ row2,L2[(g row).toNat]?=some row2/\∃ x∈row,x∈row2:=⟨fun r=>(ex r).choose,fun r=>(ex r).choose_spec⟩
 have nd:(L1.map g).Nodup:=by
  refine List.pairwise_map.mpr (List.pairwise_iff_getElem.mpr fun i j hi hj hij e=>?_)
  have mi:L1[i]∈L1:=List.getElem_mem hi
  have mj:L1[j]∈L1:=List.getElem_mem hj
  obtain⟨_,r2,e2,x,hx,hx2⟩:=hg _ mi
  obtain⟨_,r3,e3,y,hy,hy2⟩:=hg _ mj
  rw[e,e3]at e2
  obtain rfl:=Option.some.inj e2
  have hc:=b1 r3 (List.mem_of_getElem? e3)
  have:=hc.sub hf (a1 _ mi) hx2 hx y hy2
  exact List.pairwise_iff_getElem.mp dis i j hi hj hij y this y hy rfl
 have:=nd_few nd (M:=L2.length) fun x hx=>by
  obtain⟨r,hr,rfl⟩:=List.mem_map.mp hx
  exact(hg r hr).1
 rw[List.length_map]at this
 exact this
section
variable{n:Nat}{ps:List (Int × Int)}{ts R L:List (List Int)}
theorem RdW.op(hV:VT n ps ts)(h0:0<ps.length)(h:RdW ps ts R):OP (bhL ts) (2 * ps.length) R:=by
 rcases h with ⟨e,_⟩ | ⟨_,h⟩
 ·omega
 have rg:∀ x y,(x,y)∈bhL ts->(0<=x/\x<((2 * ps.length:Nat):Int))/\0<=y/\y<((2 * ps.length:Nat):Int):=fun x y hxy=>by have:=bh_range hV hxy;omega
 exact⟨fun row hr=>by obtain⟨d,o⟩:=h.orbs row hr;exact o.cy,h.nodup fun x y z=>bh_inj hV,fun x=>⟨h.range rg x,fun hx=>h.below x hx.1 hx.2⟩⟩
theorem oq_len(hV:VT n ps ts)(h0:0<ps.length)(h:RdW ps ts R)(hL:OP (bhL ts) (2 * ps.length) L):R.length=L.length :=
 Nat.le_antisymm (oq_le (fun x y z=>bh_fun hV) (h.op hV h0) hL) (oq_le (fun x y z=>bh_fun hV) hL (h.op hV h0))
end
def Nb(row:List Int)(a b:Int):Prop:=(∃ s t,row=s++a :: b :: t)\/(∃ s,row=s++[a])/\∃ t,row=b :: t
theorem nb_bh{ts:List (List Int)}{row:List Int}{a b:Int}(hr:row∈ts)(h:Nb row a b):(bkD a,b)∈bhL ts:=by
 refine bhL_mem.mpr ⟨row,hr,?_⟩
 rcases h with ⟨s,t,rfl⟩ | ⟨⟨s,e1⟩,t,e2⟩
 ·refine⟨s.length,by simp,?_,?_⟩
  ·rw[List.getD_eq_getElem?_getD,List.getElem?_append_right (Nat.le_refl _),Nat.sub_self];rfl
  ·rw[Nat.mod_eq_of_lt (by simp),List.getD_eq_getElem?_getD,List.getElem?_append_right (by omega),Nat.add_sub_cancel_left];rfl
 ·have hl:row.length=s.length+1:=by rw[e1];simp
  refine⟨s.length,by omega,?_,?_⟩
  ·rw[e1,List.getD_eq_getElem?_getD,List.getElem?_append_right (Nat.le_refl _),Nat.sub_self];rfl
  ·rw[hl,Nat.mod_self,e2];rfl
theorem bh_nb{ts:List (List Int)}{x y:Int}(h:(x,y)∈bhL ts):∃ row∈ts,∃ a,x=bkD a/\Nb row a y:=by
 obtain⟨row,hr,i,hi,e1,e2⟩:=bhL_mem.mp h
 refine⟨row,hr,row.getD i 0,e1,?_⟩
 have ga:row.getD i 0=row[i]:=by rw[List.getD_eq_getElem?_getD,List.getElem?_eq_getElem hi];rfl
 by_cases c:i+1<row.length
 ·rw[Nat.mod_eq_of_lt c,List.getD_eq_getElem?_getD,List.getElem?_eq_getElem c]at e2
  left
  refine⟨row.take i,row.drop (i+2),?_⟩
  rw[ga,show y=row[i+1] from e2,<- List.drop_eq_getElem_cons c,<- List.drop_eq_getElem_cons hi,List.take_append_drop]
 ·right
  have hl:i+1=row.length:=by omega
  rw[hl,Nat.mod_self]at e2
  constructor
  ·refine⟨row.take i,?_⟩
   have:=List.take_append_drop i row
   rw[List.drop_eq_getElem_cons hi,List.drop_eq_nil_of_le (by omega)]at this
   rw[ga];exact this.symm
  ·cases row with
   | nil=>exact absurd hi (by simp)
   | cons z t=>exact⟨t,by rw[show y=z from e2]⟩
section
variable{one d0 d1:Int}{other:Option Int}
def hdD(one:Int)(other:Option Int)(d0 d1 y:Int):Int:=if y=one then d0 else if some y=other then d1 else y
theorem putR_app(a b:List Int):putR one other d0 d1 (a++b)=putR one other d0 d1 a++putR one other d0 d1 b:=List.flatMap_append
theorem putR_cons(z:Int)(t:List Int):putR one other d0 d1 (z :: t)=(if z=one then [d0] else [])++(if some z=other then [d1] else [])++z :: putR one other d0 d1 t:=by
 show((if z=one then [d0] else [])++(if some z=other then [d1] else [])++[z])++putR one other d0 d1 t=_
 rw[List.append_assoc];rfl
theorem putR_hd(z:Int)(t:List Int):∃ u,putR one other d0 d1 (z :: t)=hdD one other d0 d1 z :: u:=by
 rw[putR_cons]
 unfold hdD
 by_cases c1:z=one
 ·rw[if_pos c1,if_pos c1];exact⟨_,rfl⟩
 ·rw[if_neg c1,if_neg c1]
  by_cases c2:some z=other
  ·rw[if_pos c2,if_pos c2];exact⟨_,rfl⟩
  ·rw[if_neg c2,if_neg c2];exact⟨_,rfl⟩
theorem putR_one(t:List Int):∃ u,putR one other d0 d1 (one :: t)=d0 :: (if other=some one then d1 else one) :: u:=by
 rw[putR_cons,if_pos rfl]
 by_cases c:other=some one
 ·rw[if_pos c,if_pos c.symm];exact⟨_,rfl⟩
 ·rw[if_neg c,if_neg (fun e=>c e.symm)];exact⟨_,rfl⟩
theorem putR_two(o:Int)(t:List Int):∃ s u,putR one (some o) d0 d1 (o :: t)=s++d1 :: o :: u:=by
 rw[putR_cons,if_pos rfl,List.append_assoc]
 exact⟨_,_,rfl⟩
theorem nb_put{row:List Int}{a b:Int}(h:Nb row a b):Nb (putR one other d0 d1 row) a (hdD one other d0 d1 b):=by
 rcases h with ⟨s,t,rfl⟩ | ⟨⟨s,e1⟩,t,e2⟩
 ·left
  obtain⟨u,hu⟩:=putR_hd (one:=one) (d0:=d0) (d1:=d1) (other:=other) b t
  rw[putR_app,putR_cons,hu,<- List.append_assoc]
  exact⟨_,_,rfl⟩
 ·right
  constructor
  ·rw[e1,putR_app,putR_cons,<- List.append_assoc]
   exact⟨_,rfl⟩
  ·rw[e2];exact putR_hd b t
theorem nb_one{row:List Int}(h:one∈row):Nb (putR one other d0 d1 row) d0 (if other=some one then d1 else one):=by
 obtain⟨s,t,rfl⟩:=List.append_of_mem h
 obtain⟨u,hu⟩:=putR_one (one:=one) (d0:=d0) (d1:=d1) (other:=other) t
 rw[putR_app,hu]
 exact .inl ⟨_,_,rfl⟩
theorem nb_two{row:List Int}{o:Int}(h:o∈row):Nb (putR one (some o) d0 d1 row) d1 o:=by
 obtain⟨s,t,rfl⟩:=List.append_of_mem h
 obtain⟨v,u,hu⟩:=putR_two (one:=one) (d0:=d0) (d1:=d1) o t
 rw[putR_app,hu,<- List.append_assoc]
 exact .inl ⟨_,_,rfl⟩
theorem bh_put{ts:List (List Int)}{x y:Int}(h:(x,y)∈bhL ts):(x,hdD one other d0 d1 y)∈bhL (ts.map (putR one other d0 d1)):=by
 obtain⟨row,hr,a,rfl,hn⟩:=bh_nb h
 exact nb_bh (List.mem_map.mpr ⟨row,hr,rfl⟩) (nb_put hn)
theorem bh_one{ts:List (List Int)}{row:List Int}(hr:row∈ts)(h:one∈row):(bkD d0,if other=some one then d1 else one)∈bhL (ts.map (putR one other d0 d1)) :=
 nb_bh (List.mem_map.mpr ⟨row,hr,rfl⟩) (nb_one h)
theorem bh_two{ts:List (List Int)}{row:List Int}{o:Int}(hr:row∈ts)(h:o∈row):(bkD d1,o)∈bhL (ts.map (putR one (some o) d0 d1)) :=
 nb_bh (List.mem_map.mpr ⟨row,hr,rfl⟩) (nb_two h)
theorem bh_app{ts us:List (List Int)}{x y:Int}(h:(x,y)∈bhL ts\/(x,y)∈bhL us):(x,y)∈bhL (ts++us):=by
 unfold bhL at h ⊢
 rw[List.flatMap_append,List.mem_append]
 exact h
end
section
variable{B B':List (Int × Int)}{one d0 d1:Int}{other:Option Int}
theorem ch_keep(H:∀ x y,(x,y)∈B->(x,hdD one other d0 d1 y)∈B'){l:List Int}(h:Ch B l)(hn:∀ y∈l.tail,y≠one/\some y≠other):Ch B' l:=fun i x y h1 h2=>by
 have hy:y∈l.tail:=List.mem_of_getElem? (i:=i) (by rw[List.getElem?_tail];exact h2)
 have:=H x y (h i x y h1 h2)
 unfold hdD at this
 rw[if_neg (hn y hy).1,if_neg (hn y hy).2]at this
 exact this
theorem cy_keep(H:∀ x y,(x,y)∈B->(x,hdD one other d0 d1 y)∈B'){l:List Int}(h:Cy B l)(hn:∀ y∈l,y≠one/\some y≠other):Cy B' l:=by
 refine⟨h.1,h.2.1,ch_keep H h.2.2.1 fun y hy=>hn y (List.mem_of_mem_tail hy),fun x hx y hy=>?_⟩
 have:=H x y (h.2.2.2 x hx y hy)
 have hy':=hn y (List.mem_of_mem_head? hy)
 unfold hdD at this
 rw[if_neg hy'.1,if_neg hy'.2]at this
 exact this
theorem cy_snoc{x d:Int}{t:List Int}(nd:(x :: t).Nodup)(hd:d∉x :: t)(hc:Ch B' (x :: t))(h1:∀ z∈(x :: t).getLast?,(z,d)∈B')(h2:(d,x)∈B'):Cy B' (x :: t++[d]):=by
 refine⟨by simp,List.nodup_append.mpr ⟨nd,by simp,fun a ha b hb e=>hd (by rw[List.mem_singleton.mp hb]at e;rw[<- e];exact ha)⟩,ch_append.mpr ⟨hc,fun i x y _ h2=>?_,fun z hz y hy=>?_⟩,fun z hz y hy=>?_⟩
 ·cases h2
 ·obtain rfl:d=y:=Option.some.inj hy
  exact h1 z hz
 ·rw[gl_app (by simp)]at hz
  obtain rfl:d=z:=Option.some.inj hz
  obtain rfl:x=y:=Option.some.inj hy
  exact h2
theorem cy_one{d:Int}(h:(d,d)∈B'):Cy B' [d]:=by
 refine⟨by simp,by simp,fun i x y _ h2=>?_,fun z hz y hy=>?_⟩
 ·cases h2
 ·obtain rfl:d=z:=Option.some.inj hz
  obtain rfl:d=y:=Option.some.inj hy
  exact h
theorem oq_put{M:Nat}{L1 L2 new:List (List Int)}{ρ:List Int}(h:OP B M (L1++ρ :: L2))(hn:∀ r∈new,Cy B' r)(hp:new.flatten.Perm (ρ++[d0,d1]))(hk:∀ r∈L1++L2,Cy B' r)(hd:(d0=(M:Int)/\d1=(M:Int)+1)\/d0=(M:Int)+1/\d1=(M:Int)):OP B' (M+2) (new++(L1++L2)):=by
 obtain⟨_,h2,h3⟩:=h
 have pm:(new++(L1++L2)).flatten.Perm ((L1++ρ :: L2).flatten++[d0,d1]):=by
  refine List.perm_iff_count.mpr fun x=>?_
  have:=List.perm_iff_count.mp hp x
  simp only [List.flatten_append,List.flatten_cons,List.count_append]at this ⊢
  omega
 refine⟨fun r hr=>(List.mem_append.mp hr).elim (hn r) (hk r),pm.nodup_iff.mpr (List.nodup_append.mpr ⟨h2,by simp;omega,fun a ha b hb=>?_⟩),fun x=>?_⟩
 ·have:=(h3 a).mp ha
  simp only [List.mem_cons,List.not_mem_nil,or_false]at hb
  omega
 ·rw[pm.mem_iff,List.mem_append,h3]
  simp only [List.mem_cons,List.not_mem_nil,or_false]
  omega
section
variable{M:Nat}{L:List (List Int)}
theorem oq_off{L1 L2:List (List Int)}{ρ:List Int}(h:OP B M (L1++ρ :: L2)){x:Int}(hx:x∈ρ):∀ r∈L1++L2,x∉r:=fun r hr hxr=>by
 have:=h.2.1
 rw[List.flatten_append,List.flatten_cons]at this
 obtain⟨_,a2,a3⟩:=List.nodup_append.mp this
 obtain⟨_,_,b3⟩:=List.nodup_append.mp a2
 rcases List.mem_append.mp hr with c | c
 ·exact a3 x (List.mem_flatten.mpr ⟨r,c,hxr⟩) x (List.mem_append_left _ hx) rfl
 ·exact b3 x hx x (List.mem_flatten.mpr ⟨r,c,hxr⟩) rfl
theorem oq_at(h:OP B M L){x:Int}(hx:0<=x/\x<(M:Int)):∃ L1 ρ L2,L=L1++ρ :: L2/\x∈ρ:=by
 obtain⟨r,hr,hxr⟩:=List.mem_flatten.mp ((h.2.2 x).mpr hx)
 obtain⟨L1,L2,rfl⟩:=List.append_of_mem hr
 exact⟨L1,r,L2,rfl,hxr⟩
theorem oq_new{L1 L2:List (List Int)}{ρ:List Int}(h:OP B M (L1++ρ :: L2)){x:Int}(hx:x∈ρ):0<=x/\x<(M:Int) :=
 (h.2.2 x).mp (List.mem_flatten.mpr ⟨ρ,by simp,hx⟩)
theorem oq_fresh(h:OP B M L)(hd:(d0=(M:Int)/\d1=(M:Int)+1)\/d0=(M:Int)+1/\d1=(M:Int))(H:∀ x y,(x,y)∈B->(x,hdD one none d0 d1 y)∈B')(ho:0<=one/\one<(M:Int))(h1:(d1,one)∈B')(h0:(d0,d1)∈B'):∃ L',OP B' (M+2) L'/\L'.length=L.length:=by
 obtain⟨L1,ρ,L2,rfl,hx⟩:=oq_at h ho
 have off:=oq_off h hx
 have rg:∀ z∈ρ,0<=z/\z<(M:Int):=fun z hz=>oq_new h hz
 obtain⟨t,ht,hp⟩:=(h.1 ρ (by simp)).from hx
 have nt:one∉t:=(List.nodup_cons.mp ht.2.1).1
 have kc:Ch B' (one :: t):=ch_keep H ht.2.2.1 fun y hy=>⟨fun e=>nt (e ▸ hy),fun e=>by cases e⟩
 have kl:∀ z∈(one :: t).getLast?,(z,d0)∈B':=fun z hz=>by
  have:=H z one (ht.2.2.2 z hz one rfl)
  unfold hdD at this
  rw[if_pos rfl]at this
  exact this
 have nd0:∀ d,(d=d0\/d=d1)->d∉one :: t:=fun d hd' hm=>by
  have:=rg d (hp.mem_iff.mp hm)
  omega
 have c2:Ch B' (one :: (t++[d0])):=by
  refine(ch_append (a:=one :: t) (b:=[d0])).mpr ⟨kc,(fun i x y _ h2=>by cases h2),fun z hz y hy=>?_⟩
  obtain rfl:d0=y:=Option.some.inj hy
  exact kl z hz
 have cy:Cy B' (one :: (t++[d0])++[d1]):=by
  refine cy_snoc ?_ ?_ c2 (fun z hz=>?_) h1
  ·refine(List.nodup_append (l₁:=one :: t) (l₂:=[d0])).mpr ⟨ht.2.1,by simp,fun a ha b hb e=>nd0 a (.inl ?_) ha⟩
   rw[e];exact List.mem_singleton.mp hb
  ·intro hm
   rcases List.mem_append.mp (show d1∈(one :: t)++[d0] from hm) with c | c
   ·exact nd0 d1 (.inr rfl) c
   ·have:=List.mem_singleton.mp c
    omega
  ·have hz:((one :: t)++[d0]).getLast?=some z:=hz
   rw[gl_app (by simp)]at hz
   obtain rfl:d0=z:=Option.some.inj hz
   exact h0
 refine⟨[one :: (t++[d0])++[d1]]++(L1++L2),oq_put h (fun r hr=>by rw[List.mem_singleton.mp hr];exact cy) ?_ (fun r hr=>cy_keep H (h.1 r ?_) fun y hy=>⟨fun e=>off r hr (e ▸ hy),fun e=>by cases e⟩) hd,by simp;omega⟩
 ·refine List.perm_iff_count.mpr fun x=>?_
  have:=List.perm_iff_count.mp hp x
  simp only [List.flatten_cons,List.flatten_nil,List.append_nil,List.count_append,List.count_cons,List.cons_append,List.count_nil]at this ⊢
  omega
 ·simp only [List.mem_append,List.mem_cons]at hr ⊢
  rcases hr with c | c
  ·exact .inl c
  ·exact .inr (.inr c)
theorem oq_same(h:OP B M L)(hd:(d0=(M:Int)/\d1=(M:Int)+1)\/d0=(M:Int)+1/\d1=(M:Int))(H:∀ x y,(x,y)∈B->(x,hdD one (some one) d0 d1 y)∈B')(ho:0<=one/\one<(M:Int))(h1:(d1,d1)∈B')(h0:(d0,one)∈B'):∃ L',OP B' (M+2) L'/\L'.length=L.length+1:=by
 obtain⟨L1,ρ,L2,rfl,hx⟩:=oq_at h ho
 have off:=oq_off h hx
 have rg:∀ z∈ρ,0<=z/\z<(M:Int):=fun z hz=>oq_new h hz
 obtain⟨t,ht,hp⟩:=(h.1 ρ (by simp)).from hx
 have nt:one∉t:=(List.nodup_cons.mp ht.2.1).1
 have kc:Ch B' (one :: t):=ch_keep H ht.2.2.1 fun y hy=>⟨fun e=>nt (e ▸ hy),fun e=>nt (Option.some.inj e ▸ hy)⟩
 have kl:∀ z∈(one :: t).getLast?,(z,d0)∈B':=fun z hz=>by
  have:=H z one (ht.2.2.2 z hz one rfl)
  unfold hdD at this
  rw[if_pos rfl]at this
  exact this
 have nd0:d0∉one :: t:=fun hm=>by
  have:=rg d0 (hp.mem_iff.mp hm)
  omega
 have cy:Cy B' (one :: t++[d0]):=cy_snoc ht.2.1 nd0 kc kl h0
 refine⟨[one :: t++[d0],[d1]]++(L1++L2),oq_put h (fun r hr=>?_) ?_ (fun r hr=>cy_keep H (h.1 r ?_) fun y hy=>⟨fun e=>off r hr (e ▸ hy),fun e=>off r hr (Option.some.inj e ▸ hy)⟩) hd,by simp;omega⟩
 ·rcases List.mem_cons.mp hr with e | e
  ·rw[e];exact cy
  ·rw[List.mem_singleton.mp e];exact cy_one h1
 ·refine List.perm_iff_count.mpr fun x=>?_
  have:=List.perm_iff_count.mp hp x
  simp only [List.flatten_cons,List.flatten_nil,List.append_nil,List.count_append,List.count_cons,List.cons_append,List.count_nil]at this ⊢
  omega
 ·simp only [List.mem_append,List.mem_cons]at hr ⊢
  rcases hr with c | c
  ·exact .inl c
  ·exact .inr (.inr c)
theorem oq_cross(h:OP B M L)(hd:(d0=(M:Int)/\d1=(M:Int)+1)\/d0=(M:Int)+1/\d1=(M:Int)){o:Int}(hne:o≠one)(H:∀ x y,(x,y)∈B->(x,hdD one (some o) d0 d1 y)∈B')(hr:∃ r∈L,one∈r/\o∈r)(h1:(d1,one)∈B')(h0:(d0,o)∈B'):∃ L',OP B' (M+2) L'/\L'.length=L.length+1:=by
 obtain⟨ρ,hρ,hx,hy⟩:=hr
 obtain⟨L1,L2,rfl⟩:=List.append_of_mem hρ
 have off:=oq_off h hx
 have off2:=oq_off h hy
 have rg:∀ z∈ρ,0<=z/\z<(M:Int):=fun z hz=>oq_new h hz
 obtain⟨t,ht,hp⟩:=(h.1 ρ hρ).from hx
 have ot:o∈t:=(List.mem_cons.mp (hp.mem_iff.mpr hy)).resolve_left hne
 obtain⟨a,c,rfl⟩:=List.append_of_mem ot
 have nt:one∉a++o :: c:=(List.nodup_cons.mp ht.2.1).1
 have nd:=(List.nodup_cons.mp ht.2.1).2
 obtain⟨na,nc,nac⟩:=List.nodup_append.mp nd
 have ncc:=List.nodup_cons.mp nc
 obtain⟨q1,q2,q3⟩:=(ch_append (a:=one :: a) (b:=o :: c)).mp ht.2.2.1
 have k1:Ch B' (one :: a):=ch_keep H q1 fun y hy=>⟨fun e=>nt (List.mem_append_left _ (e ▸ hy)),fun e=>nac y hy o List.mem_cons_self (Option.some.inj e)⟩
 have k2:Ch B' (o :: c):=ch_keep H q2 fun y hy=>⟨fun e=>nt (List.mem_append_right _ (List.mem_cons_of_mem _ (e ▸ hy))),fun e=>ncc.1 (Option.some.inj e ▸ hy)⟩
 have l1:∀ z∈(one :: a).getLast?,(z,d1)∈B':=fun z hz=>by
  have:=H z o (q3 z hz o rfl)
  unfold hdD at this
  rw[if_neg hne,if_pos rfl]at this
  exact this
 have l2:∀ z∈(o :: c).getLast?,(z,d0)∈B':=fun z hz=>by
  have:=H z one (ht.2.2.2 z (by
   show(one :: a++o :: c).getLast?=some z
   rw[gl_app (by simp)];exact hz) one rfl)
  unfold hdD at this
  rw[if_pos rfl]at this
  exact this
 have nw:∀ d,(d=d0\/d=d1)->d∉one :: (a++o :: c):=fun d hd' hm=>by
  have:=rg d (hp.mem_iff.mp hm)
  omega
 have sA:∀ z∈one :: a,z∈one :: (a++o :: c):=fun z hz=>by
  rcases List.mem_cons.mp hz with e | e
  ·rw[e];exact List.mem_cons_self
  ·exact List.mem_cons_of_mem _ (List.mem_append_left _ e)
 have cA:Cy B' (one :: a++[d1]):=cy_snoc (List.nodup_cons.mpr ⟨fun e=>nt (List.mem_append_left _ e),na⟩) (fun hm=>nw d1 (.inr rfl) (sA _ hm)) k1 l1 h1
 have cC:Cy B' (o :: c++[d0]):=cy_snoc nc (fun hm=>nw d0 (.inl rfl) (List.mem_cons_of_mem _ (List.mem_append_right _ hm))) k2 l2 h0
 refine⟨[one :: a++[d1],o :: c++[d0]]++(L1++L2),oq_put h (fun r hr=>?_) ?_ (fun r hr=>cy_keep H (h.1 r ?_) fun y hy=>⟨fun e=>off r hr (e ▸ hy),fun e=>off2 r hr (Option.some.inj e ▸ hy)⟩) hd,by simp;omega⟩
 ·rcases List.mem_cons.mp hr with e | e
  ·rw[e];exact cA
  ·rw[List.mem_singleton.mp e];exact cC
 ·refine List.perm_iff_count.mpr fun x=>?_
  have:=List.perm_iff_count.mp hp x
  simp only [List.flatten_cons,List.flatten_nil,List.append_nil,List.count_append,List.count_cons,List.cons_append,List.count_nil]at this ⊢
  omega
 ·simp only [List.mem_append,List.mem_cons]at hr ⊢
  rcases hr with c | c
  ·exact .inl c
  ·exact .inr (.inr c)
end
end
theorem ends_one(ps:List (Int × Int))(e:Int × Int):endsOf (ps++[e]) (rgL (ps++[e]).length)=endsOf ps (rgL ps.length)++[(e.1.toNat,e.2.toNat)]:=by
 rw[List.length_append,List.length_singleton,rgL_succ]
 have:endsOf (ps++[e]) (rgL ps.length++[(ps.length:Int)])=endsOf (ps++[e]) (rgL ps.length)++endsOf (ps++[e]) [(ps.length:Int)]:=List.map_append ..
 rw[this,ends_up (rgL_set _)]
 unfold endsOf
 rw[List.map_singleton,Int.toNat_natCast,List.getD_eq_getElem?_getD,List.getElem?_append_right (Nat.le_refl _),Nat.sub_self]
 rfl
theorem joined_snoc{n:Int}{ps:List (Int × Int)}{e:Int × Int}(h:Joined n ps):Joined n (ps++[e]):=fun i j hi hj=>by
 rw[ends_one]
 exact(h i j hi hj).mono fun x hx=>List.mem_append_left _ hx
theorem joined_grow{n p:Nat}{ps:List (Int × Int)}{e:Int × Int}(h:Joined n ps)(hp:p<n)(he:e=((p:Int),(n:Int))\/e=((n:Int),(p:Int))):Joined ((n+1:Nat):Int) (ps++[e]):=by
 have key:∀ i,i<n+1->Conn (endsOf (ps++[e]) (rgL (ps++[e]).length)) i p:=fun i hi=>by
  by_cases c:i<n
  ·exact joined_snoc h i p (by omega) (by omega)
  ·have ei:i=n:=by omega
   subst ei
   rw[ends_one]
   rcases he with rfl | rfl
   ·exact .symm (.edge (List.mem_append_right _ (by show _∈[((p:Int).toNat,(i:Int).toNat)];rw[Int.toNat_natCast,Int.toNat_natCast];exact List.mem_singleton.mpr rfl)))
   ·exact .edge (List.mem_append_right _ (by show _∈[((i:Int).toNat,(p:Int).toNat)];rw[Int.toNat_natCast,Int.toNat_natCast];exact List.mem_singleton.mpr rfl))
 intro i j hi hj
 exact(key i (by omega)).trans (key j (by omega)).symm
def FlatM(n:Nat)(ps:List (Int × Int))(ts:List (List Int)):Prop:=Joined n ps/\(ps=[]\/∃ L,OP (bhL ts) (2 * ps.length) L/\n+L.length=ps.length+2)
theorem FlatM.flat{n:Nat}{ps:List (Int × Int)}{ts R:List (List Int)}(h:FlatM n ps ts)(hV:VT n ps ts)(h1:ps=[]->n=1)(hR:RdW ps ts R):Flat n ps R:=by
 refine⟨h.1,?_⟩
 rcases h.2 with e | ⟨L,hL,hn⟩
 ·have:=h1 e
  rcases hR with ⟨_,rfl⟩ | ⟨c,_⟩
  ·subst e
   show(n:Int) - 0+1=2
   omega
  ·rw[e]at c;exact absurd c (by decide)
 ·by_cases c:ps.length=0
  ·have:=h1 (List.length_eq_zero_iff.mp c)
   rcases hR with ⟨_,rfl⟩ | ⟨c',_⟩
   ·show(n:Int) - (ps.length:Int)+1=2
    omega
   ·omega
  ·have:=oq_len hV (by omega) hR hL
   omega
theorem fm_one:FlatM 1 [] [[]]:=⟨fun i j hi hj=>by
 have e1:i=0:=by have:i<1:=hi;omega
 have e2:j=0:=by have:j<1:=hj;omega
 subst e1;subst e2
 exact .refl _,.inl rfl⟩
theorem bk_new{m:Nat}{d0 d1 a b:Int}{e:Int × Int}(h:NewD m d0 d1 a b e):bkD d0=d1/\bkD d1=d0:=by
 unfold bkD
 rcases h with ⟨rfl,rfl,_⟩ | ⟨rfl,rfl,_⟩
 ·rw[if_pos (by omega),if_neg (by omega)];omega
 ·rw[if_neg (by omega),if_pos (by omega)];omega
theorem new_two{m:Nat}{d0 d1 a b:Int}{e:Int × Int}(h:NewD m d0 d1 a b e):(d0=((2 * m:Nat):Int)/\d1=((2 * m:Nat):Int)+1)\/d0=((2 * m:Nat):Int)+1/\d1=((2 * m:Nat):Int):=by
 rcases h with ⟨rfl,rfl,_⟩ | ⟨rfl,rfl,_⟩ <;> omega
theorem new_end{m:Nat}{d0 d1 a b:Int}{e:Int × Int}(h:NewD m d0 d1 a b e):e=(a,b)\/e=(b,a):=by
 rcases h with ⟨_,_,h⟩ | ⟨_,_,h⟩
 ·exact .inl h
 ·exact .inr h
theorem oq_first{B:List (Int × Int)}{d0 d1:Int}{L:List (List Int)}(hd:(d0=0/\d1=1)\/d0=1/\d1=0)(h1:∀ r∈L,Cy B r)(h2:L.flatten=[d0,d1]):OP B 2 L:=by
 refine⟨h1,?_,fun x=>?_⟩
 ·rw[h2];simp;omega
 ·rw[h2];simp;omega
theorem fm_first2{d0 d1:Int}{e:Int × Int}(h:NewD 0 d0 d1 0 1 e):FlatM 2 [e] [[d0],[d1]]:=by
 obtain⟨b0,b1⟩:=bk_new h
 have n0:(d0,d1)∈bhL [[d0],[d1]]:=by
  have:=nb_bh (ts:=[[d0],[d1]]) (row:=[d1]) (a:=d1) (b:=d1) (by simp) (.inr ⟨⟨[],rfl⟩,[],rfl⟩)
  rw[b1]at this;exact this
 have n1:(d1,d0)∈bhL [[d0],[d1]]:=by
  have:=nb_bh (ts:=[[d0],[d1]]) (row:=[d0]) (a:=d0) (b:=d0) (by simp) (.inr ⟨⟨[],rfl⟩,[],rfl⟩)
  rw[b0]at this;exact this
 have hd:=new_two h
 have hd':(d0=0/\d1=1)\/d0=1/\d1=0:=by omega
 refine⟨joined_grow (n:=1) (p:=0) (ps:=[]) fm_one.1 (by decide) (new_end h),.inr ⟨[[d0,d1]],oq_first hd' (fun r hr=>?_) rfl,rfl⟩⟩
 rw[List.mem_singleton.mp hr]
 exact cy_snoc (x:=d0) (t:=[]) (d:=d1) (by simp) (by simp;omega) (fun i x y _ h2=>by cases h2) (fun z hz=>by obtain rfl:d0=z:=Option.some.inj hz;exact n0) n1
theorem fm_first1{d0 d1:Int}{e:Int × Int}(h:NewD 0 d0 d1 0 0 e):FlatM 1 [e] [[d0,d1]]:=by
 obtain⟨b0,b1⟩:=bk_new h
 have n0:(d0,d0)∈bhL [[d0,d1]]:=by
  have:=nb_bh (ts:=[[d0,d1]]) (row:=[d0,d1]) (a:=d1) (b:=d0) (by simp) (.inr ⟨⟨[d0],rfl⟩,[d1],rfl⟩)
  rw[b1]at this;exact this
 have n1:(d1,d1)∈bhL [[d0,d1]]:=by
  have:=nb_bh (ts:=[[d0,d1]]) (row:=[d0,d1]) (a:=d0) (b:=d1) (by simp) (.inl ⟨[],[],rfl⟩)
  rw[b0]at this;exact this
 have hd:=new_two h
 have hd':(d0=0/\d1=1)\/d0=1/\d1=0:=by omega
 refine⟨joined_snoc (ps:=[]) fm_one.1,.inr ⟨[[d0],[d1]],oq_first hd' (fun r hr=>?_) rfl,rfl⟩⟩
 rcases List.mem_cons.mp hr with c | c
 ·rw[c];exact cy_one n0
 ·rw[List.mem_singleton.mp c];exact cy_one n1
section
variable{n:Nat}{ps:List (Int × Int)}{ts:List (List Int)}
theorem fm_grow(h:FlatM n ps ts)(h0:ps.length≠0)(hV:VT n ps ts){one d0 d1:Int}{p:Nat}{r1:List Int}{e:Int × Int}(hp:ts[p]?=some r1)(hx:one∈r1)(hN:NewD ps.length d0 d1 p n e):FlatM (n+1) (ps++[e]) (ts.map (putR one none d0 d1)++[[d1]]):=by
 obtain⟨hj,hL⟩:=h
 have hpn:p<n:=by rw[<- hV.1];exact(List.getElem?_eq_some_iff.mp hp).1
 refine⟨joined_grow hj hpn (new_end hN),.inr ?_⟩
 rcases hL with c | ⟨L,hL,hn⟩
 ·rw[c]at h0;exact absurd rfl h0
 obtain⟨b0,b1⟩:=bk_new hN
 have hr:=List.mem_of_getElem? hp
 have f1:=bh_one (d0:=d0) (d1:=d1) (other:=none) hr hx
 rw[b0,if_neg (by intro c;cases c)]at f1
 have f0:(bkD d1,d1)∈bhL [[d1]]:=nb_bh (row:=[d1]) (List.mem_singleton.mpr rfl) (.inr ⟨⟨[],rfl⟩,[],rfl⟩)
 rw[b1]at f0
 have xr:=((hV.mem hp).mp hx).1
 obtain⟨L',hL',hl⟩:=oq_fresh hL (new_two hN) (B':=bhL (ts.map (putR one none d0 d1)++[[d1]])) (fun x y hxy=>bh_app (.inl (bh_put hxy))) (by omega) (bh_app (.inl f1)) (bh_app (.inr f0))
 refine⟨L',?_,by rw[List.length_append,List.length_singleton];omega⟩
 rw[List.length_append,List.length_singleton,show 2 * (ps.length+1)=2 * ps.length+2 by omega]
 exact hL'
theorem fm_join(h:FlatM n ps ts)(h0:ps.length≠0)(hV:VT n ps ts){one o d0 d1:Int}{p q:Nat}{r1 r2:List Int}{e:Int × Int}(hp:ts[p]?=some r1)(hx:one∈r1)(hq:ts[q]?=some r2)(hy:o∈r2)(hs:∀ L,OP (bhL ts) (2 * ps.length) L->∃ r∈L,one∈r/\o∈r)(hN:NewD ps.length d0 d1 p q e):FlatM n (ps++[e]) (ts.map (putR one (some o) d0 d1)):=by
 obtain⟨hj,hL⟩:=h
 refine⟨joined_snoc hj,.inr ?_⟩
 rcases hL with c | ⟨L,hL,hn⟩
 ·rw[c]at h0;exact absurd rfl h0
 obtain⟨b0,b1⟩:=bk_new hN
 have f1:=bh_one (d0:=d0) (d1:=d1) (other:=some o) (List.mem_of_getElem? hp) hx
 have f2:=bh_two (one:=one) (d0:=d0) (d1:=d1) (List.mem_of_getElem? hq) hy
 rw[b0]at f1
 rw[b1]at f2
 have xr:=((hV.mem hp).mp hx).1
 obtain⟨L',hL',hl⟩:∃ L',OP (bhL (ts.map (putR one (some o) d0 d1))) (2 * ps.length+2) L'/\L'.length=L.length+1:=by
  by_cases c:o=one
  ·subst c
   rw[if_pos rfl]at f1
   exact oq_same hL (new_two hN) (fun x y hxy=>bh_put hxy) (by omega) f1 f2
  ·rw[if_neg (fun e=>c (Option.some.inj e))]at f1
   exact oq_cross hL (new_two hN) c (fun x y hxy=>bh_put hxy) (hs L hL) f1 f2
 refine⟨L',?_,by rw[List.length_append,List.length_singleton];omega⟩
 rw[List.length_append,List.length_singleton,show 2 * (ps.length+1)=2 * ps.length+2 by omega]
 exact hL'
theorem rd_self(hV:VT n ps ts){x:Int}(hx:0<=x/\x<2 * (ps.length:Int)):∀ L,OP (bhL ts) (2 * ps.length) L->∃ r∈L,x∈r/\x∈r:=fun L hL=>by
 obtain⟨L1,ρ,L2,rfl,h⟩:=oq_at hL (x:=x) (by omega)
 exact⟨ρ,by simp,h,h⟩
theorem rd_next(hV:VT n ps ts){x y z:Int}(h:∀ L,OP (bhL ts) (2 * ps.length) L->∃ r∈L,x∈r/\y∈r)(hz:(y,z)∈bhL ts):∀ L,OP (bhL ts) (2 * ps.length) L->∃ r∈L,x∈r/\z∈r:=fun L hL=>by
 obtain⟨r,hr,h1,h2⟩:=h L hL
 exact⟨r,hr,h1,(hL.1 r hr).next (fun x y z=>bh_fun hV) h2 hz⟩
end
theorem rn_of{R:List (List Int)}(nd:R.flatten.Nodup){k:Nat}{row:List Int}{x:Int}(hk:R[k]?=some row)(hx:x∈row):rnR R x=(k:Int):=by
 have hf:x∈R.flatten:=List.mem_flatten.mpr ⟨row,List.mem_of_getElem? hk,hx⟩
 have pnd:((plL R R.length).map (·.1)).Nodup:=by rw[plL_keys R _ (Nat.le_refl _),List.take_length];exact nd
 have h1:=(rnR_val hf).1
 rw[kvI_val pnd (plL_mem hk hx (List.getElem?_eq_some_iff.mp hk).1)]at h1
 exact(V.int.inj (Option.some.inj h1)).symm
theorem owT_len(R:List (List Int))(m:Nat):(owT R m).length=m:=by unfold owT;rw[List.length_map,List.length_range]
theorem owT_at(R:List (List Int)){m k:Nat}(h:k<m):(owT R m)[k]?=some (rnR R (2 * (k:Int)),rnR R (2 * (k:Int)+1)):=by
 unfold owT
 rw[List.getElem?_map,List.getElem?_range h]
 rfl
section
variable{n:Nat}{ps:List (Int × Int)}{ts R D:List (List Int)}
theorem RdW.in(hV:VT n ps ts)(h0:0<ps.length)(h:RdW ps ts R){row:List Int}(hr:row∈R){x:Int}(hx:x∈row):0<=x/\x<2 * (ps.length:Int):=by
 have:=((h.op hV h0).2.2 x).mp (List.mem_flatten.mpr ⟨row,hr,hx⟩)
 omega
theorem dual_joined(hV:VT n ps ts)(hg:∀ p∈ps,0<=p.1/\p.1<(n:Int)/\0<=p.2/\p.2<(n:Int))(h0:0<ps.length)(h:RdW ps ts R)(hj:Joined n ps):Joined R.length (owT R ps.length):=by
 have nd:=h.nodup hV
 have hop:=h.op hV h0
 let C:Int->Int->Prop:=fun x y=>Conn (endsOf (owT R ps.length) (rgL (owT R ps.length).length)) (rnR R x).toNat (rnR R y).toNat
 have Cs:∀ {x y},C x y->C y x:=fun h=>Conn.symm h
 have Ct:∀ {x y z},C x y->C y z->C x z:=fun h1 h2=>Conn.trans h1 h2
 have tie:∀ k:Nat,k<ps.length->C (2 * (k:Int)) (2 * (k:Int)+1):=fun k hk=>by
  refine .edge (List.mem_map.mpr ⟨(k:Int),rgL_mem.mpr (by rw[owT_len];omega),?_⟩)
  rw[Int.toNat_natCast,List.getD_eq_getElem?_getD,owT_at R hk]
  rfl
 have bk:∀ x,0<=x/\x<2 * (ps.length:Int)->C (bkD x) x:=fun x hx=>by
  have:=tie (x / 2).toNat (by omega)
  unfold bkD
  by_cases c:x % 2=0
  ·rw[if_pos c]
   rw[show 2 * ((x / 2).toNat:Int)=x by omega]at this
   exact Cs this
  ·rw[if_neg c]
   rw[show 2 * ((x / 2).toNat:Int)+1=x by omega,show 2 * ((x / 2).toNat:Int)=x - 1 by omega]at this
   exact this
 have same:∀ x y,(x,y)∈bhL ts->rnR R x=rnR R y:=fun x y hxy=>by
  have rg:=(bh_range hV hxy).1
  obtain⟨r,hr,hx⟩:=List.mem_flatten.mp (h.all hV rg)
  have hy:=(hop.1 r hr).next (fun x y z=>bh_fun hV) hx hxy
  obtain⟨k,hk⟩:=List.getElem?_of_mem hr
  rw[rn_of nd hk hx,rn_of nd hk hy]
 have nb:∀ row∈ts,∀ c b,Nb row c b->C c b:=fun row hr c b hn=>by
  have hb:=nb_bh hr hn
  have rg:=(bh_range hV hb).1
  have h1:=bk (bkD c) rg
  rw[bk_bk]at h1
  show Conn _ _ (rnR R b).toNat
  rw[<- same _ _ hb]
  exact h1
 have ring:∀ row∈ts,∀ x∈row,∀ y∈row,C x y:=fun row hr=>by
  have up:∀(t s:List Int) (x:Int),row=s++x :: t->∀ y∈t,C x y:=fun t=>by
   induction t with
   | nil=>intro s x _ y hy;cases hy
   | cons z t ih =>
    intro s x e y hy
    have h1:=nb row hr x z (.inl ⟨s,t,e⟩)
    rcases List.mem_cons.mp hy with c | c
    ·rw[c];exact h1
    ·exact Ct h1 (ih (s++[x]) z (by rw[e,List.append_assoc];rfl) y c)
  have hd:∀ x t,row=x :: t->∀ y∈row,C x y:=fun x t e y hy=>by
   rw[e]at hy
   rcases List.mem_cons.mp hy with c | c
   ·rw[c];exact Conn.refl _
   ·exact up t [] x e y c
  intro x hx y hy
  cases e:row with
  | nil=>rw[e]at hx;cases hx
  | cons z t=>exact Ct (Cs (hd z t e x hx)) (hd z t e y hy)
 have place:∀ {x:Int},0<=x/\x<2 * (ps.length:Int)->∀ {y:Int},0<=y/\y<2 * (ps.length:Int)->ownD ps x=ownD ps y->C x y:=fun {x} hx {y} hy e=>by
  obtain⟨p,row,hp,hm⟩:=hV.has hg hx
  have o1:=((hV.mem hp).mp hm).2
  exact ring row (List.mem_of_getElem? hp) x hm y ((hV.mem hp).mpr ⟨hy,by omega⟩)
 let At:Nat->Int->Prop:=fun i x=>(0<=x/\x<2 * (ps.length:Int))/\ownD ps x=(i:Int)
 have key:∀ {i j:Nat},Conn (endsOf ps (rgL ps.length)) i j->i=j\/((∃ x,At i x)/\(∃ y,At j y)/\∀ x y,At i x->At j y->C x y):=fun {i j} c=>by
  induction c with
  | refl i=>exact .inl rfl
  | edge he =>
   rename_i a b
   obtain⟨z,hz,e⟩:=List.mem_map.mp he
   have zr:=rgL_mem.mp hz
   have hm:ps.getD z.toNat (0,0)∈ps:=by
    rw[List.getD_eq_getElem?_getD,List.getElem?_eq_getElem (by omega)]
    exact List.getElem_mem _
   have hgp:=hg _ hm
   have ea:(ps.getD z.toNat (0,0)).1.toNat=a:=congrArg Prod.fst e
   have eb:(ps.getD z.toNat (0,0)).2.toNat=b:=congrArg Prod.snd e
   have A1:At a (2 * z):=by
    refine⟨by omega,?_⟩
    unfold ownD
    rw[if_pos (by omega),show 2 * z / 2=z by omega]
    omega
   have A2:At b (2 * z+1):=by
    refine⟨by omega,?_⟩
    unfold ownD
    rw[if_neg (by omega),show(2 * z+1) / 2=z by omega]
    omega
   refine .inr ⟨⟨_,A1⟩,⟨_,A2⟩,fun x y hx hy=>?_⟩
   have t:=tie z.toNat (by omega)
   rw[show((z.toNat:Nat):Int)=z by omega]at t
   exact Ct (place hx.1 A1.1 (by rw[hx.2,A1.2])) (Ct t (place A2.1 hy.1 (by rw[hy.2,A2.2])))
  | symm _ ih =>
   rcases ih with e | ⟨a,b,f⟩
   ·exact .inl e.symm
   ·exact .inr ⟨b,a,fun x y hx hy=>Cs (f y x hy hx)⟩
  | trans _ _ ih1 ih2 =>
   rcases ih1 with rfl | ⟨a1,b1,f1⟩
   ·exact ih2
   ·rcases ih2 with rfl | ⟨a2,b2,f2⟩
    ·exact .inr ⟨a1,b1,f1⟩
    ·obtain⟨w,hw⟩:=b1
     exact .inr ⟨a1,b2,fun x y hx hy=>Ct (f1 x w hx hw) (f2 w y hw hy)⟩
 have all:∀ x y,(0<=x/\x<2 * (ps.length:Int))->(0<=y/\y<2 * (ps.length:Int))->C x y:=fun x y hx hy=>by
  have ox:=own_range hg hx
  have oy:=own_range hg hy
  have hc:=hj (ownD ps x).toNat (ownD ps y).toNat (by omega) (by omega)
  rcases key hc with e | ⟨_,_,f⟩
  ·exact place hx hy (by omega)
  ·exact f x y ⟨hx,by omega⟩ ⟨hy,by omega⟩
 have dart:∀ i,i<R.length->∃ x,(0<=x/\x<2 * (ps.length:Int))/\(rnR R x).toNat=i:=fun i hi=>by
  have hk:R[i]?=some R[i]:=List.getElem?_eq_getElem hi
  have hm:R[i]∈R:=List.getElem_mem hi
  have hne:=(hop.1 _ hm).1
  obtain⟨x,hx⟩:=List.exists_mem_of_ne_nil _ hne
  exact⟨x,h.in hV h0 hm hx,by rw[rn_of nd hk hx,Int.toNat_natCast]⟩
 intro i j hi hj'
 obtain⟨x,hx,rfl⟩:=dart i (by omega)
 obtain⟨y,hy,rfl⟩:=dart j (by omega)
 exact all x y hx hy
end
section
variable{n:Nat}{ps:List (Int × Int)}{ts R D:List (List Int)}
end
section
variable{n:Nat}{ps:List (Int × Int)}{ts R D:List (List Int)}
end
structure Back (n:Nat) (ps:List (Int × Int)) (ts R D:List (List Int)):Prop where
 flat:Flat n ps R
 few:R.length<=14
 rows:∀ l∈R,l.length<64
 good:GoodW R.length (owT R ps.length)
 vt:VT R.length (owT R ps.length) R
 rds:RdW (owT R ps.length) R D
 flat2:Flat R.length (owT R ps.length) D
 len:D.length=n
 good2:GoodW n (owT D ps.length)
 tc:∀ c,TC n ps c->TC n (owT D ps.length) c
 nd:D.flatten.Nodup
 all:∀ x:Int,0<=x->x<2 * (ps.length:Int)->x∈D.flatten
 small:D.flatten.length<=100
theorem owT_good{D:List (List Int)}{m:Nat}(h:∀ x:Int,0<=x->x<2 * (m:Int)->x∈D.flatten):∀ p∈owT D m,0<=p.1/\p.1<(D.length:Int)/\0<=p.2/\p.2<(D.length:Int):=fun p hp=>by
 obtain⟨k,hk,rfl⟩:=List.mem_map.mp hp
 have hk:=List.mem_range.mp hk
 have a:=(rnR_val (h (2 * (k:Int)) (by omega) (by omega))).2
 have b:=(rnR_val (h (2 * (k:Int)+1) (by omega) (by omega))).2
 exact⟨a.1,a.2,b.1,b.2⟩
end My
namespace L2
open PySem PySem.Spec PyProof.Rows
section
variable{X:Cx}{a b c:Expr}{ta tb tc:TE}{pos:Pos}
end
end L2
namespace PyProof.Rows
open PySem
section
variable{M:Model}{A:Around}{E:Value->Shared->Prop}{s:Shared}{O:KeyOrd}{key:Keyed->O.α}{kd:SortKind}{S:Keyed->Prop}
end
end PyProof.Rows
namespace L2
open PySem PySem.Spec PyProof.Rows
section
variable{prog:Program}{w:World}{A:Around}{E:Value->Shared->Prop}{s:Shared}
end
end L2
namespace L2
open PySem PySem.Spec PyProof.Rows My
section
variable{X:Cx}
end
end L2
namespace My
open PySem L2
theorem sum_flat0(g:Int->Int):∀ {L:List (List Int)},(∀ r∈L,(r.map g).sum=0)->(L.flatten.map g).sum=0
 | [],_=>rfl
 | r :: L,h=>by
  rw[List.flatten_cons,List.map_append,List.sum_append,h r List.mem_cons_self,sum_flat0 g fun r hr=>h r (List.mem_cons_of_mem _ hr)]
  rfl
theorem sum_two(g:Int->Int):∀ m:Nat,((rgL (2 * m)).map g).sum=((List.range m).map fun(k:Nat)=>g (2 * (k:Int))+g (2 * (k:Int)+1)).sum
 | 0=>rfl
 | m+1=>by
  have e:rgL (2 * (m+1))=rgL (2 * m)++[2 * (m:Int),2 * (m:Int)+1]:=by
   unfold rgL
   rw[show 2 * (m+1)=2 * m+1+1 by omega,List.range_succ,List.range_succ,List.append_assoc,List.map_append]
   congr 1
  rw[e,List.map_append,List.sum_append,sum_two g m,List.range_succ,List.map_append,List.sum_append]
  simp
def Orth(ps qs:List (Int × Int)):Prop:=∀ A f:Int->Int,((List.range ps.length).map fun(k:Nat)=>(A (ps.getD k (0,0)).1 - A (ps.getD k (0,0)).2) * (f (qs.getD k (0,0)).1 - f (qs.getD k (0,0)).2)).sum=0
theorem Orth.symm{ps qs:List (Int × Int)}(hl:qs.length=ps.length)(h:Orth ps qs):Orth qs ps:=fun A f=>by
 have e:((List.range ps.length).map fun(k:Nat)=>(A (qs.getD k (0,0)).1 - A (qs.getD k (0,0)).2) * (f (ps.getD k (0,0)).1 - f (ps.getD k (0,0)).2))=(List.range ps.length).map fun(k:Nat)=>(f (ps.getD k (0,0)).1 - f (ps.getD k (0,0)).2) * (A (qs.getD k (0,0)).1 - A (qs.getD k (0,0)).2):=List.map_congr_left fun k _=>Int.mul_comm ..
 rw[hl,e]
 exact h f A
section
variable{n:Nat}{ps:List (Int × Int)}{ts R:List (List Int)}
theorem own_even(ps:List (Int × Int))(k:Nat):ownD ps (2 * (k:Int))=(ps.getD k (0,0)).1:=by
 unfold ownD
 rw[if_pos (by omega),show(2 * (k:Int) / 2).toNat=k by omega]
theorem own_odd(ps:List (Int × Int))(k:Nat):ownD ps (2 * (k:Int)+1)=(ps.getD k (0,0)).2:=by
 unfold ownD
 rw[if_neg (by omega),show((2 * (k:Int)+1) / 2).toNat=k by omega]
theorem bk_even(k:Nat):bkD (2 * (k:Int))=2 * (k:Int)+1:=by unfold bkD;rw[if_pos (by omega)]
theorem bk_odd(k:Nat):bkD (2 * (k:Int)+1)=2 * (k:Int):=by unfold bkD;rw[if_neg (by omega)];omega
theorem sum_ring(F:Int->Int){row:List Int}(h:∀ i,i<row.length->F (bkD (row.getD i 0))=F (row.getD ((i+1) % row.length) 0)):(row.map fun d=>F d - F (bkD d)).sum=0:=by
 have e1:(row.map fun d=>F (bkD d)).sum=(row.map F).sum:=by
  cases row with
  | nil=>rfl
  | cons a t =>
   have e:((a :: t).map fun d=>F (bkD d))=(t++[a]).map F:=by
    refine List.ext_getElem (by simp) fun i h1 h2=>?_
    have hi:i<(a :: t).length:=by simpa using h1
    have q:=h i hi
    rw[List.getElem_map,List.getElem_map]
    rw[List.getD_eq_getElem?_getD,List.getElem?_eq_getElem hi]at q
    refine q.trans ?_
    congr 1
    rw[List.length_cons]at hi ⊢
    by_cases c:i<t.length
    ·rw[Nat.mod_eq_of_lt (by omega),List.getElem_append_left c,List.getD_eq_getElem?_getD,List.getElem?_cons_succ,List.getElem?_eq_getElem c]
     rfl
    ·have:i=t.length:=by omega
     subst this
     rw[Nat.mod_self,List.getElem_append_right (Nat.le_refl _)]
     simp
   rw[e,List.map_append,List.sum_append,List.map_cons,List.map_cons,List.sum_cons,List.sum_cons]
   simp
   omega
 have e2:∀ l:List Int,(l.map fun d=>F d - F (bkD d)).sum=(l.map F).sum - (l.map fun d=>F (bkD d)).sum:=fun l=>by
  induction l with
  | nil=>rfl
  | cons a l ih=>rw[List.map_cons,List.map_cons,List.map_cons,List.sum_cons,List.sum_cons,List.sum_cons,ih];omega
 rw[e2,e1]
 omega
theorem sum_mulL(c:Int)(g:Int->Int):∀ l:List Int,(l.map fun d=>c * g d).sum=c * (l.map g).sum
 | []=>by simp
 | a :: l=>by rw[List.map_cons,List.map_cons,List.sum_cons,List.sum_cons,sum_mulL c g l,Int.mul_add]
theorem dual_orth(hV:VT n ps ts)(hg:∀ p∈ps,0<=p.1/\p.1<(n:Int)/\0<=p.2/\p.2<(n:Int))(h:RdW ps ts R):Orth ps (owT R ps.length):=fun A f=>by
 by_cases h0:0<ps.length
 case neg=>rw[show ps.length=0 by omega];rfl
 have nd:=h.nodup hV
 have hop:=h.op hV h0
 have same:∀ x y,(x,y)∈bhL ts->rnR R x=rnR R y:=fun x y hxy=>by
  have rg:=(bh_range hV hxy).1
  obtain⟨r,hr,hx⟩:=List.mem_flatten.mp (h.all hV rg)
  have hy:=(hop.1 r hr).next (fun x y z=>bh_fun hV) hx hxy
  obtain⟨k,hk⟩:=List.getElem?_of_mem hr
  rw[rn_of nd hk hx,rn_of nd hk hy]
 let F:Int->Int:=fun d=>f (rnR R d)
 have rows:∀ row∈ts,(row.map fun d=>A (ownD ps d) * (F d - F (bkD d))).sum=0:=fun row hr=>by
  obtain⟨p,hp⟩:=List.getElem?_of_mem hr
  have e:(row.map fun d=>A (ownD ps d) * (F d - F (bkD d)))=row.map fun d=>A (p:Int) * (F d - F (bkD d)):=List.map_congr_left fun d hd=>by rw[((hV.mem hp).mp hd).2]
  rw[e,sum_mulL (A (p:Int)) (fun d=>F d - F (bkD d)) row,sum_ring F fun i hi=>?_,Int.mul_zero]
  show f _=f _
  rw[same _ _ (bhL_mem.mpr ⟨row,hr,i,hi,rfl,rfl⟩)]
 have tot:=sum_flat0 _ rows
 have pm:ts.flatten.Perm (rgL (2 * ps.length)):=(List.perm_ext_iff_of_nodup hV.flat (by
  refine asc_nd ?_
  unfold rgL
  rw[List.pairwise_map]
  exact List.pairwise_lt_range.imp fun h=>by omega)).mpr fun x=>by rw[hV.flat_mem hg,rgL_mem];omega
 rw[sum_perm pm,sum_two]at tot
 refine Eq.trans (congrArg List.sum (List.map_congr_left fun k hk=>?_)) tot
 have hk:=List.mem_range.mp hk
 have q:=owT_at R (m:=ps.length) hk
 rw[own_even,own_odd,bk_even,bk_odd,List.getD_eq_getElem?_getD (l:=owT R ps.length),q]
 show(_ - _) * (f (rnR R (2 * (k:Int))) - f (rnR R (2 * (k:Int)+1)))=_ * (f (rnR R (2 * (k:Int))) - f (rnR R (2 * (k:Int)+1)))+_ * (f (rnR R (2 * (k:Int)+1)) - f (rnR R (2 * (k:Int))))
 grind
end
def cmpl(m:Nat)(T:List Int):List Int:=(rgL m).filter fun z=>decide (z∉T)
theorem cmpl_mem{m:Nat}{T:List Int}{z:Int}:z∈cmpl m T↔(0<=z/\z<(m:Int))/\z∉T:=by
 unfold cmpl
 rw[List.mem_filter,rgL_mem]
 simp
theorem cmpl_succ(o:Nat)(S:List Int):cmpl (o+1) S=cmpl o S++(if (o:Int)∈S then [] else [(o:Int)]):=by
 unfold cmpl
 rw[rgL_succ,List.filter_append]
 congr 1
 by_cases c:(o:Int)∈S
 ·rw[if_pos c,List.filter_cons_of_neg (by simp[c])];rfl
 ·rw[if_neg c,List.filter_cons_of_pos (by simp[c])];rfl
theorem cmpl_le(o:Nat)(S:List Int):(cmpl o S).length<=o:=by
 refine Nat.le_trans (List.length_filter_le _ _) ?_
 unfold rgL
 rw[List.length_map,List.length_range]
 exact Nat.le_refl _
theorem cmpl_asc(m:Nat)(T:List Int):(cmpl m T).Pairwise (· < ·):=(rgL_asc m).filter _
theorem cmpl_set(m:Nat)(T:List Int):IsSet m (cmpl m T):=isSet_iff.mpr ⟨fun z hz=>(cmpl_mem.mp hz).1,cmpl_asc m T⟩
theorem wo_set{m:Nat}{S:List Int}{z:Int}(h:IsSet m S):IsSet m (wo S z):=isSet_iff.mpr ⟨fun y hy=>h.all y (wo_mem.mp hy).1,wo_lt z (isSet_iff.mp h).2⟩
theorem put_set{m:Nat}{S ms:List Int}{z:Int}(h:IsSet m S)(z0:0<=z)(z1:z<(m:Int))(hz:z∉S)(hp:ms.Perm (S++[z]))(hw:ms.Pairwise (·<=·)):IsSet m ms:=by
 have nd:ms.Nodup:=hp.nodup_iff.mpr (nd_snoc h.nodup hz)
 refine isSet_iff.mpr ⟨fun y hy=>?_,srt_strict hw nd⟩
 rcases List.mem_append.mp (hp.mem_iff.mp hy) with h1 | h1
 ·exact h.all y h1
 ·rw[List.mem_singleton.mp h1];exact⟨z0,z1⟩
theorem cmpl_two{m:Nat}{T:List Int}(h:IsSet m T):cmpl m (cmpl m T)=T:=by
 obtain⟨h1,h2⟩:=isSet_iff.mp h
 refine asc_ext (cmpl_asc m _) h2 fun z=>?_
 rw[cmpl_mem,cmpl_mem]
 constructor
 ·rintro⟨a,b⟩
  exact Classical.byContradiction fun c=>b ⟨a,c⟩
 ·intro hz
  exact⟨h1 z hz,fun c=>c.2 hz⟩
theorem cmpl_len{m:Nat}{T:List Int}(h:IsSet m T):(cmpl m T).length+T.length=m:=by
 obtain⟨h1,h2⟩:=isSet_iff.mp h
 have pm:(cmpl m T++T).Perm (rgL m):=(List.perm_ext_iff_of_nodup (List.nodup_append.mpr ⟨asc_nd (cmpl_asc m T),asc_nd h2,fun a ha b hb e=>(cmpl_mem.mp ha).2 (e ▸ hb)⟩) (asc_nd (rgL_asc m))).mpr fun z=>by
  rw[List.mem_append,cmpl_mem,rgL_mem]
  constructor
  ·rintro(a | a)
   ·exact a.1
   ·exact h1 z a
  ·intro a
   by_cases c:z∈T
   ·exact .inr c
   ·exact .inl ⟨a,c⟩
 have:=pm.length_eq
 rw[List.length_append]at this
 unfold rgL at this
 rw[List.length_map,List.length_range]at this
 exact this
theorem Conn.const{α:Type}{es:List (Nat × Nat)}{g:Nat->α}(h:∀ e∈es,g e.1=g e.2){i j:Nat}(c:Conn es i j):g i=g j:=by
 induction c with
 | refl i=>rfl
 | edge q=>exact h _ q
 | symm _ ih=>exact ih.symm
 | trans _ _ a b=>exact a.trans b
theorem sum_noughts:∀ o:Nat,((List.range o).map fun _=>(0:Int)).sum=0
 | 0=>rfl
 | o+1=>by rw[List.range_succ,List.map_append,List.sum_append,sum_noughts o];rfl
theorem sum_one{m:Nat}{g:Nat->Int}{o:Nat}(ho:o<m)(h:∀ k,k<m->k≠o->g k=0):((List.range m).map g).sum=g o:=by
 induction m with
 | zero=>omega
 | succ m ih =>
  rw[List.range_succ,List.map_append,List.sum_append]
  by_cases c:o=m
  ·subst c
   have z:((List.range o).map g).sum=0:=by
    have:(List.range o).map g=(List.range o).map fun _=>(0:Int):=List.map_congr_left fun k hk=>h k (by have:=List.mem_range.mp hk;omega) (by have:=List.mem_range.mp hk;omega)
    rw[this,sum_noughts]
   rw[z]
   simp
  ·rw[ih (by omega) fun k hk=>h k (by omega)]
   have:=h m (by omega) (fun e=>c e.symm)
   simp[this]
theorem cmpl_conn{n n':Int}{ps qs:List (Int × Int)}{T:List Int}(g:GoodW n ps)(g':GoodW n' qs)(hl:qs.length=ps.length)(ho:Orth ps qs)(hj:Joined n' qs)(hT:IsTree n ps T):∀ i j,i<n'.toNat->j<n'.toNat->Conn (endsOf qs (cmpl ps.length T)) i j:=fun i j hi hj'=>by
 have iC:InN n'.toNat (endsOf qs (cmpl ps.length T)):=ends_in g' fun z hz=>by rw[hl];exact(cmpl_mem.mp hz).1
 refine(lms_iff iC hi hj').mp ?_
 let M:=lms n'.toNat (endsOf qs (cmpl ps.length T))
 let fN:Nat->Int:=fun x=>if mk M x=mk M i then 1 else 0
 let f:Int->Int:=fun x=>fN x.toNat
 have out:∀ z:Int,0<=z->z<(ps.length:Int)->z∉T->fN (endOf qs z).1=fN (endOf qs z).2:=fun z z0 z1 hz=>by
  have:=lms_edge _ iC (endOf qs z) (List.mem_map.mpr ⟨z,cmpl_mem.mpr ⟨⟨z0,z1⟩,hz⟩,rfl⟩)
  show(if mk M _=_ then (1:Int) else 0)=if mk M _=_ then 1 else 0
  rw[show mk M (endOf qs z).1=mk M (endOf qs z).2 from this]
 have inn:∀ o∈T,fN (endOf qs o).1=fN (endOf qs o).2:=fun o hoT=>by
  have ob:=hT.1.all o hoT
  have iW:InN n.toNat (endsOf ps (wo T o)):=ends_in g (wo_all hT)
  let N:=lms n.toNat (endsOf ps (wo T o))
  let AN:Nat->Int:=fun x=>if mk N x=mk N (endOf ps o).1 then 1 else 0
  have q:=ho (fun x=>AN x.toNat) f
  have oe:=end_in g ob.1 ob.2
  have ne:mk N (endOf ps o).1≠mk N (endOf ps o).2:=fun e=>(cutT_mem g hT ob.1 ob.2).mp ((cut_own g hT hoT hoT).mpr rfl) ((lms_iff iW oe.1 oe.2).mp e)
  rw[sum_one (o:=o.toNat) (by omega) fun k hk hne=>?_]at q
  ·have e1:AN (endOf ps o).1=1:=if_pos rfl
   have e2:AN (endOf ps o).2=0:=if_neg fun e=>ne e.symm
   change (AN (endOf ps o).1 - AN (endOf ps o).2) * (fN (endOf qs o).1 - fN (endOf qs o).2)=0 at q
   rw[e1,e2]at q
   omega
  ·by_cases c:(k:Int)∈T
   ·have:=lms_edge _ iW (endOf ps (k:Int)) (List.mem_map.mpr ⟨(k:Int),wo_mem.mpr ⟨c,by omega⟩,rfl⟩)
    have e:AN (endOf ps (k:Int)).1=AN (endOf ps (k:Int)).2:=by
     show(if mk N _=_ then (1:Int) else 0)=if mk N _=_ then 1 else 0
     rw[show mk N (endOf ps (k:Int)).1=mk N (endOf ps (k:Int)).2 from this]
    show(AN (endOf ps (k:Int)).1 - AN (endOf ps (k:Int)).2) * _=0
    rw[e,Int.sub_self,Int.zero_mul]
   ·have e:=out (k:Int) (by omega) (by omega) c
    show _ * (fN (endOf qs (k:Int)).1 - fN (endOf qs (k:Int)).2)=0
    rw[e,Int.sub_self,Int.mul_zero]
 have all:fN i=fN j:=(hj i j hi hj').const fun e he=>by
  obtain⟨z,hz,rfl⟩:=List.mem_map.mp he
  have hz:=rgL_mem.mp hz
  by_cases c:z∈T
  ·exact inn z c
  ·exact out z hz.1 (by omega) c
 have e1:fN i=1:=if_pos rfl
 rw[e1]at all
 by_cases c:mk M j=mk M i
 ·exact c.symm
 ·have e2:fN j=0:=if_neg c
  omega
theorem cmpl_tree{n n':Int}{ps qs:List (Int × Int)}{T:List Int}(g:GoodW n ps)(g':GoodW n' qs)(hl:qs.length=ps.length)(ho:Orth ps qs)(hj:Joined n' qs)(he:n - (ps.length:Int)+n'=2)(hT:IsTree n ps T):IsTree n' qs (cmpl ps.length T):=by
 refine⟨by rw[hl];exact cmpl_set _ _,?_,cmpl_conn g g' hl ho hj hT⟩
 have:=cmpl_len hT.1
 have:=hT.2.1
 omega
theorem cmpl_iff{n n':Int}{ps qs:List (Int × Int)}{T:List Int}(g:GoodW n ps)(g':GoodW n' qs)(hl:qs.length=ps.length)(ho:Orth ps qs)(hj:Joined n ps)(hj':Joined n' qs)(he:n - (ps.length:Int)+n'=2)(hs:IsSet ps.length T):IsTree n ps T↔IsTree n' qs (cmpl ps.length T):=by
 refine⟨cmpl_tree g g' hl ho hj' he,fun h=>?_⟩
 have:=cmpl_tree g' g hl.symm (ho.symm hl) hj (by omega) h
 rw[hl,cmpl_two hs]at this
 exact this
theorem cmpl_tc{n n':Int}{ps qs:List (Int × Int)}{c:Nat}(g:GoodW n ps)(g':GoodW n' qs)(hl:qs.length=ps.length)(ho:Orth ps qs)(hj:Joined n ps)(hj':Joined n' qs)(he:n - (ps.length:Int)+n'=2)(h:TC n ps c):TC n' qs c :=
 tc_map (cmpl ps.length) (cmpl ps.length) (fun T hT=>⟨cmpl_tree g g' hl ho hj' he hT,cmpl_two hT.1⟩) (fun T hT=>⟨by
  have:=cmpl_tree g' g hl.symm (ho.symm hl) hj (by omega) hT
  rw[hl]at this
  exact this,cmpl_two (by rw[<- hl];exact hT.1)⟩) h
theorem other_ok{n:Nat}{ps:List (Int × Int)}{ts R:List (List Int)}(hV:VT n ps ts)(hg:∀ p∈ps,0<=p.1/\p.1<(n:Int)/\0<=p.2/\p.2<(n:Int))(h30:ps.length<=30)(h14:R.length<=14)(h:RdW ps ts R)(hF:Flat n ps R):GoodW R.length (owT R ps.length)/\Joined R.length (owT R ps.length):=by
 have ex:∀ x:Int,0<=x->x<2 * (ps.length:Int)->x∈R.flatten:=fun x h0 h1=>h.all hV ⟨h0,h1⟩
 have pos:1<=R.length:=by
  rcases h with ⟨_,rfl⟩ | ⟨h0,_⟩
  ·exact Nat.le_refl _
  ·obtain⟨r,hr,_⟩:=List.mem_flatten.mp (ex 0 (Int.le_refl _) (by omega))
   exact List.length_pos_of_mem hr
 refine⟨⟨by omega,by omega,by rw[owT_len];exact h30,owT_good ex⟩,?_⟩
 by_cases h0:0<ps.length
 ·exact dual_joined hV hg h0 h hF.1
 ·rcases h with ⟨_,rfl⟩ | ⟨h1,_⟩
  ·intro i j hi hj
   have hi:i<1:=hi
   have hj:j<1:=hj
   obtain rfl:i=j:=by omega
   exact .refl _
  ·exact absurd h1 h0
end My
namespace L2
open PySem PySem.Spec PyProof.Rows
section
variable{X:Cx}
variable{es:List Expr}{e:Expr}{te:TE}{t:St->Hp->Str->(Str->Hp->Prop)->Prop}{pos:Pos}
end
end L2
namespace My
open PySem L2
def top(i:Nat):Stmt:=PySem.Challenge.pw_spanrow_k79_whole_trees_of_the_other_web.main.body.getD i (.Pass ⟨0,0,0,0⟩)
abbrev sζ0:Stmt:=top 14
abbrev sζ1:Stmt:=inClass (top 13) 0
abbrev sζ2:Stmt:=top 15
abbrev sζ3:Stmt:=top 16
abbrev sζ4:Stmt:=top 19
abbrev sζ5:Stmt:=top 20
abbrev sζ6:Stmt:=top 21
abbrev sζ7:Stmt:=top 22
abbrev sζ8:Stmt:=top 23
abbrev sζ9:Stmt:=top 24
abbrev sζa:Stmt:=top 34
abbrev sζb:Stmt:=top 35
abbrev sζc:Stmt:=top 36
abbrev sζd:Stmt:=top 37
abbrev sζe:Stmt:=top 38
abbrev sζf:Stmt:=top 39
abbrev sζg:Stmt:=top 40
abbrev sζh:Stmt:=top 41
abbrev sζi:Stmt:=top 42
abbrev sζj:Stmt:=top 17
abbrev sζk:Stmt:=top 27
abbrev sζl:Stmt:=top 28
abbrev sζm:Stmt:=top 25
abbrev sζn:Stmt:=top 29
abbrev sζo:Stmt:=top 30
abbrev sζp:Stmt:=top 18
abbrev sζq:Stmt:=top 31
abbrev sζr:Stmt:=top 32
abbrev sζs:Stmt:=top 43
abbrev sζt:Stmt:=top 45
abbrev sζu:Stmt:=top 46
abbrev sζv:Stmt:=top 47
abbrev sζw:Stmt:=top 48
abbrev sζx:Stmt:=top 49
abbrev sζy:Stmt:=top 50
abbrev sζz:Stmt:=top 52
abbrev sζA:Stmt:=top 53
abbrev sζB:Stmt:=top 54
abbrev sζC:Stmt:=top 56
abbrev sζD:Stmt:=top 57
abbrev sζE:Stmt:=top 58
abbrev sζF:Stmt:=top 59
abbrev sζG:Stmt:=top 61
abbrev sζH:Stmt:=top 62
abbrev sζI:Stmt:=top 63
abbrev sζJ:Stmt:=top 64
abbrev sζK:Stmt:=top 65
abbrev sζL:Stmt:=top 66
abbrev sζM:Stmt:=top 67
abbrev sζN:Stmt:=top 68
structure Adr where
 aζ0:Addr
 dζ0:FuncData
 aζ1:Addr
 dζ1:FuncData
 aζ2:Addr
 dζ2:FuncData
 aζ3:Addr
 dζ3:FuncData
 aζ4:Addr
 dζ4:FuncData
 aζ5:Addr
 dζ5:FuncData
 aζ6:Addr
 dζ6:FuncData
 aζ7:Addr
 dζ7:FuncData
 aζ8:Addr
 dζ8:FuncData
 aζ9:Addr
 dζ9:FuncData
 aζa:Addr
 dζa:FuncData
 aζb:Addr
 dζb:FuncData
 aζc:Addr
 dζc:FuncData
 aζd:Addr
 dζd:FuncData
 aζe:Addr
 dζe:FuncData
 aζf:Addr
 dζf:FuncData
 aζg:Addr
 dζg:FuncData
 aζh:Addr
 dζh:FuncData
 aζi:Addr
 dζi:FuncData
 aζj:Addr
 dζj:FuncData
 aζk:Addr
 dζk:FuncData
 aζl:Addr
 dζl:FuncData
 aζm:Addr
 dζm:FuncData
 aζn:Addr
 dζn:FuncData
 aζo:Addr
 dζo:FuncData
 aζp:Addr
 dζp:FuncData
 aζq:Addr
 dζq:FuncData
 aζr:Addr
 dζr:FuncData
 aζs:Addr
 dζs:FuncData
 aζt:Addr
 dζt:FuncData
 aζu:Addr
 dζu:FuncData
 aζv:Addr
 dζv:FuncData
 aζw:Addr
 dζw:FuncData
 aζx:Addr
 dζx:FuncData
 aζy:Addr
 dζy:FuncData
 aζz:Addr
 dζz:FuncData
 aζA:Addr
 dζA:FuncData
 aζB:Addr
 dζB:FuncData
 aζC:Addr
 dζC:FuncData
 aζD:Addr
 dζD:FuncData
 aζE:Addr
 dζE:FuncData
 aζF:Addr
 dζF:FuncData
 aζG:Addr
 dζG:FuncData
 aζH:Addr
 dζH:FuncData
 aζI:Addr
 dζI:FuncData
 aζJ:Addr
 dζJ:FuncData
 aζK:Addr
 dζK:FuncData
 aζL:Addr
 dζL:FuncData
 aζM:Addr
 dζM:FuncData
 aζN:Addr
 dζN:FuncData
 A_Web:Addr
 A_WebError:Addr
 A_BadWeb:Addr
 A_BadSet:Addr
 A_NotSquare:Addr
 A_BadTurns:Addr
 A_NotFlat:Addr
 A_NoTree:Addr
 A_NoTie:Addr
 A_Parted:Addr
structure Txt (K:PySem.W.Frag) (mg:Str->Option Value) (t:Adr):Prop where
 fζ0:Fun K "refuse_bad_web" "refuse_bad_web" sζ0 t.aζ0 t.dζ0
 bζ0:Binds K t.dζ0 ["places","ties"] []
 mζ0:mg "refuse_bad_web"=some (.ref t.aζ0)
 fζ1:Fun K "__init__" "Web.__init__" sζ1 t.aζ1 t.dζ1
 bζ1:Binds K t.dζ1 ["self","places","ties"] []
 fζ2:Fun K "is_tie" "is_tie" sζ2 t.aζ2 t.dζ2
 bζ2:Binds K t.dζ2 ["web","number"] []
 mζ2:mg "is_tie"=some (.ref t.aζ2)
 fζ3:Fun K "all_ties" "all_ties" sζ3 t.aζ3 t.dζ3
 bζ3:Binds K t.dζ3 ["web"] []
 mζ3:mg "all_ties"=some (.ref t.aζ3)
 fζ4:Fun K "is_set" "is_set" sζ4 t.aζ4 t.dζ4
 bζ4:Binds K t.dζ4 ["web","ties"] []
 mζ4:mg "is_set"=some (.ref t.aζ4)
 fζ5:Fun K "made_set" "made_set" sζ5 t.aζ5 t.dζ5
 bζ5:Binds K t.dζ5 ["web","ties"] []
 mζ5:mg "made_set"=some (.ref t.aζ5)
 fζ6:Fun K "merged_marks" "merged_marks" sζ6 t.aζ6 t.dζ6
 bζ6:Binds K t.dζ6 ["web","marks","ties"] []
 mζ6:mg "merged_marks"=some (.ref t.aζ6)
 fζ7:Fun K "piece_marks" "piece_marks" sζ7 t.aζ7 t.dζ7
 bζ7:Binds K t.dζ7 ["web","ties"] []
 mζ7:mg "piece_marks"=some (.ref t.aζ7)
 fζ8:Fun K "pieces_of" "pieces_of" sζ8 t.aζ8 t.dζ8
 bζ8:Binds K t.dζ8 ["web","ties"] []
 mζ8:mg "pieces_of"=some (.ref t.aζ8)
 fζ9:Fun K "is_joined" "is_joined" sζ9 t.aζ9 t.dζ9
 bζ9:Binds K t.dζ9 ["web","ties"] []
 mζ9:mg "is_joined"=some (.ref t.aζ9)
 fζa:Fun K "darts_away" "darts_away" sζa t.aζa t.dζa
 bζa:Binds K t.dζa ["web"] []
 mζa:mg "darts_away"=some (.ref t.aζa)
 fζb:Fun K "refuse_bad_turns" "refuse_bad_turns" sζb t.aζb t.dζb
 bζb:Binds K t.dζb ["web","turns"] []
 mζb:mg "refuse_bad_turns"=some (.ref t.aζb)
 fζc:Fun K "back_dart" "back_dart" sζc t.aζc t.dζc
 bζc:Binds K t.dζc ["dart"] []
 mζc:mg "back_dart"=some (.ref t.aζc)
 fζd:Fun K "darts_behind" "darts_behind" sζd t.aζd t.dζd
 bζd:Binds K t.dζd ["turns"] []
 mζd:mg "darts_behind"=some (.ref t.aζd)
 fζe:Fun K "round_from" "round_from" sζe t.aζe t.dζe
 bζe:Binds K t.dζe ["behind","start"] []
 mζe:mg "round_from"=some (.ref t.aζe)
 fζf:Fun K "rounds_of" "rounds_of" sζf t.aζf t.dζf
 bζf:Binds K t.dζf ["web","turns"] []
 mζf:mg "rounds_of"=some (.ref t.aζf)
 fζg:Fun K "lies_flat" "lies_flat" sζg t.aζg t.dζg
 bζg:Binds K t.dζg ["web","turns"] []
 mζg:mg "lies_flat"=some (.ref t.aζg)
 fζh:Fun K "round_numbers" "round_numbers" sζh t.aζh t.dζh
 bζh:Binds K t.dζh ["rounds"] []
 mζh:mg "round_numbers"=some (.ref t.aζh)
 fζi:Fun K "other_web" "other_web" sζi t.aζi t.dζi
 bζi:Binds K t.dζi ["web","turns"] []
 mζi:mg "other_web"=some (.ref t.aζi)
 fζj:Fun K "ties_beside" "ties_beside" sζj t.aζj t.dζj
 bζj:Binds K t.dζj ["web","ties"] []
 mζj:mg "ties_beside"=some (.ref t.aζj)
 fζk:Fun K "is_tree" "is_tree" sζk t.aζk t.dζk
 bζk:Binds K t.dζk ["web","ties"] []
 mζk:mg "is_tree"=some (.ref t.aζk)
 fζl:Fun K "refuse_no_tree" "refuse_no_tree" sζl t.aζl t.dζl
 bζl:Binds K t.dζl ["web","tree"] []
 mζl:mg "refuse_no_tree"=some (.ref t.aζl)
 fζm:Fun K "refuse_parted" "refuse_parted" sζm t.aζm t.dζm
 bζm:Binds K t.dζm ["web"] []
 mζm:mg "refuse_parted"=some (.ref t.aζm)
 fζn:Fun K "grown_tree" "grown_tree" sζn t.aζn t.dζn
 bζn:Binds K t.dζn ["web","inside","order"] []
 mζn:mg "grown_tree"=some (.ref t.aζn)
 fζo:Fun K "least_tree" "least_tree" sζo t.aζo t.dζo
 bζo:Binds K t.dζo ["web"] []
 mζo:mg "least_tree"=some (.ref t.aζo)
 fζp:Fun K "ties_without" "ties_without" sζp t.aζp t.dζp
 bζp:Binds K t.dζp ["ties","left_out"] []
 mζp:mg "ties_without"=some (.ref t.aζp)
 fζq:Fun K "tree_cut" "tree_cut" sζq t.aζq t.dζq
 bζq:Binds K t.dζq ["web","tree","tie"] []
 mζq:mg "tree_cut"=some (.ref t.aζq)
 fζr:Fun K "ring_of" "ring_of" sζr t.aζr t.dζr
 bζr:Binds K t.dζr ["web","tree","tie"] []
 mζr:mg "ring_of"=some (.ref t.aζr)
 fζs:Fun K "left_of" "left_of" sζs t.aζs t.dζs
 bζs:Binds K t.dζs ["web","tree"] []
 mζs:mg "left_of"=some (.ref t.aζs)
 fζt:Fun K "refuse_not_square" "refuse_not_square" sζt t.aζt t.dζt
 bζt:Binds K t.dζt ["table"] []
 mζt:mg "refuse_not_square"=some (.ref t.aζt)
 fζu:Fun K "row_taken_off" "row_taken_off" sζu t.aζu t.dζu
 bζu:Binds K t.dζu ["row","pivot","last"] []
 mζu:mg "row_taken_off"=some (.ref t.aζu)
 fζv:Fun K "first_with_some" "first_with_some" sζv t.aζv t.dζv
 bζv:Binds K t.dζv ["rows"] []
 mζv:mg "first_with_some"=some (.ref t.aζv)
 fζw:Fun K "determinant" "determinant" sζw t.aζw t.dζw
 bζw:Binds K t.dζw ["table"] []
 mζw:mg "determinant"=some (.ref t.aζw)
 fζx:Fun K "row_without" "row_without" sζx t.aζx t.dζx
 bζx:Binds K t.dζx ["row","number"] []
 mζx:mg "row_without"=some (.ref t.aζx)
 fζy:Fun K "table_without" "table_without" sζy t.aζy t.dζy
 bζy:Binds K t.dζy ["table","number"] []
 mζy:mg "table_without"=some (.ref t.aζy)
 fζz:Fun K "weighted_table" "weighted_table" sζz t.aζz t.dζz
 bζz:Binds K t.dζz ["web","weights"] []
 mζz:mg "weighted_table"=some (.ref t.aζz)
 fζA:Fun K "pull_table" "pull_table" sζA t.aζA t.dζA
 bζA:Binds K t.dζA ["web"] []
 mζA:mg "pull_table"=some (.ref t.aζA)
 fζB:Fun K "tree_count" "tree_count" sζB t.aζB t.dζB
 bζB:Binds K t.dζB ["web"] []
 mζB:mg "tree_count"=some (.ref t.aζB)
 fζC:Fun K "_law_at" "_law_at" sζC t.aζC t.dζC
 bζC:Binds K t.dζC ["script","k"] []
 mζC:mg "_law_at"=some (.ref t.aζC)
 fζD:Fun K "_law_mixed" "_law_mixed" sζD t.aζD t.dζD
 bζD:Binds K t.dζD ["cell","k"] []
 mζD:mg "_law_mixed"=some (.ref t.aζD)
 fζE:Fun K "_law_amounts" "_law_amounts" sζE t.aζE t.dζE
 bζE:Binds K t.dζE ["script"] []
 mζE:mg "_law_amounts"=some (.ref t.aζE)
 fζF:Fun K "_law_behind" "_law_behind" sζF t.aζF t.dζF
 bζF:Binds K t.dζF ["turns"] []
 mζF:mg "_law_behind"=some (.ref t.aζF)
 fζG:Fun K "_law_put" "_law_put" sζG t.aζG t.dζG
 bζG:Binds K t.dζG ["turns","one","other","darts"] []
 mζG:mg "_law_put"=some (.ref t.aζG)
 fζH:Fun K "_law_corner" "_law_corner" sζH t.aζH t.dζH
 bζH:Binds K t.dζH ["turns","m"] []
 mζH:mg "_law_corner"=some (.ref t.aζH)
 fζI:Fun K "_law_grown" "_law_grown" sζI t.aζI t.dζI
 bζI:Binds K t.dζI ["count","ties","turns","m"] []
 mζI:mg "_law_grown"=some (.ref t.aζI)
 fζJ:Fun K "_law_map" "_law_map" sζJ t.aζJ t.dζJ
 bζJ:Binds K t.dζJ ["script"] []
 mζJ:mg "_law_map"=some (.ref t.aζJ)
 fζK:Fun K "_law_tree" "_law_tree" sζK t.aζK t.dζK
 bζK:Binds K t.dζK ["web","m"] []
 mζK:mg "_law_tree"=some (.ref t.aζK)
 fζL:Fun K "_law_sets" "_law_sets" sζL t.aζL t.dζL
 bζL:Binds K t.dζL ["web","m"] []
 mζL:mg "_law_sets"=some (.ref t.aζL)
 fζM:Fun K "_law_good" "_law_good" sζM t.aζM t.dζM
 bζM:Binds K t.dζM ["web","other","ties"] []
 mζM:mg "_law_good"=some (.ref t.aζM)
 fζN:Fun K "law" "law" sζN t.aζN t.dζN
 bζN:Binds K t.dζN ["script"] []
 mζN:mg "law"=some (.ref t.aζN)
 c_Web:mg "Web"=some (.ref t.A_Web)
 cl_Web:Cls K t.A_Web
 k_Web:Mk K t.A_Web t.aζ1
 n_Web_places:NoAttr K t.A_Web "places"
 n_Web_ties:NoAttr K t.A_Web "ties"
 c_WebError:mg "WebError"=some (.ref t.A_WebError)
 c_BadWeb:mg "BadWeb"=some (.ref t.A_BadWeb)
 c_BadSet:mg "BadSet"=some (.ref t.A_BadSet)
 c_NotSquare:mg "NotSquare"=some (.ref t.A_NotSquare)
 c_BadTurns:mg "BadTurns"=some (.ref t.A_BadTurns)
 c_NotFlat:mg "NotFlat"=some (.ref t.A_NotFlat)
 c_NoTree:mg "NoTree"=some (.ref t.A_NoTree)
 c_NoTie:mg "NoTie"=some (.ref t.A_NoTie)
 c_Parted:mg "Parted"=some (.ref t.A_Parted)
 x_BadTurns:XCls K (t.A_BadTurns)
 x_NotFlat:XCls K (t.A_NotFlat)
 x_BadWeb:XCls K (t.A_BadWeb)
 x_NotSquare:XCls K (t.A_NotSquare)
 x_NoTree:XCls K (t.A_NoTree)
 x_NoTie:XCls K (t.A_NoTie)
 x_Parted:XCls K (t.A_Parted)
 em_BadTurns:PySem.W.exmOne K (.ref (t.A_BadTurns)) (.ref (t.A_WebError))=some true
 em_NotFlat:PySem.W.exmOne K (.ref (t.A_NotFlat)) (.ref (t.A_WebError))=some true
 em_BadWeb:PySem.W.exmOne K (.ref (t.A_BadWeb)) (.ref (t.A_WebError))=some true
 em_NotSquare:PySem.W.exmOne K (.ref (t.A_NotSquare)) (.ref (t.A_WebError))=some true
 em_NoTree:PySem.W.exmOne K (.ref (t.A_NoTree)) (.ref (t.A_WebError))=some true
 em_NoTie:PySem.W.exmOne K (.ref (t.A_NoTie)) (.ref (t.A_WebError))=some true
 em_Parted:PySem.W.exmOne K (.ref (t.A_Parted)) (.ref (t.A_WebError))=some true
 g_MOST_PLACES:∃ tk,mg "MOST_PLACES"=some (.int 14 tk)
 g_MOST_TIES:∃ tk,mg "MOST_TIES"=some (.int 30 tk)
 n_all:mg "all"=none
 n_enumerate:mg "enumerate"=none
 n_len:mg "len"=none
 n_list:mg "list"=none
 n_max:mg "max"=none
 n_min:mg "min"=none
 n_range:mg "range"=none
 n_sorted:mg "sorted"=none
 n_tuple:mg "tuple"=none
 n_zip:mg "zip"=none
end My
namespace My
open PySem L2 PyProof.Rows
set_option maxHeartbeats 4000000
def spζ0(K:PySem.W.Frag)(B:Addr):Sp:=fun vs H Q E=>∃(n:Int) (a:Addr) (kd:Bool) (xs:List V) (ps:List (Int × Int)),vs=[.int n,.ref a]/\SqK kd K H a xs/\PairsV H xs ps/\(∀ p∈ps,-(10 ^ 70)<p.1/\p.1<10 ^ 70/\-(10 ^ 70)<p.2/\p.2<10 ^ 70) /\
 (GoodW n ps->Q .non H)/\(¬ GoodW n ps->E (.ref B) none H)
section
variable{P:Program}{w:World}{K:PySem.W.Frag}{mg:Str->Option Value}{base:Heap}{t:Adr}
theorem scζ0:FnScope ["places","ties","ends","end"] ["places","ties"] (ζ6 sζ0):=⟨rfl,rfl,rfl,by decide +kernel,rfl,by decide +kernel,by decide +kernel⟩
theorem okζ0 (T:Txt K mg t):FnOk P w K mg base (CXW P w) 1 t.aζ0 t.dζ0 ["places","ties"] (spζ0 K t.A_BadWeb):=by
 refine T.fζ0.okX scζ0 (fun vs H Q E h=>?_) (fun cdv A outer s H vs Q E hr h=>?_)
 ·obtain⟨n,a,kd,xs,ps,rfl,_⟩:=h
  rfl
 ·obtain⟨n,a,kd,xs,ps,rfl,hS,hp,hbd,q,qe⟩:=h
  refine⟨_,(ζ2 (ps_if (pt_not (pt_chain op_le op_le pe_int (pv 0) (pe_glob (v:=V.int 14) rfl T.g_MOST_PLACES.choose_spec ⟨_,rfl⟩)))
   (ζ5 (ps_raise T.x_BadWeb T.c_BadWeb (ζ0 (pe_fstr (pj_str (pj_int (pe_glob (v:=V.int 14) rfl T.g_MOST_PLACES.choose_spec ⟨_,rfl⟩) (pj_str pj_nil)))) ζ4)))
   pss_nil)
   (ζ2 (ps_if (pt_cmpR op_gt (pe_callB (call_lenK K) (by rfl) T.n_len Boot.«len» (ζ0 (pv 1) ζ4)) (pe_glob (v:=V.int 30) rfl T.g_MOST_TIES.choose_spec ⟨_,rfl⟩) (nomark _))
   (ζ5 (ps_raise T.x_BadWeb T.c_BadWeb (ζ0 (pe_fstr (pj_str (pj_int (pe_glob (v:=V.int 30) rfl T.g_MOST_TIES.choose_spec ⟨_,rfl⟩) (pj_str pj_nil)))) ζ4)))
   pss_nil)
   (ζ5 (ps_for PassesOwn.leaving rfl (pi_seqK K (pv 1)) (pg_name (i:=2) scζ0.nd rfl (Or.inl rfl))
   (ζ5 (ps_for PassesOwn.leaving rfl (pi_tupK K (pv 2)) (pg_name (i:=3) scζ0.nd rfl (Or.inl rfl))
   (ζ5 (ps_if (pt_not (pt_chain op_le op_lt pe_int (pv 3) (pv 0)))
   (ζ5 (ps_raise T.x_BadWeb T.c_BadWeb (ζ0 (pe_fstr (pj_int (pv 3) (pj_str pj_nil))) ζ4)))
   pss_nil)))))))),?_⟩
  have one:1<=sizeLine:=by decide
  refine⟨_,rfl,_,_,rfl,rfl,_,rfl,?_⟩
  refine itd2 (fun g1=>?_) (fun g1=>?_)
  ·refine⟨_,_,rfl,rfl,_,rfl,?_⟩
   refine itn2 (fun g2=>?_) (fun g2=>?_)
   ·refine⟨_,rfl,a,xs,rfl,hS.or,_,_,rfl,rfl,_,rfl,?_⟩
    rw[hp.1]
    refine itd2 (fun g3=>?_) (fun g3=>?_)
    ·exact⟨30,rfl,by decide,by decide,fun x=>⟨one,qe fun g=>by have:=g.2.2.1;omega⟩⟩
    ·refine⟨_,rfl,a,rfl,for_seq (k:=kd) (K:=K) (xs:=xs) (fun i σ H2=>∃ v v2,σ=[some (.int n),some (.ref a),v,v2]/\H2=H/\∀ j p,j<i->ps[j]?=some p->0<=p.1/\p.1<n/\0<=p.2/\p.2<n) ⟨none,none,rfl,rfl,fun j p hj=>absurd hj (Nat.not_lt_zero j)⟩ (fun i σ H2 _ ⟨_,_,_,e,_⟩=>e ▸ hS) ?_ ?_⟩
     ·rintro i x σ H2 hi ⟨v,v2,rfl,rfl,hg⟩
      obtain⟨p,hpi,tt,rfl,ht⟩:=hp.at hi
      obtain⟨e1,e2,e3,e4⟩:=hbd p (List.mem_of_getElem? hpi)
      have bad:¬ (0<=p.1/\p.1<n/\0<=p.2/\p.2<n)->E (.ref t.A_BadWeb) none H2:=fun z=>qe fun g=>z (g.2.2.2 p (List.mem_of_getElem? hpi))
      refine⟨_,rfl,tt,rfl,⟨_,SqT.of ht⟩,for_tup (K:=K) (a:=tt) (xs:=[.int p.1,.int p.2]) (fun j σ H3=>∃ v v2,σ=[some (.int n),some (.ref a),v,v2]/\H3=H2/\(1<=j->0<=p.1/\p.1<n)/\(2<=j->0<=p.2/\p.2<n)) ⟨_,_,rfl,rfl,fun z=>by omega,fun z=>by omega⟩ (fun j σ H3 _ ⟨_,_,_,e,_⟩=>e ▸ SqT.of ht) ?_ ?_⟩
      ·rintro j y σ H3 hj ⟨v,v2,rfl,rfl,d1,d2⟩
       obtain⟨z,rfl,z1,z2,zc⟩:∃ z:Int,y=.int z/\-(10 ^ 70)<z/\z<10 ^ 70/\((j=0/\z=p.1)\/(j=1/\z=p.2)):=by
        match j,hj with
        | 0,hj=>exact⟨p.1,(Option.some.inj hj).symm,e1,e2,.inl ⟨rfl,rfl⟩⟩
        | 1,hj=>exact⟨p.2,(Option.some.inj hj).symm,e3,e4,.inr ⟨rfl,rfl⟩⟩
       refine⟨_,rfl,_,_,rfl,rfl,_,rfl,?_⟩
       refine itd2 (fun f1=>?_) (fun f1=>?_)
       ·refine⟨_,rfl,_,_,rfl,rfl,_,rfl,?_⟩
        refine itn2 (fun f2=>?_) (fun f2=>?_)
        ·exact⟨_,_,rfl,rfl,fun _=>by omega,fun _=>by omega⟩
        ·exact⟨_,rfl,z,rfl,z1,z2,fun x=>⟨one,bad fun g=>by omega⟩⟩
       ·exact⟨_,rfl,_,rfl,z,rfl,z1,z2,fun x=>⟨one,bad fun g=>by omega⟩⟩
      ·rintro σ H3 ⟨v,v2,rfl,rfl,d1,d2⟩
       refine⟨_,_,rfl,rfl,fun j p' hj ej=>?_⟩
       by_cases hji:j<i
       ·exact hg j p' hji ej
       ·have:j=i:=by omega
        subst this
        rw[hpi]at ej
        cases ej
        have:=d1 (by show 1<=2;decide)
        have:=d2 (by show 2<=2;decide)
        omega
     ·rintro σ H2 ⟨v,v2,rfl,rfl,hg⟩
      refine q ⟨g1,g2,by omega,fun p hpm=>?_⟩
      obtain⟨j,hj,ej⟩:=List.getElem_of_mem hpm
      exact hg j p (by rw[hp.1];exact hj) (by rw[List.getElem?_eq_getElem hj,ej])
   ·exact⟨14,rfl,by decide,by decide,fun x=>⟨one,qe fun g=>g2 g.2.1⟩⟩
  ·exact⟨_,rfl,14,rfl,by decide,by decide,fun x=>⟨one,qe fun g=>g1 g.1⟩⟩
end
set_option maxHeartbeats 4000000
def WebAtN(C:Addr)(H H':Hp)(w:Addr)(n:Int)(ps:List (Int × Int)):Prop:=∃ dx tl xs,H' w=some (.ins C dx (wf n tl))/\H' tl=some (.lst xs)/\PairsV H' xs ps/\H tl=none
theorem WebAtN.web{C:Addr}{H H':Hp}{w:Addr}{n:Int}{ps:List (Int × Int)}(h:WebAtN C H H' w n ps):WebAt C H' w n ps:=let ⟨dx,tl,xs,a,b,c,_⟩:=h;⟨dx,tl,xs,a,b,c⟩
def sp_Web_init(K:PySem.W.Frag)(C B:Addr):Sp:=fun vs H Q E=>∃(w dx:Addr) (n:Int) (a:Addr) (kd:Bool) (xs:List V) (ps:List (Int × Int)),vs=[.ref w,.int n,.ref a]/\H w=some (.ins C dx [])/\(∀ o,SqK kd K (upd H w o) a xs)/\PairsV H xs ps/\(∀ p∈ps,-(10 ^ 70)<p.1/\p.1<10 ^ 70/\-(10 ^ 70)<p.2/\p.2<10 ^ 70) /\
 (GoodW n ps->∀ H':Hp,WebAtN C H H' w n ps->(∀ b o,H b=some o->b≠w->H' b=some o)->Q .non H')/\(¬ GoodW n ps->E (.ref B) none H)
section
variable{P:Program}{w:World}{K:PySem.W.Frag}{mg:Str->Option Value}{base:Heap}{t:Adr}
theorem scζ1:FnScope ["self","places","ties"] ["self","places","ties"] (ζ6 sζ1):=⟨rfl,rfl,rfl,by decide +kernel,rfl,by decide +kernel,by decide +kernel⟩
theorem okζ1 (T:Txt K mg t):FnOk P w K mg base (CXW P w) 2 t.aζ1 t.dζ1 ["self","places","ties"] (sp_Web_init K t.A_Web t.A_BadWeb):=by
 refine T.fζ1.okX scζ1 (fun vs H Q E h=>?_) (fun cdv A outer s H vs Q E hr h=>?_)
 ·obtain⟨w,dx,n,a,kd,xs,ps,rfl,_⟩:=h
  rfl
 ·obtain⟨w,dx,n,a,kd,xs,ps,rfl,hw,hS,hp,hbd,q0,qe⟩:=h
  have eH:upd H w (.ins t.A_Web dx [])=H:=by
   funext b
   by_cases hb:b=w
   ·subst hb;rw[ζ1,hw]
   ·rw[upd_ne hb]
  have hS0:SqK kd K H a xs:=by have z:=hS (.ins t.A_Web dx []);rw[eH]at z;exact z
  refine⟨_,(ζ2 (ps_expr (pe_call (okζ0 T) (hr.mono (by decide)) rfl T.mζ0 T.fζ0.kp T.bζ0 .nil pxs (ζ0 (pv 1) (ζ0 (pv 2) ζ4))))
   (ζ2 (ps_fld (pv 0) (pv 1) rfl)
   (ζ5 (ps_fld (pv 0) (pe_lc rfl (sc0:=ζ6 sζ1) (N0:=["self","places","ties"]) (N':=["ends"]) (o:=1) (fr:=[]) ⟨rfl,by decide +kernel,by decide +kernel,by decide +kernel,rfl,by decide +kernel⟩ (pi_seqK K (pv 2)) (own_name (by decide)) (fun _ _ _ _=>(pg_name (i:=0) (show List.Nodup (["ends"]:List Str) by decide +kernel) rfl (Or.inl rfl))) (fun _ _ _ _=>pts_nil) (fun _ _ _ _=>(pe_tup (ζ0 (pe_ix (ix_tupK K) (pv 0) pe_int (fun _ _=>rfl)) (ζ0 (pe_ix (ix_tupK K) (pv 0) pe_int (fun _ _=>rfl)) ζ4))))) rfl)))),?_⟩
  refine⟨_,rfl,_,rfl,n,a,kd,xs,ps,rfl,hS0,hp,hbd,fun g=>?_,qe⟩
  have q:=q0 g
  refine⟨_,rfl,_,rfl,w,_,dx,[],rfl,hw,T.cl_Web,T.n_Web_places,(by show 0<1000;decide),?_⟩
  have hp1:PairsV (upd H w (.ins t.A_Web dx (putF "places" (.int n) []))) xs ps:=⟨hp.1,fun i p e=>by
   obtain⟨v,e1,tt,e2,e3⟩:=hp.2 i p e
   exact⟨v,e1,tt,e2,by rw[upd_ne (ne_of e3 hw (fun z=>nomatch z))];exact e3⟩⟩
  have sx:xs.length<sizeLine:=small60' (by rw[hp.1];have:=g.2.2.1;omega)
  refine⟨_,rfl,a,rfl,lc_seq (k:=kd) (K:=K) (xs:=xs) (fun i ys H2=>i<=xs.length/\ys.length=i/\Same (upd H w (.ins t.A_Web dx (putF "places" (.int n) []))) H2/\PairsV H2 ys (ps.take i)) ⟨Nat.zero_le _,rfl,Same.refl _,PairsV.nil⟩ sx
   (fun i ys H2 _ ⟨_,hl,s2,_⟩=>⟨(hS _).same s2,Nat.le_of_eq hl⟩) ?_ ?_⟩
  ·rintro i x ys H2 hi ⟨h1,hl,s2,hy⟩ S hSS
   obtain⟨p,hpi,tt,rfl,ht⟩:=hp1.at hi
   have ht2:=s2 _ _ ht
   refine nmY ?_
   refine⟨_,rfl,tt,_,0,.int p.1,rfl,rfl,SqT.of ht2,rfl,_,rfl,tt,_,1,.int p.2,rfl,rfl,SqT.of ht2,rfl,(by show 2<=sizeLine;decide),fun q hq=>?_⟩
   have hil:i<xs.length:=(List.getElem?_eq_some_iff.mp hi).1
   refine hSS _ _ ⟨hil,by rw[List.length_append,hl];rfl,same_new s2 hq,?_⟩
   rw[List.take_succ,hpi]
   exact(hy.same (same_at hq)).snoc ⟨q,rfl,ζ1⟩
  ·rintro ys H2 ⟨_,hl,s2,hy⟩ tl htl
   have hw2:=s2 w _ ζ1
   have nwt:w≠tl:=ne_of_none hw2 htl
   refine⟨_,rfl,w,_,dx,_,rfl,(by rw[upd_ne nwt];exact hw2),T.cl_Web,T.n_Web_ties,(by show 1<1000;decide),?_⟩
   have htl0:H tl=none:=by
    cases qq:H tl with
    | none=>rfl
    | some oo =>
     have:=s2 tl oo (by rw[upd_ne (Ne.symm nwt)];exact qq)
     rw[htl]at this
     cases this
   refine q _ ⟨dx,tl,ys,ζ1,by rw[upd_ne (Ne.symm nwt),ζ1],?_,htl0⟩ fun b ob e hb=>?_
   ·have e1:ps.take xs.length=ps:=List.take_of_length_le (by rw[hp.1];exact Nat.le_refl _)
    rw[e1]at hy
    refine⟨hy.1,fun i p e=>?_⟩
    obtain⟨v,e2,tt,e3,e4⟩:=hy.2 i p e
    exact⟨v,e2,tt,e3,by rw[upd_ne (ne_of e4 hw2 (fun z=>nomatch z)),upd_ne (ne_of_none e4 htl)];exact e4⟩
   ·have e2:=s2 b ob (by rw[upd_ne hb];exact e)
    rw[upd_ne hb,upd_ne (ne_of_none e2 htl)]
    exact e2
end
set_option maxHeartbeats 4000000
def spζ2(C:Addr):Sp:=fun vs H Q _=>∃(w:Addr) (n:Int) (ps:List (Int × Int)) (k:Int),vs=[.ref w,.int k]/\WebAt C H w n ps/\Q (.bl (decide (0<=k/\k<(ps.length:Int)))) H
section
variable{P:Program}{w:World}{K:PySem.W.Frag}{mg:Str->Option Value}{base:Heap}{t:Adr}
theorem scζ2:FnScope ["web","number"] ["web","number"] (ζ6 sζ2):=⟨rfl,rfl,rfl,by decide +kernel,rfl,by decide +kernel,by decide +kernel⟩
theorem okζ2 (T:Txt K mg t):FnOk P w K mg base CX0 1 t.aζ2 t.dζ2 ["web","number"] (spζ2 t.A_Web):=by
 refine T.fζ2.ok scζ2 (fun vs H Q E h=>?_) (fun cdv A outer s H vs Q E hr h=>?_)
 ·obtain⟨w,n,ps,k,rfl,_⟩:=h
  rfl
 ·obtain⟨w,n,ps,k,rfl,⟨dx,tl,xs,h1,h2,h3⟩,q⟩:=h
  refine⟨_,(ζ5 (ps_ret (pe_chain op_le op_lt pe_int (pv 1) (pe_callB (call_lenK K) (by rfl) T.n_len Boot.«len» (ζ0 (pe_fldK K (pv 0) rfl) ζ4))))),?_⟩
  refine⟨_,rfl,_,_,rfl,rfl,_,rfl,?_⟩
  refine ite2 (fun hc=>?_) (fun hc=>?_)
  ·refine⟨_,rfl,w,_,dx,_,_,rfl,h1,T.cl_Web,T.n_Web_ties,wf_ties _ _,tl,xs,rfl,.inl (SqL.of h2),_,_,rfl,rfl,?_⟩
   have hc:=of_decide_eq_true hc
   show Q (.bl (decide (k<(xs.length:Int)))) H
   rw[h3.1,show decide (k<(ps.length:Int))=decide (0<=k/\k<(ps.length:Int)) from by simp[hc]]
   exact q
  ·have hc:¬ (0<=k):=fun z=>hc (decide_eq_true z)
   show Q (.bl false) H
   rw[show(false:Bool)=decide (0<=k/\k<(ps.length:Int)) from by simp;omega]
   exact q
end
set_option maxHeartbeats 4000000
def spζ3(K:PySem.W.Frag)(C:Addr):Sp:=fun vs H Q _=>∃(w:Addr) (n:Int) (ps:List (Int × Int)),vs=[.ref w]/\WebAt C H w n ps/\ps.length<=1000 /\
 ∀(r:Addr) (H':Hp),Same H H'->H r=none->H' r=some (.tup (IL (rgL ps.length)))->Q (.ref r) H'
section
variable{P:Program}{w:World}{K:PySem.W.Frag}{mg:Str->Option Value}{base:Heap}{t:Adr}
theorem scζ3:FnScope ["web"] ["web"] (ζ6 sζ3):=⟨rfl,rfl,rfl,by decide +kernel,rfl,by decide +kernel,by decide +kernel⟩
theorem okζ3 (T:Txt K mg t):FnOk P w K mg base CX0 1 t.aζ3 t.dζ3 ["web"] (spζ3 K t.A_Web):=by
 refine T.fζ3.ok scζ3 (fun vs H Q E h=>?_) (fun cdv A outer s H vs Q E hr h=>?_)
 ·obtain⟨w,n,ps,rfl,_⟩:=h
  rfl
 ·obtain⟨w,n,ps,rfl,⟨dx,tl,xs,h1,h2,h3⟩,hl,q⟩:=h
  refine⟨_,(ζ5 (ps_ret (pe_callTy (call_tuple_rng rfl) (by rfl) T.n_tuple Boot.«tuple» (ζ0 (pe_callTy call_rng1 (by rfl) T.n_range Boot.«range» (ζ0 (pe_callB (call_lenK K) (by rfl) T.n_len Boot.«len» (ζ0 (pe_fldK K (pv 0) rfl) ζ4)) ζ4)) ζ4)))),?_⟩
  have hx:=h3.1
  refine⟨_,rfl,w,_,dx,_,_,rfl,h1,T.cl_Web,T.n_Web_ties,wf_ties _ _,tl,xs,rfl,.inl (SqL.of h2),_,rfl,fun r hr=>⟨r,0,_,rfl,ζ1,⟨by decide,by decide,by omega,by omega⟩,by omega,fun l hl=>?_⟩⟩
  refine q l _ (same_new (same_at hr) hl) ((same_at hr).free hl) ?_
  rw[ζ1,hx,rngI_rgL]
end
set_option maxHeartbeats 4000000
def spζ4(K:PySem.W.Frag)(C:Addr):Sp:=fun vs H Q _=>∃(w a:Addr) (n:Int) (ps:List (Int × Int)) (kd:Bool) (ns:List Int),vs=[.ref w,.ref a]/\WebAt C H w n ps/\SqK kd K H a (IL ns)/\∀ b:Bool,(b=true↔IsSet ps.length ns)->Q (.bl b) H
section
variable{P:Program}{w:World}{K:PySem.W.Frag}{mg:Str->Option Value}{base:Heap}{t:Adr}
theorem scζ4:FnScope ["web","ties","last","tie"] ["web","ties"] (ζ6 sζ4):=⟨rfl,rfl,rfl,by decide +kernel,rfl,by decide +kernel,by decide +kernel⟩
theorem okζ4 (T:Txt K mg t):FnOk P w K mg base CX0 2 t.aζ4 t.dζ4 ["web","ties"] (spζ4 K t.A_Web):=by
 refine T.fζ4.ok scζ4 (fun vs H Q E h=>?_) (fun cdv A outer s H vs Q E hr h=>?_)
 ·obtain⟨w,a,n,ps,kd,ns,rfl,_⟩:=h
  rfl
 ·obtain⟨w,a,n,ps,kd,ns,rfl,hW,hS,q⟩:=h
  refine⟨_,(ζ2 (ps_set (i:=2) scζ4.nd rfl (Or.inl rfl) (pe_un un_neg pe_int))
   (ζ2 (ps_for PassesOwn.never rfl (pi_seqK K (pv 1)) (pg_name (i:=3) scζ4.nd rfl (Or.inl rfl))
   (ζ2 (ps_if (PW.pt (pw_or (pt_cmpR op_le (pv 3) (pv 2) (nomark _)) (pw_or1 (pt_not (pt_val (pe_call (okζ2 T) (hr.mono (by decide)) rfl T.mζ2 T.fζ2.kp T.bζ2 .nil pass0 (ζ0 (pv 0) (ζ0 (pv 3) ζ4))))))))
   (ζ5 (ps_ret pe_bl))
   pss_nil)
   (ζ5 (ps_set (i:=2) scζ4.nd rfl (Or.inl rfl) (pv 3)))))
   (ζ5 (ps_ret pe_bl)))),?_⟩
  refine⟨_,rfl,?_⟩
  refine⟨_,rfl,a,rfl,for_seq (k:=kd) (K:=K) (xs:=IL ns) (fun i σ H2=>∃(l:Int) (v:Option V),σ=[some (.ref w),some (.ref a),some (.int l),v]/\H2=H/\(i=0->l=-1)/\(i≠0->ns[i - 1]?=some l)/\∀ j z,j<i->ns[j]?=some z->0<=z/\z<(ps.length:Int)/\∀ y,j≠0->ns[j - 1]?=some y->y<z)
   ⟨-1,none,rfl,rfl,fun _=>rfl,fun z=>absurd rfl z,fun j z hj=>absurd hj (Nat.not_lt_zero j)⟩ (fun i σ H2 _ ⟨_,_,_,e,_⟩=>e ▸ hS) ?_ ?_⟩
  ·rintro i x σ H2 hi ⟨l,v,rfl,rfl,hl0,hl1,hp⟩
   obtain⟨z,rfl,hz⟩:=il_get hi
   refine⟨_,rfl,_,rfl,_,_,rfl,rfl,_,rfl,?_⟩
   refine itd2 (fun hc=>?_) (fun hc=>?_)
   ·-- tie<=last
    refine iteT ?_
    refine q false ⟨fun z=>(nomatch z),fun hs=>?_⟩
    obtain⟨b1,b2,b3⟩:=hs i z hz
    by_cases h0:i=0
    ·have:=hl0 h0;omega
    ·have:=b3 l h0 (hl1 h0);omega
   ·refine⟨_,rfl,_,rfl,w,n,ps,z,rfl,hW,_,rfl,?_⟩
    refine itn2 (fun hc2=>?_) (fun hc2=>?_)
    ·refine⟨_,rfl,?_⟩
     refine⟨z,_,rfl,rfl,fun e=>(nomatch e),fun _=>by simpa using hz,fun j y hj ey=>?_⟩
     by_cases hji:j<i
     ·exact hp j y hji ey
     ·have e:j=i:=by omega
      subst e
      rw[hz]at ey
      cases ey
      refine⟨hc2.1,hc2.2,fun y h0 ey=>?_⟩
      rw[hl1 h0]at ey
      cases ey
      omega
    ·refine q false ⟨fun z=>(nomatch z),fun hs=>?_⟩
     obtain⟨b1,b2,b3⟩:=hs i z hz
     exact absurd ⟨b1,b2⟩ hc2
  ·rintro σ H2 ⟨l,v,rfl,rfl,hl0,hl1,hp⟩
   refine q true ⟨fun _ i z hz=>?_,fun _=>rfl⟩
   have hi:i<(IL ns).length:=by rw[ζ3];exact(List.getElem?_eq_some_iff.mp hz).1
   exact hp i z hi hz
end
set_option maxHeartbeats 4000000
def spζ5(K:PySem.W.Frag)(C:Addr):Sp:=fun vs H Q _=>∃(w a:Addr) (n:Int) (ps:List (Int × Int)) (kd:Bool) (ns:List Int),vs=[.ref w,.ref a]/\WebAt C H w n ps/\SqK kd K H a (IL ns)/\IsSet ps.length ns /\
 ∀(r:Addr) (H':Hp),Same H H'->SqT K H' r (IL ns)->Q (.ref r) H'
section
variable{P:Program}{w:World}{K:PySem.W.Frag}{mg:Str->Option Value}{base:Heap}{t:Adr}
theorem scζ5:FnScope ["web","ties"] ["web","ties"] (ζ6 sζ5):=⟨rfl,rfl,rfl,by decide +kernel,rfl,by decide +kernel,by decide +kernel⟩
theorem okζ5 (T:Txt K mg t):FnOk P w K mg base CX0 3 t.aζ5 t.dζ5 ["web","ties"] (spζ5 K t.A_Web):=by
 refine T.fζ5.ok scζ5 (fun vs H Q E h=>?_) (fun cdv A outer s H vs Q E hr h=>?_)
 ·obtain⟨w,a,n,ps,kd,ns,rfl,_⟩:=h
  rfl
 ·obtain⟨w,a,n,ps,kd,ns,rfl,hW,hS,hI,q⟩:=h
  refine⟨_,(ζ2 (ps_if (pt_not (pt_val (pe_call (okζ4 T) (hr.mono (by decide)) rfl T.mζ4 T.fζ4.kp T.bζ4 .nil pass0 (ζ0 (pv 0) (ζ0 (pv 1) ζ4)))))
   (ζ5 ps_never)
   pss_nil)
   (ζ5 (ps_ret (pe_callTy (call_tupleK K) (by rfl) T.n_tuple Boot.«tuple» (ζ0 (pv 1) ζ4))))),?_⟩
  refine⟨_,rfl,_,rfl,w,a,n,ps,kd,ns,rfl,hW,hS,fun b hb=>⟨_,rfl,?_⟩⟩
  refine itnb (fun _=>?_) (fun z=>?_)
  ·refine⟨_,rfl,a,IL ns,rfl,?_⟩
   cases kd with
   | false=>exact .inl ⟨hS,fun l hl=>q l _ (same_at hl) (SqT.of ζ1)⟩
   | true=>exact .inr ⟨hS,q a H (Same.refl H) hS⟩
  ·rw[hb.mpr hI]at z
   cases z
end
set_option maxHeartbeats 4000000
def spζ6(K:PySem.W.Frag)(C:Addr):Sp:=fun vs H Q _=>∃(w m a:Addr) (n:Int) (ps:List (Int × Int)) (M:List Int) (kd:Bool) (ns:List Int),vs=[.ref w,.ref m,.ref a]/\WebAt C H w n ps/\GoodW n ps/\H m=some (.lst (IL M))/\M.length=n.toNat/\SqK kd K H a (IL ns)/\(∀ z∈ns,0<=z/\z<(ps.length:Int)) /\
 ∀(m':Addr) (H':Hp),Same H H'->(m'=m\/H m'=none)->H' m'=some (.lst (IL (pmf M (endsOf ps ns))))->Q (.ref m') H'
section
variable{P:Program}{w:World}{K:PySem.W.Frag}{mg:Str->Option Value}{base:Heap}{t:Adr}
theorem scζ6:FnScope ["web","marks","ties","tie","ends","low","high"] ["web","marks","ties"] (ζ6 sζ6):=⟨rfl,rfl,rfl,by decide +kernel,rfl,by decide +kernel,by decide +kernel⟩
theorem okζ6 (T:Txt K mg t):FnOk P w K mg base CX0 1 t.aζ6 t.dζ6 ["web","marks","ties"] (spζ6 K t.A_Web):=by
 refine T.fζ6.ok scζ6 (fun vs H Q E h=>?_) (fun cdv A outer s H vs Q E hr h=>?_)
 ·obtain⟨w,m,a,n,ps,M,kd,ns,rfl,_⟩:=h
  rfl
 ·obtain⟨w,m0,a,n,ps,M0,kd,ns,rfl,⟨dx,tl,xs,h1,h2,h3⟩,⟨g1,g2,g3,g4⟩,hm,hlM,hS,hI,q⟩:=h
  refine⟨_,(ζ2 (ps_for PassesOwn.never rfl (pi_seqK K (pv 2)) (pg_name (i:=3) scζ6.nd rfl (Or.inl rfl))
   (ζ2 (ps_set (i:=4) scζ6.nd rfl (Or.inl rfl) (pe_ix (ix_listK K) (pe_fldK K (pv 0) rfl) (pv 3) (fun _ _=>rfl)))
   (ζ2 (ps_set (i:=5) scζ6.nd rfl (Or.inr rfl) (pe_callB (call_min2 rfl) (by rfl) T.n_min Boot.«min» (ζ0 (pe_ix (ix_listK K) (pv 1) (pe_ix (ix_tupK K) (pv 4) pe_int (fun _ _=>rfl)) (fun _ _=>rfl)) (ζ0 (pe_ix (ix_listK K) (pv 1) (pe_ix (ix_tupK K) (pv 4) pe_int (fun _ _=>rfl)) (fun _ _=>rfl)) ζ4))))
   (ζ2 (ps_set (i:=6) scζ6.nd rfl (Or.inr rfl) (pe_callB (call_max2 rfl) (by rfl) T.n_max Boot.«max» (ζ0 (pe_ix (ix_listK K) (pv 1) (pe_ix (ix_tupK K) (pv 4) pe_int (fun _ _=>rfl)) (fun _ _=>rfl)) (ζ0 (pe_ix (ix_listK K) (pv 1) (pe_ix (ix_tupK K) (pv 4) pe_int (fun _ _=>rfl)) (fun _ _=>rfl)) ζ4))))
   (ζ5 (ps_if (pt_cmpR op_lt (pv 5) (pv 6) (nomark _))
   (ζ5 (ps_lc (i:=1) rfl scζ6.nd rfl rfl (sc0:=ζ6 sζ6) (N0:=["web","marks","ties","tie","ends","low","high"]) (N':=["mark","high","low"]) (o:=1) (fr:=[6,5]) ⟨rfl,by decide +kernel,by decide +kernel,by decide +kernel,rfl,by decide +kernel⟩ (pi_listK K (pv 1)) (own_name (by decide)) (fun _ _ _ _=>(pg_name (i:=0) (show List.Nodup (["mark","high","low"]:List Str) by decide +kernel) rfl (Or.inl rfl))) (fun _ _ _ _=>pts_nil) (fun _ _ _ _=>(pe_ifExp (pt_cmpR op_eq (pv 0) (pv 1) (nomark _)) (pv 2) (pv 0)))))
   pss_nil))))))
   (ζ5 (ps_ret (pv 1)))),?_⟩
  refine⟨_,rfl,a,rfl,for_seq (k:=kd) (K:=K) (a:=a) (xs:=IL ns) (fun i σ H2=>∃(m:Addr) (v3 v4 v5 v6:Option V),σ=[some (.ref w),some (.ref m),some (.ref a),v3,v4,v5,v6]/\Same H H2/\(m=m0\/H m=none)/\H2 m=some (.lst (IL (pmf M0 (endsOf ps (ns.take i))))))
   ⟨m0,none,none,none,none,rfl,Same.refl _,.inl rfl,hm⟩ (fun i σ H2 _ ⟨_,_,_,_,_,_,s2,_⟩=>hS.same s2) ?_ ?_⟩
  ·rintro i x σ H2 hi ⟨m,v3,v4,v5,v6,rfl,s2,hm0,hm2⟩
   obtain⟨z,rfl,hz⟩:=il_get hi
   obtain⟨z0,z1⟩:=hI z (List.mem_of_getElem? hz)
   obtain⟨p,hp⟩:∃ p,ps[z.toNat]?=some p:=⟨_,List.getElem?_eq_getElem (by omega)⟩
   obtain⟨v,hv,tt,rfl,htt⟩:=h3.2 z.toNat p hp
   obtain⟨e1,e2,e3,e4⟩:=g4 p (List.mem_of_getElem? hp)
   have ed:ps.getD z.toNat (0,0)=p:=getD_of hp
   refine⟨_,rfl,w,_,dx,_,_,rfl,s2 _ _ h1,T.cl_Web,T.n_Web_ties,wf_ties _ _,_,rfl,tl,xs,z,.ref tt,rfl,rfl,SqL.of (s2 _ _ h2),atI_of (n:=z.toNat) (by omega) hv,?_⟩
   have ht2:=s2 _ _ htt
   have hl:(pmf M0 (endsOf ps (ns.take i))).length=n.toNat:=(pmf_length _ _).trans hlM
   generalize hM:pmf M0 (endsOf ps (ns.take i))=M at *
   have ha:M[p.1.toNat]?=some (mk M p.1.toNat):=mk_some (by omega)
   have hb:M[p.2.toNat]?=some (mk M p.2.toNat):=mk_some (by omega)
   have iA:atI (IL M) p.1=some (.int (mk M p.1.toNat)):=atI_of (n:=p.1.toNat) (by omega) (by rw[List.getElem?_map,ha];rfl)
   have iB:atI (IL M) p.2=some (.int (mk M p.2.toNat)):=atI_of (n:=p.2.toNat) (by omega) (by rw[List.getElem?_map,hb];rfl)
   have t0:atI ([.int p.1,.int p.2]:List V) 0=some (.int p.1):=rfl
   have t1:atI ([.int p.1,.int p.2]:List V) 1=some (.int p.2):=rfl
   refine⟨_,rfl,_,rfl,tt,_,0,_,rfl,rfl,SqT.of ht2,t0,m,_,p.1,_,rfl,rfl,SqL.of hm2,iA,_,rfl,_,rfl,tt,_,1,_,rfl,rfl,SqT.of ht2,t1,m,_,p.2,_,rfl,rfl,SqL.of hm2,iB,_,_,rfl,?_⟩
   refine⟨_,rfl,_,rfl,tt,_,0,_,rfl,rfl,SqT.of ht2,t0,m,_,p.1,_,rfl,rfl,SqL.of hm2,iA,_,rfl,_,rfl,tt,_,1,_,rfl,rfl,SqT.of ht2,t1,m,_,p.2,_,rfl,rfl,SqL.of hm2,iB,_,_,rfl,?_⟩
   have eL:(if mk M p.2.toNat<mk M p.1.toNat then mk M p.2.toNat else mk M p.1.toNat)=min (mk M p.1.toNat) (mk M p.2.toNat):=by
    rw[Int.min_def];split <;> split <;> omega
   have eH:(if mk M p.2.toNat > mk M p.1.toNat then mk M p.2.toNat else mk M p.1.toNat)=max (mk M p.1.toNat) (mk M p.2.toNat):=by
    rw[Int.max_def];split <;> split <;> omega
   refine⟨_,rfl,_,rfl,_,_,rfl,rfl,_,rfl,?_⟩
   rw[eL,eH]
   have step:pmf M0 (endsOf ps (ns.take (i+1)))=pm M p.1.toNat p.2.toNat:=by rw[endsOf_snoc hz,pmf_snoc,hM,ed]
   refine itd2 (fun hc=>?_) (fun hc=>?_)
   ·refine⟨_,rfl,m,rfl,⟨_,SqL.of hm2⟩,lc_list (K:=K) (a:=m) (xs:=IL M) (fun j ys H3=>H3=H2/\j<=M.length/\ys=IL ((M.take j).map fun k=>if k=max (mk M p.1.toNat) (mk M p.2.toNat) then min (mk M p.1.toNat) (mk M p.2.toNat) else k)) ⟨rfl,Nat.zero_le _,rfl⟩ (small60' (by rw[ζ3];omega))
     (fun j ys H3 hj ⟨e,hjl,ey⟩=>⟨e ▸ SqL.of hm2,by rw[ey,ζ3,List.length_map,List.length_take];omega⟩) ?_ ?_⟩
    ·rintro j y ys H3 hj ⟨rfl,hjl,rfl⟩ S hSS
     obtain⟨k,rfl,hk⟩:=il_get hj
     refine nmY ?_
     refine⟨_,rfl,_,rfl,rfl,_,rfl,?_⟩
     have hjl':j<M.length:=(List.getElem?_eq_some_iff.mp hk).1
     have app:∀ r:Int,r=(if k=max (mk M p.1.toNat) (mk M p.2.toNat) then min (mk M p.1.toNat) (mk M p.2.toNat) else k) ->
       IL ((M.take j).map fun k=>if k=max (mk M p.1.toNat) (mk M p.2.toNat) then min (mk M p.1.toNat) (mk M p.2.toNat) else k)++[.int r]=IL ((M.take (j+1)).map fun k=>if k=max (mk M p.1.toNat) (mk M p.2.toNat) then min (mk M p.1.toNat) (mk M p.2.toNat) else k):=by
      intro r er
      rw[List.take_succ,hk,er]
      simp
     refine itd2 (fun he=>?_) (fun he=>?_)
     ·refine⟨_,rfl,hSS _ _ ⟨rfl,hjl',app _ ?_⟩⟩
      rw[if_pos (V.int.inj he)]
     ·refine⟨_,rfl,hSS _ _ ⟨rfl,hjl',app _ ?_⟩⟩
      rw[if_neg fun z=>he (congrArg V.int z)]
    ·rintro ys H3 ⟨rfl,_,rfl⟩ p' hp'
     refine⟨p',_,_,_,_,rfl,same_new s2 hp',.inr (s2.free hp'),?_⟩
     rw[ζ1,step,ζ3,List.take_length]
     unfold pm
     rw[if_pos hc]
   ·refine⟨m,_,_,_,_,rfl,s2,hm0,?_⟩
    rw[hm2,step]
    unfold pm
    rw[if_neg hc]
  ·rintro σ H2 ⟨m,v3,v4,v5,v6,rfl,s2,hm0,hm2⟩
   rw[ζ3,List.take_length]at hm2
   exact⟨_,rfl,q m H2 s2 hm0 hm2⟩
end
set_option maxHeartbeats 4000000
def spζ7(K:PySem.W.Frag)(C:Addr):Sp:=fun vs H Q _=>∃(w a:Addr) (n:Int) (ps:List (Int × Int)) (ns:List Int),vs=[.ref w,.ref a]/\WebAt C H w n ps/\GoodW n ps/\SqT K H a (IL ns)/\(∀ z∈ns,0<=z/\z<(ps.length:Int)) /\
 ∀(m:Addr) (H':Hp),Same H H'->H m=none->H' m=some (.lst (IL (pms n.toNat (endsOf ps ns))))->Q (.ref m) H'
section
variable{P:Program}{w:World}{K:PySem.W.Frag}{mg:Str->Option Value}{base:Heap}{t:Adr}
theorem scζ7:FnScope ["web","ties"] ["web","ties"] (ζ6 sζ7):=⟨rfl,rfl,rfl,by decide +kernel,rfl,by decide +kernel,by decide +kernel⟩
theorem okζ7 (T:Txt K mg t):FnOk P w K mg base CX0 2 t.aζ7 t.dζ7 ["web","ties"] (spζ7 K t.A_Web):=by
 refine T.fζ7.ok scζ7 (fun vs H Q E h=>?_) (fun cdv A outer s H vs Q E hr h=>?_)
 ·obtain⟨w,a,n,ps,ns,rfl,_⟩:=h
  rfl
 ·obtain⟨w,a,n,ps,ns,rfl,hW,hG,hS,hI,q⟩:=h
  refine⟨_,(ζ5 (ps_ret (pe_call (okζ6 T) (hr.mono (by decide)) rfl T.mζ6 T.fζ6.kp T.bζ6 .nil pass0 (ζ0 (pv 0) (ζ0 (pe_callTy (call_list_rng rfl) (by rfl) T.n_list Boot.«list» (ζ0 (pe_callTy call_rng1 (by rfl) T.n_range Boot.«range» (ζ0 (pe_fldK K (pv 0) rfl) ζ4)) ζ4)) (ζ0 (pv 1) ζ4)))))),?_⟩
  obtain⟨dx,tl,xs,h1,h2,h3⟩:=id hW
  obtain⟨g1,g2,g3,g4⟩:=id hG
  refine⟨_,rfl,_,rfl,w,_,dx,_,_,rfl,h1,T.cl_Web,T.n_Web_places,wf_places _ _,n,rfl,fun r hr0=>⟨r,0,n,rfl,ζ1,⟨by decide,by decide,by omega,by omega⟩,by omega,fun m hm=>?_⟩⟩
  have sm:Same H (upd (upd H r (.rng 0 n)) m (.lst ((rngI 0 n).map V.int))):=same_new (same_at hr0) hm
  refine⟨_,rfl,w,m,a,n,ps,(List.range n.toNat).map (fun(i:Nat)=>(i:Int)),true,ns,rfl,hW.same sm,hG,?_,by simp,sqT_same sm hS,hI,fun m' H' s' hf hm'=>?_⟩
  ·rw[ζ1,rngI_zero]
  ·refine q m' H' (sm.trans s') ?_ hm'
   rcases hf with rfl | hf
   ·exact(same_at hr0).free hm
   ·exact sm.free hf
end
set_option maxHeartbeats 4000000
def spζ8(K:PySem.W.Frag)(C:Addr):Sp:=fun vs H Q _=>∃(w a:Addr) (n:Int) (ps:List (Int × Int)) (kd:Bool) (ns:List Int),vs=[.ref w,.ref a]/\WebAt C H w n ps/\GoodW n ps/\SqK kd K H a (IL ns)/\IsSet ps.length ns /\
 ∀(r:Addr) (as:List Addr) (H':Hp),Same H H'->H r=none->H' r=some (.lst (as.map V.ref))->r∉as->GrpAt H H' (grp (pms n.toNat (endsOf ps ns))) as->Q (.ref r) H'
section
variable{P:Program}{w:World}{K:PySem.W.Frag}{mg:Str->Option Value}{base:Heap}{t:Adr}
theorem scζ8:FnScope ["web","ties","pieces","place","mark"] ["web","ties"] (ζ6 sζ8):=⟨rfl,rfl,rfl,by decide +kernel,rfl,by decide +kernel,by decide +kernel⟩
theorem okζ8 (T:Txt K mg t):FnOk P w K mg base CX0 4 t.aζ8 t.dζ8 ["web","ties"] (spζ8 K t.A_Web):=by
 refine T.fζ8.ok scζ8 (fun vs H Q E h=>?_) (fun cdv A outer s H vs Q E hr h=>?_)
 ·obtain⟨w,a,n,ps,kd,ns,rfl,_⟩:=h
  rfl
 ·obtain⟨w,a,n,ps,kd,ns,rfl,hW,hG,hS,hI,q⟩:=h
  refine⟨_,(ζ2 (ps_set (i:=2) scζ8.nd rfl (Or.inl rfl) pe_dnewK)
   (ζ2 (ps_for PassesOwn.never rfl (pi_enumK K rfl T.n_enumerate (ζ0 (pe_call (okζ7 T) (hr.mono (by decide)) rfl T.mζ7 T.fζ7.kp T.bζ7 .nil pass0 (ζ0 (pv 0) (ζ0 (pe_call (okζ5 T) (hr.mono (by decide)) rfl T.mζ5 T.fζ5.kp T.bζ5 .nil pass0 (ζ0 (pv 0) (ζ0 (pv 1) ζ4))) ζ4))) ζ4)) (pg_tupK (n:=2) K rfl (pgs_cons (pg_name (i:=3) scζ8.nd rfl (Or.inl rfl)) (pgs_cons (pg_name (i:=4) scζ8.nd rfl (Or.inl rfl)) pgs_nil)))
   (ζ5 (ps_expr (pe_bmK K PySem.F.plainAttrs_list PySem.F.slot_list_append PySem.F.type_list_append mt_append (pe_bmK K PySem.F.plainAttrs_dict PySem.F.slot_dict_setdefault PySem.F.type_dict_setdefault mt_setdefault (pv 2) (ζ0 (pv 4) (ζ0 (pe_lst ζ4) ζ4))) (ζ0 (pv 3) ζ4)))))
   (ζ5 (ps_ret (pe_callTy (call_list_view rfl) (by rfl) T.n_list Boot.«list» (ζ0 (pe_bm0K K PySem.F.plainAttrs_dict PySem.F.slot_dict_values PySem.F.type_dict_values mt_values (pv 2)) ζ4)))))),?_⟩
  intro d hd
  have s0:Same H (upd H d (.dK [])):=same_at hd
  refine⟨_,rfl,_,rfl,_,rfl,w,a,n,ps,kd,ns,rfl,hW.same s0,hS.same s0,hI,fun r H1 s1 hr1=>?_⟩
  refine⟨w,r,n,ps,ns,rfl,(hW.same s0).same s1,hG,hr1,hI.all,fun m H2 s2 hm1 hm2=>?_⟩
  have s02:Same H H2:=(s0.trans s1).trans s2
  have hd2:H2 d=some (.dK []):=s2 _ _ (s1 _ _ ζ1)
  have hl:(pms n.toNat (endsOf ps ns)).length=n.toNat:=pms_length _ _
  generalize hM:pms n.toNat (endsOf ps ns)=M at *
  have hm0:H m=none:=(s0.trans s1).free hm1
  have n14:M.length<=14:=by have:=hG.2.1;omega
  refine⟨m,rfl,⟨_,SqL.of hm2⟩,?_⟩
  refine for_enum (K:=K) (a:=m) (xs:=IL M) (fun i σ H3=>∃(as:List Addr) (v3 v4:Option V),σ=[some (.ref w),some (.ref a),some (.ref d),v3,v4]/\i<=M.length/\Same H H3/\H3 m=some (.lst (IL M))/\H3 d=some (.dK (gkv (grpA M i) as))/\d∉as/\m∉as/\GrpAt H H3 (grpA M i) as/\as.length<=i)
   ⟨[],none,none,rfl,Nat.zero_le _,s02,hm2,hd2,by simp,by simp,⟨rfl,List.nodup_nil,fun i kv a e=>by simp[grpA]at e,fun a ha=>by simp at ha⟩,Nat.le_refl _⟩ (fun i σ H3 _ ⟨_,_,_,_,_,_,h,_⟩=>SqL.of h) ?_ ?_
  ·rintro i x σ H3 pt hpt hi ⟨as,v3,v4,rfl,hil,s3,hm3,hd3,nda,nma,gA,hal⟩
   obtain⟨k,rfl,hk⟩:=il_get hi
   have hk':mk M i=k:=getD_of hk
   have hil':i<M.length:=(List.getElem?_eq_some_iff.mp hk).1
   have s4:Same H3 (upd H3 pt (.tup [.int i,.int k])):=same_at hpt
   refine⟨pt,_,rfl,SqT.of ζ1,rfl,_,_,rfl,_,_,rfl,rfl,?_⟩
   refine⟨_,rfl,.inr (.inr (.inl ⟨rfl,.inl ⟨_,s4 _ _ hd3⟩⟩)),_,rfl,(by show 0<=sizeLine;exact Nat.zero_le _),fun l hl0=>?_⟩
   have s5:Same H3 (upd (upd H3 pt (.tup [.int i,.int k])) l (.lst [])):=same_new s4 hl0
   have hd5:=s5 _ _ hd3
   have hl3:H3 l=none:=s4.free hl0
   have ndl:d≠l:=ne_of_none hd3 hl3
   have gl:=gA.len
   refine⟨d,gkv (grpA M i) as,Sum.inl k,.ref l,rfl,rfl,hd5,?_,fun v hv=>?_,fun hv=>?_⟩
   ·rw[gkv_length gl]
    exact small60' (by omega)
   ·-- the mark has its list
    rcases gkv_val (g:=grpA M i) (as:=as) (k:=k) gl with ⟨h1,_⟩ | ⟨j,kv,b,e1,e2,e3,e4⟩
    ·rw[h1]at hv;cases hv
    ·rw[e4]at hv
     cases hv
     have hb5:=s5 _ _ (gA.at_ j kv b e1 e2)
     have hkm:k∈(grpA M i).map (·.1):=List.mem_map.mpr ⟨kv,List.mem_of_getElem? e1,e3⟩
     have hlen:kv.2.length<=i:=grpA_len (List.mem_of_getElem? e1)
     refine⟨.inl ⟨rfl,_,SqL.of hb5⟩,_,rfl,b,_,.int i,rfl,rfl,hb5,?_,?_⟩
     ·rw[ζ3]
      exact small60' (by omega)
     ·have hbas:b∈as:=List.mem_of_getElem? e2
      have hdb:d≠b:=fun z=>nda (z ▸ hbas)
      have hmb:m≠b:=fun z=>nma (z ▸ hbas)
      have hb0:=gA.new b hbas
      have ekeys:(grpA M (i+1)).map (·.1)=(grpA M i).map (·.1):=by
       show(gstep (grpA M i) (i:Int) (mk M i)).map (·.1)=_
       rw[gstep_keys,hk',if_pos hkm]
      refine⟨as,_,_,rfl,hil',same_upd hb0 (s3.trans s5),by rw[upd_ne hmb];exact s5 _ _ hm3,by rw[upd_ne hdb,hd5,gkv_keys ekeys],nda,nma,⟨?_,gA.nd,?_,gA.new⟩,by omega⟩
      ·have:=congrArg List.length ekeys
       rw[List.length_map,List.length_map]at this
       omega
      ·intro i2 kv2 a2 f1 f2
       have f1:(gstep (grpA M i) (i:Int) (mk M i))[i2]?=some kv2:=f1
       unfold gstep at f1
       rw[hk',if_pos hkm,List.getElem?_map]at f1
       cases f3:(grpA M i)[i2]? with
       | none=>rw[f3]at f1;cases f1
       | some kv3 =>
        rw[f3]at f1
        have f1:(if kv3.1=k then (kv3.1,kv3.2++[(i:Int)]) else kv3)=kv2:=Option.some.inj f1
        by_cases hj:i2=j
        ·subst hj
         rw[e1]at f3
         cases f3
         rw[e2]at f2
         cases f2
         rw[if_pos e3]at f1
         subst f1
         rw[ζ1]
         simp
        ·have hab:a2≠b:=fun z=>by
          subst z
          exact hj (nodup_get gA.nd f2 e2)
         have hkk:¬ kv3.1=k:=fun z=>hj (nodup_get (grpA_nodup M i) (by rw[List.getElem?_map,f3];exact congrArg some z) (by rw[List.getElem?_map,e1];exact congrArg some e3))
         rw[if_neg hkk]at f1
         subst f1
         rw[upd_ne hab]
         exact s5 _ _ (gA.at_ i2 kv3 a2 f3 f2)
   ·-- a new list
    rcases gkv_val (g:=grpA M i) (as:=as) (k:=k) gl with ⟨h1,hkn⟩ | ⟨j,kv,b,e1,e2,e3,e4⟩
    ·have hl6:(upd (upd (upd H3 pt (.tup [.int i,.int k])) l (.lst [])) d (.dK (gkv (grpA M i) as++[(Sum.inl k,.ref l)]))) l=some (.lst []):=by rw[upd_ne (Ne.symm ndl),ζ1]
     refine⟨.inl ⟨rfl,_,SqL.of hl6⟩,_,rfl,l,[],.int i,rfl,rfl,hl6,(by show 0<sizeLine;decide),?_⟩
     have hl0':H l=none:=s3.free hl3
     have hlas:l∉as:=fun z=>by
      obtain⟨_,e⟩:=gA.mem z
      rw[hl3]at e
      cases e
     have hml:m≠l:=ne_of_none hm3 hl3
     have hmd:m≠d:=ne_of hm3 hd3 (fun z=>nomatch z)
     have egr:grpA M (i+1)=grpA M i++[(k,[(i:Int)])]:=by
      show gstep (grpA M i) (i:Int) (mk M i)=_
      unfold gstep
      rw[hk',if_neg hkn]
     have hdH:H d=none:=hd
     refine⟨as++[l],_,_,rfl,hil',same_upd hl0' (same_upd hdH (s3.trans s5)),by rw[upd_ne hml,upd_ne hmd];exact s5 _ _ hm3,?_,?_,?_,⟨?_,?_,?_,?_⟩,?_⟩
     ·rw[upd_ne ndl,ζ1,egr,gkv_snoc gl]
     ·rw[List.mem_append,List.mem_singleton]
      rintro(z | z)
      ·exact nda z
      ·exact ndl z
     ·rw[List.mem_append,List.mem_singleton]
      rintro(z | z)
      ·exact nma z
      ·exact hml z
     ·rw[egr,List.length_append,List.length_append,gl]
      rfl
     ·exact nd_snoc gA.nd hlas
     ·intro i2 kv2 a2 f1 f2
      rw[egr]at f1
      by_cases hi2:i2<(grpA M i).length
      ·rw[List.getElem?_append_left hi2]at f1
       rw[List.getElem?_append_left (by omega)]at f2
       have e:=gA.at_ i2 kv2 a2 f1 f2
       have n1:a2≠l:=ne_of_none e hl3
       have n2:a2≠d:=ne_of e hd3 (fun z=>nomatch z)
       rw[upd_ne n1,upd_ne n2]
       exact s5 _ _ e
      ·have h2:i2=(grpA M i).length:=by
        have:=(List.getElem?_eq_some_iff.mp f1).1
        rw[List.length_append,List.length_singleton]at this
        omega
       subst h2
       rw[List.getElem?_append_right (Nat.le_refl _),Nat.sub_self]at f1
       rw[List.getElem?_append_right (by omega),gl,Nat.sub_self]at f2
       cases f1
       cases f2
       rw[ζ1]
       rfl
     ·intro a2 ha2
      rcases List.mem_append.mp ha2 with z | z
      ·exact gA.new a2 z
      ·rw[List.mem_singleton.mp z];exact hl0'
     ·rw[List.length_append,List.length_singleton]
      omega
    ·rw[e4]at hv;cases hv
  ·rintro σ H3 ⟨as,v3,v4,rfl,hil,s3,hm3,hd3,nda,nma,gA,hal⟩
   rw[ζ3]at hd3 gA
   refine⟨_,rfl,.inr (.inr (.inl ⟨rfl,.inl ⟨_,hd3⟩⟩)),d,_,rfl,rfl,hd3,fun p hp=>?_⟩
   have s6:Same H3 (upd H3 p (viewO p d)):=same_at hp
   refine⟨p,d,_,rfl,ζ1,s6 _ _ hd3,fun r hr0=>?_⟩
   have s7:Same H3 (upd (upd H3 p (viewO p d)) r (.lst ((gkv (grpA M M.length) as).map (·.2)))):=same_new s6 hr0
   refine q r as _ (s3.trans s7) ((s3.trans s6).free hr0) (by rw[ζ1,gkv_snd gA.len]) (fun z=>?_) (gA.same s7)
   obtain⟨_,e⟩:=gA.mem z
   rw[s6.free hr0]at e
   cases e
end
set_option maxHeartbeats 4000000
def spζ9(K:PySem.W.Frag)(C:Addr):Sp:=fun vs H Q _=>∃(w a:Addr) (n:Int) (ps:List (Int × Int)) (kd:Bool) (ns:List Int),vs=[.ref w,.ref a]/\WebAt C H w n ps/\GoodW n ps/\SqK kd K H a (IL ns)/\IsSet ps.length ns /\
 ∀(b:Bool) (H':Hp),Same H H'->(b=true↔(grp (pms n.toNat (endsOf ps ns))).length=1)->Q (.bl b) H'
section
variable{P:Program}{w:World}{K:PySem.W.Frag}{mg:Str->Option Value}{base:Heap}{t:Adr}
theorem scζ9:FnScope ["web","ties"] ["web","ties"] (ζ6 sζ9):=⟨rfl,rfl,rfl,by decide +kernel,rfl,by decide +kernel,by decide +kernel⟩
theorem okζ9 (T:Txt K mg t):FnOk P w K mg base CX0 5 t.aζ9 t.dζ9 ["web","ties"] (spζ9 K t.A_Web):=by
 refine T.fζ9.ok scζ9 (fun vs H Q E h=>?_) (fun cdv A outer s H vs Q E hr h=>?_)
 ·obtain⟨w,a,n,ps,kd,ns,rfl,_⟩:=h
  rfl
 ·obtain⟨w,a,n,ps,kd,ns,rfl,hW,hG,hS,hI,q⟩:=h
  refine⟨_,(ζ5 (ps_ret (pe_cmpR op_eq (pe_callB (call_lenK K) (by rfl) T.n_len Boot.«len» (ζ0 (pe_call (okζ8 T) (hr.mono (by decide)) rfl T.mζ8 T.fζ8.kp T.bζ8 .nil pass0 (ζ0 (pv 0) (ζ0 (pv 1) ζ4))) ζ4)) pe_int (nomark _)))),?_⟩
  refine⟨_,rfl,_,rfl,w,a,n,ps,kd,ns,rfl,hW,hG,hS,hI,fun r as H' s1 hr0 hr1 hnr gA=>?_⟩
  refine⟨r,_,rfl,.inl (SqL.of hr1),rfl,?_⟩
  rw[List.length_map,gA.len,dec_int]
  refine q _ H' s1 ?_
  rw[decide_eq_true_iff]
  omega
end
set_option maxHeartbeats 4000000
def spζa(K:PySem.W.Frag)(C:Addr):Sp:=fun vs H Q _=>∃(w:Addr) (n:Int) (ps:List (Int × Int)),vs=[.ref w]/\WebAt C H w n ps/\GoodW n ps /\
 ∀(r:Addr) (ys:List V) (H':Hp),Same H H'->JagAt H r H' ys (dtA n.toNat ps ps.length)->Q (.ref r) H'
section
variable{P:Program}{w:World}{K:PySem.W.Frag}{mg:Str->Option Value}{base:Heap}{t:Adr}
theorem scζa:FnScope ["web","darts","tie","ends"] ["web"] (ζ6 sζa):=⟨rfl,rfl,rfl,by decide +kernel,rfl,by decide +kernel,by decide +kernel⟩
theorem okζa (T:Txt K mg t):FnOk P w K mg base CX0 1 t.aζa t.dζa ["web"] (spζa K t.A_Web):=by
 refine T.fζa.ok scζa (fun vs H Q E h=>?_) (fun cdv A outer s H vs Q E hr h=>?_)
 ·obtain⟨w,n,ps,rfl,_⟩:=h
  rfl
 ·obtain⟨w,n,ps,rfl,hW,hG,q⟩:=h
  refine⟨_,(ζ2 (ps_lc (i:=1) rfl scζa.nd rfl rfl (sc0:=ζ6 sζa) (N0:=["web","darts","tie","ends"]) (N':=["place"]) (o:=1) (fr:=[]) ⟨rfl,by decide +kernel,by decide +kernel,by decide +kernel,rfl,by decide +kernel⟩ (pi_range1 rfl T.n_range (ζ0 (pe_fldK K (pv 0) rfl) ζ4)) (own_name (by decide)) (fun _ _ _ _=>(pg_name (i:=0) (show List.Nodup (["place"]:List Str) by decide +kernel) rfl (Or.inl rfl))) (fun _ _ _ _=>pts_nil) (fun _ _ _ _=>(pe_lst ζ4)))
   (ζ2 (ps_for PassesOwn.never rfl (pi_enumK K rfl T.n_enumerate (ζ0 (pe_fldK K (pv 0) rfl) ζ4)) (pg_tupK (n:=2) K rfl (pgs_cons (pg_name (i:=2) scζa.nd rfl (Or.inl rfl)) (pgs_cons (pg_name (i:=3) scζa.nd rfl (Or.inl rfl)) pgs_nil)))
   (ζ2 (ps_expr (pe_bmK K PySem.F.plainAttrs_list PySem.F.slot_list_append PySem.F.type_list_append mt_append (pe_ix (ix_listK K) (pv 1) (pe_ix (ix_tupK K) (pv 3) pe_int (fun _ _=>rfl)) (fun _ _=>rfl)) (ζ0 (pe_op op_mul pe_int (pv 2)) ζ4)))
   (ζ5 (ps_expr (pe_bmK K PySem.F.plainAttrs_list PySem.F.slot_list_append PySem.F.type_list_append mt_append (pe_ix (ix_listK K) (pv 1) (pe_ix (ix_tupK K) (pv 3) pe_int (fun _ _=>rfl)) (fun _ _=>rfl)) (ζ0 (pe_op op_add (pe_op op_mul pe_int (pv 2)) pe_int) ζ4))))))
   (ζ5 (ps_ret (pv 1))))),?_⟩
  obtain⟨dx,tl,xs,h1,h2,h3⟩:=id hW
  have hl:=h3.1
  obtain⟨g1,g2,g3,g4⟩:=id hG
  have eD:∀ i,dtA i ps 0=List.replicate i []:=fun i=>by
   unfold dtA
   rw[show(fun(p:Nat)=>dtU ps (p:Int) 0)=fun _=>[] from rfl,List.map_const',List.length_range]
  refine⟨_,rfl,w,_,dx,_,_,rfl,h1,T.cl_Web,T.n_Web_places,wf_places _ _,n,rfl,by omega,by omega,lc_range (lo:=0) (n:=n.toNat) (fun i zs H2=>Same H H2/\Bears (ListV H2) zs (List.replicate i [])/\zs.Nodup/\∀ A,V.ref A∈zs->H A=none/\∃ o,H2 A=some o) ⟨Same.refl _,⟨rfl,fun i l e=>by simp at e⟩,.nil,fun A h=>(by cases h)⟩ (small60' (by omega)) (fun i zs H2 _ ⟨_,e,_⟩=>by rw[e.1,List.length_replicate];exact Nat.le_refl _) ?_ ?_⟩
  ·rintro i zs H2 hi ⟨s2,hZ,hnd,hnew⟩ S hSS
   refine nm ?_
   refine⟨Nat.zero_le _,fun p1 hp1=>?_⟩
   have u1:=same_at (o:=.lst []) hp1
   refine hSS _ _ ⟨s2.trans u1,?_,?_,fun A hA=>?_⟩
   ·rw[List.replicate_succ']
    exact(hZ.imp fun _ _ ⟨r',e,h⟩=>⟨r',e,u1 _ _ h⟩).snoc ⟨p1,rfl,ζ1⟩
   ·refine List.nodup_append.mpr ⟨hnd,by simp,fun x hx y hy e=>?_⟩
    rw[List.mem_singleton.mp hy]at e
    obtain⟨_,o,ho⟩:=hnew p1 (e ▸ hx)
    rw[hp1]at ho
    cases ho
   ·rcases List.mem_append.mp hA with e | e
    ·obtain⟨a1,o,a2⟩:=hnew A e
     exact⟨a1,o,u1 _ _ a2⟩
    ·have e':A=p1:=by simpa using e
     rw[e']
     exact⟨s2.free hp1,_,ζ1⟩
  rintro zs H2 ⟨s2,hZ,hnd,hnew⟩ tA htA
  have s3:=s2.trans (same_at (o:=.lst zs) htA)
  have hT:JagAt H tA (upd H2 tA (.lst zs)) zs (dtA n.toNat ps 0):=⟨ζ1,by rw[eD];exact hZ.imp fun _ _ ⟨r',e,h⟩=>⟨r',e,same_at htA _ _ h,ne_of_none h htA⟩,hnd,fun A hA=>(hnew A hA).1⟩
  generalize upd H2 tA (.lst zs)=H3 at *
  refine⟨_,rfl,w,_,dx,_,_,rfl,s3 _ _ h1,T.cl_Web,T.n_Web_ties,wf_ties _ _,tl,rfl,⟨_,SqL.of (s3 _ _ h2)⟩,for_enum (K:=K) (a:=tl) (xs:=xs) (fun i σ H4=>∃ v2 v3:Option V,σ=[some (.ref w),some (.ref tA),v2,v3]/\Same H H4/\i<=ps.length/\JagAt H tA H4 zs (dtA n.toNat ps i)) ⟨none,none,rfl,s3,Nat.zero_le _,hT⟩ (fun i σ H4 _ ⟨_,_,_,e,_⟩=>SqL.of (e _ _ h2)) ?_ ?_⟩
  ·rintro i v σ H4 pt hpt hi ⟨v2,v3,rfl,s4,hip,hJ⟩
   obtain⟨p,hp,tt,rfl,htt⟩:=h3.at hi
   have hip':=(List.getElem?_eq_some_iff.mp hp).1
   obtain⟨e1,e2,e3,e4⟩:=g4 p (List.mem_of_getElem? hp)
   obtain⟨a,ha⟩:∃ a:Nat,p.1=(a:Int):=⟨p.1.toNat,by omega⟩
   obtain⟨b,hb⟩:∃ b:Nat,p.2=(b:Int):=⟨p.2.toNat,by omega⟩
   have u1:=same_at (o:=.tup [.int i,.ref tt]) hpt
   refine⟨pt,_,rfl,SqT.of ζ1,rfl,_,_,rfl,_,_,rfl,rfl,?_⟩
   have hJ5:=hJ.same u1
   have s5:=s4.trans u1
   generalize upd H4 pt (.tup [.int i,.ref tt])=H5 at *
   have dl:(dtA n.toNat ps i).length=n.toNat:=by unfold dtA;rw[List.length_map,List.length_range]
   have len6:∀(c:Nat) ,(dtU ps (c:Int) i).length<1000:=fun c=>by have:=dtU_len (ps:=ps) (p:=(c:Int)) i;omega
   obtain⟨A,l,y1,z1,hA,hA0,hAr⟩:=hJ5.at (i:=a) (by omega)
   have el:l=dtU ps (a:Int) i:=by
    have:(dtA n.toNat ps i)[a]?=some (dtU ps (a:Int) i):=range_at (by omega)
    rw[this]at z1
    exact(Option.some.inj z1).symm
   have hll:=len6 a
   rw[<- el]at hll
   refine⟨_,rfl,_,rfl,tt,_,0,.int p.1,rfl,rfl,SqT.of (s5 _ _ htt),rfl,tA,_,p.1,.ref A,rfl,rfl,SqL.of hJ5.tab,atI_of (n:=a) (by omega) y1,.inl ⟨rfl,_,SqL.of hA⟩,_,rfl,_,_,rfl,rfl,.inl ⟨by decide,by decide⟩,A,_,_,rfl,rfl,hA,small60' (by rw[ζ3];omega),?_⟩
   have c1:IL l++[.int (2 * (i:Int))]=IL (l++[2 * (i:Int)]):=(il_snoc ..).symm
   rw[c1]
   have hJ6:=hJ5.put (l':=l++[2 * (i:Int)]) y1 z1 hAr
   have s6:Same H (upd H5 A (.lst (IL (l++[2 * (i:Int)])))):=same_upd hA0 s5
   have htt6:=s6 _ _ htt
   generalize upd H5 A (.lst (IL (l++[2 * (i:Int)])))=H6 at *
   obtain⟨B,l2,y2,z2,hB,hB0,hBr⟩:=hJ6.at (i:=b) (by rw[List.length_set];omega)
   have el2:l2=if b=a then dtU ps (a:Int) i++[2 * (i:Int)] else dtU ps (b:Int) i:=by
    rw[List.getElem?_set]at z2
    by_cases c:a=b
    ·rw[if_pos c,if_pos (by omega)]at z2
     rw[if_pos c.symm,<- el]
     exact(Option.some.inj z2).symm
    ·rw[if_neg c]at z2
     have:(dtA n.toNat ps i)[b]?=some (dtU ps (b:Int) i):=range_at (by omega)
     rw[this]at z2
     rw[if_neg (Ne.symm c)]
     exact(Option.some.inj z2).symm
   have hl2:l2.length<10000:=by
    have:=len6 a
    have:=len6 b
    rw[el2]
    split
    ·rw[List.length_append,List.length_singleton];omega
    ·omega
   refine⟨_,rfl,_,rfl,tt,_,1,.int p.2,rfl,rfl,SqT.of htt6,rfl,tA,_,p.2,.ref B,rfl,rfl,SqL.of hJ6.tab,atI_of (n:=b) (by omega) y2,.inl ⟨rfl,_,SqL.of hB⟩,_,rfl,_,_,rfl,rfl,.inl ⟨by decide,by decide⟩,_,_,rfl,rfl,B,_,_,rfl,rfl,hB,small60' (by rw[ζ3];omega),?_⟩
   have c2:IL l2++[.int (2 * (i:Int)+1)]=IL (l2++[2 * (i:Int)+1]):=(il_snoc ..).symm
   rw[c2]
   have hJ7:=hJ6.put (l':=l2++[2 * (i:Int)+1]) y2 z2 hBr
   have hgp:ps.getD i (0,0)=((a:Int),(b:Int)):=by rw[getD_of hp,<- ha,<- hb]
   rw[el2,el,dtA_succ hgp]at hJ7
   rw[el2]
   exact⟨_,_,rfl,same_upd hB0 s6,hip',hJ7⟩
  rintro σ H4 ⟨v2,v3,rfl,s4,_,hJ⟩
  rw[hl]at hJ
  exact⟨_,rfl,q tA zs H4 s4 hJ⟩
end
set_option maxHeartbeats 4000000
def spζb(K:PySem.W.Frag)(C B:Addr):Sp:=fun vs H Q E=>∃(w a:Addr) (kd:Bool) (n:Int) (ps:List (Int × Int)) (xs:List V) (ts:List (List Int)),vs=[.ref w,.ref a]/\WebAt C H w n ps/\GoodW n ps/\SqK kd K H a xs/\Bears (RowV K H) xs ts/\ts.length<=1000/\(∀ l∈ts,l.length<64) /\
 (VT n.toNat ps ts->∀ H':Hp,Same H H'->Q .non H')/\(¬ VT n.toNat ps ts->∀ H':Hp,Same H H'->E (.ref B) none H')
section
variable{P:Program}{w:World}{K:PySem.W.Frag}{mg:Str->Option Value}{base:Heap}{t:Adr}
theorem scζb:FnScope ["web","turns"] ["web","turns"] (ζ6 sζb):=⟨rfl,rfl,rfl,by decide +kernel,rfl,by decide +kernel,by decide +kernel⟩
theorem okζb (T:Txt K mg t):FnOk P w K mg base (CXW P w) 2 t.aζb t.dζb ["web","turns"] (spζb K t.A_Web t.A_BadTurns):=by
 refine T.fζb.okX scζb (fun vs H Q E h=>?_) (fun cdv A outer s H vs Q E hr h=>?_)
 ·obtain⟨w,a,kd,n,ps,xs,ts,rfl,_⟩:=h
  rfl
 ·obtain⟨w,a,kd,n,ps,xs,ts,rfl,hW,hG,hA,hX,hl1,hl2,q,qe⟩:=h
  refine⟨_,(ζ5 (ps_if (pt_cmpR (op_neDK K (hu8 hr)) (pe_lc rfl (sc0:=ζ6 sζb) (N0:=["web","turns"]) (N':=["turn"]) (o:=1) (fr:=[]) ⟨rfl,by decide +kernel,by decide +kernel,by decide +kernel,rfl,by decide +kernel⟩ (pi_seqK K (pv 1)) (own_name (by decide)) (fun _ _ _ _=>(pg_name (i:=0) (show List.Nodup (["turn"]:List Str) by decide +kernel) rfl (Or.inl rfl))) (fun _ _ _ _=>pts_nil) (fun _ _ _ _=>(pe_callB (call_sortedQ K) (by rfl) T.n_sorted Boot.«sorted» (ζ0 (pv 0) ζ4)))) (pe_call (okζa T) (hr.mono (by decide)) rfl T.mζa T.fζa.kp T.bζa .nil pass0 (ζ0 (pv 0) ζ4)) (nomark _))
   (ζ5 (ps_raise T.x_BadTurns T.c_BadTurns (ζ0 pe_str ζ4)))
   pss_nil)),?_⟩
  have hxl:=hX.1
  refine⟨_,rfl,a,rfl,lc_seq (K:=K) (k:=kd) (a:=a) (xs:=xs) (fun i zs H2=>Same H H2/\i<=xs.length/\∃ ss:List (List Int),Bears (ListV H2) zs ss/\ss.length=i/\∀(j:Nat) (x y:List Int),ts[j]?=some x->ss[j]?=some y->y.Perm x/\y.Pairwise (·<=·)) ⟨Same.refl _,Nat.zero_le _,[],⟨rfl,fun i l e=>by simp at e⟩,rfl,fun j x y _ h=>by simp at h⟩ (small60' (by omega)) (fun i zs H2 hi ⟨e,hi2,ss,ez,el,_⟩=>⟨hA.same e,by rw[ez.1,el];exact Nat.le_refl _⟩) ?_ ?_⟩
  ·rintro i v zs H2 hi ⟨s2,hil,ss,hZ,hsl,hss⟩ S hSS
   obtain⟨l,hl,r,k2,rfl,hr⟩:=hX.at hi
   have hil':=(List.getElem?_eq_some_iff.mp hi).1
   refine nm ?_
   refine⟨_,rfl,k2,r,l,rfl,hr.same s2,hl2 l (List.mem_of_getElem? hl),fun ms p1 p2 la hla=>?_⟩
   have u:=same_at (o:=.lst (IL ms)) hla
   refine hSS _ _ ⟨s2.trans u,hil',ss++[ms],(hZ.imp fun _ _ ⟨r',e,h⟩=>⟨r',e,u _ _ h⟩).snoc ⟨la,rfl,ζ1⟩,by rw[List.length_append,hsl];rfl,fun j x y ex ey=>?_⟩
   by_cases c:j<ss.length
   ·rw[List.getElem?_append_left c]at ey
    exact hss j x y ex ey
   ·have lt:=(List.getElem?_eq_some_iff.mp ey).1
    rw[List.length_append,List.length_singleton]at lt
    have ej:j=i:=by omega
    rw[List.getElem?_append_right (by omega),show j - ss.length=0 by omega]at ey
    have ey:ms=y:=Option.some.inj ey
    rw[ej,hl]at ex
    have ex:l=x:=Option.some.inj ex
    rw[<- ey,<- ex]
    exact⟨p1,p2⟩
  rintro zs H2 ⟨s2,_,ss,hZ,hsl,hss⟩ lA hlA
  have u3:=same_at (o:=.lst zs) hlA
  have k3:(upd H2 lA (.lst zs)) lA=some (.lst zs):=ζ1
  have hZ3:Bears (ListV (upd H2 lA (.lst zs))) zs ss:=hZ.imp fun _ _ ⟨r',e,h⟩=>⟨r',e,u3 _ _ h⟩
  have s3:=s2.trans u3
  generalize upd H2 lA (.lst zs)=H3 at *
  refine⟨_,rfl,w,n,ps,rfl,hW.same s3,hG,fun r ys H4 s4 hJ=>?_⟩
  have s34:=s3.trans s4
  refine⟨2,_,lA,r,rfl,rfl,by decide,eqd_llints (SqL.of (s4 _ _ k3)) (SqL.of hJ.tab) (hZ3.imp fun _ _ ⟨r',e,h⟩=>⟨r',e,s4 _ _ h⟩) hJ.lists,_,rfl,?_⟩
  have key:=vt_iff (n:=n.toNat) (ps:=ps) (by omega) hss
  refine itn2 (fun h=>?_) (fun h=>?_)
  ·exact q (key.mp h) H4 s34
  ·exact⟨(by show 1<=sizeLine;decide),qe (fun v=>h (key.mpr v)) H4 s34⟩
end
set_option maxHeartbeats 4000000
def spζc:Sp:=fun vs H Q _=>∃ d:Int,vs=[.int d]/\Q (.int (bkD d)) H
section
variable{P:Program}{w:World}{K:PySem.W.Frag}{mg:Str->Option Value}{base:Heap}{t:Adr}
theorem scζc:FnScope ["dart"] ["dart"] (ζ6 sζc):=⟨rfl,rfl,rfl,by decide +kernel,rfl,by decide +kernel,by decide +kernel⟩
theorem okζc (T:Txt K mg t):FnOk P w K mg base CX0 1 t.aζc t.dζc ["dart"] spζc:=by
 refine T.fζc.ok scζc (fun vs H Q E h=>?_) (fun cdv A outer s H vs Q E hr h=>?_)
 ·obtain⟨d,rfl,_⟩:=h
  rfl
 ·obtain⟨d,rfl,q⟩:=h
  refine⟨_,(ζ5 (ps_ret (pe_ifExp (pt_cmpR op_eq (pe_op op_mod (pv 0) pe_int) pe_int (nomark _)) (pe_op op_add (pv 0) pe_int) (pe_op op_sub (pv 0) pe_int)))),?_⟩
  refine⟨_,rfl,_,_,rfl,rfl,(by show(0:Int)<2;decide),rfl,_,rfl,?_⟩
  rw[dec_int]
  refine itd2 (fun h=>?_) (fun h=>?_)
  ·refine⟨_,rfl,_,_,rfl,rfl,?_⟩
   have e:bkD d=d+1:=if_pos h
   rw[e]at q;exact q
  ·refine⟨_,rfl,_,_,rfl,rfl,?_⟩
   have e:bkD d=d - 1:=if_neg h
   rw[e]at q;exact q
end
set_option maxHeartbeats 4000000
def spζd(K:PySem.W.Frag):Sp:=fun vs H Q _=>∃(a:Addr) (kd:Bool) (xs:List V) (ts:List (List Int)),vs=[.ref a]/\SqK kd K H a xs/\Bears (RowV K H) xs ts/\ts.flatten.Nodup/\ts.flatten.length<=1000 /\
 ∀(d:Addr) (H':Hp),Same H H'->H d=none->H' d=some (.dK (kvI (bhL ts)))->Q (.ref d) H'
theorem kvI_len(L:List (Int × Int)):(kvI L).length=L.length:=by unfold kvI;rw[List.length_map]
section
variable{P:Program}{w:World}{K:PySem.W.Frag}{mg:Str->Option Value}{base:Heap}{t:Adr}
theorem scζd:FnScope ["turns","behind","turn","at","dart"] ["turns"] (ζ6 sζd):=⟨rfl,rfl,rfl,by decide +kernel,rfl,by decide +kernel,by decide +kernel⟩
theorem okζd (T:Txt K mg t):FnOk P w K mg base CX0 2 t.aζd t.dζd ["turns"] (spζd K):=by
 refine T.fζd.ok scζd (fun vs H Q E h=>?_) (fun cdv A outer s H vs Q E hr h=>?_)
 ·obtain⟨a,kd,xs,ts,rfl,_⟩:=h
  rfl
 ·obtain⟨a,kd,xs,ts,rfl,hA,hX,hnd,hfl,q⟩:=h
  refine⟨_,(ζ2 (ps_set (i:=1) scζd.nd rfl (Or.inl rfl) pe_dnewK)
   (ζ2 (ps_for PassesOwn.never rfl (pi_seqK K (pv 0)) (pg_name (i:=2) scζd.nd rfl (Or.inl rfl))
   (ζ5 (ps_for PassesOwn.never rfl (pi_enumQ K rfl T.n_enumerate (ζ0 (pv 2) ζ4)) (pg_tupK (n:=2) K rfl (pgs_cons (pg_name (i:=3) scζd.nd rfl (Or.inl rfl)) (pgs_cons (pg_name (i:=4) scζd.nd rfl (Or.inl rfl)) pgs_nil)))
   (ζ5 (ps_dput (hu_of hr) (pv 1) (pe_call (okζc T) (hr.mono (by decide)) rfl T.mζc T.fζc.kp T.bζc .nil pass0 (ζ0 (pv 4) ζ4)) (pe_ix (ix_seqK K) (pv 2) (pe_op op_mod (pe_op op_add (pv 3) pe_int) (pe_callB (call_lenK K) (by rfl) T.n_len Boot.«len» (ζ0 (pv 2) ζ4))) (fun _ _=>rfl)) rfl)))))
   (ζ5 (ps_ret (pv 1))))),?_⟩
  intro d hd
  have u1:=same_at (o:=.dK []) hd
  have k1:(upd H d (.dK [])) d=some (.dK []):=ζ1
  generalize upd H d (.dK [])=H1 at *
  refine nm ?_
  dsimp only
  refine⟨_,rfl,a,rfl,for_seq (K:=K) (k:=kd) (a:=a) (xs:=xs) (fun i σ H2=>∃ v2 v3 v4:Option V,σ=[some (.ref a),some (.ref d),v2,v3,v4]/\Same H H2/\i<=xs.length/\H2 d=some (.dK (kvI (bhL (ts.take i))))) ⟨none,none,none,rfl,u1,Nat.zero_le _,k1⟩ (fun i σ H2 _ ⟨_,_,_,_,e,_⟩=>hA.same e) ?_ ?_⟩
  ·rintro i v σ H2 hi ⟨v2,v3,v4,rfl,s2,hil,k2⟩
   obtain⟨row,hrow,r,k3,rfl,hr⟩:=hX.at hi
   have hil':=(List.getElem?_eq_some_iff.mp hi).1
   have hrs:(ts.take i).flatten.length+row.length<=1000:=by
    have e:ts.flatten=(ts.take (i+1)).flatten++(ts.drop (i+1)).flatten:=by rw[<- List.flatten_append,List.take_append_drop]
    rw[e,flat_take hrow,List.length_append,List.length_append]at hfl
    omega
   refine nm ?_
   dsimp only
   refine⟨_,rfl,r,k3,rfl,⟨_,hr.same s2⟩,for_enumQ (K:=K) (kd:=k3) (a:=r) (xs:=IL row) (fun j σ H3=>∃ v3 v4:Option V,σ=[some (.ref a),some (.ref d),some (.ref r),v3,v4]/\Same H H3/\j<=row.length/\H3 d=some (.dK (kvI (bhL (ts.take i)++bhR row j)))) ⟨v3,v4,rfl,s2,Nat.zero_le _,by rw[show bhR row 0=[] from rfl,List.append_nil];exact k2⟩ (fun j σ H3 _ ⟨_,_,_,e,_⟩=>hr.same e) ?_ ?_⟩
   ·rintro j x σ H3 pt hpt hj ⟨w3,w4,rfl,s3,hjl,k4⟩
    obtain⟨z,rfl,hz⟩:=il_get hj
    have hjl':=(List.getElem?_eq_some_iff.mp hz).1
    have u4:=same_at (o:=.tup [.int j,.int z]) hpt
    refine⟨pt,_,rfl,SqT.of ζ1,rfl,_,_,rfl,_,_,rfl,rfl,?_⟩
    have k5:=u4 _ _ k4
    have s5:=s3.trans u4
    generalize upd H3 pt (.tup [.int j,.int z])=H5 at *
    have pos:(0:Int)<((IL row).length:Int):=by rw[ζ3];omega
    have m0:0<=((j:Int)+1) % ((IL row).length:Int):=Int.emod_nonneg _ (by omega)
    have m1:((j:Int)+1) % ((IL row).length:Int)<((IL row).length:Int):=Int.emod_lt_of_pos _ pos
    have em:((j:Int)+1) % ((IL row).length:Int)=(((j+1) % row.length:Nat):Int):=by rw[ζ3,Int.natCast_emod,Int.natCast_add];rfl
    have lt2:(j+1) % row.length<row.length:=Nat.mod_lt _ (by omega)
    obtain⟨y,hy⟩:∃ y,row[(j+1) % row.length]?=some y:=⟨_,List.getElem?_eq_getElem lt2⟩
    have e1:row.getD j 0=z:=getD_of hz
    have e2:row.getD ((j+1) % row.length) 0=y:=getD_of hy
    refine⟨_,rfl,_,rfl,_,_,rfl,rfl,_,rfl,r,_,rfl,(hr.same s5).or,_,_,rfl,rfl,pos,k3,r,_,_,.int y,rfl,rfl,hr.same s5,atI_of (n:=(j+1) % row.length) em (il_at hy),_,rfl,_,rfl,z,rfl,?_⟩
    refine⟨d,_,rfl,DPut.k (k:=Sum.inl (bkD z)) k5 (small60' (by rw[kvI_len,List.length_append,bhL_len,bhR_len];omega)),?_⟩
    have nw:=bh_new hnd hrow hjl'
    rw[e1]at nw
    refine⟨_,_,rfl,same_upd hd s5,hjl',?_⟩
    rw[ζ1,kvI_put nw,bhR_succ,e1,e2,List.append_assoc]
   rintro σ H3 ⟨w3,w4,rfl,s3,_,k4⟩
   rw[ζ3]at k4
   exact⟨_,_,_,rfl,s3,hil',by rw[bhL_take hrow];exact k4⟩
  rintro σ H2 ⟨v2,v3,v4,rfl,s2,_,k2⟩
  rw[hX.1,List.take_length]at k2
  exact⟨_,rfl,q d H2 s2 hd k2⟩
end
set_option maxHeartbeats 4000000
def spζe:Sp:=fun vs H Q _=>∃(d:Addr) (B:List (Int × Int)) (M:Nat) (x:Int),vs=[.ref d,.int x]/\H d=some (.dK (kvI B))/\(B.map (·.1)).Nodup/\(∀ x y z,(x,z)∈B->(y,z)∈B->x=y)/\(∀ x y,(x,y)∈B->(0<=x/\x<(M:Int))/\0<=y/\y<(M:Int))/\(∀ x,0<=x/\x<(M:Int)->∃ y,(x,y)∈B)/\(0<=x/\x<(M:Int))/\M<=1000 /\
 ∀(r:Addr) (row:List Int) (H':Hp),Same H H'->H r=none->Orb B x row->H' r=some (.lst (IL row))->Q (.ref r) H'
section
variable{P:Program}{w:World}{K:PySem.W.Frag}{mg:Str->Option Value}{base:Heap}{t:Adr}
theorem scζe:FnScope ["behind","start","found","dart"] ["behind","start"] (ζ6 sζe):=⟨rfl,rfl,rfl,by decide +kernel,rfl,by decide +kernel,by decide +kernel⟩
theorem okζe (T:Txt K mg t):FnOk P w K mg base CX0 1 t.aζe t.dζe ["behind","start"] spζe:=by
 refine T.fζe.ok scζe (fun vs H Q E h=>?_) (fun cdv A outer s H vs Q E hr h=>?_)
 ·obtain⟨d,B,M,x,rfl,_⟩:=h
  rfl
 ·obtain⟨d,B,M,x,rfl,hd,hnd,hinj,hrg,hex,hx,hM,q⟩:=h
  refine⟨_,(ζ2 (ps_set (i:=2) scζe.nd rfl (Or.inl rfl) (pe_lst (ζ0 (pv 1) ζ4)))
   (ζ2 (ps_set (i:=3) scζe.nd rfl (Or.inl rfl) (pe_dget (hu_of hr) (pv 0) (pv 1) (fun _ _=>rfl)))
   (ζ2 (ps_while PassesOwn.never (pt_cmpR op_ne (pv 3) (pv 1) (nomark _))
   (ζ2 (ps_expr (pe_bmK K PySem.F.plainAttrs_list PySem.F.slot_list_append PySem.F.type_list_append mt_append (pv 2) (ζ0 (pv 3) ζ4)))
   (ζ5 (ps_set (i:=3) scζe.nd rfl (Or.inl rfl) (pe_dget (hu_of hr) (pv 0) (pv 3) (fun _ _=>rfl))))))
   (ζ5 (ps_ret (pv 2)))))),?_⟩
  refine⟨_,rfl,(by show 1<=sizeLine;decide),fun r hr=>?_⟩
  have u1:=same_at (o:=.lst [.int x]) hr
  have k1:(upd H r (.lst [.int x])) r=some (.lst (IL [x])):=ζ1
  have d1:=u1 _ _ hd
  generalize upd H r (.lst [.int x])=H1 at *
  have hrd:r≠d:=Ne.symm (ne_of_none hd hr)
  refine nm ?_
  dsimp only
  obtain⟨y,hy⟩:=hex x hx
  refine⟨_,rfl,_,rfl,d,.int y,rfl,?_,?_⟩
  ·have:=DGet.k (k:=Sum.inl x) d1
   rw[kvI_val hnd hy]at this
   exact this
  refine nm ?_
  dsimp only
  have W0:Way B x y [x]:=by
   have h0:Way B x x []:=⟨.nil,fun i a b e=>by simp at e,.inl ⟨rfl,rfl⟩⟩
   exact h0.snoc (by simp) hy
  refine⟨fun m σ H2=>∃(row:List Int) (c:Int),σ=[some (.ref d),some (.int x),some (.ref r),some (.int c)]/\Same H H2/\H2 r=some (.lst (IL row))/\Way B x c row/\row≠[]/\(∀ z∈row,0<=z/\z<(M:Int))/\(0<=c/\c<(M:Int))/\m=M - row.length,⟨M - 1,[x],y,rfl,u1,k1,W0,by simp,fun z hz=>(by rw[List.mem_singleton.mp hz];exact hx),(hrg x y hy).2,rfl⟩,?_⟩
  rintro m σ H2 ⟨row,c,rfl,s2,k2,hW,hne,hz,hc,rfl⟩
  refine⟨_,rfl,_,rfl,rfl,_,rfl,?_⟩
  rw[dec_int]
  have few:=nd_few hW.1 hz
  refine itn2 (fun he=>?_) (fun hne2=>?_)
  ·subst he
   exact⟨_,rfl,q r row H2 s2 hr (hW.orb hne) k2⟩
  ·refine⟨_,fun σ' H' h=>h,?_⟩
   have hcn:c∉row:=fun h=>hne2 (hW.meets hinj h)
   obtain⟨e,he⟩:=hex c hc
   refine⟨_,rfl,.inl ⟨rfl,_,SqL.of k2⟩,_,rfl,r,_,_,rfl,rfl,k2,small60' (by rw[ζ3];omega),?_⟩
   have c1:IL row++[.int c]=IL (row++[c]):=(il_snoc ..).symm
   rw[c1]
   have d3:(upd H2 r (.lst (IL (row++[c])))) d=some (.dK (kvI B)):=by rw[upd_ne (Ne.symm hrd)];exact s2 _ _ hd
   have W1:=hW.snoc hcn he
   have few2:=nd_few W1.1 (M:=M) (fun z hz'=>by
    rcases List.mem_append.mp hz' with e | e
    ·exact hz z e
    ·rw[List.mem_singleton.mp e];exact hc)
   rw[List.length_append,List.length_singleton]at few2
   refine⟨_,rfl,_,rfl,d,.int e,rfl,?_,?_⟩
   ·have:=DGet.k (k:=Sum.inl c) d3
    rw[kvI_val hnd he]at this
    exact this
   refine nm ?_
   dsimp only
   refine⟨M - (row++[c]).length,by rw[List.length_append,List.length_singleton];omega,row++[c],e,rfl,same_upd hr s2,ζ1,W1,by simp,fun z hz'=>?_,(hrg c e he).2,rfl⟩
   rcases List.mem_append.mp hz' with e | e
   ·exact hz z e
   ·rw[List.mem_singleton.mp e];exact hc
end
set_option maxHeartbeats 4000000
def spζf(K:PySem.W.Frag)(C B:Addr):Sp:=fun vs H Q E=>∃(w a:Addr) (kd:Bool) (n:Int) (ps:List (Int × Int)) (xs:List V) (ts:List (List Int)),vs=[.ref w,.ref a]/\WebAt C H w n ps/\GoodW n ps/\SqK kd K H a xs/\Bears (RowV K H) xs ts/\ts.length<=1000/\(∀ l∈ts,l.length<64) /\
 (VT n.toNat ps ts->∀(r:Addr) (ys:List V) (R:List (List Int)) (H':Hp),Same H H'->H r=none->RdW ps ts R->JagAt H r H' ys R->Q (.ref r) H')/\(¬ VT n.toNat ps ts->∀ H':Hp,Same H H'->E (.ref B) none H')
section
variable{P:Program}{w:World}{K:PySem.W.Frag}{mg:Str->Option Value}{base:Heap}{t:Adr}
theorem scζf:FnScope ["web","turns","behind","rounds","gone","dart","found","walked"] ["web","turns"] (ζ6 sζf):=⟨rfl,rfl,rfl,by decide +kernel,rfl,by decide +kernel,by decide +kernel⟩
theorem okζf (T:Txt K mg t):FnOk P w K mg base (CXW P w) 3 t.aζf t.dζf ["web","turns"] (spζf K t.A_Web t.A_BadTurns):=by
 refine T.fζf.okX scζf (fun vs H Q E h=>?_) (fun cdv A outer s H vs Q E hr h=>?_)
 ·obtain⟨w,a,kd,n,ps,xs,ts,rfl,_⟩:=h
  rfl
 ·obtain⟨w,a,kd,n,ps,xs,ts,rfl,hW,hG,hA,hX,hl1,hl2,q,qe⟩:=h
  refine⟨_,(ζ2 (ps_expr (pe_call (okζb T) (hr.mono (by decide)) rfl T.mζb T.fζb.kp T.bζb .nil pxs (ζ0 (pv 0) (ζ0 (pv 1) ζ4))))
   (ζ2 (ps_if (pt_cmpR op_eq (pe_callB (call_lenK K) (by rfl) T.n_len Boot.«len» (ζ0 (pe_fldK K (pv 0) rfl) ζ4)) pe_int (nomark _))
   (ζ5 (ps_ret (pe_lst (ζ0 (pe_lst ζ4) ζ4))))
   pss_nil)
   (ζ2 (ps_set (i:=2) scζf.nd rfl (Or.inl rfl) (pe_call (okζd T) (hr.mono (by decide)) rfl T.mζd T.fζd.kp T.bζd .nil pass0 (ζ0 (pv 1) ζ4)))
   (ζ2 (ps_set (i:=3) scζf.nd rfl (Or.inl rfl) (pe_lst ζ4))
   (ζ2 (ps_set (i:=4) scζf.nd rfl (Or.inl rfl) pe_dnewK)
   (ζ2 (ps_for PassesOwn.leaving rfl (pi_range1 rfl T.n_range (ζ0 (pe_op op_mul pe_int (pe_callB (call_lenK K) (by rfl) T.n_len Boot.«len» (ζ0 (pe_fldK K (pv 0) rfl) ζ4))) ζ4)) (pg_name (i:=5) scζf.nd rfl (Or.inl rfl))
   (ζ5 (ps_if (pt_cmp (pc_dnotin (hu_of hr) (pv 5) (pv 4)))
   (ζ2 (ps_set (i:=6) scζf.nd rfl (Or.inl rfl) (pe_call (okζe T) (hr.mono (by decide)) rfl T.mζe T.fζe.kp T.bζe .nil pass0 (ζ0 (pv 2) (ζ0 (pv 5) ζ4))))
   (ζ2 (ps_expr (pe_bmK K PySem.F.plainAttrs_list PySem.F.slot_list_append PySem.F.type_list_append mt_append (pv 3) (ζ0 (pv 6) ζ4)))
   (ζ5 (ps_for PassesOwn.leaving rfl (pi_listK K (pv 6)) (pg_name (i:=7) scζf.nd rfl (Or.inl rfl))
   (ζ5 (ps_dput (hu_of hr) (pv 4) (pv 7) pe_bl rfl))))))
   pss_nil)))
   (ζ5 (ps_ret (pv 3))))))))),?_⟩
  obtain⟨g1,g2,g3,g4⟩:=id hG
  have one:1<=sizeLine:=by decide
  refine⟨_,rfl,_,rfl,w,a,kd,n,ps,xs,ts,rfl,hW,hG,hA,hX,hl1,hl2,fun hV H1 s1=>?_,fun hV H1 s1=>qe hV H1 s1⟩
  have q:=q hV
  have gg:∀ p∈ps,0<=p.1/\p.1<((n.toNat:Nat):Int)/\0<=p.2/\p.2<((n.toNat:Nat):Int):=fun p hp=>by have:=g4 p hp;omega
  obtain⟨dx,tl,zs,h1,h2,h3⟩:=id (hW.same s1)
  have hzl:=h3.1
  refine⟨_,rfl,w,_,dx,_,_,rfl,h1,T.cl_Web,T.n_Web_ties,wf_ties _ _,tl,zs,rfl,.inl (SqL.of h2),rfl,_,rfl,?_⟩
  rw[dec_int]
  refine itd2 (fun h0=>?_) (fun h0=>?_)
  ·have p0:ps.length=0:=by omega
   refine⟨Nat.zero_le _,fun i1 hi1=>⟨one,fun r hr=>?_⟩⟩
   have u1:=same_at (o:=.lst []) hi1
   have u2:=same_at (o:=.lst [.ref i1]) hr
   have hne:i1≠r:=ne_of_none (H:=upd H1 i1 (.lst [])) ζ1 hr
   refine q r [.ref i1] [[]] _ (s1.trans (u1.trans u2)) (s1.free (u1.free hr)) (.inl ⟨p0,rfl⟩) ⟨ζ1,⟨rfl,fun i l e=>?_⟩,by simp,fun A hA=>?_⟩
   ·have li:=(List.getElem?_eq_some_iff.mp e).1
    have li:i<1:=li
    obtain rfl:i=0:=by omega
    obtain rfl:[]=l:=Option.some.inj e
    exact⟨_,rfl,i1,rfl,u2 _ _ ζ1,hne⟩
   ·have:A=i1:=by simpa using hA
    rw[this];exact s1.free hi1
  have p0:0<ps.length:=by omega
  have hrows:Bears (RowV K H1) xs ts:=hX.imp fun _ _ h=>h.same s1
  have fl:=hV.flat_len
  refine⟨_,rfl,a,kd,xs,ts,rfl,hA.same s1,hrows,hV.flat,by omega,fun d H2 s2 hd0 hd2=>?_⟩
  refine nm ?_
  dsimp only
  have s02:=s1.trans s2
  have dn0:H d=none:=s1.free hd0
  refine⟨Nat.zero_le _,fun rA hrA=>?_⟩
  have u3:=same_at (o:=.lst []) hrA
  refine nm ?_
  dsimp only
  intro gA hgA
  have u4:=same_at (o:=.dK []) hgA
  have s04:=s02.trans (u3.trans u4)
  have d4:=u4 _ _ (u3 _ _ hd2)
  have r4:=u4 _ _ (ζ1 (H:=H2) (a:=rA) (o:=.lst []))
  have k4:(upd (upd H2 rA (.lst [])) gA (.dK [])) gA=some (.dK []):=ζ1
  have rn0:H rA=none:=s02.free hrA
  have gn0:H gA=none:=s02.free (u3.free hgA)
  have grA:gA≠rA:=fun z=>by rw[z,ζ1]at hgA;cases hgA
  have gdA:gA≠d:=Ne.symm (ne_of_none (u3 _ _ hd2) hgA)
  have rdA:rA≠d:=Ne.symm (ne_of_none hd2 hrA)
  generalize upd (upd H2 rA (.lst [])) gA (.dK [])=H4 at *
  refine nm ?_
  dsimp only
  have hinj:∀ x y z,(x,z)∈bhL ts->(y,z)∈bhL ts->x=y:=fun x y z=>bh_inj hV
  have hrg:∀ x y,(x,y)∈bhL ts->(0<=x/\x<((2 * ps.length:Nat):Int))/\0<=y/\y<((2 * ps.length:Nat):Int):=fun x y hxy=>by have:=bh_range hV hxy;omega
  have hex:∀ x,0<=x/\x<((2 * ps.length:Nat):Int)->∃ y,(x,y)∈bhL ts:=fun x hx=>bh_ex hV gg (by omega)
  obtain⟨dx4,tl4,zs4,w1,w2,w3⟩:=id (hW.same s04)
  have hz4:=w3.1
  refine⟨_,rfl,w,_,dx4,_,_,rfl,w1,T.cl_Web,T.n_Web_ties,wf_ties _ _,tl4,zs4,rfl,.inl (SqL.of w2),_,_,rfl,rfl,.inl ⟨by decide,by decide⟩,_,rfl,by omega,by omega,for_range (lo:=0) (n:=(2 * (zs4.length:Int)).toNat) (fun k σ H5=>∃(v5 v6 v7:Option V) (ys:List V) (R:List (List Int)) (kvs:List (Key × V)),σ=[some (.ref w),some (.ref a),some (.ref d),some (.ref rA),some (.ref gA),v5,v6,v7]/\Same H H5/\H5 d=some (.dK (kvI (bhL ts)))/\JagAt H rA H5 ys R/\Rds (bhL ts) k R/\H5 gA=some (.dK kvs)/\Kys kvs R.flatten/\kvs.length<=R.flatten.length) ⟨none,none,none,[],[],[],rfl,s04,d4,JagAt.nil r4,rfl,k4,Kys.nil,Nat.le_refl _⟩ ?_ ?_⟩
  ·rintro k σ H5 hk ⟨v5,v6,v7,ys,R,kvs,rfl,s5,d5,hJ,hR,k5,hKy,hkl⟩
   rw[Int.zero_add]
   refine nm ?_
   dsimp only
   have hk2:k<2 * ps.length:=by omega
   have ndR:=hR.nodup hinj
   have fewR:=nd_few ndR (hR.range hrg)
   refine⟨_,rfl,_,rfl,gA,_,rfl,DGet.k (k:=Sum.inl (k:Int)) k5,_,rfl,?_⟩
   cases hin:(valV kvs (Sum.inl (k:Int))).isSome with
   | true =>
    refine iteF ?_
    exact⟨_,_,_,ys,R,kvs,rfl,s5,d5,hJ,⟨R,hR,.inl ⟨(hKy _).mp hin,rfl⟩⟩,k5,hKy,hkl⟩
   | false =>
    refine iteT ?_
    have hnin:(k:Int)∉R.flatten:=fun h=>by rw[(hKy _).mpr h]at hin;cases hin
    refine⟨_,rfl,_,rfl,d,bhL ts,2 * ps.length,(k:Int),rfl,d5,bh_nd hV.flat,hinj,hrg,hex,by omega,by omega,fun r row H6 s6 hr0 ho hr6=>?_⟩
    refine nm ?_
    dsimp only
    have hJ6:=hJ.same s6
    have rny:V.ref r∉ys:=hJ.fresh hr0
    have rrA:r≠rA:=Ne.symm (ne_of_none hJ.tab hr0)
    have rgA:r≠gA:=Ne.symm (ne_of_none k5 hr0)
    have hyl:=hJ.rows.1
    have Rl:R.length<=R.flatten.length:=by
     have:∀ L:List (List Int),(∀ l∈L,0<l.length)->L.length<=L.flatten.length:=fun L=>by
      induction L with
      | nil=>intro _;exact Nat.le_refl _
      | cons l L ih =>
       intro h
       have:=h l List.mem_cons_self
       have:=ih fun x hx=>h x (List.mem_cons_of_mem _ hx)
       rw[List.flatten_cons,List.length_append,List.length_cons]
       omega
     exact this R fun l hl=>by obtain⟨_,o⟩:=hR.orbs l hl;exact o.pos
    refine⟨_,rfl,.inl ⟨rfl,_,SqL.of hJ6.tab⟩,_,rfl,rA,_,_,rfl,rfl,hJ6.tab,small60' (by omega),?_⟩
    have hJ7:=hJ6.snoc hr6 (s5.free hr0) rrA rny
    have s7:Same H (upd H6 rA (.lst (ys++[.ref r]))):=same_upd rn0 (s5.trans s6)
    have d7:(upd H6 rA (.lst (ys++[.ref r]))) d=some (.dK (kvI (bhL ts))):=by rw[upd_ne (Ne.symm rdA)];exact s6 _ _ d5
    have k7:(upd H6 rA (.lst (ys++[.ref r]))) gA=some (.dK kvs):=by rw[upd_ne grA];exact s6 _ _ k5
    have r7:(upd H6 rA (.lst (ys++[.ref r]))) r=some (.lst (IL row)):=by rw[upd_ne rrA];exact hr6
    generalize upd H6 rA (.lst (ys++[.ref r]))=H7 at *
    have ndRow:=ho.2.1
    have fewRow:=nd_few ndRow (orb_range hrg ho)
    refine⟨_,rfl,r,rfl,⟨_,SqL.of r7⟩,for_list (K:=K) (a:=r) (xs:=IL row) (fun j σ H8=>∃(v7:Option V) (kvs':List (Key × V)),σ=[some (.ref w),some (.ref a),some (.ref d),some (.ref rA),some (.ref gA),some (.int k),some (.ref r),v7]/\Same H H8/\H8 d=some (.dK (kvI (bhL ts)))/\JagAt H rA H8 (ys++[.ref r]) (R++[row])/\H8 r=some (.lst (IL row))/\H8 gA=some (.dK kvs')/\Kys kvs' (R.flatten++row.take j)/\kvs'.length<=R.flatten.length+j/\j<=row.length) ⟨v7,kvs,rfl,s7,d7,hJ7,r7,k7,by rw[List.take_zero,List.append_nil];exact hKy,hkl,Nat.zero_le _⟩ (fun j σ H8 _ ⟨_,_,_,_,_,_,e,_⟩=>SqL.of e) ?_ ?_⟩
    ·rintro j x σ H8 hj ⟨v7,kvs',rfl,s8,d8,hJ8,r8,k8,hK8,hl8,hjl⟩
     obtain⟨z,rfl,hz⟩:=il_get hj
     have hjl':=(List.getElem?_eq_some_iff.mp hz).1
     refine nm ?_
     dsimp only
     refine⟨_,rfl,_,rfl,gA,_,rfl,DPut.k (k:=Sum.inl z) k8 (small60' (by omega)),?_⟩
     have hK9:=hK8.put z (.bl true)
     rw[List.append_assoc,show row.take j++[z]=row.take (j+1) by rw[List.take_succ,hz];rfl]at hK9
     have lp:=length_putK kvs' (Sum.inl z) (.bl true)
     refine⟨_,_,rfl,same_upd gn0 s8,by rw[upd_ne (Ne.symm gdA)];exact d8,hJ8.oth grA (fun xs e=>by rw[k8]at e;cases e),by rw[upd_ne rgA];exact r8,ζ1,hK9,by omega,hjl'⟩
    rintro σ H8 ⟨v7,kvs',rfl,s8,d8,hJ8,r8,k8,hK8,hl8,_⟩
    rw[ζ3]at hl8
    rw[ζ3,List.take_length]at hK8
    have ef:(R++[row]).flatten=R.flatten++row:=by rw[List.flatten_append];simp
    exact⟨_,_,_,_,R++[row],kvs',rfl,s8,d8,hJ8,⟨R,hR,.inr ⟨hnin,row,ho,rfl⟩⟩,k8,by rw[ef];exact hK8,by rw[ef,List.length_append];exact hl8⟩
  rintro σ H5 ⟨v5,v6,v7,ys,R,kvs,rfl,s5,d5,hJ,hR,k5,hKy,hkl⟩
  rw[show(2 * (zs4.length:Int)).toNat=2 * ps.length by omega]at hR
  exact⟨_,rfl,q rA ys R H5 s5 rn0 (.inr ⟨p0,hR⟩) hJ⟩
end
set_option maxHeartbeats 4000000
def spζg(K:PySem.W.Frag)(C B:Addr):Sp:=fun vs H Q E=>∃(w a:Addr) (kd:Bool) (n:Int) (ps:List (Int × Int)) (xs:List V) (ts:List (List Int)),vs=[.ref w,.ref a]/\WebAt C H w n ps/\GoodW n ps/\SqK kd K H a xs/\Bears (RowV K H) xs ts/\ts.length<=1000/\(∀ l∈ts,l.length<64) /\
 (VT n.toNat ps ts->∀(b:Bool) (R:List (List Int)) (H':Hp),Same H H'->RdW ps ts R->(b=true↔Flat n ps R)->Q (.bl b) H')/\(¬ VT n.toNat ps ts->∀ H':Hp,Same H H'->E (.ref B) none H')
section
variable{P:Program}{w:World}{K:PySem.W.Frag}{mg:Str->Option Value}{base:Heap}{t:Adr}
theorem scζg:FnScope ["web","turns","rounds"] ["web","turns"] (ζ6 sζg):=⟨rfl,rfl,rfl,by decide +kernel,rfl,by decide +kernel,by decide +kernel⟩
theorem okζg (T:Txt K mg t):FnOk P w K mg base (CXW P w) 6 t.aζg t.dζg ["web","turns"] (spζg K t.A_Web t.A_BadTurns):=by
 refine T.fζg.okX scζg (fun vs H Q E h=>?_) (fun cdv A outer s H vs Q E hr h=>?_)
 ·obtain⟨w,a,kd,n,ps,xs,ts,rfl,_⟩:=h
  rfl
 ·obtain⟨w,a,kd,n,ps,xs,ts,rfl,hW,hG,hA,hX,hl1,hl2,q,qe⟩:=h
  refine⟨_,(ζ2 (ps_set (i:=2) scζg.nd rfl (Or.inl rfl) (pe_call (okζf T) (hr.mono (by decide)) rfl T.mζf T.fζf.kp T.bζf .nil pxs (ζ0 (pv 0) (ζ0 (pv 1) ζ4))))
   (ζ5 (ps_ret (pe_and (pe_call (okζ9 T) (hr.mono (by decide)) rfl T.mζ9 T.fζ9.kp T.bζ9 .nil pass0 (ζ0 (pv 0) (ζ0 (pe_call (okζ3 T) (hr.mono (by decide)) rfl T.mζ3 T.fζ3.kp T.bζ3 .nil pass0 (ζ0 (pv 0) ζ4)) ζ4))) (pe_one (pe_cmpR op_eq (pe_op op_add (pe_op op_sub (pe_fldK K (pv 0) rfl) (pe_callB (call_lenK K) (by rfl) T.n_len Boot.«len» (ζ0 (pe_fldK K (pv 0) rfl) ζ4))) (pe_callB (call_lenK K) (by rfl) T.n_len Boot.«len» (ζ0 (pv 2) ζ4))) pe_int (nomark _))))))),?_⟩
  refine⟨_,rfl,_,rfl,w,a,kd,n,ps,xs,ts,rfl,hW,hG,hA,hX,hl1,hl2,fun hV r ys R H1 s1 hr0 hR hJ=>?_,fun hV H1 s1=>qe hV H1 s1⟩
  refine nm ?_
  dsimp only
  have hW1:=hW.same s1
  refine⟨_,rfl,_,rfl,w,n,ps,rfl,hW1,by have:=hG.2.2.1;omega,fun ra H2 s2 hr0' hr1=>?_⟩
  refine⟨w,ra,n,ps,true,rgL ps.length,rfl,hW1.same s2,hG,SqT.of hr1,rgL_set _,fun b H3 s3 hb=>⟨_,rfl,?_⟩⟩
  rw[grp_conn (by have:=hG.1;omega) (ends_in hG (rgL_set _).all)]at hb
  have s13:=s1.trans (s2.trans s3)
  cases b with
  | false =>
   refine iteF ?_
   refine q hV false R H3 s13 hR ⟨fun h=>(by cases h),fun h=>?_⟩
   have:=hb.mpr h.1
   cases this
  | true =>
   refine iteT ?_
   obtain⟨dx,tl,zs,h1,h2,h3⟩:=id (hW.same s13)
   have hzl:=h3.1
   have hj3:=(s2.trans s3) _ _ hJ.tab
   have hyl:=hJ.rows.1
   refine⟨_,rfl,w,_,dx,_,_,rfl,h1,T.cl_Web,T.n_Web_places,wf_places _ _,_,rfl,w,_,dx,_,_,rfl,h1,T.cl_Web,T.n_Web_ties,wf_ties _ _,tl,zs,rfl,.inl (SqL.of h2),_,_,rfl,rfl,_,rfl,r,_,rfl,.inl (SqL.of hj3),_,_,rfl,rfl,rfl,?_⟩
   rw[dec_int,hzl,hyl]
   exact q hV _ R H3 s13 hR ⟨fun h=>⟨hb.mp rfl,of_decide_eq_true h⟩,fun h=>decide_eq_true h.2⟩
end
set_option maxHeartbeats 4000000
def spζh(K:PySem.W.Frag):Sp:=fun vs H Q _=>∃(a:Addr) (xs:List V) (ts:List (List Int)),vs=[.ref a]/\SqL K H a xs/\Bears (ListV H) xs ts/\ts.flatten.Nodup/\ts.flatten.length<=1000 /\
 ∀(d:Addr) (H':Hp),Same H H'->H d=none->H' d=some (.dK (kvI (plL ts ts.length)))->Q (.ref d) H'
section
variable{P:Program}{w:World}{K:PySem.W.Frag}{mg:Str->Option Value}{base:Heap}{t:Adr}
theorem scζh:FnScope ["rounds","numbers","number","darts","dart"] ["rounds"] (ζ6 sζh):=⟨rfl,rfl,rfl,by decide +kernel,rfl,by decide +kernel,by decide +kernel⟩
theorem okζh (T:Txt K mg t):FnOk P w K mg base CX0 1 t.aζh t.dζh ["rounds"] (spζh K):=by
 refine T.fζh.ok scζh (fun vs H Q E h=>?_) (fun cdv A outer s H vs Q E hr h=>?_)
 ·obtain⟨a,xs,ts,rfl,_⟩:=h
  rfl
 ·obtain⟨a,ys,ts,rfl,hA,hY,flN,fl,q⟩:=h
  refine⟨_,(ζ2 (ps_set (i:=1) scζh.nd rfl (Or.inl rfl) pe_dnewK)
   (ζ2 (ps_for PassesOwn.never rfl (pi_enumK K rfl T.n_enumerate (ζ0 (pv 0) ζ4)) (pg_tupK (n:=2) K rfl (pgs_cons (pg_name (i:=2) scζh.nd rfl (Or.inl rfl)) (pgs_cons (pg_name (i:=3) scζh.nd rfl (Or.inl rfl)) pgs_nil)))
   (ζ5 (ps_for PassesOwn.never rfl (pi_listK K (pv 3)) (pg_name (i:=4) scζh.nd rfl (Or.inl rfl))
   (ζ5 (ps_dput (hu_of hr) (pv 1) (pv 4) (pv 2) rfl)))))
   (ζ5 (ps_ret (pv 1))))),?_⟩
  have hyl:=hY.1
  intro pA hpA
  have u5:=same_at (o:=.dK []) hpA
  have k5:(upd H pA (.dK [])) pA=some (.dK (kvI [])):=ζ1
  generalize upd H pA (.dK [])=H5 at *
  refine nm ?_
  dsimp only
  refine⟨_,rfl,a,rfl,⟨_,u5.seq hA⟩,for_enum (K:=K) (a:=a) (xs:=ys) (fun i σ H6=>∃ v8 v9 v10:Option V,σ=[some (.ref a),some (.ref pA),v8,v9,v10]/\Same H H6/\i<=ys.length/\H6 pA=some (.dK (kvI (plL ts i)))) ⟨none,none,none,rfl,u5,Nat.zero_le _,k5⟩ (fun i σ H6 _ ⟨_,_,_,_,e,_⟩=>e.seq hA) ?_ ?_⟩
  ·rintro i v σ H6 pt hpt hi ⟨v8,v9,v10,rfl,s6,hil,k6⟩
   obtain⟨row,hrow,r,rfl,hr⟩:=hY.at hi
   have hil':=(List.getElem?_eq_some_iff.mp hi).1
   have u7:=same_at (o:=.tup [.int i,.ref r]) hpt
   refine⟨pt,_,rfl,SqT.of ζ1,rfl,_,_,rfl,_,_,rfl,rfl,?_⟩
   have s7:=s6.trans u7
   have k7:=u7 _ _ k6
   generalize upd H6 pt (.tup [.int i,.ref r])=H7 at *
   have grow:ts.getD i []=row:=by rw[List.getD_eq_getElem?_getD,hrow];rfl
   have nd:=flat_nd flN hrow
   have hrs:(ts.take i).flatten.length+row.length<=1000:=by
    have e:ts.flatten=(ts.take (i+1)).flatten++(ts.drop (i+1)).flatten:=by rw[<- List.flatten_append,List.take_append_drop]
    rw[e,flat_take hrow,List.length_append,List.length_append]at fl
    omega
   have pk:=plL_keys ts i (by omega)
   have pll:(plL ts i).length=(ts.take i).flatten.length:=by rw[<- pk,List.length_map]
   refine⟨_,rfl,r,rfl,⟨_,SqL.of (s7 _ _ hr)⟩,for_list (K:=K) (a:=r) (xs:=IL row) (fun j σ H8=>∃ v10:Option V,σ=[some (.ref a),some (.ref pA),some (.int i),some (.ref r),v10]/\Same H H8/\j<=row.length/\H8 pA=some (.dK (kvI (plL ts i++plR (row.take j) i)))) ⟨v10,rfl,s7,Nat.zero_le _,by rw[show plR (row.take 0) i=[] from rfl,List.append_nil];exact k7⟩ (fun j σ H8 _ ⟨_,_,e,_⟩=>SqL.of (e _ _ hr)) ?_ ?_⟩
   ·rintro j x σ H8 hj ⟨w10,rfl,s8,hjl,k8⟩
    obtain⟨z,rfl,hz⟩:=il_get hj
    have hjl':=(List.getElem?_eq_some_iff.mp hz).1
    refine nm ?_
    dsimp only
    have nw:∀ p∈plL ts i++plR (row.take j) i,p.1≠z:=fun p hp e=>by
     have m1:p.1∈(plL ts i++plR (row.take j) i).map (·.1):=List.mem_map_of_mem hp
     have e1:(plR (row.take j) (i:Int)).map (·.1)=row.take j:=by
      unfold plR
      rw[List.map_map]
      exact List.map_id'' (fun _=>rfl) _
     rw[List.map_append,pk,e1,e]at m1
     have e4:(ts.take i).flatten++row=((ts.take i).flatten++row.take j)++row.drop j:=by rw[List.append_assoc,List.take_append_drop]
     rw[e4]at nd
     exact(List.nodup_append.mp nd).2.2 _ m1 _ (List.mem_of_getElem? (i:=0) (by rw[List.getElem?_drop];exact hz)) rfl
    have kl:(kvI (plL ts i++plR (row.take j) (i:Int))).length<=1000:=by
     unfold kvI plR
     rw[List.length_map,List.length_append,List.length_map,List.length_take]
     omega
    refine⟨_,rfl,_,rfl,_,rfl,pA,_,rfl,DPut.k (k:=Sum.inl z) k8 (small60' (by omega)),?_⟩
    refine⟨_,rfl,same_upd hpA s8,hjl',?_⟩
    rw[ζ1,kvI_put nw,List.append_assoc]
    have:plR (row.take (j+1)) (i:Int)=plR (row.take j) i++[(z,(i:Int))]:=by
     unfold plR
     rw[List.take_succ,hz,List.map_append]
     rfl
    rw[this]
   rintro σ H8 ⟨w10,rfl,s8,_,k8⟩
   rw[ζ3,List.take_length]at k8
   refine⟨_,_,_,rfl,s8,hil',?_⟩
   rw[k8]
   show some (HO.dK (kvI (plL ts i++plR row i)))=some (HO.dK (kvI (plL ts i++plR (ts.getD i []) i)))
   rw[grow]
  rintro σ H6 ⟨v8,v9,v10,rfl,s6,_,k6⟩
  rw[hyl]at k6
  exact⟨_,rfl,q pA H6 s6 hpA k6⟩
end
set_option maxHeartbeats 4000000
def spζi(K:PySem.W.Frag)(C B F W:Addr):Sp:=fun vs H Q E=>∃(w a:Addr) (kd:Bool) (n:Int) (ps:List (Int × Int)) (xs:List V) (ts:List (List Int)),vs=[.ref w,.ref a]/\WebAt C H w n ps/\GoodW n ps/\SqK kd K H a xs/\Bears (RowV K H) xs ts/\ts.length<=1000/\(∀ l∈ts,l.length<64) /\
 (VT n.toNat ps ts->∀ R:List (List Int),RdW ps ts R->(Flat n ps R->R.length<=14->∀(w':Addr) (H':Hp),Same H H'->WebAt C H' w' R.length (owT R ps.length)->Q (.ref w') H')/\(Flat n ps R->¬ R.length<=14->∀ H':Hp,Same H H'->E (.ref W) none H')/\(¬ Flat n ps R->∀ H':Hp,Same H H'->E (.ref F) none H'))/\(¬ VT n.toNat ps ts->∀ H':Hp,Same H H'->E (.ref B) none H')
section
variable{P:Program}{w:World}{K:PySem.W.Frag}{mg:Str->Option Value}{base:Heap}{t:Adr}
theorem scζi:FnScope ["web","turns","rounds","numbers"] ["web","turns"] (ζ6 sζi):=⟨rfl,rfl,rfl,by decide +kernel,rfl,by decide +kernel,by decide +kernel⟩
theorem okζi (T:Txt K mg t):FnOk P w K mg base (CXW P w) 7 t.aζi t.dζi ["web","turns"] (spζi K t.A_Web t.A_BadTurns t.A_NotFlat t.A_BadWeb):=by
 refine T.fζi.okX scζi (fun vs H Q E h=>?_) (fun cdv A outer s H vs Q E hr h=>?_)
 ·obtain⟨w,a,kd,n,ps,xs,ts,rfl,_⟩:=h
  rfl
 ·obtain⟨w,a,kd,n,ps,xs,ts,rfl,hW,hG,hA,hX,hl1,hl2,q,qe⟩:=h
  refine⟨_,(ζ2 (ps_if (pt_not (pt_val (pe_call (okζg T) (hr.mono (by decide)) rfl T.mζg T.fζg.kp T.bζg .nil pxs (ζ0 (pv 0) (ζ0 (pv 1) ζ4)))))
   (ζ5 (ps_raise T.x_NotFlat T.c_NotFlat (ζ0 pe_str ζ4)))
   pss_nil)
   (ζ2 (ps_set (i:=2) scζi.nd rfl (Or.inl rfl) (pe_call (okζf T) (hr.mono (by decide)) rfl T.mζf T.fζf.kp T.bζf .nil pxs (ζ0 (pv 0) (ζ0 (pv 1) ζ4))))
   (ζ2 (ps_set (i:=3) scζi.nd rfl (Or.inr rfl) (pe_call (okζh T) (hr.mono (by decide)) rfl T.mζh T.fζh.kp T.bζh .nil pass0 (ζ0 (pv 2) ζ4)))
   (ζ5 (ps_ret (pe_make T.k_Web (okζ1 T) (hr.mono (by decide)) rfl T.c_Web T.bζ1 .nil pxs (ζ0 (pe_callB (call_lenK K) (by rfl) T.n_len Boot.«len» (ζ0 (pv 2) ζ4)) (ζ0 (pe_lc rfl (sc0:=ζ6 sζi) (N0:=["web","turns","rounds","numbers"]) (N':=["tie","numbers"]) (o:=1) (fr:=[3]) ⟨rfl,by decide +kernel,by decide +kernel,by decide +kernel,rfl,by decide +kernel⟩ (pi_tupK K (pe_call (okζ3 T) (hr.mono (by decide)) rfl T.mζ3 T.fζ3.kp T.bζ3 .nil pass0 (ζ0 (pv 0) ζ4))) (own_name (by decide)) (fun _ _ _ _=>(pg_name (i:=0) (show List.Nodup (["tie","numbers"]:List Str) by decide +kernel) rfl (Or.inl rfl))) (fun _ _ _ _=>pts_nil) (fun _ _ _ _=>(pe_tup (ζ0 (pe_dget (hu_of hr) (pv 1) (pe_op op_mul pe_int (pv 0)) (fun _ _=>rfl)) (ζ0 (pe_dget (hu_of hr) (pv 1) (pe_op op_add (pe_op op_mul pe_int (pv 0)) pe_int) (fun _ _=>rfl)) ζ4))))) ζ4)))))))),?_⟩
  have two:2<=sizeLine:=by decide
  obtain⟨g1,g2,g3,g4⟩:=id hG
  refine⟨_,rfl,_,rfl,w,a,kd,n,ps,xs,ts,rfl,hW,hG,hA,hX,hl1,hl2,fun hV b R H1 s1 hR hb=>?_,fun hV H1 s1=>qe hV H1 s1⟩
  obtain⟨q1,q2,q3⟩:=q hV R hR
  refine⟨_,rfl,?_⟩
  refine itnb (fun z=>?_) (fun z=>?_)
  rotate_left
  ·exact⟨by show 1<=sizeLine;decide,q3 (fun h=>by rw[hb.mpr h]at z;cases z) H1 s1⟩
  have hF:=hb.mp z
  refine⟨_,rfl,_,rfl,w,a,kd,n,ps,xs,ts,rfl,hW.same s1,hG,hA.same s1,hX.imp (fun _ _ h=>h.same s1),hl1,hl2,fun _ r ys R2 H2 s2 hr0 hR2 hJ=>?_,fun h=>absurd hV h⟩
  have eR:R2=R:=hR2.uniq hV hR
  subst eR
  refine nm ?_
  dsimp only
  have s12:=s1.trans s2
  have fw:=hR.few hV
  refine⟨_,rfl,r,ys,R2,rfl,SqL.of hJ.tab,hJ.lists,hR.nodup hV,by omega,fun d H3 s3 hd0 hd3=>?_⟩
  refine nm ?_
  dsimp only
  have s13:=s12.trans s3
  have hyl:=hJ.rows.1
  refine⟨_,rfl,r,ys,rfl,.inl (SqL.of (s3 _ _ hJ.tab)),_,rfl,w,n,ps,rfl,hW.same s13,by omega,fun ra H4 s4 hra0 hra=>?_⟩
  have d4:=s4 _ _ hd3
  have rgl:(rgL ps.length).length=ps.length:=rgL_length _
  refine⟨ra,rfl,⟨_,SqT.of hra⟩,lc_tup (K:=K) (a:=ra) (xs:=IL (rgL ps.length)) (fun i zs H5=>Same H4 H5/\i<=ps.length/\PairsV H5 zs ((owT R2 ps.length).take i)) ⟨Same.refl _,Nat.zero_le _,PairsV.nil⟩ (small60' (by rw[ζ3];omega)) (fun i zs H5 _ ⟨e,hi,h⟩=>⟨SqT.of (e _ _ hra),by rw[h.1,List.length_take];omega⟩) ?_ ?_⟩
  ·rintro i v zs H5 hi ⟨s5,hil,hZ⟩ S hSS
   obtain⟨z,rfl,hz⟩:=il_get hi
   have hil':i<ps.length:=by have:=(List.getElem?_eq_some_iff.mp hz).1;rw[rgl]at this;exact this
   obtain rfl:(i:Int)=z:=by rw[rgL_get hil']at hz;exact Option.some.inj hz
   refine nm ?_
   have d5:=s5 _ _ d4
   have v0:=rnR_val (hR.all hV (x:=2 * (i:Int)) (by omega))
   have v1:=rnR_val (hR.all hV (x:=2 * (i:Int)+1) (by omega))
   have G0:=DGet.k (k:=Sum.inl (2 * (i:Int))) d5
   rw[v0.1]at G0
   have G1:=DGet.k (k:=Sum.inl (2 * (i:Int)+1)) d5
   rw[v1.1]at G1
   refine⟨_,rfl,_,rfl,_,_,rfl,rfl,.inl ⟨by decide,by decide⟩,d,_,rfl,G0,_,rfl,_,rfl,_,_,rfl,rfl,.inl ⟨by decide,by decide⟩,_,_,rfl,rfl,d,_,rfl,G1,two,fun tt htt=>hSS _ _ ⟨s5.trans (same_at htt),hil',?_⟩⟩
   have e:(owT R2 ps.length)[i]?=some (rnR R2 (2 * (i:Int)),rnR R2 (2 * (i:Int)+1)):=by
    unfold owT
    rw[List.getElem?_map,List.getElem?_range hil']
    rfl
   rw[List.take_succ,e]
   exact(hZ.same (same_at htt)).snoc ⟨tt,rfl,ζ1⟩
  rintro zs H5 ⟨s5,_,hZ⟩ la hla
  have owl:(owT R2 ps.length).length=ps.length:=by unfold owT;rw[List.length_map,List.length_range]
  rw[ζ3,rgl,List.take_of_length_le (by omega)]at hZ
  have u6:=same_at (o:=.lst zs) hla
  have hla6:(upd H5 la (.lst zs)) la=some (.lst zs):=ζ1
  have hP6:=hZ.same u6
  have s16:=s13.trans (s4.trans (s5.trans u6))
  generalize upd H5 la (.lst zs)=H6 at *
  intro x dx2 nx ndx nex
  have t1:Same H6 (upd (upd H6 dx2 (.own x)) x (.ins t.A_Web dx2 [])):=same_new (same_at ndx) (by rw[upd_ne (Ne.symm nex)];exact nx)
  have inR:∀ p∈owT R2 ps.length,0<=p.1/\p.1<(R2.length:Int)/\0<=p.2/\p.2<(R2.length:Int):=fun p hp=>by
   obtain⟨k,hk,rfl⟩:=List.mem_map.mp hp
   have hk:=List.mem_range.mp hk
   have a0:=(rnR_val (hR.all hV (x:=2 * (k:Int)) (by omega))).2
   have a1:=(rnR_val (hR.all hV (x:=2 * (k:Int)+1) (by omega))).2
   exact⟨a0.1,a0.2,a1.1,a1.2⟩
  have eG:GoodW (R2.length:Int) (owT R2 ps.length)↔R2.length<=14:=by
   constructor
   ·intro g;have:=g.2.1;omega
   ·intro h
    refine⟨?_,by omega,by omega,inR⟩
    have:=hF.2
    rcases hR with ⟨_,rfl⟩ | ⟨p0,h'⟩
    ·show(1:Int)<=1;omega
    ·have:=h'.below 0 (by omega) (by omega)
     cases R2 with
     | nil=>cases this
     | cons a b=>rw[List.length_cons];omega
  rw[hyl]
  refine⟨x,dx2,(R2.length:Int),la,false,zs,owT R2 ps.length,rfl,ζ1,fun o=>?_,hP6.same t1,fun p hp=>by have:=inR p hp;omega,fun g H7 hV7 k7=>⟨rfl,?_⟩,fun ng=>?_⟩
  ·exact SqL.of (by rw[upd_ne (ne_of_none hla6 nx),upd_ne (ne_of_none hla6 nx),upd_ne (ne_of_none hla6 ndx)];exact hla6)
  ·exact q1 hF (eG.mp g) x H7 (s16.trans fun b o e=>k7 b o (t1 b o e) (ne_of_none e nx)) hV7.web
  ·exact q2 hF (fun h=>ng (eG.mpr h)) _ (s16.trans t1)
end
set_option maxHeartbeats 4000000
def spζj(K:PySem.W.Frag)(C:Addr):Sp:=fun vs H Q _=>∃(w a:Addr) (n:Int) (ps:List (Int × Int)) (kd:Bool) (T:List Int),vs=[.ref w,.ref a]/\WebAt C H w n ps/\ps.length<=1000/\SqK kd K H a (IL T) /\
 ∀(D:List Int),D.Pairwise (· < ·)->(∀ z,z∈D↔(0<=z/\z<(ps.length:Int))/\z∉T)->∀(r:Addr) (H':Hp),Same H H'->H' r=some (.tup (IL D))->Q (.ref r) H'
section
variable{P:Program}{w:World}{K:PySem.W.Frag}{mg:Str->Option Value}{base:Heap}{t:Adr}
theorem scζj:FnScope ["web","ties"] ["web","ties"] (ζ6 sζj):=⟨rfl,rfl,rfl,by decide +kernel,rfl,by decide +kernel,by decide +kernel⟩
theorem okζj (T:Txt K mg t):FnOk P w K mg base CX0 1 t.aζj t.dζj ["web","ties"] (spζj K t.A_Web):=by
 refine T.fζj.ok scζj (fun vs H Q E h=>?_) (fun cdv A outer s H vs Q E hr h=>?_)
 ·obtain⟨w,a,n,ps,kd,T,rfl,_⟩:=h
  rfl
 ·obtain⟨w,a,n,ps,kd,T',rfl,hW,hl,hA,q⟩:=h
  refine⟨_,(ζ5 (ps_ret (pe_callTy (call_tupleK K) (by rfl) T.n_tuple Boot.«tuple» (ζ0 (pe_lc rfl (sc0:=ζ6 sζj) (N0:=["web","ties"]) (N':=["tie","ties"]) (o:=1) (fr:=[1]) ⟨rfl,by decide +kernel,by decide +kernel,by decide +kernel,rfl,by decide +kernel⟩ (pi_range1 rfl T.n_range (ζ0 (pe_callB (call_lenK K) (by rfl) T.n_len Boot.«len» (ζ0 (pe_fldK K (pv 0) rfl) ζ4)) ζ4)) (own_name (by decide)) (fun _ _ _ _=>(pg_name (i:=0) (show List.Nodup (["tie","ties"]:List Str) by decide +kernel) rfl (Or.inl rfl))) (fun _ _ _ _=>(pts_one (pt_cmpR (op_notInK K) (pv 0) (pv 1) rfl))) (fun _ _ _ _=>(pv 0))) ζ4)))),?_⟩
  obtain⟨dx,tl,xs,h1,h2,h3⟩:=hW
  have hlx:=h3.1
  refine⟨_,rfl,w,_,dx,_,_,rfl,h1,T.cl_Web,T.n_Web_ties,wf_ties _ _,tl,xs,rfl,.inl (SqL.of h2),_,rfl,by omega,by omega,lc_range (lo:=0) (n:=(xs.length:Int).toNat) (fun j ys H3=>H3=H/\∃ D:List Int,ys=IL D/\D.length<=j/\D.Pairwise (· < ·)/\∀ z,z∈D↔(0<=z/\z<(j:Int))/\z∉T') ⟨rfl,[],rfl,Nat.le_refl _,.nil,fun z=>⟨fun h=>(by cases h),fun h=>(by omega)⟩⟩ (small60' (by omega)) (fun j ys H3 _ ⟨_,D,e,hl,_⟩=>by rw[e,ζ3];exact hl) ?_ ?_⟩
  ·rintro j ys H3 hj ⟨rfl,D,rfl,hDl,hp,hm⟩ S hSS
   have lt:∀ z∈D,z<(j:Int):=fun z hz=>((hm z).mp hz).1.2
   refine nm ?_
   refine⟨_,rfl,_,rfl,a,_,rfl,hA.or,rfl,flat_ints _,_,rfl,?_⟩
   rw[inV_ints,Int.zero_add]
   refine itn2 (fun hin=>?_) (fun hin=>?_)
   ·refine hSS _ _ ⟨rfl,D,rfl,by omega,hp,fun z=>?_⟩
    rw[hm z]
    refine⟨fun h=>⟨by omega,h.2⟩,fun h=>⟨⟨h.1.1,?_⟩,h.2⟩⟩
    by_cases e:z=(j:Int)
    ·exact absurd (e ▸ hin) h.2
    ·omega
   ·refine⟨_,rfl,hSS _ _ ⟨rfl,D++[(j:Int)],?_,by rw[List.length_append];exact Nat.succ_le_succ hDl,?_,fun z=>?_⟩⟩
    ·rw[il_snoc]
    ·exact List.pairwise_append.mpr ⟨hp,List.pairwise_singleton _ _,fun a ha b hb=>by rw[List.mem_singleton.mp hb];exact lt a ha⟩
    ·rw[List.mem_append,List.mem_singleton,hm z]
     constructor
     ·rintro(⟨f1,f2⟩ | h)
      ·exact⟨by omega,f2⟩
      ·rw[h]
       exact⟨by omega,hin⟩
     ·rintro⟨f1,f2⟩
      by_cases e:z=(j:Int)
      ·exact .inr e
      ·exact .inl ⟨by omega,f2⟩
  rintro ys H3 ⟨rfl,D,rfl,hDl,hp,hm⟩ la hla
  rw[show(((xs.length:Int).toNat:Nat):Int)=(ps.length:Int) by omega]at hm
  refine⟨la,_,rfl,.inl ⟨SqL.of ζ1,fun tp htp=>?_⟩⟩
  exact q D hp hm tp _ ((same_at hla).trans (same_at htp)) ζ1
end
set_option maxHeartbeats 4000000
def spζk(K:PySem.W.Frag)(C:Addr):Sp:=fun vs H Q _=>∃(w a:Addr) (n:Int) (ps:List (Int × Int)) (kd:Bool) (ns:List Int),vs=[.ref w,.ref a]/\WebAt C H w n ps/\GoodW n ps/\SqK kd K H a (IL ns) /\
 ∀(b:Bool) (H':Hp),Same H H'->(b=true↔IsTree n ps ns)->Q (.bl b) H'
section
variable{P:Program}{w:World}{K:PySem.W.Frag}{mg:Str->Option Value}{base:Heap}{t:Adr}
theorem scζk:FnScope ["web","ties"] ["web","ties"] (ζ6 sζk):=⟨rfl,rfl,rfl,by decide +kernel,rfl,by decide +kernel,by decide +kernel⟩
theorem okζk (T:Txt K mg t):FnOk P w K mg base CX0 6 t.aζk t.dζk ["web","ties"] (spζk K t.A_Web):=by
 refine T.fζk.ok scζk (fun vs H Q E h=>?_) (fun cdv A outer s H vs Q E hr h=>?_)
 ·obtain⟨w,a,n,ps,kd,ns,rfl,_⟩:=h
  rfl
 ·obtain⟨w,a,n,ps,kd,ns,rfl,hW,hG,hS,q⟩:=h
  refine⟨_,(ζ5 (ps_ret (pe_and (pe_call (okζ4 T) (hr.mono (by decide)) rfl T.mζ4 T.fζ4.kp T.bζ4 .nil pass0 (ζ0 (pv 0) (ζ0 (pv 1) ζ4))) (pe_and (pe_cmpR op_eq (pe_callB (call_lenK K) (by rfl) T.n_len Boot.«len» (ζ0 (pv 1) ζ4)) (pe_op op_sub (pe_fldK K (pv 0) rfl) pe_int) (nomark _)) (pe_one (pe_call (okζ9 T) (hr.mono (by decide)) rfl T.mζ9 T.fζ9.kp T.bζ9 .nil pass0 (ζ0 (pv 0) (ζ0 (pv 1) ζ4)))))))),?_⟩
  refine⟨_,rfl,_,rfl,w,a,n,ps,kd,ns,rfl,hW,hS,fun b hb=>⟨b,rfl,?_⟩⟩
  refine itb (fun e=>?_) (fun e=>?_)
  ·have hI:=hb.mp e
   obtain⟨dx,tl,xs,h1,h2,h3⟩:=id hW
   refine⟨_,rfl,a,_,rfl,hS.or,_,rfl,w,_,dx,_,_,rfl,h1,T.cl_Web,T.n_Web_places,wf_places _ _,_,_,rfl,rfl,rfl,_,rfl,?_⟩
   rw[ζ3,dec_int]
   refine itd2 (fun hl=>?_) (fun hl=>?_)
   ·refine⟨_,rfl,_,rfl,w,a,n,ps,kd,ns,rfl,hW,hG,hS,hI,fun b2 H' s hb2=>q b2 H' s ?_⟩
    rw[hb2,grp_conn (by have:=hG.1;omega) (ends_in hG hI.all)]
    exact⟨fun z=>⟨hI,hl,z⟩,fun z=>z.2.2⟩
   ·exact q false H (Same.refl H) ⟨fun z=>(nomatch z),fun z=>absurd z.2.1 hl⟩
  ·exact q false H (Same.refl H) ⟨fun z=>(nomatch z),fun z=>by rw[hb.mpr z.1]at e;cases e⟩
end
set_option maxHeartbeats 4000000
def spζl(K:PySem.W.Frag)(C B:Addr):Sp:=fun vs H Q E=>∃(w a:Addr) (n:Int) (ps:List (Int × Int)) (kd:Bool) (ns:List Int),vs=[.ref w,.ref a]/\WebAt C H w n ps/\GoodW n ps/\SqK kd K H a (IL ns) /\
 (IsTree n ps ns->∀ H':Hp,Same H H'->Q .non H')/\(¬ IsTree n ps ns->∀ H':Hp,Same H H'->E (.ref B) none H')
section
variable{P:Program}{w:World}{K:PySem.W.Frag}{mg:Str->Option Value}{base:Heap}{t:Adr}
theorem scζl:FnScope ["web","tree"] ["web","tree"] (ζ6 sζl):=⟨rfl,rfl,rfl,by decide +kernel,rfl,by decide +kernel,by decide +kernel⟩
theorem okζl (T:Txt K mg t):FnOk P w K mg base (CXW P w) 7 t.aζl t.dζl ["web","tree"] (spζl K t.A_Web t.A_NoTree):=by
 refine T.fζl.okX scζl (fun vs H Q E h=>?_) (fun cdv A outer s H vs Q E hr h=>?_)
 ·obtain⟨w,a,n,ps,kd,ns,rfl,_⟩:=h
  rfl
 ·obtain⟨w,a,n,ps,kd,ns,rfl,hW,hG,hS,q,qe⟩:=h
  refine⟨_,(ζ5 (ps_if (pt_not (pt_val (pe_call (okζk T) (hr.mono (by decide)) rfl T.mζk T.fζk.kp T.bζk .nil pass0 (ζ0 (pv 0) (ζ0 (pv 1) ζ4)))))
   (ζ5 (ps_raise T.x_NoTree T.c_NoTree (ζ0 pe_str ζ4)))
   pss_nil)),?_⟩
  refine⟨_,rfl,_,rfl,w,a,n,ps,kd,ns,rfl,hW,hG,hS,fun b H' s hb=>⟨_,rfl,?_⟩⟩
  refine itnb (fun z=>?_) (fun z=>?_)
  ·exact q (hb.mp z) H' s
  ·exact⟨by show 1<=sizeLine;decide,qe (fun g=>by rw[hb.mpr g]at z;cases z) H' s⟩
end
set_option maxHeartbeats 4000000
def spζm(K:PySem.W.Frag)(C B:Addr):Sp:=fun vs H Q E=>∃(w:Addr) (n:Int) (ps:List (Int × Int)),vs=[.ref w]/\WebAt C H w n ps/\GoodW n ps /\
 (Joined n ps->∀ H':Hp,Same H H'->Q .non H')/\(¬ Joined n ps->∀ H':Hp,Same H H'->E (.ref B) none H')
section
variable{P:Program}{w:World}{K:PySem.W.Frag}{mg:Str->Option Value}{base:Heap}{t:Adr}
theorem scζm:FnScope ["web"] ["web"] (ζ6 sζm):=⟨rfl,rfl,rfl,by decide +kernel,rfl,by decide +kernel,by decide +kernel⟩
theorem okζm (T:Txt K mg t):FnOk P w K mg base (CXW P w) 6 t.aζm t.dζm ["web"] (spζm K t.A_Web t.A_Parted):=by
 refine T.fζm.okX scζm (fun vs H Q E h=>?_) (fun cdv A outer s H vs Q E hr h=>?_)
 ·obtain⟨w,n,ps,rfl,_⟩:=h
  rfl
 ·obtain⟨w,n,ps,rfl,hW,hG,q,qe⟩:=h
  refine⟨_,(ζ5 (ps_if (pt_not (pt_val (pe_call (okζ9 T) (hr.mono (by decide)) rfl T.mζ9 T.fζ9.kp T.bζ9 .nil pass0 (ζ0 (pv 0) (ζ0 (pe_call (okζ3 T) (hr.mono (by decide)) rfl T.mζ3 T.fζ3.kp T.bζ3 .nil pass0 (ζ0 (pv 0) ζ4)) ζ4)))))
   (ζ5 (ps_raise T.x_Parted T.c_Parted (ζ0 pe_str ζ4)))
   pss_nil)),?_⟩
  refine⟨_,rfl,_,rfl,w,n,ps,rfl,hW,by have:=hG.2.2.1;omega,fun r H1 s1 hr0 hr1=>?_⟩
  refine⟨w,r,n,ps,true,rgL ps.length,rfl,hW.same s1,hG,SqT.of hr1,rgL_set _,fun b H2 s2 hb=>⟨_,rfl,?_⟩⟩
  rw[grp_conn (by have:=hG.1;omega) (ends_in hG (rgL_set _).all)]at hb
  refine itnb (fun z=>?_) (fun z=>?_)
  ·exact q (hb.mp z) H2 (s1.trans s2)
  ·exact⟨by show 1<=sizeLine;decide,qe (fun g=>by rw[hb.mpr g]at z;cases z) H2 (s1.trans s2)⟩
end
set_option maxHeartbeats 4000000
def spζn(K:PySem.W.Frag)(C:Addr):Sp:=fun vs H Q _=>∃(w a b:Addr) (n:Int) (ps:List (Int × Int)) (ka kb:Bool) (ns os:List Int),vs=[.ref w,.ref a,.ref b]/\WebAt C H w n ps/\GoodW n ps/\SqK ka K H a (IL ns)/\SqK kb K H b (IL os)/\ns.length<=1000/\os.length<=1000/\(∀ z∈ns++os,0<=z/\z<(ps.length:Int)) /\
 (((grw n.toNat ps (ns++os)).take ns.length≠ns\/((grw n.toNat ps (ns++os)).length:Int)<n - 1)->∀ H':Hp,Same H H'->Q .non H') /\
 ((grw n.toNat ps (ns++os)).take ns.length=ns->¬ ((grw n.toNat ps (ns++os)).length:Int)<n - 1->∀(r:Addr) (ms:List Int) (H':Hp),ms.Perm (grw n.toNat ps (ns++os))->ms.Pairwise (·<=·)->Same H H'->H r=none->H' r=some (.tup (IL ms))->Q (.ref r) H')
section
variable{P:Program}{w:World}{K:PySem.W.Frag}{mg:Str->Option Value}{base:Heap}{t:Adr}
theorem scζn:FnScope ["web","inside","order","marks","grown","tie","ends"] ["web","inside","order"] (ζ6 sζn):=⟨rfl,rfl,rfl,by decide +kernel,rfl,by decide +kernel,by decide +kernel⟩
theorem okζn (T:Txt K mg t):FnOk P w K mg base CX0 3 t.aζn t.dζn ["web","inside","order"] (spζn K t.A_Web):=by
 refine T.fζn.ok scζn (fun vs H Q E h=>?_) (fun cdv A outer s H vs Q E hr h=>?_)
 ·obtain⟨w,a,b,n,ps,ka,kb,ns,os,rfl,_⟩:=h
  rfl
 ·obtain⟨w,a,b,n,ps,ka,kb,ns,os,rfl,hW,hG,hS,hS2,hnl,hol,hI,q0,q1⟩:=h
  refine⟨_,(ζ2 (ps_set (i:=3) scζn.nd rfl (Or.inl rfl) (pe_call (okζ7 T) (hr.mono (by decide)) rfl T.mζ7 T.fζ7.kp T.bζ7 .nil pass0 (ζ0 (pv 0) (ζ0 (pe_tup ζ4) ζ4))))
   (ζ2 (ps_set (i:=4) scζn.nd rfl (Or.inl rfl) (pe_lst ζ4))
   (ζ2 (ps_for PassesOwn.never rfl (pi_listK K (pe_op op_cat (pe_callTy (call_listK K) (by rfl) T.n_list Boot.«list» (ζ0 (pv 1) ζ4)) (pe_callTy (call_listK K) (by rfl) T.n_list Boot.«list» (ζ0 (pv 2) ζ4)))) (pg_name (i:=5) scζn.nd rfl (Or.inl rfl))
   (ζ2 (ps_set (i:=6) scζn.nd rfl (Or.inl rfl) (pe_ix (ix_listK K) (pe_fldK K (pv 0) rfl) (pv 5) (fun _ _=>rfl)))
   (ζ5 (ps_if (pt_cmpR op_ne (pe_ix (ix_listK K) (pv 3) (pe_ix (ix_tupK K) (pv 6) pe_int (fun _ _=>rfl)) (fun _ _=>rfl)) (pe_ix (ix_listK K) (pv 3) (pe_ix (ix_tupK K) (pv 6) pe_int (fun _ _=>rfl)) (fun _ _=>rfl)) (nomark _))
   (ζ2 (ps_set (i:=3) scζn.nd rfl (Or.inl rfl) (pe_call (okζ6 T) (hr.mono (by decide)) rfl T.mζ6 T.fζ6.kp T.bζ6 .nil pass0 (ζ0 (pv 0) (ζ0 (pv 3) (ζ0 (pe_tup (ζ0 (pv 5) ζ4)) ζ4)))))
   (ζ5 (ps_expr (pe_bmK K PySem.F.plainAttrs_list PySem.F.slot_list_append PySem.F.type_list_append mt_append (pv 4) (ζ0 (pv 5) ζ4)))))
   pss_nil))))
   (ζ2 (ps_if (PW.pt (pw_or (pt_cmpR (op_neDK K (hu8 hr)) (pe_slice (sl_listK K) (pv 4) po_none (po_some (pe_callB (call_lenK K) (by rfl) T.n_len Boot.«len» (ζ0 (pv 1) ζ4)))) (pe_callTy (call_listK K) (by rfl) T.n_list Boot.«list» (ζ0 (pv 1) ζ4)) (nomark _)) (pw_or1 (pt_cmpR op_lt (pe_callB (call_lenK K) (by rfl) T.n_len Boot.«len» (ζ0 (pv 4) ζ4)) (pe_op op_sub (pe_fldK K (pv 0) rfl) pe_int) (nomark _)))))
   (ζ5 (ps_ret pe_non))
   pss_nil)
   (ζ5 (ps_ret (pe_callTy (call_tupleK K) (by rfl) T.n_tuple Boot.«tuple» (ζ0 (pe_callB (call_sortedK K) (by rfl) T.n_sorted Boot.«sorted» (ζ0 (pv 4) ζ4)) ζ4)))))))),?_⟩
  obtain⟨g1,g2,g3,g4⟩:=id hG
  have one:1<=sizeLine:=by decide
  refine⟨_,rfl,Nat.zero_le _,fun r0 hr0=>?_⟩
  have s0:=same_at (o:=.tup []) hr0
  refine⟨w,r0,n,ps,[],rfl,hW.same s0,hG,SqT.of ζ1,fun _ e=>(nomatch e),fun m H1 s1 hm0 hm1=>?_⟩
  have s01:=s0.trans s1
  have hmf:=s0.free hm0
  refine⟨Nat.zero_le _,fun gl hgl=>?_⟩
  have s2:=same_at (o:=.lst []) hgl
  have s02:=s01.trans s2
  have hgf:=s01.free hgl
  refine⟨_,rfl,a,_,rfl,(hS.same s02).or,fun l1 hl1=>?_⟩
  have s3:=same_at (o:=.lst (IL ns)) hl1
  have s03:=s02.trans s3
  refine⟨_,rfl,b,_,rfl,(hS2.same s03).or,fun l2 hl2=>?_⟩
  have s4:=same_at (o:=.lst (IL os)) hl2
  have s04:=s03.trans s4
  refine⟨l1,l2,_,_,rfl,rfl,s4 _ _ ζ1,ζ1,small60 (by rw[ζ3,ζ3];omega),fun cl hcl=>?_⟩
  have s5:=same_at (o:=.lst (IL ns++IL os)) hcl
  have s05:=s04.trans s5
  have eI:IL ns++IL os=IL (ns++os):=(il_append _ _).symm
  have hgl5:=s5 _ _ (s4 _ _ (s3 _ _ (ζ1 (H:=H1) (a:=gl) (o:=.lst []))))
  have hm5:=s5 _ _ (s4 _ _ (s3 _ _ (s2 _ _ hm1)))
  have hcl5:=ζ1 (H:=upd (upd (upd H1 gl (.lst [])) l1 (.lst (IL ns))) l2 (.lst (IL os))) (a:=cl) (o:=.lst (IL ns++IL os))
  have ncg:cl≠gl:=fun e=>by rw[e]at hcl;exact absurd ((s4 _ _ (s3 _ _ (ζ1 (H:=H1) (a:=gl) (o:=.lst [])))).symm.trans hcl) (by simp)
  have nmg:m≠gl:=fun e=>by rw[e]at hm1;exact absurd (hm1.symm.trans hgl) (by simp)
  rw[eI]at s5 s05 hgl5 hm5 hcl5 ⊢
  generalize upd (upd (upd (upd H1 gl (.lst [])) l1 (.lst (IL ns))) l2 (.lst (IL os))) cl (.lst (IL (ns++os)))=H5 at *
  refine⟨cl,rfl,⟨_,SqL.of hcl5⟩,for_list (K:=K) (a:=cl) (xs:=IL (ns++os)) (fun i σ H2=>∃(mc:Addr) (v5 v6:Option V),σ=[some (.ref w),some (.ref a),some (.ref b),some (.ref mc),some (.ref gl),v5,v6]/\Same H H2/\mc≠gl /\
    H2 cl=some (.lst (IL (ns++os)))/\H2 mc=some (.lst (IL (pms n.toNat (endsOf ps (grw n.toNat ps ((ns++os).take i))))))/\H2 gl=some (.lst (IL (grw n.toNat ps ((ns++os).take i)))))
   ⟨m,none,none,rfl,s05,nmg,hcl5,hm5,hgl5⟩ (fun i σ H2 _ ⟨_,_,_,_,_,_,e,_⟩=>SqL.of e) ?_ ?_⟩
  ·rintro i x σ H2 hi ⟨mc,v5,v6,rfl,s2,hne,hc2,hm2,hg2⟩
   obtain⟨z,rfl,hz⟩:=il_get hi
   obtain⟨z0,z1⟩:=hI z (List.mem_of_getElem? hz)
   have hIt:∀ y∈(ns++os).take i,0<=y/\y<(ps.length:Int):=fun y hy=>hI y (List.mem_of_mem_take hy)
   have est:(ns++os).take (i+1)=(ns++os).take i++[z]:=by rw[List.take_succ,hz];rfl
   have eG:grw n.toNat ps ((ns++os).take (i+1))=gst n.toNat ps (grw n.toNat ps ((ns++os).take i)) z:=by rw[est,grw_snoc]
   have hin:=grw_in hG hIt
   have hgl14:=grw_len hG hIt
   generalize grw n.toNat ps ((ns++os).take i)=G at *
   obtain⟨dx,tl,xs,h1,h2,h3⟩:=hW.same s2
   obtain⟨p,hp⟩:∃ p,ps[z.toNat]?=some p:=⟨_,List.getElem?_eq_getElem (by omega)⟩
   obtain⟨v,hv,tt,rfl,htt⟩:=h3.2 z.toNat p hp
   obtain⟨e1,e2,e3,e4⟩:=g4 p (List.mem_of_getElem? hp)
   have ed:endOf ps z=(p.1.toNat,p.2.toNat):=by unfold endOf;rw[getD_of hp]
   have hl:(pms n.toNat (endsOf ps G)).length=n.toNat:=pms_length _ _
   have iA:atI (IL (pms n.toNat (endsOf ps G))) p.1=some (.int (mk (pms n.toNat (endsOf ps G)) p.1.toNat)):=atI_of (n:=p.1.toNat) (by omega) (il_at (mk_some (by omega)))
   have iB:atI (IL (pms n.toNat (endsOf ps G))) p.2=some (.int (mk (pms n.toNat (endsOf ps G)) p.2.toNat)):=atI_of (n:=p.2.toNat) (by omega) (il_at (mk_some (by omega)))
   have t0:atI ([.int p.1,.int p.2]:List V) 0=some (.int p.1):=rfl
   have t1:atI ([.int p.1,.int p.2]:List V) 1=some (.int p.2):=rfl
   have key:mk (pms n.toNat (endsOf ps G)) p.1.toNat=mk (pms n.toNat (endsOf ps G)) p.2.toNat↔mk (lms n.toNat (endsOf ps G)) (endOf ps z).1=mk (lms n.toNat (endsOf ps G)) (endOf ps z).2:=by
    rw[ed,pms_iff hin (by omega) (by omega),lms_iff hin (by omega) (by omega)]
   refine⟨_,rfl,w,_,dx,_,_,rfl,h1,T.cl_Web,T.n_Web_ties,wf_ties _ _,_,rfl,tl,xs,z,.ref tt,rfl,rfl,SqL.of h2,atI_of (n:=z.toNat) (by omega) hv,?_⟩
   refine⟨_,rfl,_,rfl,tt,_,0,_,rfl,rfl,SqT.of htt,t0,mc,_,p.1,_,rfl,rfl,SqL.of hm2,iA,_,rfl,_,rfl,tt,_,1,_,rfl,rfl,SqT.of htt,t1,mc,_,p.2,_,rfl,rfl,SqL.of hm2,iB,rfl,_,rfl,?_⟩
   rw[dec_int]
   refine itn2 (fun he=>?_) (fun he=>?_)
   ·refine⟨mc,_,_,rfl,s2,hne,hc2,?_,?_⟩
    ·rw[eG];unfold gst;rw[if_pos (key.mp he)];exact hm2
    ·rw[eG];unfold gst;rw[if_pos (key.mp he)];exact hg2
   ·have eG2:grw n.toNat ps ((ns++os).take (i+1))=G++[z]:=by rw[eG];unfold gst;rw[if_neg (fun e=>he (key.mpr e))]
    refine⟨_,rfl,_,rfl,_,rfl,one,fun p2 hp2=>?_⟩
    have s6:=same_at (o:=.tup [.int z]) hp2
    refine⟨w,mc,p2,n,ps,_,true,[z],rfl,(hW.same s2).same s6,hG,s6 _ _ hm2,hl,SqT.of ζ1,fun y hy=>by rw[List.mem_singleton.mp hy];exact⟨z0,z1⟩,fun m' H7 s7 hf hm7=>?_⟩
    have s67:=s6.trans s7
    have hg7:=s67 _ _ hg2
    have hc7:=s67 _ _ hc2
    have nm':m'≠gl:=by
     rcases hf with rfl | hf
     ·exact hne
     ·exact fun e=>absurd ((s6 _ _ hg2).symm.trans (e ▸ hf)) (by simp)
    refine⟨_,rfl,.inl ⟨rfl,_,SqL.of hg7⟩,_,rfl,gl,_,_,rfl,rfl,hg7,small60' (by rw[ζ3];omega),?_⟩
    refine⟨m',_,_,rfl,same_upd hgf (s2.trans s67),nm',?_,?_,?_⟩
    ·rw[upd_ne ncg];exact hc7
    ·rw[upd_ne nm',hm7,eG2,ends_snoc,pms_snoc]
     rfl
    ·rw[ζ1,eG2,il_snoc]
  ·rintro σ H2 ⟨mc,v5,v6,rfl,s2,hne,hc2,hm2,hg2⟩
   rw[ζ3,List.take_length]at hg2
   have hgl14:=grw_len hG hI
   generalize grw n.toNat ps (ns++os)=G at *
   refine⟨_,rfl,_,rfl,a,_,rfl,(hS.same s2).or,_,rfl,gl,_,rfl,SqL.of hg2,fun r1 hr1=>?_⟩
   have ec:cutV (IL G) none (some ((IL ns).length:Int))=IL (G.take ns.length):=by rw[cut_upto (by omega),Int.toNat_natCast,ζ3,il_take]
   rw[ec]
   have s3:=same_at (o:=.lst (IL (G.take ns.length))) hr1
   refine⟨_,rfl,a,_,rfl,(hS.same (s2.trans s3)).or,fun r2 hr2=>?_⟩
   have s4:=same_at (o:=.lst (IL ns)) hr2
   refine⟨1,_,r1,r2,rfl,rfl,by decide,eqd_ints (SqL.of (s4 _ _ ζ1)) (SqL.of ζ1),_,rfl,?_⟩
   have s24:=s2.trans (s3.trans s4)
   refine itn2 (fun he=>?_) (fun he=>?_)
   ·obtain⟨dx,tl,xs,h1,h2,h3⟩:=hW.same s24
    have hg4:=s4 _ _ (s3 _ _ hg2)
    refine⟨_,rfl,gl,_,rfl,.inl (SqL.of hg4),_,rfl,w,_,dx,_,_,rfl,h1,T.cl_Web,T.n_Web_places,wf_places _ _,_,_,rfl,rfl,_,_,rfl,rfl,_,rfl,?_⟩
    rw[ζ3]
    refine itd2 (fun hc=>?_) (fun hc=>?_)
    ·exact q0 (.inr hc) _ s24
    ·refine⟨_,rfl,gl,G,rfl,SqL.of hg4,by omega,fun ms hp1 hp2 l hl=>?_⟩
     have s5:=same_at (o:=.lst (IL ms)) hl
     refine⟨l,_,rfl,.inl ⟨SqL.of ζ1,fun r hr=>?_⟩⟩
     exact q1 he hc r ms _ hp1 hp2 ((s24.trans s5).trans (same_at hr)) ((s24.trans s5).free hr) ζ1
   ·refine iteT ?_
    exact q0 (.inl he) _ s24
end
set_option maxHeartbeats 4000000
def spζo(K:PySem.W.Frag)(C B:Addr):Sp:=fun vs H Q E=>∃(w:Addr) (n:Int) (ps:List (Int × Int)),vs=[.ref w]/\WebAt C H w n ps/\GoodW n ps /\
 (¬ ((grd n.toNat ps ps.length).length:Int)<n - 1->∀(r:Addr) (H':Hp),Same H H'->H' r=some (.tup (IL (grd n.toNat ps ps.length)))->Q (.ref r) H') /\
 (((grd n.toNat ps ps.length).length:Int)<n - 1->∀ H':Hp,Same H H'->E (.ref B) none H')
section
variable{P:Program}{w:World}{K:PySem.W.Frag}{mg:Str->Option Value}{base:Heap}{t:Adr}
theorem scζo:FnScope ["web"] ["web"] (ζ6 sζo):=⟨rfl,rfl,rfl,by decide +kernel,rfl,by decide +kernel,by decide +kernel⟩
theorem okζo (T:Txt K mg t):FnOk P w K mg base (CXW P w) 7 t.aζo t.dζo ["web"] (spζo K t.A_Web t.A_Parted):=by
 refine T.fζo.okX scζo (fun vs H Q E h=>?_) (fun cdv A outer s H vs Q E hr h=>?_)
 ·obtain⟨w,n,ps,rfl,_⟩:=h
  rfl
 ·obtain⟨w,n,ps,rfl,hW,hG,q,q1⟩:=h
  refine⟨_,(ζ2 (ps_expr (pe_call (okζm T) (hr.mono (by decide)) rfl T.mζm T.fζm.kp T.bζm .nil pxs (ζ0 (pv 0) ζ4)))
   (ζ5 (ps_ret (pe_call (okζn T) (hr.mono (by decide)) rfl T.mζn T.fζn.kp T.bζn .nil pass0 (ζ0 (pv 0) (ζ0 (pe_tup ζ4) (ζ0 (pe_call (okζ3 T) (hr.mono (by decide)) rfl T.mζ3 T.fζ3.kp T.bζ3 .nil pass0 (ζ0 (pv 0) ζ4)) ζ4))))))),?_⟩
  have hall:∀ z∈rgL ps.length,0<=z/\z<(ps.length:Int):=fun z hz=>rgL_mem.mp hz
  have eg:grw n.toNat ps (rgL ps.length)=grd n.toNat ps ps.length:=grw_range _ _ _
  have hj:=grd_joined hG
  refine⟨_,rfl,w,n,ps,rfl,hW,hG,fun hJ H1 s1=>?_,fun hJ H1 s1=>q1 (by rw[hj]at hJ;omega) H1 s1⟩
  have hf:=hj.mp hJ
  refine⟨_,rfl,Nat.zero_le _,fun r0 hr0=>?_⟩
  have s0:=same_at (o:=.tup []) hr0
  have s10:=s1.trans s0
  refine⟨_,rfl,w,n,ps,rfl,hW.same s10,by have:=hG.2.2.1;omega,fun r2 H2 s2 hr20 hr2=>?_⟩
  refine⟨w,r0,r2,n,ps,true,true,[],rgL ps.length,rfl,(hW.same s10).same s2,hG,SqT.of (s2 _ _ ζ1),SqT.of hr2,Nat.zero_le _,by rw[rgL_length];have:=hG.2.2.1;omega,hall,fun hx H3 s3=>?_,fun _ _ r3 ms H3 hp1 hp2 s3 hr30 hr3=>?_⟩
  ·rw[List.nil_append,eg]at hx
   rcases hx with hx | hx
   ·exact absurd rfl hx
   ·exact absurd hx hf
  ·rw[List.nil_append,eg]at hp1
   have e:ms=grd n.toNat ps ps.length:=sorted_uniq hp1 hp2 ((grd_asc _).imp fun h=>by omega)
   rw[e]at hr3
   exact q hf r3 H3 (s10.trans (s2.trans s3)) hr3
end
set_option maxHeartbeats 4000000
def spζp(K:PySem.W.Frag):Sp:=fun vs H Q _=>∃(a:Addr) (kd:Bool) (ns:List Int) (z:Int),vs=[.ref a,.int z]/\SqK kd K H a (IL ns)/\ns.length<=1000 /\
 ∀(r:Addr) (H':Hp),Same H H'->H r=none->H' r=some (.tup (IL (wo ns z)))->Q (.ref r) H'
section
variable{P:Program}{w:World}{K:PySem.W.Frag}{mg:Str->Option Value}{base:Heap}{t:Adr}
theorem scζp:FnScope ["ties","left_out"] ["ties","left_out"] (ζ6 sζp):=⟨rfl,rfl,rfl,by decide +kernel,rfl,by decide +kernel,by decide +kernel⟩
theorem okζp (T:Txt K mg t):FnOk P w K mg base CX0 1 t.aζp t.dζp ["ties","left_out"] (spζp K):=by
 refine T.fζp.ok scζp (fun vs H Q E h=>?_) (fun cdv A outer s H vs Q E hr h=>?_)
 ·obtain⟨a,kd,ns,z,rfl,_⟩:=h
  rfl
 ·obtain⟨a,kd,ns,z,rfl,hS,hn,q⟩:=h
  refine⟨_,(ζ5 (ps_ret (pe_callTy (call_tupleK K) (by rfl) T.n_tuple Boot.«tuple» (ζ0 (pe_lc rfl (sc0:=ζ6 sζp) (N0:=["ties","left_out"]) (N':=["tie","left_out"]) (o:=1) (fr:=[1]) ⟨rfl,by decide +kernel,by decide +kernel,by decide +kernel,rfl,by decide +kernel⟩ (pi_seqK K (pv 0)) (own_name (by decide)) (fun _ _ _ _=>(pg_name (i:=0) (show List.Nodup (["tie","left_out"]:List Str) by decide +kernel) rfl (Or.inl rfl))) (fun _ _ _ _=>(pts_one (pt_cmpR op_ne (pv 0) (pv 1) (nomark _)))) (fun _ _ _ _=>(pv 0))) ζ4)))),?_⟩
  refine⟨_,rfl,a,rfl,lc_seq (k:=kd) (K:=K) (xs:=IL ns) (fun i ys H2=>H2=H/\i<=ns.length/\ys=IL (wo (ns.take i) z)) ⟨rfl,Nat.zero_le _,rfl⟩ (small60' (by rw[ζ3];omega))
   (fun i ys H2 hi ⟨e,hi2,ey⟩=>⟨e ▸ hS,by rw[ey,ζ3];exact Nat.le_trans (wo_len _ _) (by rw[List.length_take];omega)⟩) ?_ ?_⟩
  ·rintro i x ys H2 hi ⟨rfl,hil,rfl⟩ S hSS
   obtain⟨y,rfl,hy⟩:=il_get hi
   have hil':i<ns.length:=(List.getElem?_eq_some_iff.mp hy).1
   refine nm ?_
   refine⟨_,rfl,_,rfl,rfl,_,rfl,?_⟩
   rw[dec_int]
   refine itn2 (fun he=>?_) (fun he=>?_)
   ·refine hSS _ _ ⟨rfl,hil',?_⟩
    rw[wo_take_succ hy,if_neg (by simpa using he),List.append_nil]
   ·refine⟨_,rfl,hSS _ _ ⟨rfl,hil',?_⟩⟩
    rw[wo_take_succ hy,if_pos he,il_snoc]
  ·rintro ys H2 ⟨rfl,_,rfl⟩ p hp
   rw[ζ3,List.take_length]
   refine⟨p,_,rfl,.inl ⟨SqL.of ζ1,fun r hr=>?_⟩⟩
   exact q r _ (same_new (same_at hp) hr) ((same_at hp).free hr) ζ1
end
set_option maxHeartbeats 4000000
def spζq(K:PySem.W.Frag)(C:Addr):Sp:=fun vs H Q _=>∃(w a:Addr) (n:Int) (ps:List (Int × Int)) (kd:Bool) (ns:List Int) (z:Int),vs=[.ref w,.ref a,.int z]/\WebAt C H w n ps/\GoodW n ps/\SqK kd K H a (IL ns)/\IsSet ps.length ns /\
 ∀(r:Addr) (H':Hp),Same H H'->H r=none->H' r=some (.tup (IL (unlike (lms n.toNat (endsOf ps (wo ns z))) ps ps.length)))->Q (.ref r) H'
section
variable{P:Program}{w:World}{K:PySem.W.Frag}{mg:Str->Option Value}{base:Heap}{t:Adr}
theorem scζq:FnScope ["web","tree","tie","marks"] ["web","tree","tie"] (ζ6 sζq):=⟨rfl,rfl,rfl,by decide +kernel,rfl,by decide +kernel,by decide +kernel⟩
theorem okζq (T:Txt K mg t):FnOk P w K mg base CX0 3 t.aζq t.dζq ["web","tree","tie"] (spζq K t.A_Web):=by
 refine T.fζq.ok scζq (fun vs H Q E h=>?_) (fun cdv A outer s H vs Q E hr h=>?_)
 ·obtain⟨w,a,n,ps,kd,ns,z,rfl,_⟩:=h
  rfl
 ·obtain⟨w,a,n,ps,kd,ns,z,rfl,hW,hG,hS,hI,q⟩:=h
  refine⟨_,(ζ2 (ps_set (i:=3) scζq.nd rfl (Or.inr rfl) (pe_call (okζ7 T) (hr.mono (by decide)) rfl T.mζ7 T.fζ7.kp T.bζ7 .nil pass0 (ζ0 (pv 0) (ζ0 (pe_call (okζp T) (hr.mono (by decide)) rfl T.mζp T.fζp.kp T.bζp .nil pass0 (ζ0 (pv 1) (ζ0 (pv 2) ζ4))) ζ4))))
   (ζ5 (ps_ret (pe_callTy (call_tupleK K) (by rfl) T.n_tuple Boot.«tuple» (ζ0 (pe_lc rfl (sc0:=ζ6 sζq) (N0:=["web","tree","tie","marks"]) (N':=["number","ends","marks"]) (o:=2) (fr:=[3]) ⟨rfl,by decide +kernel,by decide +kernel,by decide +kernel,rfl,by decide +kernel⟩ (pi_enumK K rfl T.n_enumerate (ζ0 (pe_fldK K (pv 0) rfl) ζ4)) (own_tup (own_cons (by decide) (own_cons (by decide) own_nil))) (fun _ _ _ _=>(pg_tupK (n:=2) K rfl (pgs_cons (pg_name (i:=0) (show List.Nodup (["number","ends","marks"]:List Str) by decide +kernel) rfl (Or.inl rfl)) (pgs_cons (pg_name (i:=1) (show List.Nodup (["number","ends","marks"]:List Str) by decide +kernel) rfl (Or.inl rfl)) pgs_nil)))) (fun _ _ _ _=>(pts_one (pt_cmpR op_ne (pe_ix (ix_listK K) (pv 2) (pe_ix (ix_tupK K) (pv 1) pe_int (fun _ _=>rfl)) (fun _ _=>rfl)) (pe_ix (ix_listK K) (pv 2) (pe_ix (ix_tupK K) (pv 1) pe_int (fun _ _=>rfl)) (fun _ _=>rfl)) (nomark _)))) (fun _ _ _ _=>(pv 0))) ζ4))))),?_⟩
  obtain⟨g1,g2,g3,g4⟩:=id hG
  have hln:=hI.len
  have hb:∀ y∈wo ns z,0<=y/\y<(ps.length:Int):=fun y hy=>hI.all y (wo_mem.mp hy).1
  refine⟨_,rfl,_,rfl,_,rfl,a,kd,ns,z,rfl,hS,by omega,fun r1 H1 s1 hr0 hr1=>?_⟩
  refine⟨w,r1,n,ps,wo ns z,rfl,hW.same s1,hG,SqT.of hr1,hb,fun m H2 s2 hm0 hm2=>?_⟩
  have hin:=ends_in hG hb
  have e0:=unlike_same (M:=pms n.toNat (endsOf ps (wo ns z))) hG (pms_length _ _) (same_pms hin)
  have hl:(pms n.toNat (endsOf ps (wo ns z))).length=n.toNat:=pms_length _ _
  rw[<- e0]at q
  generalize pms n.toNat (endsOf ps (wo ns z))=M at *
  have s12:=s1.trans s2
  obtain⟨dx,tl,xs,h1,h2,h3⟩:=hW.same s12
  have hlx:=h3.1
  refine⟨_,rfl,w,_,dx,_,_,rfl,h1,T.cl_Web,T.n_Web_ties,wf_ties _ _,tl,rfl,⟨_,SqL.of h2⟩,lc_enum (K:=K) (a:=tl) (xs:=xs) (fun i ys H3=>Same H2 H3/\i<=xs.length/\ys=IL (unlike M ps i)) ⟨Same.refl _,Nat.zero_le _,rfl⟩ (small60' (by omega))
   (fun i ys H3 _ ⟨e,_,ey⟩=>⟨SqL.of (e _ _ h2),by rw[ey,ζ3];exact unlike_len _ _ _⟩) ?_ ?_⟩
  ·rintro i x ys H3 pt hpt hi ⟨s3,hil,rfl⟩ S hSS
   obtain⟨p,hpi,tt,rfl,htt⟩:=h3.at hi
   obtain⟨e1,e2,e3,e4⟩:=g4 p (List.mem_of_getElem? hpi)
   have hil':i<xs.length:=(List.getElem?_eq_some_iff.mp hi).1
   have s4:Same H3 (upd H3 pt (.tup [.int i,.ref tt])):=same_at hpt
   have s34:=s3.trans s4
   have htt4:=s34 _ _ htt
   have hm4:=s34 _ _ hm2
   have ed:ps.getD i (0,0)=p:=getD_of hpi
   have t0:atI ([.int p.1,.int p.2]:List V) 0=some (.int p.1):=rfl
   have t1:atI ([.int p.1,.int p.2]:List V) 1=some (.int p.2):=rfl
   have iA:atI (IL M) p.1=some (.int (mk M p.1.toNat)):=atI_of (n:=p.1.toNat) (by omega) (il_at (mk_some (by omega)))
   have iB:atI (IL M) p.2=some (.int (mk M p.2.toNat)):=atI_of (n:=p.2.toNat) (by omega) (il_at (mk_some (by omega)))
   refine⟨pt,_,rfl,SqT.of ζ1,rfl,_,_,rfl,_,_,rfl,rfl,?_⟩
   refine⟨_,rfl,_,rfl,tt,_,0,_,rfl,rfl,SqT.of htt4,t0,m,_,p.1,_,rfl,rfl,SqL.of hm4,iA,_,rfl,_,rfl,tt,_,1,_,rfl,rfl,SqT.of htt4,t1,m,_,p.2,_,rfl,rfl,SqL.of hm4,iB,rfl,_,rfl,?_⟩
   rw[dec_int]
   refine itn2 (fun he=>?_) (fun he=>?_)
   ·refine hSS _ _ ⟨s34,hil',?_⟩
    rw[unlike_succ,ed,if_neg (by simpa using he),List.append_nil]
   ·refine⟨_,rfl,hSS _ _ ⟨s34,hil',?_⟩⟩
    rw[unlike_succ,ed,if_pos he,il_snoc]
  ·rintro ys H3 ⟨s3,_,rfl⟩ p hp
   rw[hlx]
   refine⟨p,_,rfl,.inl ⟨SqL.of ζ1,fun r hr=>?_⟩⟩
   exact q r _ (s12.trans (s3.trans (same_new (same_at hp) hr))) ((s12.trans (s3.trans (same_at hp))).free hr) ζ1
end
set_option maxHeartbeats 4000000
def spζr(K:PySem.W.Frag)(C B N:Addr):Sp:=fun vs H Q E=>∃(w a:Addr) (n:Int) (ps:List (Int × Int)) (kd:Bool) (ns:List Int) (z:Int),vs=[.ref w,.ref a,.int z]/\WebAt C H w n ps/\GoodW n ps/\SqK kd K H a (IL ns)/\-(10 ^ 70)<z/\z<10 ^ 70 /\
 (IsTree n ps ns->z∉ns->0<=z->z<(ps.length:Int)->∀(ms:List Int),ms.Perm (ringA n ps ns z ns++[z])->ms.Pairwise (·<=·)->∀(r:Addr) (H':Hp),Same H H'->H r=none->H' r=some (.tup (IL ms))->Q (.ref r) H') /\
 (IsTree n ps ns->(z∈ns\/¬ (0<=z/\z<(ps.length:Int)))->∀ H':Hp,Same H H'->E (.ref N) none H')/\(¬ IsTree n ps ns->∀ H':Hp,Same H H'->E (.ref B) none H')
section
variable{P:Program}{w:World}{K:PySem.W.Frag}{mg:Str->Option Value}{base:Heap}{t:Adr}
theorem scζr:FnScope ["web","tree","tie"] ["web","tree","tie"] (ζ6 sζr):=⟨rfl,rfl,rfl,by decide +kernel,rfl,by decide +kernel,by decide +kernel⟩
theorem okζr (T:Txt K mg t):FnOk P w K mg base (CXW P w) 8 t.aζr t.dζr ["web","tree","tie"] (spζr K t.A_Web t.A_NoTree t.A_NoTie):=by
 refine T.fζr.okX scζr (fun vs H Q E h=>?_) (fun cdv A outer s H vs Q E hr h=>?_)
 ·obtain⟨w,a,n,ps,kd,ns,z,rfl,_⟩:=h
  rfl
 ·obtain⟨w,a,n,ps,kd,ns,z,rfl,hW,hG,hS,z0,z1,q,q1,q2⟩:=h
  refine⟨_,(ζ2 (ps_expr (pe_call (okζl T) (hr.mono (by decide)) rfl T.mζl T.fζl.kp T.bζl .nil pxs (ζ0 (pv 0) (ζ0 (pv 1) ζ4))))
   (ζ2 (ps_if (PW.pt (pw_or (pt_cmpR (op_inK K) (pv 2) (pv 1) rfl) (pw_or1 (pt_not (pt_val (pe_call (okζ2 T) (hr.mono (by decide)) rfl T.mζ2 T.fζ2.kp T.bζ2 .nil pass0 (ζ0 (pv 0) (ζ0 (pv 2) ζ4))))))))
   (ζ5 (ps_raise T.x_NoTie T.c_NoTie (ζ0 (pe_fstr (pj_int (pv 2) (pj_str pj_nil))) ζ4)))
   pss_nil)
   (ζ5 (ps_ret (pe_callTy (call_tupleK K) (by rfl) T.n_tuple Boot.«tuple» (ζ0 (pe_callB (call_sortedK K) (by rfl) T.n_sorted Boot.«sorted» (ζ0 (pe_op op_cat (pe_lc rfl (sc0:=ζ6 sζr) (N0:=["web","tree","tie"]) (N':=["out","tie","web","tree"]) (o:=1) (fr:=[2,0,1]) ⟨rfl,by decide +kernel,by decide +kernel,by decide +kernel,rfl,by decide +kernel⟩ (pi_seqK K (pv 1)) (own_name (by decide)) (fun _ _ _ _=>(pg_name (i:=0) (show List.Nodup (["out","tie","web","tree"]:List Str) by decide +kernel) rfl (Or.inl rfl))) (fun _ _ _ _=>(pts_one (pt_cmpR (op_inK K) (pv 1) (pe_call (okζq T) (hr.mono (by decide)) rfl T.mζq T.fζq.kp T.bζq .nil pass0 (ζ0 (pv 2) (ζ0 (pv 3) (ζ0 (pv 0) ζ4)))) rfl))) (fun _ _ _ _=>(pv 0))) (pe_lst (ζ0 (pv 2) ζ4))) ζ4)) ζ4)))))),?_⟩
  refine⟨_,rfl,_,rfl,w,a,n,ps,kd,ns,rfl,hW,hG,hS,fun hT H1 s1=>?_,q2⟩
  have one:1<=sizeLine:=by decide
  have tl:ns.length<=20:=by have:=hT.2.1;have:=hG.2.1;omega
  refine⟨_,rfl,_,rfl,a,_,rfl,(hS.same s1).or,rfl,flat_ints _,_,rfl,?_⟩
  rw[inV_ints]
  refine itd2 (fun hc=>?_) (fun hc=>?_)
  ·exact iteT ⟨_,rfl,z,rfl,z0,z1,fun x=>⟨one,q1 hT (.inl hc) H1 s1⟩⟩
  ·refine⟨_,rfl,_,rfl,w,n,ps,z,rfl,hW.same s1,_,rfl,?_⟩
   refine itn2 (fun ht=>?_) (fun ht=>?_)
   ·refine⟨_,rfl,a,rfl,lc_seq (k:=kd) (K:=K) (xs:=IL ns) (fun i ys H2=>Same H1 H2/\i<=ns.length/\ys=IL (ringA n ps ns z (ns.take i))) ⟨Same.refl _,Nat.zero_le _,rfl⟩ (small60' (by rw[ζ3];omega))
     (fun i ys H2 hi ⟨e,hi2,ey⟩=>⟨(hS.same s1).same e,by rw[ey,ζ3];exact Nat.le_trans (ringA_len ..) (by rw[List.length_take];omega)⟩) ?_ ?_⟩
    ·rintro i x ys H2 hi ⟨s2,hil,rfl⟩ S hSS
     obtain⟨y,rfl,hy⟩:=il_get hi
     have hil':i<ns.length:=(List.getElem?_eq_some_iff.mp hy).1
     have s12:=s1.trans s2
     refine nm ?_
     refine⟨_,rfl,_,rfl,_,rfl,_,rfl,w,a,n,ps,kd,ns,y,rfl,hW.same s12,hG,hS.same s12,hT.1,fun r H3 s3 hr0 hr3=>?_⟩
     refine⟨r,_,rfl,.inr (SqT.of hr3),rfl,flat_ints _,_,rfl,?_⟩
     rw[inV_ints]
     refine itd2 (fun he=>?_) (fun he=>?_)
     ·refine⟨_,rfl,hSS _ _ ⟨s2.trans s3,hil',?_⟩⟩
      rw[ringA_succ hy,if_pos he,il_snoc]
     ·refine hSS _ _ ⟨s2.trans s3,hil',?_⟩
      rw[ringA_succ hy,if_neg he,List.append_nil]
    ·rintro ys H2 ⟨s2,_,rfl⟩ p hp
     rw[ζ3,List.take_length]
     have rl:=ringA_len n ps ns z ns
     refine⟨_,rfl,one,fun p2 hp2=>?_⟩
     refine cat_ok (l2:=[z]) (by rw[upd_ne (ne_of_none ζ1 hp2)];exact ζ1) ζ1 (by simp only [List.length_cons,List.length_nil];omega) fun p3 hp3=>?_
     refine⟨p3,_,rfl,SqL.of ζ1,by simp only [List.length_append,List.length_cons,List.length_nil];omega,fun ms hpm hpw p4 hp4=>?_⟩
     refine⟨p4,IL ms,rfl,.inl ⟨SqL.of ζ1,fun r hr=>?_⟩⟩
     have s6:=(s1.trans s2).trans (same_new (same_new (same_at (o:=.lst (IL (ringA n ps ns z ns))) hp) (o:=.lst (IL [z])) hp2) (o:=.lst (IL (ringA n ps ns z ns++[z]))) hp3)
     exact q hT hc ht.1 ht.2 ms hpm hpw r _ (s6.trans (same_new (same_at hp4) hr)) ((s6.trans (same_at hp4)).free hr) ζ1
   ·exact⟨_,rfl,z,rfl,z0,z1,fun x=>⟨one,q1 hT (.inr ht) H1 s1⟩⟩
end
set_option maxHeartbeats 4000000
def spζs(K:PySem.W.Frag)(C B:Addr):Sp:=fun vs H Q E=>∃(w a:Addr) (n:Int) (ps:List (Int × Int)) (kd:Bool) (ts:List Int),vs=[.ref w,.ref a]/\WebAt C H w n ps/\GoodW n ps/\SqK kd K H a (IL ts) /\
 (IsTree n ps ts->∀(D:List Int) (r:Addr) (H':Hp),D.Pairwise (· < ·)->(∀ z,z∈D↔(0<=z/\z<(ps.length:Int))/\z∉ts)->Same H H'->H' r=some (.tup (IL D))->Q (.ref r) H')/\(¬ IsTree n ps ts->∀ H':Hp,Same H H'->E (.ref B) none H')
section
variable{P:Program}{w:World}{K:PySem.W.Frag}{mg:Str->Option Value}{base:Heap}{t:Adr}
theorem scζs:FnScope ["web","tree"] ["web","tree"] (ζ6 sζs):=⟨rfl,rfl,rfl,by decide +kernel,rfl,by decide +kernel,by decide +kernel⟩
theorem okζs (T:Txt K mg t):FnOk P w K mg base (CXW P w) 8 t.aζs t.dζs ["web","tree"] (spζs K t.A_Web t.A_NoTree):=by
 refine T.fζs.okX scζs (fun vs H Q E h=>?_) (fun cdv A outer s H vs Q E hr h=>?_)
 ·obtain⟨w,a,n,ps,kd,ts,rfl,_⟩:=h
  rfl
 ·obtain⟨w,a,n,ps,kd,ts,rfl,hW,hG,hS,q,qe⟩:=h
  refine⟨_,(ζ2 (ps_expr (pe_call (okζl T) (hr.mono (by decide)) rfl T.mζl T.fζl.kp T.bζl .nil pxs (ζ0 (pv 0) (ζ0 (pv 1) ζ4))))
   (ζ5 (ps_ret (pe_call (okζj T) (hr.mono (by decide)) rfl T.mζj T.fζj.kp T.bζj .nil pass0 (ζ0 (pv 0) (ζ0 (pv 1) ζ4)))))),?_⟩
  have g3:=hG.2.2.1
  refine⟨_,rfl,_,rfl,w,a,n,ps,kd,ts,rfl,hW,hG,hS,fun hT H1 s1=>?_,qe⟩
  exact⟨_,rfl,_,rfl,w,a,n,ps,kd,ts,rfl,hW.same s1,by omega,hS.same s1,fun D hDa hD r H' s hr=>q hT D r H' hDa hD (s1.trans s) hr⟩
end
set_option maxHeartbeats 4000000
def spζt(K:PySem.W.Frag)(N:Addr):Sp:=fun vs H Q E=>∃(a:Addr) (kd:Bool) (xs:List V) (L:List (List Int)),vs=[.ref a]/\SqK kd K H a xs/\Bears (RowV K H) xs L /\
 ((∀ l∈L,l.length=L.length)->Q .non H)/\(¬ (∀ l∈L,l.length=L.length)->E (.ref N) none H)
section
variable{P:Program}{w:World}{K:PySem.W.Frag}{mg:Str->Option Value}{base:Heap}{t:Adr}
theorem scζt:FnScope ["table","row"] ["table"] (ζ6 sζt):=⟨rfl,rfl,rfl,by decide +kernel,rfl,by decide +kernel,by decide +kernel⟩
theorem okζt (T:Txt K mg t):FnOk P w K mg base (CXW P w) 1 t.aζt t.dζt ["table"] (spζt K t.A_NotSquare):=by
 refine T.fζt.okX scζt (fun vs H Q E h=>?_) (fun cdv A outer s H vs Q E hr h=>?_)
 ·obtain⟨a,kd,xs,L,rfl,_⟩:=h
  rfl
 ·obtain⟨a,kd,xs,L,rfl,hS,hB,q,qe⟩:=h
  refine⟨_,(ζ5 (ps_for PassesOwn.leaving rfl (pi_seqK K (pv 0)) (pg_name (i:=1) scζt.nd rfl (Or.inl rfl))
   (ζ5 (ps_if (pt_cmpR op_ne (pe_callB (call_lenK K) (by rfl) T.n_len Boot.«len» (ζ0 (pv 1) ζ4)) (pe_callB (call_lenK K) (by rfl) T.n_len Boot.«len» (ζ0 (pv 0) ζ4)) (nomark _))
   (ζ5 (ps_raise T.x_NotSquare T.c_NotSquare (ζ0 pe_str ζ4)))
   pss_nil)))),?_⟩
  have hxl:=hB.1
  refine⟨_,rfl,a,rfl,for_seq (K:=K) (k:=kd) (a:=a) (xs:=xs) (fun i σ H2=>∃ v1,σ=[some (.ref a),v1]/\H2=H/\∀ l∈L.take i,l.length=L.length) ⟨none,rfl,rfl,fun l h=>(by cases h)⟩ (fun i σ H2 _ ⟨_,_,e,_⟩=>e ▸ hS) ?_ ?_⟩
  ·rintro i v σ H2 hi ⟨v1,rfl,rfl,hall⟩
   obtain⟨l,hl,r,k,rfl,hr⟩:=hB.at hi
   refine nm ?_
   refine⟨_,rfl,r,_,rfl,hr.or,_,rfl,a,xs,rfl,hS.or,rfl,_,rfl,?_⟩
   rw[ζ3,dec_int]
   refine itn2 (fun e=>?_) (fun e=>?_)
   ·refine⟨_,rfl,rfl,fun m hm=>?_⟩
    rw[List.take_succ,hl]at hm
    rcases List.mem_append.mp hm with h | h
    ·exact hall m h
    ·have hm':m=l:=by simpa using h
     rw[hm']
     omega
   ·exact⟨by show 1<=sizeLine;decide,qe fun h=>e (by rw[h l (List.mem_of_getElem? hl),hxl])⟩
  ·rintro σ H2 ⟨v1,rfl,rfl,hall⟩
   rw[hxl,List.take_length]at hall
   exact q hall
end
set_option maxHeartbeats 4000000
def spζu(K:PySem.W.Frag):Sp:=fun vs H Q _=>∃(r p:Addr) (x y last:Int) (l q:List Int),vs=[.ref r,.ref p,.int last]/\SqL K H r (IL (x :: l))/\SqL K H p (IL (y :: q))/\l.length=q.length/\l.length<=1000/\last≠0/\last.natAbs<2 ^ 9000 /\
 (∀ z∈x :: l,z.natAbs<2 ^ 9000)/\(∀ z∈y :: q,z.natAbs<2 ^ 9000)/\∀(c:Addr) (H':Hp),Same H H'->H c=none->H' c=some (.lst (IL (tkn y q last (x :: l))))->Q (.ref c) H'
section
variable{P:Program}{w:World}{K:PySem.W.Frag}{mg:Str->Option Value}{base:Heap}{t:Adr}
theorem scζu:FnScope ["row","pivot","last"] ["row","pivot","last"] (ζ6 sζu):=⟨rfl,rfl,rfl,by decide +kernel,rfl,by decide +kernel,by decide +kernel⟩
theorem okζu (T:Txt K mg t):FnOk P w K mg base CX0 1 t.aζu t.dζu ["row","pivot","last"] (spζu K):=by
 refine T.fζu.ok scζu (fun vs H Q E h=>?_) (fun cdv A outer s H vs Q E hr h=>?_)
 ·obtain⟨r,p,x,y,last,l,q,rfl,_⟩:=h
  rfl
 ·obtain⟨r,p,x,y,last,l,q',rfl,hR,hP,hlq,hl,l0,l1,hx,hy,q⟩:=h
  refine⟨_,(ζ5 (ps_ret (pe_lc rfl (sc0:=ζ6 sζu) (N0:=["row","pivot","last"]) (N':=["own","other","pivot","row","last"]) (o:=2) (fr:=[1,0,2]) ⟨rfl,by decide +kernel,by decide +kernel,by decide +kernel,rfl,by decide +kernel⟩ (pi_zip K rfl T.n_zip (ζ0 (pe_slice (sl_listK K) (pv 0) (po_some pe_int) po_none) (ζ0 (pe_slice (sl_listK K) (pv 1) (po_some pe_int) po_none) ζ4))) (own_tup (own_cons (by decide) (own_cons (by decide) own_nil))) (fun _ _ _ _=>(pg_tupK (n:=2) K rfl (pgs_cons (pg_name (i:=0) (show List.Nodup (["own","other","pivot","row","last"]:List Str) by decide +kernel) rfl (Or.inl rfl)) (pgs_cons (pg_name (i:=1) (show List.Nodup (["own","other","pivot","row","last"]:List Str) by decide +kernel) rfl (Or.inl rfl)) pgs_nil)))) (fun _ _ _ _=>pts_nil) (fun _ _ _ _=>(pe_op op_fdivL (pe_op op_sub (pe_op op_mulL (pe_ix (ix_listK K) (pv 2) pe_int (fun _ _=>rfl)) (pv 0)) (pe_op op_mulL (pe_ix (ix_listK K) (pv 3) pe_int (fun _ _=>rfl)) (pv 1))) (pv 4)))))),?_⟩
  refine⟨_,rfl,_,rfl,r,_,rfl,hR,fun p1 hp1=>?_⟩
  rw[cut_tail]
  have s1:=same_at (o:=.lst (IL l)) hp1
  refine⟨_,rfl,_,rfl,p,_,rfl,s1.seq hP,fun p2 hp2=>?_⟩
  rw[cut_tail]
  have s2:=same_at (o:=.lst (IL q')) hp2
  have s12:=s1.trans s2
  have h1:=s2 _ _ (ζ1 (H:=H) (a:=p1) (o:=.lst (IL l)))
  have h2:(upd (upd H p1 (.lst (IL l))) p2 (.lst (IL q'))) p2=some (.lst (IL q')):=ζ1
  generalize upd (upd H p1 (.lst (IL l))) p2 (.lst (IL q'))=H2 at *
  refine⟨p1,p2,rfl,⟨_,_,SqL.of h1,SqL.of h2⟩,lc_zip (K:=K) (a:=p1) (b:=p2) (xs:=IL l) (ys:=IL q') (fun i zs H3=>Same H2 H3/\i<=l.length/\zs=IL ((tkn y q' last (x :: l)).take i)) ⟨Same.refl _,Nat.zero_le _,rfl⟩ (by rw[ζ3,ζ3];exact hlq) (small60' (by rw[ζ3];omega))
   (fun i zs H3 hi ⟨e,hi2,ez⟩=>⟨SqL.of (e _ _ h1),SqL.of (e _ _ h2),by rw[ez,ζ3,List.length_take];omega⟩) ?_ ?_⟩
  ·rintro i u v zs H3 pt hpt hu hv ⟨s3,hil,rfl⟩ S hSS
   obtain⟨own,rfl,ho⟩:=il_get hu
   obtain⟨oth,rfl,ht⟩:=il_get hv
   have hil':=(List.getElem?_eq_some_iff.mp ho).1
   have s4:=same_at (o:=.tup [.int own,.int oth]) hpt
   refine⟨pt,_,rfl,SqT.of ζ1,rfl,_,_,rfl,_,_,rfl,rfl,?_⟩
   have s34:=s12.trans (s3.trans s4)
   have a1:=hy y List.mem_cons_self
   have a2:=hx own (List.mem_cons_of_mem _ (List.mem_of_getElem? ho))
   have a3:=hx x List.mem_cons_self
   have a4:=hy oth (List.mem_cons_of_mem _ (List.mem_of_getElem? ht))
   refine⟨_,rfl,p,_,0,.int y,rfl,rfl,s34.seq hP,atI_of (n:=0) rfl rfl,_,rfl,_,_,rfl,rfl,⟨a1,a2⟩,_,rfl,r,_,0,.int x,rfl,rfl,s34.seq hR,atI_of (n:=0) rfl rfl,_,rfl,_,_,rfl,rfl,⟨a3,a4⟩,_,_,rfl,rfl,_,rfl,_,_,rfl,rfl,⟨l0,l1⟩,?_⟩
   refine hSS _ _ ⟨s3.trans s4,hil',?_⟩
   have e:(tkn y q' last (x :: l))[i]?=some ((y * own - x * oth).fdiv last):=by
    show(List.zipWith _ l q')[i]?=_
    rw[List.getElem?_zipWith,ho,ht]
    rfl
   rw[List.take_succ,e]
   exact(il_snoc _ _).symm
  ·rintro zs H3 ⟨s3,_,rfl⟩ c hc
   rw[ζ3,List.take_of_length_le (by rw[tkn_len (by rw[List.length_cons,hlq])];omega)]
   exact q c _ (s12.trans (s3.trans (same_at hc))) ((s12.trans s3).free hc) ζ1
end
set_option maxHeartbeats 4000000
def spζv(K:PySem.W.Frag):Sp:=fun vs H Q _=>∃(a:Addr) (ys:List V) (R:List (List Int)),vs=[.ref a]/\SqL K H a ys/\Bears (ListV H) ys R/\(∀ l∈R,0<l.length) /\
 (∀ H':Hp,Same H H'->(∀ i,i<R.length->fnL R i 0=0)->Q .non H')/\(∀(t:Nat) (H':Hp),Same H H'->t<R.length->fnL R t 0≠0->Q (.int t) H')
section
variable{P:Program}{w:World}{K:PySem.W.Frag}{mg:Str->Option Value}{base:Heap}{t:Adr}
theorem scζv:FnScope ["rows","at","row"] ["rows"] (ζ6 sζv):=⟨rfl,rfl,rfl,by decide +kernel,rfl,by decide +kernel,by decide +kernel⟩
theorem okζv (T:Txt K mg t):FnOk P w K mg base CX0 1 t.aζv t.dζv ["rows"] (spζv K):=by
 refine T.fζv.ok scζv (fun vs H Q E h=>?_) (fun cdv A outer s H vs Q E hr h=>?_)
 ·obtain⟨a,ys,R,rfl,_⟩:=h
  rfl
 ·obtain⟨a,ys,R,rfl,hS,hB,hp,q0,q1⟩:=h
  refine⟨_,(ζ2 (ps_for PassesOwn.never rfl (pi_enumK K rfl T.n_enumerate (ζ0 (pv 0) ζ4)) (pg_tupK (n:=2) K rfl (pgs_cons (pg_name (i:=1) scζv.nd rfl (Or.inl rfl)) (pgs_cons (pg_name (i:=2) scζv.nd rfl (Or.inl rfl)) pgs_nil)))
   (ζ5 (ps_if (pt_cmpR op_ne (pe_ix (ix_listK K) (pv 2) pe_int (fun _ _=>rfl)) pe_int (nomark _))
   (ζ5 (ps_ret (pv 1)))
   pss_nil)))
   (ζ5 (ps_ret pe_non))),?_⟩
  have hyl:=hB.1
  refine⟨_,rfl,a,rfl,⟨_,hS⟩,for_enum (K:=K) (a:=a) (xs:=ys) (fun i σ H2=>∃ v1 v2,σ=[some (.ref a),v1,v2]/\Same H H2/\∀ j,j<i->fnL R j 0=0) ⟨none,none,rfl,Same.refl _,fun j h=>absurd h (Nat.not_lt_zero _)⟩ (fun i σ H2 _ ⟨_,_,_,e,_⟩=>e.seq hS) ?_ ?_⟩
  ·rintro i v σ H2 pt hpt hi ⟨v1,v2,rfl,s2,hz⟩
   obtain⟨l,hl,r,rfl,hr⟩:=hB.at hi
   have hlp:=hp l (List.mem_of_getElem? hl)
   obtain⟨x,l',rfl⟩:∃ x l',l=x :: l':=by
    cases l with
    | nil=>exact absurd hlp (Nat.lt_irrefl 0)
    | cons x l'=>exact⟨x,l',rfl⟩
   have e0:fnL R i 0=x:=fnL_at hl rfl
   have s3:=s2.trans (same_at (o:=.tup [.int i,.ref r]) hpt)
   refine⟨pt,_,rfl,SqT.of ζ1,rfl,_,_,rfl,_,_,rfl,rfl,?_⟩
   generalize upd H2 pt (.tup [.int i,.ref r])=H3 at *
   refine⟨_,rfl,r,_,0,.int x,rfl,rfl,SqL.of (s3 _ _ hr),atI_of (n:=0) rfl rfl,rfl,_,rfl,?_⟩
   rw[dec_int]
   refine itn2 (fun e=>?_) (fun e=>?_)
   ·refine⟨_,_,rfl,s3,fun j hj=>?_⟩
    by_cases c:j=i
    ·rw[c,e0,e]
    ·exact hz j (by omega)
   ·exact⟨_,rfl,q1 i H3 s3 (by have:=(List.getElem?_eq_some_iff.mp hl).1;exact this) (by rw[e0];exact e)⟩
  ·rintro σ H2 ⟨v1,v2,rfl,s2,hz⟩
   exact q0 H2 s2 fun i hi=>hz i (by omega)
end
set_option maxHeartbeats 4000000
def spζw(K:PySem.W.Frag)(N:Addr):Sp:=fun vs H Q E=>∃(a:Addr) (kd:Bool) (xs:List V) (L:List (List Int)),vs=[.ref a]/\SqK kd K H a xs/\Bears (RowV K H) xs L/\L.length<=16/\(∀ i j,i<L.length->j<L.length->(fnL L i j).natAbs<=2 ^ 400) /\
 ((∀ l∈L,l.length=L.length)->∀ H':Hp,Same H H'->Q (.int (det L.length (fnL L))) H')/\(¬ (∀ l∈L,l.length=L.length)->∀ H':Hp,Same H H'->E (.ref N) none H')
theorem contS5{s rest:TS}{D:Ends}{σ:L2.St}{H:Hp}(P:L2.St->Hp->Prop)(h1:∀ σ' H',P σ' H'->rest D σ' H')(h2:∀ K:L2.St->Hp->Prop,(∀ σ' H',P σ' H'->K σ' H')->s { D with nx:=K } σ H):tSeq s rest D σ H:=h2 _ h1
section
variable{P:Program}{w:World}{K:PySem.W.Frag}{mg:Str->Option Value}{base:Heap}{t:Adr}
theorem scζw:FnScope ["table","rows","sign","last","at","pivot"] ["table"] (ζ6 sζw):=⟨rfl,rfl,rfl,by decide +kernel,rfl,by decide +kernel,by decide +kernel⟩
theorem okζw (T:Txt K mg t):FnOk P w K mg base (CXW P w) 2 t.aζw t.dζw ["table"] (spζw K t.A_NotSquare):=by
 refine T.fζw.okX scζw (fun vs H Q E h=>?_) (fun cdv A outer s H vs Q E hr h=>?_)
 ·obtain⟨a,kd,xs,L,rfl,_⟩:=h
  rfl
 ·obtain⟨a,kd,xs,L,rfl,hS,hB,hL16,hA0,q,qe⟩:=h
  refine⟨_,(ζ2 (ps_expr (pe_call (okζt T) (hr.mono (by decide)) rfl T.mζt T.fζt.kp T.bζt .nil pxs (ζ0 (pv 0) ζ4)))
   (ζ2 (ps_lc (i:=1) rfl scζw.nd rfl rfl (sc0:=ζ6 sζw) (N0:=["table","rows","sign","last","at","pivot"]) (N':=["row"]) (o:=1) (fr:=[]) ⟨rfl,by decide +kernel,by decide +kernel,by decide +kernel,rfl,by decide +kernel⟩ (pi_seqK K (pv 0)) (own_name (by decide)) (fun _ _ _ _=>(pg_name (i:=0) (show List.Nodup (["row"]:List Str) by decide +kernel) rfl (Or.inl rfl))) (fun _ _ _ _=>pts_nil) (fun _ _ _ _=>(pe_callTy (call_listK K) (by rfl) T.n_list Boot.«list» (ζ0 (pv 0) ζ4))))
   (ζ2 (ps_set (i:=2) scζw.nd rfl (Or.inl rfl) pe_int)
   (ζ2 (ps_set (i:=3) scζw.nd rfl (Or.inr rfl) pe_int)
   (ζ2 (ps_while PassesOwn.leaving (pt_cmpR op_gt (pe_callB (call_lenK K) (by rfl) T.n_len Boot.«len» (ζ0 (pv 1) ζ4)) pe_int (nomark _))
   (ζ2 (ps_set (i:=4) scζw.nd rfl (Or.inl rfl) (pe_call (okζv T) (hr.mono (by decide)) rfl T.mζv T.fζv.kp T.bζv .nil pass0 (ζ0 (pv 1) ζ4)))
   (ζ2 (ps_if (pt_cmpR op_isN (pv 4) pe_non (nomark _))
   (ζ5 (ps_ret pe_int))
   pss_nil)
   (ζ2 (ps_if (pt_cmpR op_eq (pe_op op_mod (pv 4) pe_int) pe_int (nomark _))
   (ζ5 (ps_set (i:=2) scζw.nd rfl (Or.inl rfl) (pe_un un_neg (pv 2))))
   pss_nil)
   (ζ2 (ps_set (i:=5) scζw.nd rfl (Or.inr rfl) (pe_bmK K PySem.F.plainAttrs_list PySem.F.slot_list_pop PySem.F.type_list_pop mt_popAt (pv 1) (ζ0 (pv 4) ζ4)))
   (ζ2 (ps_lc (i:=1) rfl scζw.nd rfl rfl (sc0:=ζ6 sζw) (N0:=["table","rows","sign","last","at","pivot"]) (N':=["row","pivot","last"]) (o:=1) (fr:=[5,3]) ⟨rfl,by decide +kernel,by decide +kernel,by decide +kernel,rfl,by decide +kernel⟩ (pi_listK K (pv 1)) (own_name (by decide)) (fun _ _ _ _=>(pg_name (i:=0) (show List.Nodup (["row","pivot","last"]:List Str) by decide +kernel) rfl (Or.inl rfl))) (fun _ _ _ _=>pts_nil) (fun _ _ _ _=>(pe_call (okζu T) (hr.mono (by decide)) rfl T.mζu T.fζu.kp T.bζu .nil pass0 (ζ0 (pv 0) (ζ0 (pv 1) (ζ0 (pv 2) ζ4))))))
   (ζ5 (ps_set (i:=3) scζw.nd rfl (Or.inr rfl) (pe_ix (ix_listK K) (pv 5) pe_int (fun _ _=>rfl))))))))))
   (ζ5 (ps_ret (pe_op op_mulL (pv 2) (pv 3))))))))),?_⟩
  have hxl:=hB.1
  refine⟨_,rfl,a,kd,xs,L,rfl,hS,hB,fun hsq=>?_,fun h=>qe h H (Same.refl H)⟩
  have q:=q hsq
  obtain⟨n,hn⟩:∃ n,n=L.length:=⟨_,rfl⟩
  rw[<- hn]at q hsq hA0 hL16
  refine⟨_,rfl,a,rfl,lc_seq (K:=K) (k:=kd) (a:=a) (xs:=xs) (fun i zs H2=>Same H H2/\i<=xs.length/\Bears (ListV H2) zs (L.take i)) ⟨Same.refl _,Nat.zero_le _,⟨rfl,fun i l e=>by simp at e⟩⟩ (small60' (by omega)) (fun i zs H2 hi ⟨e,hi2,ez⟩=>⟨hS.same e,by rw[ez.1,List.length_take];omega⟩) ?_ ?_⟩
  ·rintro i v zs H2 hi ⟨s2,hil,hZ⟩ S hSS
   obtain⟨l,hl,r,k,rfl,hr⟩:=hB.at hi
   have hil':=(List.getElem?_eq_some_iff.mp hi).1
   refine nm ?_
   refine⟨_,rfl,r,_,rfl,(hr.same s2).or,fun c hc=>hSS _ _ ⟨s2.trans (same_at hc),hil',?_⟩⟩
   rw[List.take_succ,hl]
   refine(hZ.imp fun _ _ ⟨r',e,h⟩=>⟨r',e,same_at hc _ _ h⟩).snoc ⟨c,rfl,ζ1⟩
  rintro zs H2 ⟨s2,_,hZ⟩ rA hrA
  rw[hxl,List.take_length]at hZ
  have s3:=s2.trans (same_at (o:=.lst zs) hrA)
  refine⟨fun m σ H4=>∃(A:Mx) (k:Nat) (rA:Addr) (ys:List V) (R:List (List Int)) (sgn last:Int) (v4 v5:Option V),σ=[some (.ref a),some (.ref rA),some (.int sgn),some (.int last),v4,v5]/\Same H H4/\H rA=none/\H4 rA=some (.lst ys)/\Bears (LiV rA H4) ys R/\R.length=m/\(∀ l∈R,l.length=m)/\k+m=n/\Bar A k m (fnL R) last/\det n (fnL L)=sgn * det n A/\(∀ i j,i<n->j<n->(A i j).natAbs<=2 ^ 400)/\(m=0->last=det n A)/\(sgn=1\/sgn=-1)/\last.natAbs<2 ^ 9000,⟨n,fnL L,0,rA,zs,L,1,1,none,none,rfl,s3,s2.free hrA,ζ1,?_,hn.symm,hsq,by omega,bar_start _ _,by omega,hA0,fun e=>by rw[e];rfl,.inl rfl,Nat.one_lt_two_pow (by decide)⟩,?_⟩
  ·exact hZ.imp fun v l ⟨r,e,h⟩=>⟨r,e,same_at hrA _ _ h,ne_of_none h hrA⟩
  rintro m σ H4 ⟨A,k,rA,ys,R,sgn,last,v4,v5,rfl,s4,hr0,hr4,hR,hRm,hRl,hkm,hBar,hdet,hAb,hfin,hsg,hlb⟩
  have hyl:=hR.1
  refine⟨_,rfl,rA,ys,rfl,.inl (SqL.of hr4),_,_,rfl,rfl,_,rfl,?_⟩
  refine itd2 (fun hpos=>?_) (fun hpos=>?_)
  ·obtain⟨M,rfl⟩:∃ M,m=M+1:=⟨m - 1,by omega⟩
   refine⟨_,fun σ' H' h=>⟨M,Nat.lt_succ_self M,h⟩,?_⟩
   have hsm:∀ l∈R,∀ z∈l,z.natAbs<2 ^ 9000:=fun l hl z hz=>by
    obtain⟨i,hi⟩:=List.getElem?_of_mem hl
    obtain⟨j,hj⟩:=List.getElem?_of_mem hz
    have h1:=(List.getElem?_eq_some_iff.mp hi).1
    have h2:=(List.getElem?_eq_some_iff.mp hj).1
    have h3:=hRl l hl
    have:=bar_small hBar hkm hL16 hAb (i:=i) (j:=j) (by omega) (by omega)
    rw[fnL_at hi hj]at this
    exact this
   refine⟨_,rfl,rA,ys,R,rfl,SqL.of hr4,hR.imp fun _ _ h=>h.list,fun l hl=>by rw[hRl l hl];omega,fun H5 s5 h0=>?_,fun t H5 s5 ht hne=>?_⟩
   ·refine⟨_,rfl,rfl,_,rfl,?_⟩
    refine itd (c:=V.non=V.non) rfl ?_
    have z:det n A=0:=by
     have:=bar_none hBar fun i hi=>h0 i (by omega)
     rw[show k+M+1=n by omega]at this
     exact this
    rw[hdet,z,Int.mul_zero]at q
    exact q H5 (s4.trans s5)
   refine⟨_,rfl,rfl,_,rfl,?_⟩
   refine itdn (c:=V.int (t:Int)=V.non) (fun z=>nomatch z) ?_
   refine nm ?_
   dsimp only
   refine contS5 (fun σ H6=>∃ sgn':Int,H6=H5/\σ=[some (.ref a),some (.ref rA),some (.int sgn'),some (.int last),some (.int t),v5]/\sgn'=sgn * sg t) ?_ ?_
   ·rintro σ H6 ⟨sgn',rfl,rfl,hsgn⟩
    have hr6:=s5 _ _ hr4
    have hR6:=hR.imp fun _ _ h=>h.same s5
    obtain⟨l,hl⟩:∃ l,R[t]?=some l:=⟨_,List.getElem?_eq_getElem ht⟩
    have hll:=hRl l (List.mem_of_getElem? hl)
    obtain⟨y,p',rfl⟩:∃ y p',l=y :: p':=by
     cases l with
     | nil=>cases hll
     | cons y p'=>exact⟨y,p',rfl⟩
    have hpl:p'.length=M:=by rw[List.length_cons]at hll;omega
    obtain⟨v,hv,pA,rfl,hpA,hpn⟩:=hR6.2 t _ hl
    have hy0:y≠0:=by rw[fnL_at hl rfl]at hne;exact hne
    refine⟨_,rfl,.inl ⟨rfl,_,SqL.of hr6⟩,_,rfl,rA,ys,(t:Int),t,.ref pA,rfl,rfl,hr6,by omega,by omega,by rw[seq_ix (by omega) (by omega),Int.toNat_natCast],hv,?_⟩
    have hpA7:(upd H6 rA (.lst (ys.eraseIdx t))) pA=some (.lst (IL (y :: p'))):=by rw[upd_ne hpn];exact hpA
    have s7:Same H (upd H6 rA (.lst (ys.eraseIdx t))):=same_upd hr0 (s4.trans s5)
    have hR7:Bears (LiV rA (upd H6 rA (.lst (ys.eraseIdx t)))) (ys.eraseIdx t) (R.eraseIdx t):=(hR6.erase t).imp fun _ _ h=>h.mut
    have hr7:(upd H6 rA (.lst (ys.eraseIdx t))) rA=some (.lst (ys.eraseIdx t)):=ζ1
    generalize upd H6 rA (.lst (ys.eraseIdx t))=H7 at *
    have eRl:(R.eraseIdx t).length=M:=by rw[List.length_eraseIdx,if_pos ht];omega
    have hRl7:∀ l∈R.eraseIdx t,l.length=M+1:=fun l h=>hRl l (List.mem_of_mem_eraseIdx h)
    have hy7:=hR7.1
    refine⟨_,rfl,rA,rfl,⟨_,SqL.of hr7⟩,lc_list (K:=K) (a:=rA) (xs:=ys.eraseIdx t) (fun i zs H8=>Same H7 H8/\i<=(ys.eraseIdx t).length/\Bears (ListV H8) zs (((R.eraseIdx t).take i).map (tkn y p' last))) ⟨Same.refl _,Nat.zero_le _,⟨rfl,fun i l e=>by simp at e⟩⟩ (small60' (by omega)) (fun i zs H8 hi ⟨e,hi2,ez⟩=>⟨SqL.of (e _ _ hr7),by rw[ez.1,List.length_map,List.length_take];omega⟩) ?_ ?_⟩
    ·rintro i v zs H8 hi ⟨s8,hil,hZ8⟩ S hSS
     obtain⟨l,hli,r,rfl,hr,_⟩:=hR7.at hi
     have hil':=(List.getElem?_eq_some_iff.mp hi).1
     have hl2:=hRl7 l (List.mem_of_getElem? hli)
     obtain⟨x,l',rfl⟩:∃ x l',l=x :: l':=by
      cases l with
      | nil=>cases hl2
      | cons x l'=>exact⟨x,l',rfl⟩
     have hl':l'.length=M:=by rw[List.length_cons]at hl2;omega
     refine nm ?_
     refine⟨_,rfl,_,rfl,_,rfl,r,pA,x,y,last,l',p',rfl,SqL.of (s8 _ _ hr),SqL.of (s8 _ _ hpA7),by omega,by omega,hBar.1,hlb,hsm _ (List.mem_of_mem_eraseIdx (List.mem_of_getElem? hli)),hsm _ (List.mem_of_getElem? hl),fun c H9 s9 hc0 hc=>hSS _ _ ⟨s8.trans s9,hil',?_⟩⟩
     rw[List.take_succ,hli,List.map_append]
     exact(hZ8.imp fun _ _ ⟨r',e,h⟩=>⟨r',e,s9 _ _ h⟩).snoc ⟨c,rfl,hc⟩
    rintro zs H8 ⟨s8,_,hZ8⟩ cA hcA
    rw[hy7,List.take_length]at hZ8
    have s9:=same_at (o:=.lst zs) hcA
    refine⟨_,rfl,pA,_,0,.int y,rfl,rfl,SqL.of (s9 _ _ (s8 _ _ hpA7)),atI_of (n:=0) rfl rfl,?_⟩
    have hb1:Bar (fun i=>A (rotN k t i)) k (M+1) (fnL ((y :: p') :: R.eraseIdx t)) last:=by
     rw[rot_fnL hl]
     exact bar_rot hBar (by omega)
    have hb2:Bar (fun i=>A (rotN k t i)) (k+1) M (fnL ((R.eraseIdx t).map (tkn y p' last))) y:=bar_step hb1 hy0 fun i j hi hj=>tkn_fnL hpl eRl hRl7 hi hj
    have hdr:=det_rot (n:=n) (k:=k) (t:=t) (A:=A) (by omega)
    refine⟨fun i=>A (rotN k t i),k+1,cA,zs,(R.eraseIdx t).map (tkn y p' last),sgn',y,_,_,rfl,s7.trans (s8.trans s9),(s7.trans s8).free hcA,ζ1,?_,by rw[List.length_map];exact eRl,fun l h=>?_,by omega,hb2,?_,fun i j hi hj=>hAb _ _ ?_ hj,fun e0=>?_,?_,hsm _ (List.mem_of_getElem? hl) y List.mem_cons_self⟩
    ·exact hZ8.imp fun v l ⟨r,e,h⟩=>⟨r,e,s9 _ _ h,ne_of_none h hcA⟩
    ·obtain⟨l0,h0,rfl⟩:=List.mem_map.mp h
     rw[tkn_len (by rw[hRl7 l0 h0,hpl]),hpl]
    ·rw[hdr,hdet,hsgn,Int.mul_assoc,<- Int.mul_assoc (sg t),sg_sq,Int.one_mul]
    ·unfold rotN
     split
     ·omega
     ·split
      ·omega
      ·split <;> omega
    ·subst e0
     have:=bar_end hb1
     rw[show k+1=n by omega]at this
     exact this
    ·rw[hsgn]
     have hst:sg t=1\/sg t=-1:=by
      unfold sg
      split
      ·exact .inl rfl
      ·exact .inr rfl
     rcases hsg with e | e <;> rcases hst with f | f <;> rw[e,f]
     ·exact .inl rfl
     ·exact .inr rfl
     ·exact .inr rfl
     ·exact .inl rfl
   ·intro Kn hK
    refine⟨_,rfl,_,_,rfl,rfl,(by show(0:Int)<2;decide),rfl,_,rfl,?_⟩
    rw[dec_int]
    refine itd2 (fun h1=>?_) (fun h1=>?_)
    ·refine⟨_,rfl,_,rfl,hK _ _ ⟨-sgn,rfl,rfl,?_⟩⟩
     have e:sg t=-1:=by unfold sg;rw[if_neg (by omega)]
     rw[e]
     omega
    ·refine hK _ _ ⟨sgn,rfl,rfl,?_⟩
     have e:sg t=1:=by unfold sg;rw[if_pos (by omega)]
     rw[e]
     omega
  ·have hm0:m=0:=by omega
   refine⟨_,rfl,_,rfl,_,_,rfl,rfl,⟨?_,hlb⟩,?_⟩
   ·rcases hsg with e | e <;> rw[e] <;> exact Nat.one_lt_two_pow (by decide)
   ·rw[hfin hm0]at *
    rw[hdet]at q
    exact q H4 s4
end
set_option maxHeartbeats 4000000
def spζx(K:PySem.W.Frag):Sp:=fun vs H Q _=>∃(a:Addr) (l:List Int) (i:Nat),vs=[.ref a,.int i]/\SqL K H a (IL l)/\l.length<=1000/\∀(r:Addr) (H':Hp),Same H H'->H r=none->H' r=some (.lst (IL (cutz l i)))->Q (.ref r) H'
theorem il_cutz2(l:List Int)(z:Int):cutz (IL l) z=IL (cutz l z):=by
 unfold cutz
 show(l.map V.int).take _++(l.map V.int).drop _=(l.take _++l.drop _).map V.int
 rw[List.map_append,List.map_take,List.map_drop]
section
variable{P:Program}{w:World}{K:PySem.W.Frag}{mg:Str->Option Value}{base:Heap}{t:Adr}
theorem scζx:FnScope ["row","number"] ["row","number"] (ζ6 sζx):=⟨rfl,rfl,rfl,by decide +kernel,rfl,by decide +kernel,by decide +kernel⟩
theorem okζx (T:Txt K mg t):FnOk P w K mg base CX0 1 t.aζx t.dζx ["row","number"] (spζx K):=by
 refine T.fζx.ok scζx (fun vs H Q E h=>?_) (fun cdv A outer s H vs Q E hr h=>?_)
 ·obtain⟨a,l,i,rfl,_⟩:=h
  rfl
 ·obtain⟨a,l,i,rfl,hA,hl,q⟩:=h
  refine⟨_,(ζ5 (ps_ret (pe_op op_cat (pe_callTy (call_listK K) (by rfl) T.n_list Boot.«list» (ζ0 (pe_slice (sl_listK K) (pv 0) po_none (po_some (pv 1))) ζ4)) (pe_callTy (call_listK K) (by rfl) T.n_list Boot.«list» (ζ0 (pe_slice (sl_listK K) (pv 0) (po_some (pe_op op_add (pv 1) pe_int)) po_none) ζ4))))),?_⟩
  refine⟨_,rfl,_,rfl,(i:Int),rfl,a,_,rfl,hA,fun p1 hp1=>?_⟩
  have u1:=same_at (o:=.lst (cutV (IL l) none (some (i:Int)))) hp1
  refine⟨p1,_,rfl,.inl (SqL.of ζ1),fun p2 hp2=>?_⟩
  have u2:=same_at (o:=.lst (cutV (IL l) none (some (i:Int)))) hp2
  refine⟨_,rfl,_,rfl,_,_,rfl,rfl,_,rfl,a,_,rfl,(u1.trans u2).seq hA,fun p3 hp3=>?_⟩
  have u3:=same_at (o:=.lst (cutV (IL l) (some ((i:Int)+1)) none)) hp3
  refine⟨p3,_,rfl,.inl (SqL.of ζ1),fun p4 hp4=>?_⟩
  have u4:=same_at (o:=.lst (cutV (IL l) (some ((i:Int)+1)) none)) hp4
  have c1:=cutV_length (IL l) none (some (i:Int))
  have c2:=cutV_length (IL l) (some ((i:Int)+1)) none
  rw[ζ3]at c1 c2
  refine⟨p2,p4,_,_,rfl,rfl,(u3.trans u4) _ _ ζ1,ζ1,small60 (by omega),fun p5 hp5=>?_⟩
  have u14:=u1.trans (u2.trans (u3.trans u4))
  refine q p5 _ (u14.trans (same_at hp5)) (u14.free hp5) ?_
  rw[ζ1,cut_z (by omega),il_cutz2]
end
set_option maxHeartbeats 4000000
def spζy(K:PySem.W.Frag):Sp:=fun vs H Q _=>∃(a:Addr) (ys:List V) (L:List (List Int)) (i:Nat),vs=[.ref a,.int i]/\SqL K H a ys/\Bears (ListV H) ys L/\L.length<=1000/\(∀ l∈L,l.length<=1000)/\i<L.length /\
 ∀(r:Addr) (zs:List V) (H':Hp),Same H H'->H' r=some (.lst zs)->Bears (ListV H') zs ((cutz L i).map fun l=>cutz l (i:Int))->Q (.ref r) H'
theorem cutz_take{α:Type}{l:List α}{i j:Nat}{x:α}(hx:l[j]?=some x):cutz (l.take (j+1)) (i:Int)=cutz (l.take j) (i:Int)++(if j=i then [] else [x]):=by
 have hj:=(List.getElem?_eq_some_iff.mp hx).1
 have e:l.take (j+1)=l.take j++[x]:=by rw[List.take_succ,hx];rfl
 have hl:(l.take j).length=j:=by rw[List.length_take];omega
 have short:∀ m:List α,m.length<=i->cutz m (i:Int)=m:=fun m hm=>by
  unfold cutz
  rw[Int.toNat_natCast,List.take_of_length_le hm,List.drop_eq_nil_of_le (by omega),List.append_nil]
 rw[e]
 by_cases c:j=i
 ·subst c
  rw[if_pos rfl,List.append_nil,short (l.take j) (by omega)]
  unfold cutz
  rw[Int.toNat_natCast,List.take_append_of_le_length (by omega),List.drop_eq_nil_of_le (by rw[List.length_append,hl];exact Nat.le_refl _),List.append_nil,List.take_of_length_le (by omega)]
 ·rw[if_neg c]
  by_cases d:j<i
  ·rw[short (l.take j++[x]) (by rw[List.length_append,hl];exact d),short (l.take j) (by omega)]
  ·unfold cutz
   rw[Int.toNat_natCast,List.take_append_of_le_length (by omega),List.drop_append_of_le_length (by omega),List.append_assoc]
section
variable{P:Program}{w:World}{K:PySem.W.Frag}{mg:Str->Option Value}{base:Heap}{t:Adr}
theorem scζy:FnScope ["table","number"] ["table","number"] (ζ6 sζy):=⟨rfl,rfl,rfl,by decide +kernel,rfl,by decide +kernel,by decide +kernel⟩
theorem okζy (T:Txt K mg t):FnOk P w K mg base CX0 2 t.aζy t.dζy ["table","number"] (spζy K):=by
 refine T.fζy.ok scζy (fun vs H Q E h=>?_) (fun cdv A outer s H vs Q E hr h=>?_)
 ·obtain⟨a,ys,L,i,rfl,_⟩:=h
  rfl
 ·obtain⟨a,ys,L,i,rfl,hA,hB,hL,hLl,hi,q⟩:=h
  refine⟨_,(ζ5 (ps_ret (pe_lc rfl (sc0:=ζ6 sζy) (N0:=["table","number"]) (N':=["at","row","number"]) (o:=2) (fr:=[1]) ⟨rfl,by decide +kernel,by decide +kernel,by decide +kernel,rfl,by decide +kernel⟩ (pi_enumK K rfl T.n_enumerate (ζ0 (pv 0) ζ4)) (own_tup (own_cons (by decide) (own_cons (by decide) own_nil))) (fun _ _ _ _=>(pg_tupK (n:=2) K rfl (pgs_cons (pg_name (i:=0) (show List.Nodup (["at","row","number"]:List Str) by decide +kernel) rfl (Or.inl rfl)) (pgs_cons (pg_name (i:=1) (show List.Nodup (["at","row","number"]:List Str) by decide +kernel) rfl (Or.inl rfl)) pgs_nil)))) (fun _ _ _ _=>(pts_one (pt_cmpR op_ne (pv 0) (pv 2) (nomark _)))) (fun _ _ _ _=>(pe_call (okζx T) (hr.mono (by decide)) rfl T.mζx T.fζx.kp T.bζx .nil pass0 (ζ0 (pv 1) (ζ0 (pv 2) ζ4))))))),?_⟩
  have hyl:=hB.1
  refine⟨_,rfl,a,rfl,⟨_,hA⟩,lc_enum (K:=K) (a:=a) (xs:=ys) (fun j zs H2=>Same H H2/\j<=ys.length/\Bears (ListV H2) zs ((cutz (L.take j) (i:Int)).map fun l=>cutz l (i:Int))) ⟨Same.refl _,Nat.zero_le _,by rw[show(cutz (L.take 0) (i:Int)).map (fun l=>cutz l (i:Int))=[] by unfold cutz;simp];exact⟨rfl,fun i l e=>by simp at e⟩⟩ (small60' (by omega)) (fun j zs H2 hj ⟨e,hj2,ez⟩=>⟨e.seq hA,by
   rw[ez.1,List.length_map]
   refine Nat.le_trans (cutz_len _ _) ?_
   rw[List.length_take]
   omega⟩) ?_ ?_⟩
  ·rintro j v zs H2 pt hpt hj ⟨s2,hjl,hZ⟩ S hSS
   obtain⟨l,hl,r,rfl,hr⟩:=hB.at hj
   have hjl':=(List.getElem?_eq_some_iff.mp hj).1
   have s3:=same_at (o:=.tup [.int j,.ref r]) hpt
   refine⟨pt,_,rfl,SqT.of ζ1,rfl,_,_,rfl,_,_,rfl,rfl,?_⟩
   have hZ3:Bears (ListV (upd H2 pt (.tup [.int j,.ref r]))) zs ((cutz (L.take j) (i:Int)).map fun l=>cutz l (i:Int)):=hZ.imp fun _ _ ⟨r',e,h⟩=>⟨r',e,s3 _ _ h⟩
   have s23:=s2.trans s3
   generalize upd H2 pt (.tup [.int j,.ref r])=H3 at *
   refine⟨_,rfl,_,rfl,rfl,_,rfl,?_⟩
   rw[dec_int]
   refine itn2 (fun e=>?_) (fun e=>?_)
   ·refine hSS _ _ ⟨s23,hjl',?_⟩
    rw[cutz_take hl,if_pos (by omega),List.append_nil]
    exact hZ3
   ·refine⟨_,rfl,_,rfl,r,l,i,rfl,SqL.of (s23 _ _ hr),hLl l (List.mem_of_getElem? hl),fun c H4 s4 _ hc=>hSS _ _ ⟨s23.trans s4,hjl',?_⟩⟩
    rw[cutz_take hl,if_neg (by omega),List.map_append]
    exact(hZ3.imp fun _ _ ⟨r',e,h⟩=>⟨r',e,s4 _ _ h⟩).snoc ⟨c,rfl,hc⟩
  ·rintro zs H2 ⟨s2,_,hZ⟩ p hp
   rw[hyl,List.take_length]at hZ
   exact q p zs _ (s2.trans (same_at hp)) ζ1 (hZ.imp fun _ _ ⟨r',e,h⟩=>⟨r',e,same_at hp _ _ h⟩)
end
set_option maxHeartbeats 4000000
def spζz(K:PySem.W.Frag)(C:Addr):Sp:=fun vs H Q _=>∃(w b:Addr) (n:Int) (ps:List (Int × Int)) (ws:List Int),vs=[.ref w,.ref b]/\WebAt C H w n ps/\GoodW n ps/\SqL K H b (IL ws)/\ws.length=ps.length /\
 ∀(r:Addr) (ys:List V) (L:List (List Int)) (H':Hp),Same H H'->H r=none->TabAt H r n.toNat H' ys L->(∀ i j,i<n.toNat->j<n.toNat->fnL L i j=lapE (edsOf ps ws) i j)->Q (.ref r) H'
theorem rep_one2(x:V)(k:Nat):(List.replicate k [x]).flatten=List.replicate k x:=by
 induction k with
 | zero=>rfl
 | succ k ih=>rw[List.replicate_succ,List.flatten_cons,ih,List.replicate_succ];rfl
theorem fnL_abs0(n i j:Nat):fnL (List.replicate n (List.replicate n 0)) i j=0:=by
 unfold fnL
 cases h:(List.replicate n (List.replicate n (0:Int)))[i]? with
 | none =>
  have e:(List.replicate n (List.replicate n (0:Int))).getD i []=[]:=by rw[List.getD_eq_getElem?_getD,h];rfl
  rw[e]
  rfl
 | some l =>
  have e:(List.replicate n (List.replicate n (0:Int))).getD i []=l:=by rw[List.getD_eq_getElem?_getD,h];rfl
  rw[e,List.eq_of_mem_replicate (List.mem_of_getElem? h),List.getD_eq_getElem?_getD,List.getElem?_replicate]
  split <;> rfl
theorem TabAt.get{H0 H:Hp}{r:Addr}{n:Nat}{ys:List V}{L:List (List Int)}(h:TabAt H0 r n H ys L){i j:Nat}(hi:i<n)(hj:j<n):∃(A:Addr) (l:List Int) (x:Int),ys[i]?=some (.ref A)/\H A=some (.lst (IL l))/\l[j]?=some x/\l.length=n/\x=fnL L i j/\H0 A=none/\∀ y:Int,∃ L':List (List Int),TabAt H0 r n (upd H A (.lst ((IL l).set j (.int y)))) ys L'/\∀ a b,fnL L' a b=if a=i/\b=j then y else fnL L a b:=by
 obtain⟨A,l,y1,z1,hA,hl,hn,hr⟩:=h.at hi
 obtain⟨x,hx⟩:∃ x,l[j]?=some x:=⟨_,List.getElem?_eq_getElem (by omega)⟩
 refine⟨A,l,x,y1,hA,hx,hl,(fnL_at z1 hx).symm,hn,fun y=>⟨L.set i (l.set j y),?_,fnL_put z1 (by omega)⟩⟩
 have e:(IL l).set j (.int y)=IL (l.set j y):=(List.map_set ..).symm
 rw[e]
 exact h.put y1 z1 hr (by rw[List.length_set];exact hl)
theorem ixN_of{xs:List V}{i:Int}(h0:0<=i)(h1:i<(xs.length:Int)):ixN xs.length i=some i.toNat:=by
 unfold ixN
 rw[if_pos h0,if_pos (by omega)]
section
variable{P:Program}{w:World}{K:PySem.W.Frag}{mg:Str->Option Value}{base:Heap}{t:Adr}
theorem scζz:FnScope ["web","weights","table","ends","weight","one","other"] ["web","weights"] (ζ6 sζz):=⟨rfl,rfl,rfl,by decide +kernel,rfl,by decide +kernel,by decide +kernel⟩
theorem okζz (T:Txt K mg t):FnOk P w K mg base CX0 1 t.aζz t.dζz ["web","weights"] (spζz K t.A_Web):=by
 refine T.fζz.ok scζz (fun vs H Q E h=>?_) (fun cdv A outer s H vs Q E hr h=>?_)
 ·obtain⟨w,b,n,ps,ws,rfl,_⟩:=h
  rfl
 ·obtain⟨w,b,n,ps,ws,rfl,hW,hG,hS,hwl,q⟩:=h
  refine⟨_,(ζ2 (ps_lc (i:=2) rfl scζz.nd rfl rfl (sc0:=ζ6 sζz) (N0:=["web","weights","table","ends","weight","one","other"]) (N':=["place","web"]) (o:=1) (fr:=[0]) ⟨rfl,by decide +kernel,by decide +kernel,by decide +kernel,rfl,by decide +kernel⟩ (pi_range1 rfl T.n_range (ζ0 (pe_fldK K (pv 0) rfl) ζ4)) (own_name (by decide)) (fun _ _ _ _=>(pg_name (i:=0) (show List.Nodup (["place","web"]:List Str) by decide +kernel) rfl (Or.inl rfl))) (fun _ _ _ _=>pts_nil) (fun _ _ _ _=>(pe_op op_rep (pe_lst (ζ0 pe_int ζ4)) (pe_fldK K (pv 1) rfl))))
   (ζ2 (ps_for PassesOwn.never rfl (pi_zip K rfl T.n_zip (ζ0 (pe_fldK K (pv 0) rfl) (ζ0 (pv 1) ζ4))) (pg_tupK (n:=2) K rfl (pgs_cons (pg_name (i:=3) scζz.nd rfl (Or.inl rfl)) (pgs_cons (pg_name (i:=4) scζz.nd rfl (Or.inl rfl)) pgs_nil)))
   (ζ2 (ps_set (i:=5) scζz.nd rfl (Or.inl rfl) (pe_ix (ix_tupK K) (pv 3) pe_int (fun _ _=>rfl)))
   (ζ2 (ps_set (i:=6) scζz.nd rfl (Or.inl rfl) (pe_ix (ix_tupK K) (pv 3) pe_int (fun _ _=>rfl)))
   (ζ5 (ps_if (pt_cmpR op_ne (pv 5) (pv 6) (nomark _))
   (ζ2 (ps_augS (pe_ix (ix_listK K) (pv 2) (pv 5) (fun _ _=>rfl)) (pv 5) (get_listK K) (pv 4) ip_add set_list)
   (ζ2 (ps_augS (pe_ix (ix_listK K) (pv 2) (pv 6) (fun _ _=>rfl)) (pv 6) (get_listK K) (pv 4) ip_add set_list)
   (ζ2 (ps_augS (pe_ix (ix_listK K) (pv 2) (pv 5) (fun _ _=>rfl)) (pv 6) (get_listK K) (pv 4) ip_sub set_list)
   (ζ5 (ps_augS (pe_ix (ix_listK K) (pv 2) (pv 6) (fun _ _=>rfl)) (pv 5) (get_listK K) (pv 4) ip_sub set_list)))))
   pss_nil)))))
   (ζ5 (ps_ret (pv 2))))),?_⟩
  obtain⟨dx,tl,xs,h1,h2,h3⟩:=id hW
  have hl:=h3.1
  obtain⟨g1,g2,g3,g4⟩:=id hG
  have one:1<=sizeLine:=by decide
  refine⟨_,rfl,w,_,dx,_,_,rfl,h1,T.cl_Web,T.n_Web_places,wf_places _ _,n,rfl,by omega,by omega,lc_range (lo:=0) (n:=n.toNat) (fun i zs H2=>Same H H2/\Bears (ListV H2) zs (List.replicate i (List.replicate n.toNat 0))/\zs.Nodup/\∀ A,V.ref A∈zs->H A=none/\∃ o,H2 A=some o) ⟨Same.refl _,⟨rfl,fun i l e=>by simp at e⟩,.nil,fun A h=>(by cases h)⟩ (small60' (by omega)) (fun i zs H2 _ ⟨_,e,_⟩=>by rw[e.1,List.length_replicate];exact Nat.le_refl _) ?_ ?_⟩
  ·rintro i zs H2 hi ⟨s2,hZ,hnd,hnew⟩ S hSS
   refine nm ?_
   refine⟨one,fun p1 hp1=>?_⟩
   have u1:=same_at (o:=.lst [.int 0]) hp1
   refine⟨_,rfl,w,_,dx,_,_,rfl,u1 _ _ (s2 _ _ h1),T.cl_Web,T.n_Web_places,wf_places _ _,p1,n,_,rfl,rfl,ζ1,by omega,by omega,small60 (by show 1 * n.toNat<=_;omega),fun p2 hp2=>?_⟩
   have e0:(List.replicate n.toNat [V.int 0]).flatten=IL (List.replicate n.toNat 0):=by rw[rep_one2];show _=(List.replicate n.toNat 0).map V.int;rw[List.map_replicate]
   rw[e0]
   have u2:=u1.trans (same_at (o:=.lst (IL (List.replicate n.toNat 0))) hp2)
   have hp20:H2 p2=none:=(same_at hp1).free hp2
   refine hSS _ _ ⟨s2.trans u2,?_,?_,fun A hA=>?_⟩
   ·rw[List.replicate_succ']
    exact(hZ.imp fun _ _ ⟨r',e,h⟩=>⟨r',e,u2 _ _ h⟩).snoc ⟨p2,rfl,ζ1⟩
   ·refine List.nodup_append.mpr ⟨hnd,by simp,fun x hx y hy e=>?_⟩
    rw[List.mem_singleton.mp hy]at e
    obtain⟨_,o,ho⟩:=hnew p2 (e ▸ hx)
    rw[hp20]at ho
    cases ho
   ·rcases List.mem_append.mp hA with e | e
    ·obtain⟨a1,o,a2⟩:=hnew A e
     exact⟨a1,o,u2 _ _ a2⟩
    ·have e':A=p2:=by simpa using e
     rw[e']
     exact⟨s2.free hp20,_,ζ1⟩
  rintro zs H2 ⟨s2,hZ,hnd,hnew⟩ tA htA
  have s3:=s2.trans (same_at (o:=.lst zs) htA)
  have htA0:H tA=none:=s2.free htA
  have hT:TabAt H tA n.toNat (upd H2 tA (.lst zs)) zs (List.replicate n.toNat (List.replicate n.toNat 0)):=⟨ζ1,hZ.imp fun _ _ ⟨r',e,h⟩=>⟨r',e,same_at htA _ _ h,ne_of_none h htA⟩,List.length_replicate,fun l h=>by rw[List.eq_of_mem_replicate h];exact List.length_replicate,hnd,fun A h=>(hnew A h).1⟩
  have hzero:∀ i j,fnL (List.replicate n.toNat (List.replicate n.toNat 0)) i j=0:=fun i j=>by
   have:=fnL_abs0 n.toNat i j
   exact this
  generalize upd H2 tA (.lst zs)=H3 at *
  generalize List.replicate n.toNat (List.replicate n.toNat (0:Int))=L0 at *
  refine⟨_,rfl,w,_,dx,_,_,rfl,s3 _ _ h1,T.cl_Web,T.n_Web_ties,wf_ties _ _,_,rfl,tl,b,rfl,⟨_,_,SqL.of (s3 _ _ h2),s3.seq hS⟩,for_zip (K:=K) (a:=tl) (b:=b) (xs:=xs) (ys:=IL ws) (by rw[ζ3];omega) (fun i σ H4=>∃(L:List (List Int)) (v3 v4 v5 v6:Option V),σ=[some (.ref w),some (.ref b),some (.ref tA),v3,v4,v5,v6]/\Same H H4/\TabAt H tA n.toNat H4 zs L/\∀ x y,x<n.toNat->y<n.toNat->fnL L x y=lapE (edsOf (ps.take i) (ws.take i)) x y) ⟨L0,none,none,none,none,rfl,s3,hT,fun x y _ _=>hzero x y⟩ (fun i σ H4 _ ⟨_,_,_,_,_,_,e,_⟩=>⟨SqL.of (e _ _ h2),e.seq hS⟩) ?_ ?_⟩
  ·rintro i v v' σ H4 pt hpt hi hi' ⟨L,v3,v4,v5,v6,rfl,s4,hT4,hlap⟩
   obtain⟨p,hp,tt,rfl,htt⟩:=h3.at hi
   obtain⟨wt,rfl,hwt⟩:=il_get hi'
   obtain⟨e1,e2,e3,e4⟩:=g4 p (List.mem_of_getElem? hp)
   have u1:=same_at (o:=.tup [.ref tt,.int wt]) hpt
   refine⟨pt,_,rfl,SqT.of ζ1,rfl,_,_,rfl,_,_,rfl,rfl,?_⟩
   have hT5:=hT4.same u1
   have s5:=s4.trans u1
   generalize upd H4 pt (.tup [.ref tt,.int wt])=H5 at *
   refine⟨_,rfl,tt,_,0,.int p.1,rfl,rfl,SqT.of (s5 _ _ htt),rfl,?_⟩
   refine⟨_,rfl,tt,_,1,.int p.2,rfl,rfl,SqT.of (s5 _ _ htt),rfl,?_⟩
   refine⟨_,rfl,_,rfl,rfl,_,rfl,?_⟩
   rw[dec_int]
   have esn:=eds_snoc hp hwt
   refine itn2 (fun heq=>?_) (fun hne=>?_)
   ·refine⟨L,_,_,_,_,rfl,s5,hT5,fun x y hx hy=>?_⟩
    rw[esn,lapE_loop (by show p.1.toNat=p.2.toNat;rw[heq])]
    exact hlap x y hx hy
   have hne':p.1.toNat≠p.2.toNat:=fun e=>hne (by omega)
   obtain⟨A1,l1,x1,y1,hA1,hx1,hl1,ex1,hn1,put1⟩:=hT5.get (i:=p.1.toNat) (j:=p.1.toNat) (by omega) (by omega)
   refine⟨_,rfl,_,rfl,tA,zs,p.1,.ref A1,rfl,rfl,SqL.of hT5.tab,atI_of (n:=p.1.toNat) (by omega) y1,_,rfl,A1,_,p.1,.int x1,rfl,rfl,SqL.of hA1,by omega,il_at hx1,_,rfl,_,_,rfl,rfl,A1,_,p.1,p.1.toNat,rfl,rfl,hA1,ixN_of (by omega) (by rw[ζ3];omega),?_⟩
   obtain⟨L1,hT6,hf1⟩:=put1 (x1+wt)
   have s6:Same H (upd H5 A1 (.lst ((IL l1).set p.1.toNat (.int (x1+wt))))):=same_upd hn1 s5
   generalize upd H5 A1 (.lst ((IL l1).set p.1.toNat (.int (x1+wt))))=H6 at *
   rw[ex1]at hf1
   obtain⟨A2,l2,x2,y2,hA2,hx2,hl2,ex2,hn2,put2⟩:=hT6.get (i:=p.2.toNat) (j:=p.2.toNat) (by omega) (by omega)
   refine⟨_,rfl,_,rfl,tA,zs,p.2,.ref A2,rfl,rfl,SqL.of hT6.tab,atI_of (n:=p.2.toNat) (by omega) y2,_,rfl,A2,_,p.2,.int x2,rfl,rfl,SqL.of hA2,by omega,il_at hx2,_,rfl,_,_,rfl,rfl,A2,_,p.2,p.2.toNat,rfl,rfl,hA2,ixN_of (by omega) (by rw[ζ3];omega),?_⟩
   obtain⟨L2,hT7,hf2⟩:=put2 (x2+wt)
   have s7:Same H (upd H6 A2 (.lst ((IL l2).set p.2.toNat (.int (x2+wt))))):=same_upd hn2 s6
   generalize upd H6 A2 (.lst ((IL l2).set p.2.toNat (.int (x2+wt))))=H7 at *
   rw[ex2]at hf2
   obtain⟨A3,l3,x3,y3,hA3,hx3,hl3,ex3,hn3,put3⟩:=hT7.get (i:=p.1.toNat) (j:=p.2.toNat) (by omega) (by omega)
   refine⟨_,rfl,_,rfl,tA,zs,p.1,.ref A3,rfl,rfl,SqL.of hT7.tab,atI_of (n:=p.1.toNat) (by omega) y3,_,rfl,A3,_,p.2,.int x3,rfl,rfl,SqL.of hA3,by omega,il_at hx3,_,rfl,_,_,rfl,rfl,A3,_,p.2,p.2.toNat,rfl,rfl,hA3,ixN_of (by omega) (by rw[ζ3];omega),?_⟩
   obtain⟨L3,hT8,hf3⟩:=put3 (x3 - wt)
   have s8:Same H (upd H7 A3 (.lst ((IL l3).set p.2.toNat (.int (x3 - wt))))):=same_upd hn3 s7
   generalize upd H7 A3 (.lst ((IL l3).set p.2.toNat (.int (x3 - wt))))=H8 at *
   rw[ex3]at hf3
   obtain⟨A4,l4,x4,y4,hA4,hx4,hl4,ex4,hn4,put4⟩:=hT8.get (i:=p.2.toNat) (j:=p.1.toNat) (by omega) (by omega)
   refine⟨_,rfl,_,rfl,tA,zs,p.2,.ref A4,rfl,rfl,SqL.of hT8.tab,atI_of (n:=p.2.toNat) (by omega) y4,_,rfl,A4,_,p.1,.int x4,rfl,rfl,SqL.of hA4,by omega,il_at hx4,_,rfl,_,_,rfl,rfl,A4,_,p.1,p.1.toNat,rfl,rfl,hA4,ixN_of (by omega) (by rw[ζ3];omega),?_⟩
   obtain⟨L4,hT9,hf4⟩:=put4 (x4 - wt)
   have s9:Same H (upd H8 A4 (.lst ((IL l4).set p.1.toNat (.int (x4 - wt))))):=same_upd hn4 s8
   generalize upd H8 A4 (.lst ((IL l4).set p.1.toNat (.int (x4 - wt))))=H9 at *
   rw[ex4]at hf4
   refine⟨L4,_,_,_,_,rfl,s9,hT9,fun x y hx hy=>?_⟩
   rw[esn,lapE_snoc,<- hlap x y hx hy]
   exact four hne' x y hf1 hf2 hf3 hf4
  ·rintro σ H4 ⟨L,v3,v4,v5,v6,rfl,s4,hT4,hlap⟩
   rw[hl,List.take_length,<- hwl,List.take_length]at hlap
   exact⟨_,rfl,q tA zs L H4 s4 htA0 hT4 hlap⟩
end
set_option maxHeartbeats 4000000
def spζA(K:PySem.W.Frag)(C:Addr):Sp:=fun vs H Q _=>∃(w:Addr) (n:Int) (ps:List (Int × Int)),vs=[.ref w]/\WebAt C H w n ps/\GoodW n ps /\
 ∀(r:Addr) (ys:List V) (L:List (List Int)) (H':Hp),Same H H'->H r=none->TabAt H r n.toNat H' ys L->(∀ i j,i<n.toNat->j<n.toNat->fnL L i j=lapE (edsOf ps (List.replicate ps.length 1)) i j)->Q (.ref r) H'
section
variable{P:Program}{w:World}{K:PySem.W.Frag}{mg:Str->Option Value}{base:Heap}{t:Adr}
theorem scζA:FnScope ["web"] ["web"] (ζ6 sζA):=⟨rfl,rfl,rfl,by decide +kernel,rfl,by decide +kernel,by decide +kernel⟩
theorem okζA (T:Txt K mg t):FnOk P w K mg base CX0 2 t.aζA t.dζA ["web"] (spζA K t.A_Web):=by
 refine T.fζA.ok scζA (fun vs H Q E h=>?_) (fun cdv A outer s H vs Q E hr h=>?_)
 ·obtain⟨w,n,ps,rfl,_⟩:=h
  rfl
 ·obtain⟨w,n,ps,rfl,hW,hG,q⟩:=h
  refine⟨_,(ζ5 (ps_ret (pe_call (okζz T) (hr.mono (by decide)) rfl T.mζz T.fζz.kp T.bζz .nil pass0 (ζ0 (pv 0) (ζ0 (pe_op op_rep (pe_lst (ζ0 pe_int ζ4)) (pe_callB (call_lenK K) (by rfl) T.n_len Boot.«len» (ζ0 (pe_fldK K (pv 0) rfl) ζ4))) ζ4))))),?_⟩
  obtain⟨dx,tl,xs,h1,h2,h3⟩:=id hW
  have hl:=h3.1
  have g3:=hG.2.2.1
  refine⟨_,rfl,(by show 1<=sizeLine;decide),fun p1 hp1=>?_⟩
  have u1:=same_at (o:=.lst [.int 1]) hp1
  refine⟨_,rfl,w,_,dx,_,_,rfl,u1 _ _ h1,T.cl_Web,T.n_Web_ties,wf_ties _ _,tl,xs,rfl,.inl (SqL.of (u1 _ _ h2)),p1,(xs.length:Int),_,rfl,rfl,ζ1,by omega,by omega,small60 (by show 1 * _<=_;omega),fun p2 hp2=>?_⟩
  have e0:(List.replicate (xs.length:Int).toNat [V.int 1]).flatten=IL (List.replicate ps.length 1):=by
   rw[Int.toNat_natCast,hl,rep_one2]
   show _=(List.replicate ps.length 1).map V.int
   rw[List.map_replicate]
  rw[e0]
  have u2:=u1.trans (same_at (o:=.lst (IL (List.replicate ps.length 1))) hp2)
  refine⟨w,p2,n,ps,List.replicate ps.length 1,rfl,hW.same u2,hG,SqL.of ζ1,List.length_replicate,fun r ys L H' s hr hT hf=>?_⟩
  exact q r ys L H' (u2.trans s) (u2.free hr) ⟨hT.tab,hT.rows,hT.len,hT.all,hT.nd,fun A h=>u2.free (hT.new A h)⟩ hf
end
set_option maxHeartbeats 4000000
def spζB(K:PySem.W.Frag)(C:Addr):Sp:=fun vs H Q _=>∃(w:Addr) (n:Int) (ps:List (Int × Int)),vs=[.ref w]/\WebAt C H w n ps/\GoodW n ps/\∀(c:Nat) (H':Hp),TC n ps c->Same H H'->Q (.int c) H'
theorem ind_abs(u v i:Nat):(ind u v i).natAbs<=1:=by
 unfold ind
 split <;> split <;> decide
theorem lap_abs:∀ {E:List Ed},(∀ e∈E,e.2.2=1)->∀ i j,(lapE E i j).natAbs<=E.length
 | [],_,i,j=>Nat.le_refl 0
 | e :: E,h,i,j=>by
  have ih:=lap_abs (fun f hf=>h f (List.mem_cons_of_mem _ hf)) i j
  have h1:=ind_abs e.1 e.2.1 i
  have h2:=ind_abs e.1 e.2.1 j
  have h3:(ind e.1 e.2.1 i * ind e.1 e.2.1 j).natAbs<=1:=by rw[Int.natAbs_mul];exact Nat.mul_le_mul h1 h2
  show(e.2.2 * (ind e.1 e.2.1 i * ind e.1 e.2.1 j)+lapE E i j).natAbs<=(e :: E).length
  rw[h e List.mem_cons_self,Int.one_mul,List.length_cons]
  have:=Int.natAbs_add_le (ind e.1 e.2.1 i * ind e.1 e.2.1 j) (lapE E i j)
  omega
theorem cutz_snd{α:Type}{l:List α}{i:Nat}(hi:l.length=i+1):cutz l (i:Int)=l.take i:=by
 unfold cutz
 rw[Int.toNat_natCast,List.drop_eq_nil_of_le (by omega),List.append_nil]
section
variable{P:Program}{w:World}{K:PySem.W.Frag}{mg:Str->Option Value}{base:Heap}{t:Adr}
theorem scζB:FnScope ["web"] ["web"] (ζ6 sζB):=⟨rfl,rfl,rfl,by decide +kernel,rfl,by decide +kernel,by decide +kernel⟩
theorem okζB (T:Txt K mg t):FnOk P w K mg base CX0 3 t.aζB t.dζB ["web"] (spζB K t.A_Web):=by
 refine T.fζB.ok scζB (fun vs H Q E h=>?_) (fun cdv A outer s H vs Q E hr h=>?_)
 ·obtain⟨w,n,ps,rfl,_⟩:=h
  rfl
 ·obtain⟨w,n,ps,rfl,hW,hG,q⟩:=h
  refine⟨_,(ζ5 (ps_ret (pe_call (okζw T) (hr.mono (by decide)) rfl T.mζw T.fζw.kp T.bζw .nil passN (ζ0 (pe_call (okζy T) (hr.mono (by decide)) rfl T.mζy T.fζy.kp T.bζy .nil pass0 (ζ0 (pe_call (okζA T) (hr.mono (by decide)) rfl T.mζA T.fζA.kp T.bζA .nil pass0 (ζ0 (pv 0) ζ4)) (ζ0 (pe_op op_sub (pe_fldK K (pv 0) rfl) pe_int) ζ4))) ζ4)))),?_⟩
  obtain⟨g1,g2,g3,g4⟩:=id hG
  refine⟨_,rfl,w,n,ps,rfl,hW,hG,fun r ys L H1 s1 hr hT hf=>?_⟩
  obtain⟨dx,tl,xs,h1,h2,h3⟩:=id hW
  refine⟨_,rfl,w,_,dx,_,_,rfl,s1 _ _ h1,T.cl_Web,T.n_Web_places,wf_places _ _,_,_,rfl,rfl,?_⟩
  obtain⟨k,hk⟩:∃ k:Nat,n - 1=(k:Int):=⟨(n - 1).toNat,by omega⟩
  have hnk:n.toNat=k+1:=by omega
  have hLl:=hT.len
  have hTB:Bears (ListV H1) ys L:=hT.rows.imp fun _ _ h=>h.list
  refine⟨r,ys,L,k,?_,SqL.of hT.tab,hTB,by omega,fun l h=>by rw[hT.all l h];omega,by omega,fun r2 zs H2 s2 hr2 hZ=>?_⟩
  ·show [V.ref r,V.int (n - 1)]=_
   rw[hk]
  have w1:∀ e∈edsOf ps (List.replicate ps.length (1:Int)),e.2.2=1:=fun e he=>by
   unfold edsOf at he
   obtain⟨i,hi⟩:=List.getElem?_of_mem he
   rw[List.getElem?_zipWith]at hi
   cases h1:ps[i]? with
   | none=>rw[h1]at hi;cases hi
   | some p =>
    cases h2:(List.replicate ps.length (1:Int))[i]? with
    | none=>rw[h1,h2]at hi;cases hi
    | some w =>
     rw[h1,h2]at hi
     obtain rfl:=Option.some.inj hi
     exact List.eq_of_mem_replicate (List.mem_of_getElem? h2)
  have el:(edsOf ps (List.replicate ps.length (1:Int))).length<=30:=by
   unfold edsOf
   rw[List.length_zipWith,List.length_replicate]
   omega
  have hM:(cutz L (k:Int)).map (fun l=>cutz l (k:Int))=(L.take k).map fun l=>l.take k:=by
   rw[cutz_snd (by omega)]
   exact List.map_congr_left fun l hl=>cutz_snd (by rw[hT.all l (List.mem_of_mem_take hl)];omega)
  rw[hM]at hZ
  have hMl:((L.take k).map fun l=>l.take k).length=k:=by rw[List.length_map,List.length_take];omega
  have hfn:∀ i j,i<k->j<k->fnL ((L.take k).map fun l=>l.take k) i j=lapE (edsOf ps (List.replicate ps.length 1)) i j:=fun i j hi hj=>by
   rw[<- hf i j (by omega) (by omega)]
   obtain⟨l,hl⟩:∃ l,L[i]?=some l:=⟨_,List.getElem?_eq_getElem (by omega)⟩
   have hll:=hT.all l (List.mem_of_getElem? hl)
   obtain⟨x,hx⟩:∃ x,l[j]?=some x:=⟨_,List.getElem?_eq_getElem (by omega)⟩
   rw[fnL_at hl hx]
   exact fnL_at (l:=l.take k) (by rw[List.getElem?_map,List.getElem?_take,if_pos hi,hl];rfl) (by rw[List.getElem?_take,if_pos hj];exact hx)
  refine⟨r2,false,zs,(L.take k).map fun l=>l.take k,rfl,SqL.of hr2,hZ.imp (fun _ _ ⟨r',e,h⟩=>⟨r',false,e,SqL.of h⟩),by rw[hMl];omega,fun i j hi hj=>?_,fun _ H3 s3=>?_,fun h=>absurd (fun l hl=>?_) h⟩
  ·rw[hMl]at hi hj
   rw[hfn i j hi hj]
   exact Nat.le_trans (lap_abs w1 i j) (Nat.le_trans el (Nat.le_trans (by decide:30<=2 ^ 5) (Nat.pow_le_pow_right (by decide) (by decide))))
  ·have hd:det ((L.take k).map fun l=>l.take k).length (fnL ((L.take k).map fun l=>l.take k))=det (n - 1).toNat (lapE (edsOf ps (List.replicate ps.length 1))):=by
    rw[hMl,show(n - 1).toNat=k by omega]
    exact det_congr fun i j hi hj=>hfn i j hi hj
   obtain⟨c,M,a1,a2,a3⟩:∃ c,TC n ps c:=by
    obtain⟨M,a1,a2,_⟩:=matrix_tree _ (n - 1).toNat (edsOf ps (List.replicate ps.length 1)) rfl (eds_in hG _)
    exact⟨M.length,M,a1,fun l=>by rw[a2,isT_web g1 List.length_replicate],rfl⟩
   rw[hd,tree_det hG a1 a2,a3]
   exact q c H3 ⟨M,a1,a2,a3⟩ (s1.trans (s2.trans s3))
  ·obtain⟨l0,h0,rfl⟩:=List.mem_map.mp hl
   rw[hMl,List.length_take,hT.all l0 (List.mem_of_mem_take h0)]
   omega
end
set_option maxHeartbeats 4000000
def spζC(K:PySem.W.Frag):Sp:=fun vs H Q _=>∃(a:Addr) (ns:List Int) (k:Int),vs=[.ref a,.int k]/\SqL K H a (IL ns)/\0<=k/\∀ r:Int,Q (.int r) H
section
variable{P:Program}{w:World}{K:PySem.W.Frag}{mg:Str->Option Value}{base:Heap}{t:Adr}
theorem scζC:FnScope ["script","k"] ["script","k"] (ζ6 sζC):=⟨rfl,rfl,rfl,by decide +kernel,rfl,by decide +kernel,by decide +kernel⟩
theorem okζC (T:Txt K mg t):FnOk P w K mg base CX0 1 t.aζC t.dζC ["script","k"] (spζC K):=by
 refine T.fζC.ok scζC (fun vs H Q E h=>?_) (fun cdv A outer s H vs Q E hr h=>?_)
 ·obtain⟨a,ns,k,rfl,_⟩:=h
  rfl
 ·obtain⟨a,ns,k,rfl,hS,hk,q⟩:=h
  refine⟨_,(ζ2 (ps_if (pt_cmpR op_lt (pv 1) (pe_callB (call_lenK K) (by rfl) T.n_len Boot.«len» (ζ0 (pv 0) ζ4)) (nomark _))
   (ζ5 (ps_ret (pe_ix (ix_listK K) (pv 0) (pv 1) (fun _ _=>rfl))))
   pss_nil)
   (ζ5 (ps_ret pe_int))),?_⟩
  refine⟨_,rfl,_,rfl,a,_,rfl,.inl hS,_,_,rfl,rfl,_,rfl,?_⟩
  refine ite2 (fun hc=>?_) (fun _=>?_)
  ·have hc:=of_decide_eq_true hc
   rw[ζ3]at hc
   obtain⟨z,hz⟩:∃ z,ns[k.toNat]?=some z:=⟨_,List.getElem?_eq_getElem (by omega)⟩
   exact⟨_,rfl,_,rfl,a,_,k,.int z,rfl,rfl,hS,atI_of (n:=k.toNat) (by omega) (by rw[List.getElem?_map,hz];rfl),q z⟩
  ·exact q 0
end
set_option maxHeartbeats 4000000
def spζD:Sp:=fun vs H Q _=>∃(c k:Int),vs=[.int c,.int k]/\0<=k/\k<1000000000/\∀ r:Int,0<=r->Q (.int r) H
section
variable{P:Program}{w:World}{K:PySem.W.Frag}{mg:Str->Option Value}{base:Heap}{t:Adr}
theorem scζD:FnScope ["cell","k","big"] ["cell","k"] (ζ6 sζD):=⟨rfl,rfl,rfl,by decide +kernel,rfl,by decide +kernel,by decide +kernel⟩
theorem okζD (T:Txt K mg t):FnOk P w K mg base CX0 1 t.aζD t.dζD ["cell","k"] spζD:=by
 refine T.fζD.ok scζD (fun vs H Q E h=>?_) (fun cdv A outer s H vs Q E hr h=>?_)
 ·obtain⟨c,k,rfl,_⟩:=h
  rfl
 ·obtain⟨c,k,rfl,k0,k1,q⟩:=h
  refine⟨_,(ζ2 (ps_set (i:=2) scζD.nd rfl (Or.inl rfl) (pe_op op_mulC (pe_op op_add (pe_op op_mod (pv 0) (pe_op op_pow pe_int pe_int)) pe_int) (pe_op op_add pe_int (pe_op op_mulC (pe_op op_mulC pe_int (pv 1)) (pv 1)))))
   (ζ2 (ps_set (i:=2) scζD.nd rfl (Or.inl rfl) (pe_op op_add (pv 2) (pe_op op_mulC pe_int (pv 1))))
   (ζ5 (ps_ret (pe_op op_mod (pe_op op_mulC (pv 2) (pv 2)) (pe_op op_add (pe_op op_pow pe_int pe_int) pe_int)))))),?_⟩
  have a0:0<=c % 10 ^ (60:Int).toNat:=Int.emod_nonneg _ (by decide)
  have a1:c % 10 ^ (60:Int).toNat<10 ^ 60:=Int.emod_lt_of_pos _ (by decide)
  have b:=prod_lt (M:=10 ^ 20) (N:=10 ^ 20) (a:=2 * k) (b:=k) (by omega) (by omega) k0 (by omega)
  have d:=prod_lt (M:=10 ^ 70) (N:=10 ^ 70) (a:=c % 10 ^ (60:Int).toNat+3) (b:=16180339887498948482045868343656381177203+2 * k * k) (by omega) (by omega) (by omega) (by omega)
  refine⟨_,rfl,_,_,rfl,rfl,⟨by decide,by decide,by decide⟩,_,_,rfl,rfl,(by show(0:Int)<10 ^ 60;decide),_,_,rfl,rfl,_,rfl,_,_,rfl,rfl,⟨⟨by decide,by decide⟩,by omega,by omega⟩,_,rfl,_,_,rfl,rfl,⟨⟨by omega,by omega⟩,by omega,by omega⟩,_,_,rfl,rfl,_,_,rfl,rfl,⟨⟨by omega,by omega⟩,by omega,by omega⟩,?_⟩
  refine⟨_,rfl,_,rfl,_,_,rfl,rfl,⟨⟨by decide,by decide⟩,by omega,by omega⟩,_,_,rfl,rfl,?_⟩
  refine⟨_,rfl,_,rfl,_,_,rfl,rfl,⟨⟨by omega,by omega⟩,by omega,by omega⟩,_,_,rfl,rfl,⟨by decide,by decide,by decide⟩,_,_,rfl,rfl,_,_,rfl,rfl,(by show(0:Int)<10 ^ 60+33;decide),?_⟩
  exact q _ (Int.emod_nonneg _ (by decide))
end
set_option maxHeartbeats 4000000
def spζE(K:PySem.W.Frag):Sp:=fun vs H Q _=>∃(a:Addr) (ns:List Int),vs=[.ref a]/\SqL K H a (IL ns)/\ns.length<=63 /\
 ∀(r:Addr) (L:List Int) (H':Hp),Same H H'->H r=none->H' r=some (.lst (IL L))->L.length<=24->(∀ x∈L,0<=x/\x<20000)->Q (.ref r) H'
section
variable{P:Program}{w:World}{K:PySem.W.Frag}{mg:Str->Option Value}{base:Heap}{t:Adr}
theorem scζE:FnScope ["script","head","told","rest","k","cell","at"] ["script"] (ζ6 sζE):=⟨rfl,rfl,rfl,by decide +kernel,rfl,by decide +kernel,by decide +kernel⟩
theorem okζE (T:Txt K mg t):FnOk P w K mg base CX0 2 t.aζE t.dζE ["script"] (spζE K):=by
 refine T.fζE.ok scζE (fun vs H Q E h=>?_) (fun cdv A outer s H vs Q E hr h=>?_)
 ·obtain⟨a,ns,rfl,_⟩:=h
  rfl
 ·obtain⟨a,ns,rfl,hA,hn63,q⟩:=h
  refine⟨_,(ζ2 (ps_set (i:=1) scζE.nd rfl (Or.inr rfl) (pe_op op_mod (pe_call (okζC T) (hr.mono (by decide)) rfl T.mζC T.fζC.kp T.bζC .nil pass0 (ζ0 (pv 0) (ζ0 pe_int ζ4))) (pe_op op_pow pe_int pe_int)))
   (ζ2 (ps_set (i:=2) scζE.nd rfl (Or.inl rfl) (pe_lst ζ4))
   (ζ2 (ps_if (pt_cmpR op_eq (pe_op op_mod (pe_call (okζC T) (hr.mono (by decide)) rfl T.mζC T.fζC.kp T.bζC .nil pass0 (ζ0 (pv 0) (ζ0 pe_int ζ4))) pe_int) pe_int (nomark _))
   (ζ2 (ps_set (i:=3) scζE.nd rfl (Or.inl rfl) (pe_op op_mod (pe_call (okζC T) (hr.mono (by decide)) rfl T.mζC T.fζC.kp T.bζC .nil pass0 (ζ0 (pv 0) (ζ0 pe_int ζ4))) (pe_op op_mulC (pe_op op_pow pe_int pe_int) (pe_op op_pow pe_int pe_int))))
   (ζ2 (ps_for PassesOwn.never rfl (pi_range1 rfl T.n_range (ζ0 (pe_op op_mod (pv 1) pe_int) ζ4)) (pg_name (i:=4) scζE.nd rfl (Or.inl rfl))
   (ζ2 (ps_if (pt_cmpR op_eq (pv 3) pe_int (nomark _))
   (ζ5 (ps_set (i:=3) scζE.nd rfl (Or.inl rfl) (pe_call (okζD T) (hr.mono (by decide)) rfl T.mζD T.fζD.kp T.bζD .nil pass0 (ζ0 (pe_call (okζC T) (hr.mono (by decide)) rfl T.mζC T.fζC.kp T.bζC .nil pass0 (ζ0 (pv 0) (ζ0 pe_int ζ4))) (ζ0 (pv 4) ζ4)))))
   pss_nil)
   (ζ2 (ps_expr (pe_bmK K PySem.F.plainAttrs_list PySem.F.slot_list_append PySem.F.type_list_append mt_append (pv 2) (ζ0 (pe_op op_mod (pv 3) pe_int) ζ4)))
   (ζ5 (ps_set (i:=3) scζE.nd rfl (Or.inl rfl) (pe_op op_fdiv (pv 3) pe_int))))))
   (ζ5 (ps_ret (pv 2)))))
   pss_nil)
   (ζ2 (ps_lc (i:=2) rfl scζE.nd rfl rfl (sc0:=ζ6 sζE) (N0:=["script","head","told","rest","k","cell","at"]) (N':=["k","head"]) (o:=1) (fr:=[1]) ⟨rfl,by decide +kernel,by decide +kernel,by decide +kernel,rfl,by decide +kernel⟩ (pi_range1 rfl T.n_range (ζ0 (pe_op op_mod (pv 1) pe_int) ζ4)) (own_name (by decide)) (fun _ _ _ _=>(pg_name (i:=0) (show List.Nodup (["k","head"]:List Str) by decide +kernel) rfl (Or.inl rfl))) (fun _ _ _ _=>pts_nil) (fun _ _ _ _=>(pe_call (okζD T) (hr.mono (by decide)) rfl T.mζD T.fζD.kp T.bζD .nil pass0 (ζ0 (pe_op op_add (pv 1) (pv 0)) (ζ0 pe_int ζ4)))))
   (ζ2 (ps_for PassesOwn.never rfl (pi_enumK K rfl T.n_enumerate (ζ0 (pe_slice (sl_listK K) (pv 0) (po_some pe_int) po_none) ζ4)) (pg_tupK (n:=2) K rfl (pgs_cons (pg_name (i:=4) scζE.nd rfl (Or.inl rfl)) (pgs_cons (pg_name (i:=5) scζE.nd rfl (Or.inl rfl)) pgs_nil)))
   (ζ5 (ps_if (pt_cmpR op_gt (pe_callB (call_lenK K) (by rfl) T.n_len Boot.«len» (ζ0 (pv 2) ζ4)) pe_int (nomark _))
   (ζ2 (ps_set (i:=6) scζE.nd rfl (Or.inl rfl) (pe_op op_mod (pv 4) (pe_callB (call_lenK K) (by rfl) T.n_len Boot.«len» (ζ0 (pv 2) ζ4))))
   (ζ5 (ps_asg (pe_call (okζD T) (hr.mono (by decide)) rfl T.mζD T.fζD.kp T.bζD .nil pass0 (ζ0 (pe_op op_add (pe_ix (ix_listK K) (pv 2) (pv 6) (fun _ _=>rfl)) (pe_op op_mod (pv 5) (pe_op op_pow pe_int pe_int))) (ζ0 (pe_op op_mod (pv 4) pe_int) ζ4))) (pg_sub (pv 2) (pv 6) set_list))))
   pss_nil)))
   (ζ5 (ps_ret (pe_lc rfl (sc0:=ζ6 sζE) (N0:=["script","head","told","rest","k","cell","at"]) (N':=["m"]) (o:=1) (fr:=[]) ⟨rfl,by decide +kernel,by decide +kernel,by decide +kernel,rfl,by decide +kernel⟩ (pi_listK K (pv 2)) (own_name (by decide)) (fun _ _ _ _=>(pg_name (i:=0) (show List.Nodup (["m"]:List Str) by decide +kernel) rfl (Or.inl rfl))) (fun _ _ _ _=>pts_nil) (fun _ _ _ _=>(pe_op op_mod (pe_op op_fdiv (pv 0) pe_int) pe_int)))))))))),?_⟩
  refine⟨_,rfl,a,ns,0,rfl,hA,by decide,fun c0=>⟨_,_,rfl,rfl,⟨by decide,by decide,by decide⟩,_,_,rfl,rfl,(by show(0:Int)<10 ^ 60;decide),?_⟩⟩
  refine nm ?_
  dsimp only
  generalize c0 % 10 ^ (60:Int).toNat=hd
  have h0:0<=hd % 25:=Int.emod_nonneg _ (by decide)
  have h1:hd % 25<25:=Int.emod_lt_of_pos _ (by decide)
  refine⟨Nat.zero_le _,fun td htd=>?_⟩
  have s0:=same_at (o:=.lst []) htd
  have htd0:(upd H td (.lst [])) td=some (.lst []):=ζ1
  have hA0:=s0.seq hA
  generalize upd H td (.lst [])=H0 at *
  refine nm ?_
  dsimp only
  have t20:∀ z:Int,0<=z % 20000/\z % 20000<20000:=fun z=>⟨Int.emod_nonneg _ (by decide),Int.emod_lt_of_pos _ (by decide)⟩
  refine⟨_,rfl,a,ns,1,rfl,hA0,by decide,fun c1=>⟨_,_,rfl,rfl,(by show(0:Int)<2;decide),rfl,_,rfl,?_⟩⟩
  rw[dec_int]
  refine itd2 (fun _=>?_) (fun _=>?_)
  ·refine⟨_,rfl,a,ns,2,rfl,hA0,by decide,fun c2=>⟨_,_,rfl,rfl,⟨by decide,by decide,by decide⟩,_,_,rfl,rfl,⟨by decide,by decide,by decide⟩,_,_,rfl,rfl,⟨⟨by decide,by decide⟩,by decide,by decide⟩,_,_,rfl,rfl,(by show(0:Int)<10 ^ 60 * 10 ^ 60;decide),?_⟩⟩
   refine nm ?_
   dsimp only
   generalize c2 % (10 ^ (60:Int).toNat * 10 ^ (60:Int).toNat)=rs0
   refine⟨_,rfl,_,_,rfl,rfl,(by show(0:Int)<25;decide),_,rfl,by omega,by omega,for_range (lo:=0) (n:=(hd % 25).toNat) (fun i σ H2=>∃(L:List Int) (rs:Int) (v4:Option V),σ=[some (.ref a),some (.int hd),some (.ref td),some (.int rs),v4,none,none]/\Same H H2/\H2 td=some (.lst (IL L))/\L.length=i/\∀ x∈L,0<=x/\x<20000) ⟨[],rs0,none,rfl,s0,htd0,rfl,fun x h=>(by cases h)⟩ ?_ ?_⟩
   ·rintro i σ H2 hi ⟨L,rs,v4,rfl,s2,h2,hL,hb⟩
    refine nm ?_
    dsimp only
    refine contS (fun σ H3=>∃ rs':Int,H3=H2/\σ=[some (.ref a),some (.int hd),some (.ref td),some (.int rs'),some (.int (0+(i:Int))),none,none]) ?_ ?_
    ·rintro σ H3 ⟨rs',rfl,rfl⟩
     refine⟨_,rfl,.inl ⟨rfl,_,SqL.of h2⟩,_,rfl,_,_,rfl,rfl,(by show(0:Int)<20000;decide),td,_,_,rfl,rfl,h2,small60' (by rw[ζ3];omega),?_⟩
     refine⟨_,rfl,_,_,rfl,rfl,⟨by decide,by decide⟩,?_⟩
     refine⟨L++[rs' % 20000],_,_,rfl,same_upd htd s2,by rw[ζ1,il_snoc],by rw[List.length_append,hL];rfl,fun x hx=>?_⟩
     rcases List.mem_append.mp hx with e | e
     ·exact hb x e
     ·rw[List.mem_singleton.mp e];exact t20 _
    ·intro Kn hK
     refine⟨_,rfl,rfl,_,rfl,?_⟩
     rw[dec_int]
     refine itd2 (fun _=>?_) (fun _=>hK _ _ ⟨rs,rfl,rfl⟩)
     exact⟨_,rfl,a,ns,2,rfl,s2.seq hA,by decide,fun c3=>⟨_,rfl,c3,_,rfl,by omega,by omega,fun r3 _=>hK _ _ ⟨r3,rfl,rfl⟩⟩⟩
   ·rintro σ H2 ⟨L,rs,v4,rfl,s2,h2,hL,hb⟩
    exact⟨_,rfl,q td L H2 s2 htd h2 (by omega) hb⟩
  ·-- told anew
   refine⟨_,rfl,_,_,rfl,rfl,(by show(0:Int)<25;decide),_,rfl,by omega,by omega,lc_range (lo:=0) (n:=(hd % 25).toNat) (fun i ws H2=>H2=H0/\∃ L:List Int,ws=IL L/\L.length=i) ⟨rfl,[],rfl,rfl⟩ (small60' (by omega)) (fun i ws H2 _ ⟨_,L,e,el⟩=>by rw[e,ζ3,el];exact Nat.le_refl _) ?_ ?_⟩
   ·rintro i ws H2 hi ⟨rfl,L,rfl,hL⟩ S hSS
    refine nm ?_
    refine⟨_,rfl,_,rfl,_,_,rfl,rfl,_,40,rfl,by decide,by decide,fun r _=>hSS _ _ ⟨rfl,L++[r],(il_snoc ..).symm,by rw[List.length_append,hL];rfl⟩⟩
   rintro ws H2 ⟨rfl,L0,rfl,hL0⟩ tn htn
   have u1:=same_at (o:=.lst (IL L0)) htn
   have k1:(upd H2 tn (.lst (IL L0))) tn=some (.lst (IL L0)):=ζ1
   have tn0:H tn=none:=s0.free htn
   have s1:=s0.trans u1
   have hA1:=s1.seq hA
   generalize upd H2 tn (.lst (IL L0))=H1 at *
   refine nm ?_
   dsimp only
   refine⟨_,rfl,_,rfl,a,_,rfl,hA1,fun p1 hp1=>?_⟩
   rw[cutI_eq]
   have cl:(cutI ns (some 2) none).length<=63:=by
    have:=cutV_length (IL ns) (some 2) none
    rw[cutI_eq,ζ3,ζ3]at this
    omega
   generalize cutI ns (some 2) none=cs at *
   have u2:=same_at (o:=.lst (IL cs)) hp1
   have hpt:p1≠tn:=Ne.symm (ne_of_none k1 hp1)
   refine⟨p1,rfl,⟨_,SqL.of ζ1⟩,for_enum (K:=K) (a:=p1) (xs:=IL cs) (fun i σ H3=>∃(L:List Int) (v4 v5 v6:Option V),σ=[some (.ref a),some (.int hd),some (.ref tn),none,v4,v5,v6]/\Same H H3/\H3 p1=some (.lst (IL cs))/\H3 tn=some (.lst (IL L))/\L.length<=24) ⟨L0,none,none,none,rfl,s1.trans u2,ζ1,u2 _ _ k1,by omega⟩ (fun i σ H3 _ ⟨_,_,_,_,_,_,e,_⟩=>SqL.of e) ?_ ?_⟩
   ·rintro i v σ H3 pt hpt2 hi ⟨L,v4,v5,v6,rfl,s3,hp3,h3,hL⟩
    obtain⟨c,rfl,hc⟩:=il_get hi
    have u4:=same_at (o:=.tup [.int i,.int c]) hpt2
    refine⟨pt,_,rfl,SqT.of ζ1,rfl,_,_,rfl,_,_,rfl,rfl,?_⟩
    have hp4:=u4 _ _ hp3
    have h4:=u4 _ _ h3
    have s4:=s3.trans u4
    generalize upd H3 pt (.tup [.int i,.int c])=H4 at *
    refine⟨_,rfl,tn,_,rfl,.inl (SqL.of h4),_,_,rfl,rfl,_,rfl,?_⟩
    refine itd2 (fun hpos=>?_) (fun _=>⟨L,_,_,_,rfl,s4,hp4,h4,hL⟩)
    rw[ζ3]at hpos
    have pos:(0:Int)<((IL L).length:Int):=by rw[ζ3];omega
    refine⟨_,rfl,_,rfl,tn,_,rfl,.inl (SqL.of h4),_,_,rfl,rfl,pos,?_⟩
    refine nm ?_
    dsimp only
    have at0:0<=(i:Int) % ((IL L).length:Int):=Int.emod_nonneg _ (by omega)
    have at1:(i:Int) % ((IL L).length:Int)<((IL L).length:Int):=Int.emod_lt_of_pos _ pos
    generalize (i:Int) % ((IL L).length:Int)=at' at *
    rw[ζ3]at at1
    obtain⟨y,hy⟩:∃ y,L[at'.toNat]?=some y:=⟨_,List.getElem?_eq_getElem (by omega)⟩
    have m37a:0<=(i:Int) % 37:=Int.emod_nonneg _ (by decide)
    have m37b:(i:Int) % 37<37:=Int.emod_lt_of_pos _ (by decide)
    refine⟨_,rfl,_,rfl,tn,_,_,.int y,rfl,rfl,SqL.of h4,atI_of (n:=at'.toNat) (by omega) (il_at hy),_,rfl,_,_,rfl,rfl,⟨by decide,by decide,by decide⟩,_,_,rfl,rfl,(by show(0:Int)<10 ^ 60;decide),_,_,rfl,rfl,_,rfl,_,_,rfl,rfl,(by show(0:Int)<37;decide),_,_,rfl,m37a,by omega,fun r _=>?_⟩
    have ix:ixN (IL L).length at'=some at'.toNat:=by unfold ixN;rw[if_pos at0,if_pos (by rw[ζ3];omega)]
    refine⟨_,rfl,_,rfl,tn,_,_,_,rfl,rfl,h4,ix,?_⟩
    have es:(IL L).set at'.toNat (.int r)=IL (L.set at'.toNat r):=(List.map_set ..).symm
    rw[es]
    exact⟨L.set at'.toNat r,_,_,_,rfl,same_upd tn0 s4,by rw[upd_ne hpt];exact hp4,ζ1,by rw[List.length_set];exact hL⟩
   rintro σ H3 ⟨L,v4,v5,v6,rfl,s3,hp3,h3,hL⟩
   refine⟨_,rfl,tn,rfl,⟨_,SqL.of h3⟩,lc_list (K:=K) (a:=tn) (xs:=IL L) (fun i ws H4=>H4=H3/\∃ R:List Int,ws=IL R/\R.length=i/\∀ x∈R,0<=x/\x<20000) ⟨rfl,[],rfl,rfl,fun x h=>(by cases h)⟩ (small60' (by rw[ζ3];omega)) (fun i ws H4 _ ⟨e,R,ew,er,_⟩=>⟨e ▸ SqL.of h3,by rw[ew,ζ3,er];exact Nat.le_refl _⟩) ?_ ?_⟩
   ·rintro i v ws H4 hi ⟨rfl,R,rfl,hR,hb⟩ S hSS
    obtain⟨z,rfl,hz⟩:=il_get hi
    refine nm ?_
    refine⟨_,rfl,_,_,rfl,rfl,⟨by decide,by decide⟩,_,_,rfl,rfl,(by show(0:Int)<20000;decide),hSS _ _ ⟨rfl,R++[z / 8 % 20000],(il_snoc ..).symm,by rw[List.length_append,hR];rfl,fun x hx=>?_⟩⟩
    rcases List.mem_append.mp hx with e | e
    ·exact hb x e
    ·rw[List.mem_singleton.mp e];exact t20 _
   rintro ws H4 ⟨rfl,R,rfl,hR,hb⟩ rr hrr
   rw[ζ3]at hR
   exact q rr R _ (s3.trans (same_at hrr)) (s3.free hrr) ζ1 (by omega) hb
end
set_option maxHeartbeats 4000000
def spζF(K:PySem.W.Frag):Sp:=fun vs H Q _=>∃(a:Addr) (xs:List V) (ts:List (List Int)),vs=[.ref a]/\SqL K H a xs/\Bears (ListV H) xs ts/\ts.flatten.Nodup/\ts.flatten.length<=1000/\(∀ l∈ts,∀ z∈l,0<=z) /\
 ∀(d:Addr) (H':Hp),Same H H'->H d=none->H' d=some (.dK (kvI (bhL ts)))->Q (.ref d) H'
theorem kvI_len75(L:List (Int × Int)):(kvI L).length=L.length:=by unfold kvI;rw[List.length_map]
section
variable{P:Program}{w:World}{K:PySem.W.Frag}{mg:Str->Option Value}{base:Heap}{t:Adr}
theorem scζF:FnScope ["turns","told","row","k","dart"] ["turns"] (ζ6 sζF):=⟨rfl,rfl,rfl,by decide +kernel,rfl,by decide +kernel,by decide +kernel⟩
theorem okζF (T:Txt K mg t):FnOk P w K mg base CX0 1 t.aζF t.dζF ["turns"] (spζF K):=by
 refine T.fζF.ok scζF (fun vs H Q E h=>?_) (fun cdv A outer s H vs Q E hr h=>?_)
 ·obtain⟨a,xs,ts,rfl,_⟩:=h
  rfl
 ·obtain⟨a,xs,ts,rfl,hA,hX,hnd,hfl,hnn,q⟩:=h
  refine⟨_,(ζ2 (ps_set (i:=1) scζF.nd rfl (Or.inl rfl) pe_dnewK)
   (ζ2 (ps_for PassesOwn.never rfl (pi_listK K (pv 0)) (pg_name (i:=2) scζF.nd rfl (Or.inl rfl))
   (ζ5 (ps_for PassesOwn.never rfl (pi_enumK K rfl T.n_enumerate (ζ0 (pv 2) ζ4)) (pg_tupK (n:=2) K rfl (pgs_cons (pg_name (i:=3) scζF.nd rfl (Or.inl rfl)) (pgs_cons (pg_name (i:=4) scζF.nd rfl (Or.inl rfl)) pgs_nil)))
   (ζ5 (ps_dput (hu_of hr) (pv 1) (pe_op op_xor (pv 4) pe_int) (pe_ix (ix_listK K) (pv 2) (pe_op op_mod (pe_op op_add (pv 3) pe_int) (pe_callB (call_lenK K) (by rfl) T.n_len Boot.«len» (ζ0 (pv 2) ζ4))) (fun _ _=>rfl)) rfl)))))
   (ζ5 (ps_ret (pv 1))))),?_⟩
  intro d hd
  have u1:=same_at (o:=.dK []) hd
  have k1:(upd H d (.dK [])) d=some (.dK []):=ζ1
  generalize upd H d (.dK [])=H1 at *
  refine nm ?_
  dsimp only
  refine⟨_,rfl,a,rfl,⟨_,u1.seq hA⟩,for_list (K:=K) (a:=a) (xs:=xs) (fun i σ H2=>∃ v2 v3 v4:Option V,σ=[some (.ref a),some (.ref d),v2,v3,v4]/\Same H H2/\i<=xs.length/\H2 d=some (.dK (kvI (bhL (ts.take i))))) ⟨none,none,none,rfl,u1,Nat.zero_le _,k1⟩ (fun i σ H2 _ ⟨_,_,_,_,e,_⟩=>e.seq hA) ?_ ?_⟩
  ·rintro i v σ H2 hi ⟨v2,v3,v4,rfl,s2,hil,k2⟩
   obtain⟨row,hrow,r,rfl,hr⟩:=hX.at hi
   have hil':=(List.getElem?_eq_some_iff.mp hi).1
   have hrs:(ts.take i).flatten.length+row.length<=1000:=by
    have e:ts.flatten=(ts.take (i+1)).flatten++(ts.drop (i+1)).flatten:=by rw[<- List.flatten_append,List.take_append_drop]
    rw[e,flat_take hrow,List.length_append,List.length_append]at hfl
    omega
   refine nm ?_
   dsimp only
   refine⟨_,rfl,r,rfl,⟨_,SqL.of (s2 _ _ hr)⟩,for_enum (K:=K) (a:=r) (xs:=IL row) (fun j σ H3=>∃ v3 v4:Option V,σ=[some (.ref a),some (.ref d),some (.ref r),v3,v4]/\Same H H3/\j<=row.length/\H3 d=some (.dK (kvI (bhL (ts.take i)++bhR row j)))) ⟨v3,v4,rfl,s2,Nat.zero_le _,by rw[show bhR row 0=[] from rfl,List.append_nil];exact k2⟩ (fun j σ H3 _ ⟨_,_,_,e,_⟩=>SqL.of (e _ _ hr)) ?_ ?_⟩
   ·rintro j x σ H3 pt hpt hj ⟨w3,w4,rfl,s3,hjl,k4⟩
    obtain⟨z,rfl,hz⟩:=il_get hj
    have hjl':=(List.getElem?_eq_some_iff.mp hz).1
    have z0:=hnn row (List.mem_of_getElem? hrow) z (List.mem_of_getElem? hz)
    have u4:=same_at (o:=.tup [.int j,.int z]) hpt
    refine⟨pt,_,rfl,SqT.of ζ1,rfl,_,_,rfl,_,_,rfl,rfl,?_⟩
    have k5:=u4 _ _ k4
    have s5:=s3.trans u4
    generalize upd H3 pt (.tup [.int j,.int z])=H5 at *
    have pos:(0:Int)<((IL row).length:Int):=by rw[ζ3];omega
    have em:((j:Int)+1) % ((IL row).length:Int)=(((j+1) % row.length:Nat):Int):=by rw[ζ3,Int.natCast_emod,Int.natCast_add];rfl
    have lt2:(j+1) % row.length<row.length:=Nat.mod_lt _ (by omega)
    obtain⟨y,hy⟩:∃ y,row[(j+1) % row.length]?=some y:=⟨_,List.getElem?_eq_getElem lt2⟩
    have e1:row.getD j 0=z:=getD_of hz
    have e2:row.getD ((j+1) % row.length) 0=y:=getD_of hy
    refine⟨_,rfl,_,rfl,_,_,rfl,rfl,_,rfl,r,_,rfl,.inl (SqL.of (s5 _ _ hr)),_,_,rfl,rfl,pos,r,_,_,.int y,rfl,rfl,SqL.of (s5 _ _ hr),atI_of (n:=(j+1) % row.length) em (il_at hy),_,rfl,_,rfl,_,_,rfl,rfl,?_⟩
    show ∃ _,_
    refine⟨d,_,rfl,DPut.k (k:=Sum.inl (Builtin.bitXor z 1)) k5 (small60' (by rw[kvI_len75,List.length_append,bhL_len,bhR_len];omega)),?_⟩
    rw[xor_one z0]
    have nw:=bh_new hnd hrow hjl'
    rw[e1]at nw
    refine⟨_,_,rfl,same_upd hd s5,hjl',?_⟩
    rw[ζ1,kvI_put nw,bhR_succ,e1,e2,List.append_assoc]
   rintro σ H3 ⟨w3,w4,rfl,s3,_,k4⟩
   rw[ζ3]at k4
   exact⟨_,_,_,rfl,s3,hil',by rw[bhL_take hrow];exact k4⟩
  rintro σ H2 ⟨v2,v3,v4,rfl,s2,_,k2⟩
  rw[hX.1,List.take_length]at k2
  exact⟨_,rfl,q d H2 s2 hd k2⟩
end
set_option maxHeartbeats 4000000
def optV:Option Int->V
 | none=>.non
 | some z=>.int z
theorem putR_snoc{one d0 d1 z:Int}{other:Option Int}{row:List Int}{j:Nat}(h:row[j]?=some z):putR one other d0 d1 (row.take (j+1))=putR one other d0 d1 (row.take j)++((if z=one then [d0] else [])++(if some z=other then [d1] else [])++[z]):=by
 unfold putR
 rw[List.take_succ,h,List.flatMap_append]
 simp
theorem putR_len(one d0 d1:Int)(other:Option Int):∀ row:List Int,(putR one other d0 d1 row).length<=3 * row.length
 | []=>Nat.le_refl _
 | z :: row=>by
  have:=putR_len one d0 d1 other row
  show((if z=one then [d0] else [])++(if some z=other then [d1] else [])++[z]++putR one other d0 d1 row).length<=_
  rw[List.length_append,List.length_append,List.length_append,List.length_singleton,List.length_cons]
  split <;> split <;> simp <;> omega
def spζG(K:PySem.W.Frag):Sp:=fun vs H Q _=>∃(a b:Addr) (xs:List V) (ts:List (List Int)) (one d0 d1:Int) (other:Option Int),vs=[.ref a,.int one,optV other,.ref b]/\SqL K H a xs/\Bears (ListV H) xs ts/\SqL K H b (IL [d0,d1])/\ts.length<=1000/\(∀ l∈ts,l.length<=1000) /\
 ∀(r:Addr) (ys:List V) (H':Hp),Same H H'->H r=none->JagAt H r H' ys (ts.map (putR one other d0 d1))->Q (.ref r) H'
section
variable{P:Program}{w:World}{K:PySem.W.Frag}{mg:Str->Option Value}{base:Heap}{t:Adr}
theorem scζG:FnScope ["turns","one","other","darts","told","row","made","dart"] ["turns","one","other","darts"] (ζ6 sζG):=⟨rfl,rfl,rfl,by decide +kernel,rfl,by decide +kernel,by decide +kernel⟩
theorem okζG (T:Txt K mg t):FnOk P w K mg base CX0 1 t.aζG t.dζG ["turns","one","other","darts"] (spζG K):=by
 refine T.fζG.ok scζG (fun vs H Q E h=>?_) (fun cdv A outer s H vs Q E hr h=>?_)
 ·obtain⟨a,b,xs,ts,one,d0,d1,other,rfl,_⟩:=h
  rfl
 ·obtain⟨a,b,xs,ts,one,d0,d1,other,rfl,hA,hX,hB,hl1,hl2,q⟩:=h
  refine⟨_,(ζ2 (ps_set (i:=4) scζG.nd rfl (Or.inl rfl) (pe_lst ζ4))
   (ζ2 (ps_for PassesOwn.never rfl (pi_listK K (pv 0)) (pg_name (i:=5) scζG.nd rfl (Or.inl rfl))
   (ζ2 (ps_set (i:=6) scζG.nd rfl (Or.inl rfl) (pe_lst ζ4))
   (ζ2 (ps_for PassesOwn.never rfl (pi_listK K (pv 5)) (pg_name (i:=7) scζG.nd rfl (Or.inl rfl))
   (ζ2 (ps_if (pt_cmpR op_eq (pv 7) (pv 1) (nomark _))
   (ζ5 (ps_expr (pe_bmK K PySem.F.plainAttrs_list PySem.F.slot_list_append PySem.F.type_list_append mt_append (pv 6) (ζ0 (pe_ix (ix_listK K) (pv 3) pe_int (fun _ _=>rfl)) ζ4))))
   pss_nil)
   (ζ2 (ps_if (pt_cmpR op_eq (pv 7) (pv 2) (nomark _))
   (ζ5 (ps_expr (pe_bmK K PySem.F.plainAttrs_list PySem.F.slot_list_append PySem.F.type_list_append mt_append (pv 6) (ζ0 (pe_ix (ix_listK K) (pv 3) pe_int (fun _ _=>rfl)) ζ4))))
   pss_nil)
   (ζ5 (ps_expr (pe_bmK K PySem.F.plainAttrs_list PySem.F.slot_list_append PySem.F.type_list_append mt_append (pv 6) (ζ0 (pv 7) ζ4)))))))
   (ζ5 (ps_expr (pe_bmK K PySem.F.plainAttrs_list PySem.F.slot_list_append PySem.F.type_list_append mt_append (pv 4) (ζ0 (pv 6) ζ4)))))))
   (ζ5 (ps_ret (pv 4))))),?_⟩
  have hxl:=hX.1
  refine⟨Nat.zero_le _,fun rA hrA=>?_⟩
  have u1:=same_at (o:=.lst []) hrA
  have k1:(upd H rA (.lst [])) rA=some (.lst []):=ζ1
  generalize upd H rA (.lst [])=H1 at *
  refine nm ?_
  dsimp only
  refine⟨_,rfl,a,rfl,⟨_,u1.seq hA⟩,for_list (K:=K) (a:=a) (xs:=xs) (fun i σ H2=>∃(v5 v6 v7:Option V) (ys:List V),σ=[some (.ref a),some (.int one),some (optV other),some (.ref b),some (.ref rA),v5,v6,v7]/\Same H H2/\i<=xs.length/\JagAt H rA H2 ys ((ts.take i).map (putR one other d0 d1))) ⟨none,none,none,[],rfl,u1,Nat.zero_le _,JagAt.nil k1⟩ (fun i σ H2 _ ⟨_,_,_,_,_,e,_⟩=>e.seq hA) ?_ ?_⟩
  ·rintro i v σ H2 hi ⟨v5,v6,v7,ys,rfl,s2,hil,hJ⟩
   obtain⟨row,hrow,r,rfl,hr⟩:=hX.at hi
   have hil':=(List.getElem?_eq_some_iff.mp hi).1
   have hrl:=hl2 row (List.mem_of_getElem? hrow)
   have hyl:=hJ.rows.1
   rw[List.length_map,List.length_take]at hyl
   refine nm ?_
   dsimp only
   refine⟨Nat.zero_le _,fun mA hmA=>?_⟩
   have u3:=same_at (o:=.lst []) hmA
   have k3:(upd H2 mA (.lst [])) mA=some (.lst []):=ζ1
   have mn0:H mA=none:=s2.free hmA
   have mr:mA≠rA:=Ne.symm (ne_of_none hJ.tab hmA)
   have mfr:=hJ.fresh hmA
   have hJ3:=hJ.same u3
   have s3:=s2.trans u3
   generalize upd H2 mA (.lst [])=H3 at *
   refine nm ?_
   dsimp only
   have hJo:∀ {H':Hp} {l:List V},JagAt H rA H' ys ((ts.take i).map (putR one other d0 d1))->JagAt H rA (upd H' mA (.lst l)) ys ((ts.take i).map (putR one other d0 d1)):=fun {H' l} h=>by
    refine⟨by rw[upd_ne (Ne.symm mr)];exact h.tab,⟨h.rows.1,fun j l' e=>?_⟩,h.nd,h.new⟩
    obtain⟨v,e1,A,rfl,e2,e3⟩:=h.rows.2 j l' e
    refine⟨_,e1,A,rfl,?_,e3⟩
    rw[upd_ne]
    ·exact e2
    ·intro z
     rw[z]at e1
     exact mfr (List.mem_of_getElem? e1)
   refine⟨_,rfl,r,rfl,⟨_,SqL.of (s3 _ _ hr)⟩,for_list (K:=K) (a:=r) (xs:=IL row) (fun j σ H4=>∃(v7:Option V),σ=[some (.ref a),some (.int one),some (optV other),some (.ref b),some (.ref rA),some (.ref r),some (.ref mA),v7]/\Same H H4/\j<=row.length/\JagAt H rA H4 ys ((ts.take i).map (putR one other d0 d1))/\H4 mA=some (.lst (IL (putR one other d0 d1 (row.take j))))) ⟨v7,rfl,s3,Nat.zero_le _,hJ3,k3⟩ (fun j σ H4 _ ⟨_,_,e,_⟩=>SqL.of (e _ _ hr)) ?_ ?_⟩
   ·rintro j x σ H4 hj ⟨w7,rfl,s4,hjl,hJ4,k4⟩
    obtain⟨z,rfl,hz⟩:=il_get hj
    have hjl':=(List.getElem?_eq_some_iff.mp hz).1
    have pl:=putR_len one d0 d1 other (row.take j)
    rw[List.length_take]at pl
    refine nm ?_
    dsimp only
    refine contS (fun σ H5=>σ=[some (.ref a),some (.int one),some (optV other),some (.ref b),some (.ref rA),some (.ref r),some (.ref mA),some (.int z)]/\Same H H5/\JagAt H rA H5 ys ((ts.take i).map (putR one other d0 d1))/\H5 mA=some (.lst (IL (putR one other d0 d1 (row.take j)++(if z=one then [d0] else []))))) ?_ ?_
    rotate_left
    ·intro Kn hK
     refine⟨_,rfl,_,rfl,rfl,_,rfl,?_⟩
     rw[dec_int]
     refine itd2 (fun h=>?_) (fun h=>?_)
     ·refine⟨_,rfl,.inl ⟨rfl,_,SqL.of k4⟩,_,rfl,b,_,0,.int d0,rfl,rfl,s4.seq hB,rfl,mA,_,_,rfl,rfl,k4,small60' (by rw[ζ3];omega),hK _ _ ⟨rfl,same_upd mn0 s4,hJo hJ4,?_⟩⟩
      rw[ζ1,if_pos h,il_snoc]
     ·refine hK _ _ ⟨rfl,s4,hJ4,?_⟩
      rw[if_neg h,List.append_nil]
      exact k4
    rintro σ H5 ⟨rfl,s5,hJ5,k5⟩
    refine contS (fun σ H6=>σ=[some (.ref a),some (.int one),some (optV other),some (.ref b),some (.ref rA),some (.ref r),some (.ref mA),some (.int z)]/\Same H H6/\JagAt H rA H6 ys ((ts.take i).map (putR one other d0 d1))/\H6 mA=some (.lst (IL (putR one other d0 d1 (row.take j)++(if z=one then [d0] else [])++(if some z=other then [d1] else []))))) ?_ ?_
    rotate_left
    ·intro Kn hK
     have no:some z≠other->Kn [some (.ref a),some (.int one),some (optV other),some (.ref b),some (.ref rA),some (.ref r),some (.ref mA),some (.int z)] H5:=fun h=>hK _ _ ⟨rfl,s5,hJ5,by rw[if_neg h,List.append_nil];exact k5⟩
     cases other with
     | none =>
      refine⟨_,rfl,_,rfl,rfl,_,rfl,?_⟩
      refine itd2 (fun h=>by cases h) (fun _=>no (fun h=>by cases h))
     | some y =>
      refine⟨_,rfl,_,rfl,rfl,_,rfl,?_⟩
      show if decide (V.int z=V.int y)=true then _ else _
      rw[dec_int]
      refine itd2 (fun h=>?_) (fun h=>no (fun e=>h (Option.some.inj e)))
      refine⟨_,rfl,.inl ⟨rfl,_,SqL.of k5⟩,_,rfl,b,_,1,.int d1,rfl,rfl,s5.seq hB,rfl,mA,_,_,rfl,rfl,k5,small60' (by rw[ζ3,List.length_append];split <;> simp <;> omega),hK _ _ ⟨rfl,same_upd mn0 s5,hJo hJ5,?_⟩⟩
      rw[ζ1,if_pos (c:=some z=some y) (by rw[h]),il_snoc]
    rintro σ H6 ⟨rfl,s6,hJ6,k6⟩
    refine⟨_,rfl,.inl ⟨rfl,_,SqL.of k6⟩,_,rfl,mA,_,_,rfl,rfl,k6,small60' (by rw[ζ3,List.length_append,List.length_append];split <;> split <;> simp <;> omega),?_⟩
    refine⟨_,rfl,same_upd mn0 s6,hjl',hJo hJ6,?_⟩
    rw[ζ1,putR_snoc hz,<- List.append_assoc,<- List.append_assoc,il_snoc]
   rintro σ H4 ⟨w7,rfl,s4,_,hJ4,k4⟩
   rw[ζ3,List.take_length]at k4
   refine⟨_,rfl,.inl ⟨rfl,_,SqL.of hJ4.tab⟩,_,rfl,rA,_,_,rfl,rfl,hJ4.tab,small60' (by omega),?_⟩
   have hJ5:=hJ4.snoc k4 mn0 mr mfr
   refine⟨_,_,_,ys++[.ref mA],rfl,same_upd hrA s4,hil',?_⟩
   rw[List.take_succ,hrow,List.map_append]
   exact hJ5
  rintro σ H2 ⟨v5,v6,v7,ys,rfl,s2,_,hJ⟩
  rw[hxl,List.take_length]at hJ
  exact⟨_,rfl,q rA ys H2 s2 hrA hJ⟩
end
set_option maxHeartbeats 4000000
def spζH(K:PySem.W.Frag):Sp:=fun vs H Q _=>∃(a:Addr) (m:Int) (xs:List V) (ts:List (List Int)),vs=[.ref a,.int m]/\SqL K H a xs/\Bears (ListV H) xs ts/\ts.length<=1000/\(∃ l∈ts,l≠[]) /\
 ∀(x:Int) (p:Nat) (row:List Int) (H':Hp),Same H H'->ts[p]?=some row->x∈row->Q (.int x) H'
section
variable{P:Program}{w:World}{K:PySem.W.Frag}{mg:Str->Option Value}{base:Heap}{t:Adr}
theorem scζH:FnScope ["turns","m","rows","row"] ["turns","m"] (ζ6 sζH):=⟨rfl,rfl,rfl,by decide +kernel,rfl,by decide +kernel,by decide +kernel⟩
theorem okζH (T:Txt K mg t):FnOk P w K mg base CX0 1 t.aζH t.dζH ["turns","m"] (spζH K):=by
 refine T.fζH.ok scζH (fun vs H Q E h=>?_) (fun cdv A outer s H vs Q E hr h=>?_)
 ·obtain⟨a,m,xs,ts,rfl,_⟩:=h
  rfl
 ·obtain⟨a,m,xs,ts,rfl,hA,hX,hl1,hne,q⟩:=h
  refine⟨_,(ζ2 (ps_lc (i:=2) rfl scζH.nd rfl rfl (sc0:=ζ6 sζH) (N0:=["turns","m","rows","row"]) (N':=["row"]) (o:=1) (fr:=[]) ⟨rfl,by decide +kernel,by decide +kernel,by decide +kernel,rfl,by decide +kernel⟩ (pi_listK K (pv 0)) (own_name (by decide)) (fun _ _ _ _=>(pg_name (i:=0) (show List.Nodup (["row"]:List Str) by decide +kernel) rfl (Or.inl rfl))) (fun _ _ _ _=>(pts_one (pt_cmpR op_gt (pe_callB (call_lenK K) (by rfl) T.n_len Boot.«len» (ζ0 (pv 0) ζ4)) pe_int (nomark _)))) (fun _ _ _ _=>(pv 0)))
   (ζ2 (ps_set (i:=3) scζH.nd rfl (Or.inl rfl) (pe_ix (ix_listK K) (pv 2) (pe_op op_mod (pv 1) (pe_callB (call_lenK K) (by rfl) T.n_len Boot.«len» (ζ0 (pv 2) ζ4))) (fun _ _=>rfl)))
   (ζ5 (ps_ret (pe_ix (ix_listK K) (pv 3) (pe_op op_mod (pe_op op_fdiv (pv 1) pe_int) (pe_callB (call_lenK K) (by rfl) T.n_len Boot.«len» (ζ0 (pv 3) ζ4))) (fun _ _=>rfl)))))),?_⟩
  have hxl:=hX.1
  refine⟨_,rfl,a,rfl,⟨_,hA⟩,lc_list (K:=K) (a:=a) (xs:=xs) (fun i zs H2=>H2=H/\zs.length<=i/\(∀ v∈zs,∃(p:Nat) (l:List Int) (r:Addr),ts[p]?=some l/\l≠[]/\v=.ref r/\H r=some (.lst (IL l)))/\∀(j:Nat) (l:List Int),j<i->ts[j]?=some l->l≠[]->zs≠[]) ⟨rfl,Nat.le_refl _,fun v h=>(by cases h),fun j l h=>by omega⟩ (small60' (by omega)) (fun i zs H2 _ ⟨e,el,_⟩=>⟨e ▸ hA,el⟩) ?_ ?_⟩
  ·rintro i v zs H2 hi ⟨rfl,hzl,hz,hzne⟩ S hSS
   obtain⟨l,hl,r,rfl,hr⟩:=hX.at hi
   refine nm ?_
   refine⟨_,rfl,r,_,rfl,.inl (SqL.of hr),_,_,rfl,rfl,_,rfl,?_⟩
   refine itd2 (fun h=>?_) (fun h=>?_)
   ·have l0:l≠[]:=fun e=>by rw[e]at h;exact absurd h (by decide)
    refine⟨_,rfl,hSS _ _ ⟨rfl,by rw[List.length_append];show zs.length+1<=_;omega,fun v hv=>?_,fun j l' _ _ _=>by simp⟩⟩
    rcases List.mem_append.mp hv with e | e
    ·exact hz v e
    ·rw[List.mem_singleton.mp e]
     exact⟨i,l,r,hl,l0,rfl,hr⟩
   ·have l0:l=[]:=by
     cases l with
     | nil=>rfl
     | cons x l=>exact absurd (show(0:Int)<((IL (x :: l)).length:Int) by rw[ζ3,List.length_cons];omega) h
    refine hSS _ _ ⟨rfl,by omega,hz,fun j l' hj e1 e2=>?_⟩
    by_cases c:j=i
    ·rw[c,hl]at e1
     obtain rfl:=Option.some.inj e1
     exact absurd l0 e2
    ·exact hzne j l' (by omega) e1 e2
  rintro zs H2 ⟨rfl,hzl,hz,hzne⟩ rA hrA
  have z0:zs≠[]:=by
   obtain⟨l,hl,hl0⟩:=hne
   obtain⟨j,hj⟩:=List.getElem?_of_mem hl
   exact hzne j l (by have:=(List.getElem?_eq_some_iff.mp hj).1;omega) hj hl0
  have zp:0<zs.length:=List.length_pos_iff.mpr z0
  have u1:=same_at (o:=.lst zs) hrA
  have k1:(upd H2 rA (.lst zs)) rA=some (.lst zs):=ζ1
  generalize upd H2 rA (.lst zs)=H1 at *
  refine nm ?_
  dsimp only
  have pos:(0:Int)<(zs.length:Int):=by omega
  have m0:0<=m % (zs.length:Int):=Int.emod_nonneg _ (by omega)
  have m1:m % (zs.length:Int)<(zs.length:Int):=Int.emod_lt_of_pos _ pos
  obtain⟨v,hv⟩:∃ v,zs[(m % (zs.length:Int)).toNat]?=some v:=⟨_,List.getElem?_eq_getElem (by omega)⟩
  obtain⟨p,l,r,hp,hl0,rfl,hr⟩:=hz v (List.mem_of_getElem? hv)
  refine⟨_,rfl,_,rfl,_,rfl,rA,_,rfl,.inl (SqL.of k1),_,_,rfl,rfl,pos,rA,_,_,.ref r,rfl,rfl,SqL.of k1,atI_of (n:=(m % (zs.length:Int)).toNat) (by omega) hv,?_⟩
  refine nm ?_
  dsimp only
  have hr1:=u1 _ _ hr
  have lp:0<l.length:=List.length_pos_iff.mpr hl0
  have pos2:(0:Int)<((IL l).length:Int):=by rw[ζ3];omega
  have n0:0<=m / 13 % ((IL l).length:Int):=Int.emod_nonneg _ (by omega)
  have n1:m / 13 % ((IL l).length:Int)<((IL l).length:Int):=Int.emod_lt_of_pos _ pos2
  have ill:(IL l).length=l.length:=ζ3 l
  obtain⟨x,hx⟩:∃ x,l[(m / 13 % ((IL l).length:Int)).toNat]?=some x:=⟨_,List.getElem?_eq_getElem (by omega)⟩
  refine⟨_,rfl,_,rfl,_,_,rfl,rfl,⟨by decide,by decide⟩,_,rfl,r,_,rfl,.inl (SqL.of hr1),_,_,rfl,rfl,pos2,r,_,_,.int x,rfl,rfl,SqL.of hr1,atI_of (n:=(m / 13 % ((IL l).length:Int)).toNat) (by omega) (il_at hx),?_⟩
  exact q x p l H1 u1 hp (List.mem_of_getElem? hx)
end
set_option maxHeartbeats 4000000
def MapOk(n:Nat)(ps:List (Int × Int))(ts:List (List Int)):Prop:=VT n ps ts/\1<=n/\n<=13/\(∀ p∈ps,0<=p.1/\p.1<(n:Int)/\0<=p.2/\p.2<(n:Int))/\(ps=[]->n=1)/\FlatM n ps ts/\ps.length<=n+11
def spζI(K:PySem.W.Frag):Sp:=fun vs H Q _=>∃(l a:Addr) (n:Nat) (m:Int) (xs ys:List V) (ps:List (Int × Int)) (ts:List (List Int)),vs=[.int n,.ref l,.ref a,.int m]/\H l=some (.lst xs)/\PairsV H xs ps/\H a=some (.lst ys)/\Bears (ListV H) ys ts/\MapOk n ps ts/\ps.length<=24/\0<=m/\m<20000 /\
 ∀(t l' a':Addr) (n':Nat) (xs' ys':List V) (ps':List (Int × Int)) (ts':List (List Int)) (H':Hp),Same H H'->H' t=some (.tup [.int n',.ref l',.ref a'])->H' l'=some (.lst xs')->PairsV H' xs' ps'->H' a'=some (.lst ys')->Bears (ListV H') ys' ts'->MapOk n' ps' ts'->ps'.length<=ps.length+1->Q (.ref t) H'
section
variable{P:Program}{w:World}{K:PySem.W.Frag}{mg:Str->Option Value}{base:Heap}{t:Adr}
theorem scζI:FnScope ["count","ties","turns","m","number","darts","fresh","place","k","row","dart","one","ends","other","behind_it","step"] ["count","ties","turns","m"] (ζ6 sζI):=⟨rfl,rfl,rfl,by decide +kernel,rfl,by decide +kernel,by decide +kernel⟩
theorem okζI (T:Txt K mg t):FnOk P w K mg base CX0 2 t.aζI t.dζI ["count","ties","turns","m"] (spζI K):=by
 refine T.fζI.ok scζI (fun vs H Q E h=>?_) (fun cdv A outer s H vs Q E hr h=>?_)
 ·obtain⟨l,a,n,m,xs,ys,ps,ts,rfl,_⟩:=h
  rfl
 ·obtain⟨l,a,n,m,xs,ys,ps,ts,rfl,hl,hP,ha,hY,hM,hp24,m0,m1,q⟩:=h
  refine⟨_,(@ζ2 _ _ _ _ _ (ps_set (i:=4) scζI.nd rfl (Or.inl rfl) (@pe_op _ _ _ _ _ _ _ _ op_mul pe_int (pe_callB (call_lenK K) (by rfl) T.n_len Boot.«len» (ζ0 (pv 1) ζ4))))
   (@ζ2 _ _ _ _ _ (ps_set (i:=5) scζI.nd rfl (Or.inl rfl) (@pe_ix _ _ _ _ _ _ _ (ix_listK K) (@pe_lst2 _ _ _ _ _ _ (@pe_lst2 _ _ _ _ _ _ (pv 4) (@pe_op _ _ _ _ _ _ _ _ op_add (pv 4) pe_int) rfl rfl) (@pe_lst2 _ _ _ _ _ _ (@pe_op _ _ _ _ _ _ _ _ op_add (pv 4) pe_int) (pv 4) rfl rfl) rfl rfl) (@pe_op _ _ _ _ _ _ _ _ op_mod (pv 3) pe_int) (fun _ _=>rfl)))
   (@ζ2 _ _ _ _ _ (ps_set (i:=6) scζI.nd rfl (Or.inl rfl) (pe_and (pe_cmpR op_eq (@pe_op _ _ _ _ _ _ _ _ op_mod (@pe_op _ _ _ _ _ _ _ _ op_fdiv (pv 3) pe_int) pe_int) pe_int (nomark _)) (pe_one (pe_cmpR op_lt (pv 0) pe_int (nomark _)))))
   (@ζ2 _ _ _ _ _ (@ps_if _ _ _ _ _ _ _ _ (PW.pt (pw_and (pt_not (pt_val (pv 6))) (pw_and1 (pt_cmpR op_gt (@pe_op _ _ _ _ _ _ _ _ op_sub (pe_callB (call_lenK K) (by rfl) T.n_len Boot.«len» (ζ0 (pv 1) ζ4)) (pv 0)) pe_int (nomark _)))))
   (@ζ5 _ _ _ (@ps_ret _ _ _ _ (@pe_tup3 _ _ _ _ _ _ _ _ _ (pv 0) (pv 1) (pv 2) rfl rfl rfl)))
   pss_nil)
   (@ζ2 _ _ _ _ _ (@ps_if _ _ _ _ _ _ _ _ (pt_cmpR op_eq (pe_callB (call_lenK K) (by rfl) T.n_len Boot.«len» (ζ0 (pv 1) ζ4)) pe_int (nomark _))
   (@ζ2 _ _ _ _ _ (@ps_if _ _ _ _ _ _ _ _ (pt_val (pv 6))
   (@ζ5 _ _ _ (@ps_ret _ _ _ _ (@pe_tup3 _ _ _ _ _ _ _ _ _ pe_int (@pe_lst1 _ _ _ _ (@pe_ix _ _ _ _ _ _ _ (ix_listK K) (@pe_lst2 _ _ _ _ _ _ (@pe_tup2 _ _ _ _ _ _ _ pe_int pe_int rfl rfl) (@pe_tup2 _ _ _ _ _ _ _ pe_int pe_int rfl rfl) rfl rfl) (@pe_op _ _ _ _ _ _ _ _ op_mod (pv 3) pe_int) (fun _ _=>rfl)) rfl) (@pe_lst2 _ _ _ _ _ _ (@pe_lst1 _ _ _ _ (@pe_ix _ _ _ _ _ _ _ (ix_listK K) (pv 5) pe_int (fun _ _=>rfl)) rfl) (@pe_lst1 _ _ _ _ (@pe_ix _ _ _ _ _ _ _ (ix_listK K) (pv 5) pe_int (fun _ _=>rfl)) rfl) rfl rfl) rfl rfl rfl)))
   pss_nil)
   (@ζ5 _ _ _ (@ps_ret _ _ _ _ (@pe_tup3 _ _ _ _ _ _ _ _ _ pe_int (@pe_lst1 _ _ _ _ (@pe_tup2 _ _ _ _ _ _ _ pe_int pe_int rfl rfl) rfl) (@pe_lst1 _ _ _ _ (pv 5) rfl) rfl rfl rfl))))
   pss_nil)
   (@ζ2 _ _ _ _ _ (ps_set (i:=7) scζI.nd rfl (Or.inl rfl) pe_dnewK)
   (@ζ2 _ _ _ _ _ (ps_for PassesOwn.never rfl (pi_enumK K rfl T.n_enumerate (ζ0 (pv 2) ζ4)) (pg_tupK (n:=2) K rfl (pgs_cons (pg_name (i:=8) scζI.nd rfl (Or.inl rfl)) (pgs_cons (pg_name (i:=9) scζI.nd rfl (Or.inl rfl)) pgs_nil)))
   (@ζ5 _ _ _ (ps_for PassesOwn.never rfl (pi_listK K (pv 9)) (pg_name (i:=10) scζI.nd rfl (Or.inl rfl))
   (@ζ5 _ _ _ (ps_dput (hu_of hr) (pv 7) (pv 10) (pv 8) rfl)))))
   (@ζ2 _ _ _ _ _ (ps_set (i:=11) scζI.nd rfl (Or.inl rfl) (pe_call (okζH T) (hr.mono (by decide)) rfl T.mζH T.fζH.kp T.bζH .nil pass0 (ζ0 (pv 2) (ζ0 (@pe_op _ _ _ _ _ _ _ _ op_fdiv (pv 3) pe_int) ζ4))))
   (@ζ2 _ _ _ _ _ (@ps_if _ _ _ _ _ _ _ _ (pt_val (pv 6))
   (@ζ2 _ _ _ _ _ (ps_set (i:=12) scζI.nd rfl (Or.inl rfl) (@pe_ix _ _ _ _ _ _ _ (ix_listK K) (@pe_lst2 _ _ _ _ _ _ (@pe_tup2 _ _ _ _ _ _ _ (pe_dget (hu_of hr) (pv 7) (pv 11) (fun _ _=>rfl)) (pv 0) rfl rfl) (@pe_tup2 _ _ _ _ _ _ _ (pv 0) (pe_dget (hu_of hr) (pv 7) (pv 11) (fun _ _=>rfl)) rfl rfl) rfl rfl) (@pe_op _ _ _ _ _ _ _ _ op_mod (pv 3) pe_int) (fun _ _=>rfl)))
   (@ζ5 _ _ _ (@ps_ret _ _ _ _ (@pe_tup3 _ _ _ _ _ _ _ _ _ (@pe_op _ _ _ _ _ _ _ _ op_add (pv 0) pe_int) (@pe_op _ _ _ _ _ _ _ _ op_cat (pv 1) (@pe_lst1 _ _ _ _ (pv 12) rfl)) (@pe_op _ _ _ _ _ _ _ _ op_cat (pe_call (okζG T) (hr.mono (by decide)) rfl T.mζG T.fζG.kp T.bζG .nil pass0 (ζ0 (pv 2) (ζ0 (pv 11) (ζ0 pe_non (ζ0 (pv 5) ζ4))))) (@pe_lst1 _ _ _ _ (@pe_lst1 _ _ _ _ (@pe_ix _ _ _ _ _ _ _ (ix_listK K) (pv 5) pe_int (fun _ _=>rfl)) rfl) rfl)) rfl rfl rfl))))
   pss_nil)
   (@ζ2 _ _ _ _ _ (ps_set (i:=13) scζI.nd rfl (Or.inl rfl) (pv 11))
   (@ζ2 _ _ _ _ _ (ps_set (i:=14) scζI.nd rfl (Or.inl rfl) (pe_call (okζF T) (hr.mono (by decide)) rfl T.mζF T.fζF.kp T.bζF .nil pass0 (ζ0 (pv 2) ζ4)))
   (@ζ2 _ _ _ _ _ (ps_for PassesOwn.never rfl (pi_range1 rfl T.n_range (ζ0 (@pe_op _ _ _ _ _ _ _ _ op_mod (@pe_op _ _ _ _ _ _ _ _ op_fdiv (pv 3) pe_int) pe_int) ζ4)) (pg_name (i:=15) scζI.nd rfl (Or.inl rfl))
   (@ζ5 _ _ _ (ps_set (i:=13) scζI.nd rfl (Or.inl rfl) (pe_dget (hu_of hr) (pv 14) (pv 13) (fun _ _=>rfl)))))
   (@ζ2 _ _ _ _ _ (ps_set (i:=12) scζI.nd rfl (Or.inl rfl) (@pe_ix _ _ _ _ _ _ _ (ix_listK K) (@pe_lst2 _ _ _ _ _ _ (@pe_tup2 _ _ _ _ _ _ _ (pe_dget (hu_of hr) (pv 7) (pv 11) (fun _ _=>rfl)) (pe_dget (hu_of hr) (pv 7) (pv 13) (fun _ _=>rfl)) rfl rfl) (@pe_tup2 _ _ _ _ _ _ _ (pe_dget (hu_of hr) (pv 7) (pv 13) (fun _ _=>rfl)) (pe_dget (hu_of hr) (pv 7) (pv 11) (fun _ _=>rfl)) rfl rfl) rfl rfl) (@pe_op _ _ _ _ _ _ _ _ op_mod (pv 3) pe_int) (fun _ _=>rfl)))
   (@ζ5 _ _ _ (@ps_ret _ _ _ _ (@pe_tup3 _ _ _ _ _ _ _ _ _ (pv 0) (@pe_op _ _ _ _ _ _ _ _ op_cat (pv 1) (@pe_lst1 _ _ _ _ (pv 12) rfl)) (pe_call (okζG T) (hr.mono (by decide)) rfl T.mζG T.fζG.kp T.bζG .nil pass0 (ζ0 (pv 2) (ζ0 (pv 11) (ζ0 (pv 13) (ζ0 (pv 5) ζ4))))) rfl rfl rfl)))))))))))))))),?_⟩
  obtain⟨hV,n1,n13,hg,hn0,hfm,hlim⟩:=id hM
  have one:1<=sizeLine:=by decide
  have two:2<=sizeLine:=by decide
  have hxl:=hP.1
  have hyl:=hY.1
  have htl:=hV.1
  refine⟨_,rfl,l,xs,rfl,.inl (SqL.of hl),_,_,rfl,rfl,.inl ⟨by decide,by decide⟩,?_⟩
  refine nm ?_
  dsimp only
  rw[hxl]
  have e20:0<=m % 2:=Int.emod_nonneg _ (by decide)
  have e21:m % 2<2:=Int.emod_lt_of_pos _ (by decide)
  obtain⟨dd0,dd1,hdd⟩:∃ d0 d1:Int,(m % 2=0/\d0=2 * (ps.length:Int)/\d1=2 * (ps.length:Int)+1)\/(m % 2=1/\d0=2 * (ps.length:Int)+1/\d1=2 * (ps.length:Int)):=by
   rcases(by omega:m % 2=0\/m % 2=1) with e | e
   ·exact⟨_,_,.inl ⟨e,rfl,rfl⟩⟩
   ·exact⟨_,_,.inr ⟨e,rfl,rfl⟩⟩
  have new:∀ a b:Int,NewD ps.length dd0 dd1 a b (if m % 2=0 then (a,b) else (b,a)):=fun a b=>by
   rcases hdd with ⟨e,h0,h1⟩ | ⟨e,h0,h1⟩
   ·rw[if_pos e];exact .inl ⟨h0,h1,rfl⟩
   ·rw[if_neg (by omega)];exact .inr ⟨h0,h1,rfl⟩
  have pick:∀ {α:Type} (x y:α),([x,y]:List α)[(m % 2).toNat]?=some (if m % 2=0 then x else y):=fun {α} x y=>by
   rcases(by omega:m % 2=0\/m % 2=1) with e | e
   ·rw[e,if_pos rfl];rfl
   ·rw[e,if_neg (by decide)];rfl
  have pickI:∀ x y:V,atI [x,y] (m % 2)=some (if m % 2=0 then x else y):=fun x y=>atI_of (n:=(m % 2).toNat) (by omega) (pick x y)
  refine contS (fun σ H1=>∃ dA:Addr,σ=[some (.int n),some (.ref l),some (.ref a),some (.int m),some (.int (2 * (ps.length:Int))),some (.ref dA),none,none,none,none,none,none,none,none,none,none]/\Same H H1/\H1 dA=some (.lst (IL [dd0,dd1]))) ?_ ?_
  rotate_left
  ·intro Kn hK
   refine⟨_,rfl,_,rfl,_,_,rfl,rfl,two,fun q1 hq1=>⟨_,rfl,_,_,rfl,rfl,_,rfl,two,fun q2 hq2=>⟨two,fun q3 hq3=>?_⟩⟩⟩
   have u1:=same_at (o:=.lst (IL [2 * (ps.length:Int),2 * (ps.length:Int)+1])) hq1
   have u2:=same_at (o:=.lst (IL [2 * (ps.length:Int)+1,2 * (ps.length:Int)])) hq2
   have u3:=same_at (o:=.lst [.ref q1,.ref q2]) hq3
   have k1:=u3 _ _ (u2 _ _ (ζ1 (H:=H) (a:=q1) (o:=.lst (IL [2 * (ps.length:Int),2 * (ps.length:Int)+1]))))
   have k2:=u3 _ _ (ζ1 (H:=upd H q1 (.lst (IL [2 * (ps.length:Int),2 * (ps.length:Int)+1]))) (a:=q2) (o:=.lst (IL [2 * (ps.length:Int)+1,2 * (ps.length:Int)])))
   refine⟨_,rfl,_,_,rfl,rfl,(by show(0:Int)<2;decide),q3,_,_,_,rfl,rfl,SqL.of ζ1,pickI _ _,?_⟩
   rcases hdd with ⟨e,rfl,rfl⟩ | ⟨e,rfl,rfl⟩
   ·rw[if_pos e]
    exact hK _ _ ⟨q1,rfl,u1.trans (u2.trans u3),k1⟩
   ·rw[if_neg (by omega)]
    exact hK _ _ ⟨q2,rfl,u1.trans (u2.trans u3),k2⟩
  rintro σ H1 ⟨dA,rfl,s1,hd1⟩
  refine contS (fun σ H2=>H2=H1/\∃ fr:Bool,(fr=true->n<13)/\σ=[some (.int n),some (.ref l),some (.ref a),some (.int m),some (.int (2 * (ps.length:Int))),some (.ref dA),some (.bl fr),none,none,none,none,none,none,none,none,none]) ?_ ?_
  rotate_left
  ·intro Kn hK
   refine⟨_,rfl,_,_,rfl,rfl,⟨by decide,by decide⟩,_,_,rfl,rfl,(by show(0:Int)<2;decide),rfl,_,rfl,?_⟩
   rw[dec_int]
   refine itd2 (fun _=>?_) (fun _=>hK _ _ ⟨rfl,false,fun h=>(by cases h),rfl⟩)
   refine⟨_,rfl,_,_,rfl,rfl,hK _ _ ⟨rfl,_,fun h=>?_,rfl⟩⟩
   have:=of_decide_eq_true h
   omega
  rintro σ H2 ⟨rfl,fr,hfr,rfl⟩
  have hl1:=s1 _ _ hl
  have ha1:=s1 _ _ ha
  have hP1:=hP.same s1
  have hY1:Bears (ListV H2) ys ts:=hY.imp fun _ _ ⟨r,e,h⟩=>⟨r,e,s1 _ _ h⟩
  refine contS (fun σ H3=>H3=H2/\(fr=false->(ps.length:Int) - n<=10)/\σ=[some (.int n),some (.ref l),some (.ref a),some (.int m),some (.int (2 * (ps.length:Int))),some (.ref dA),some (.bl fr),none,none,none,none,none,none,none,none,none]) ?_ ?_
  rotate_left
  ·intro Kn hK
   have same0:(fr=false->(ps.length:Int) - n<=10)->Kn [some (.int n),some (.ref l),some (.ref a),some (.int m),some (.int (2 * (ps.length:Int))),some (.ref dA),some (.bl fr),none,none,none,none,none,none,none,none,none] H2:=fun h=>hK _ _ ⟨rfl,h,rfl⟩
   refine⟨_,rfl,_,rfl,?_⟩
   cases fr with
   | true =>
    refine iteF ?_
    exact same0 (fun h=>by cases h)
   | false =>
    refine iteT ?_
    refine⟨_,rfl,l,xs,rfl,.inl (SqL.of hl1),_,rfl,_,_,rfl,rfl,_,_,rfl,rfl,_,rfl,?_⟩
    refine itd2 (fun _=>?_) (fun hle=>same0 fun _=>by omega)
    refine⟨_,rfl,_,rfl,_,rfl,(by show 3<=sizeLine;decide),fun t ht=>?_⟩
    have u:=same_at (o:=.tup [.int n,.ref l,.ref a]) ht
    exact q t l a n xs ys ps ts _ (s1.trans u) ζ1 (u _ _ hl1) (hP1.same u) (u _ _ ha1) (hY1.imp fun _ _ ⟨r,e,h⟩=>⟨r,e,u _ _ h⟩) hM (by omega)
  rintro σ H3 ⟨rfl,hlm,rfl⟩
  refine contS (fun σ H4=>H4=H3/\ps.length≠0/\σ=[some (.int n),some (.ref l),some (.ref a),some (.int m),some (.int (2 * (ps.length:Int))),some (.ref dA),some (.bl fr),none,none,none,none,none,none,none,none,none]) ?_ ?_
  rotate_left
  ·intro Kn hK
   refine⟨_,rfl,l,xs,rfl,.inl (SqL.of hl1),rfl,_,rfl,?_⟩
   rw[dec_int]
   refine itd2 (fun h0=>?_) (fun h0=>hK _ _ ⟨rfl,by omega,rfl⟩)
   have p0:ps=[]:=List.length_eq_zero_iff.mp (by omega)
   subst p0
   have n1':=hn0 rfl
   subst n1'
   refine⟨_,rfl,_,rfl,?_⟩
   cases fr with
   | true =>
    refine iteT ?_
    refine⟨two,fun t1 h1=>⟨two,fun t2 h2=>⟨two,fun q3 h3=>⟨_,rfl,_,_,rfl,rfl,(by show(0:Int)<2;decide),q3,_,_,_,rfl,rfl,SqL.of ζ1,pickI _ _,one,fun lA hlA=>?_⟩⟩⟩⟩
    have u1:=same_at (o:=.tup [.int 0,.int 1]) h1
    have u2:=same_at (o:=.tup [.int 1,.int 0]) h2
    have u3:=same_at (o:=.lst [.ref t1,.ref t2]) h3
    have u4:=same_at (o:=.lst [if m % 2=0 then V.ref t1 else V.ref t2]) hlA
    have k1:=u4 _ _ (u3 _ _ (u2 _ _ (ζ1 (H:=H3) (a:=t1) (o:=.tup [.int 0,.int 1]))))
    have k2:=u4 _ _ (u3 _ _ (ζ1 (H:=upd H3 t1 (.tup [.int 0,.int 1])) (a:=t2) (o:=.tup [.int 1,.int 0])))
    have s4:=u1.trans (u2.trans (u3.trans u4))
    have l4:(upd (upd (upd (upd H3 t1 (.tup [.int 0,.int 1])) t2 (.tup [.int 1,.int 0])) q3 (.lst [.ref t1,.ref t2])) lA (.lst [if m % 2=0 then V.ref t1 else V.ref t2])) lA=some (.lst [if m % 2=0 then V.ref t1 else V.ref t2]):=ζ1
    generalize upd (upd (upd (upd H3 t1 (.tup [.int 0,.int 1])) t2 (.tup [.int 1,.int 0])) q3 (.lst [.ref t1,.ref t2])) lA (.lst [if m % 2=0 then V.ref t1 else V.ref t2])=H5 at *
    have hE:PairV H5 (if m % 2=0 then V.ref t1 else V.ref t2) (if m % 2=0 then ((0:Int),(1:Int)) else (1,0)):=by
     by_cases e:m % 2=0
     ·rw[if_pos e,if_pos e];exact⟨t1,rfl,k1⟩
     ·rw[if_neg e,if_neg e];exact⟨t2,rfl,k2⟩
    have d5:=s4 _ _ hd1
    refine⟨_,rfl,dA,_,0,.int dd0,rfl,rfl,SqL.of d5,rfl,one,fun r1 hr1=>?_⟩
    have u5:=same_at (o:=.lst [.int dd0]) hr1
    refine⟨_,rfl,dA,_,1,.int dd1,rfl,rfl,SqL.of (u5 _ _ d5),rfl,one,fun r2 hr2=>⟨two,fun aA haA=>⟨(by show 3<=sizeLine;decide),fun t ht=>?_⟩⟩⟩
    have u6:=same_at (o:=.lst [.int dd1]) hr2
    have u7:=same_at (o:=.lst [.ref r1,.ref r2]) haA
    have u8:=same_at (o:=.tup [.int 2,.ref lA,.ref aA]) ht
    have e1:=u8 _ _ (u7 _ _ (u6 _ _ (ζ1 (H:=H5) (a:=r1) (o:=.lst [.int dd0]))))
    have e2:=u8 _ _ (u7 _ _ (ζ1 (H:=upd H5 r1 (.lst [.int dd0])) (a:=r2) (o:=.lst [.int dd1])))
    have s58:=u5.trans (u6.trans (u7.trans u8))
    have hN:=new 0 1
    have vt:VT 2 [if m % 2=0 then ((0:Int),(1:Int)) else (1,0)] [[dd0],[dd1]]:=by
     have d0:∀ p:Int,([]:List Int).Perm (dts [] p):=fun p=>.refl _
     refine⟨rfl,fun p row hp=>?_⟩
     match p,hp with
     | 0,hp =>
      obtain rfl:[dd0]=row:=Option.some.inj hp
      have:=new_row (ps:=[]) hN (p:=0) (d0 0)
      rw[if_pos rfl,if_neg (by decide)]at this
      exact this
     | 1,hp =>
      obtain rfl:[dd1]=row:=Option.some.inj hp
      have:=new_row (ps:=[]) hN (p:=1) (d0 1)
      rw[if_neg (by decide),if_pos rfl]at this
      exact this
     | p+2,hp=>simp at hp
    refine q t lA aA 2 _ _ [if m % 2=0 then ((0:Int),(1:Int)) else (1,0)] [[dd0],[dd1]] _ (s1.trans (s4.trans s58)) ζ1 (s58 _ _ l4) ⟨rfl,fun i p e=>?_⟩ (u8 _ _ ζ1) ⟨rfl,fun i r e=>?_⟩ ⟨vt,by decide,by decide,fun p hp=>?_,fun h=>(by cases h),fm_first2 hN,by show 1<=2+11;decide⟩ (by show 1<=0+1;omega)
    ·match i,e with
     | 0,e =>
      obtain rfl:=Option.some.inj e
      obtain⟨tt,x1,x2⟩:=hE
      exact⟨_,rfl,tt,x1,s58 _ _ x2⟩
     | i+1,e=>simp at e
    ·match i,e with
     | 0,e =>
      obtain rfl:[dd0]=r:=Option.some.inj e
      exact⟨_,rfl,r1,rfl,e1⟩
     | 1,e =>
      obtain rfl:[dd1]=r:=Option.some.inj e
      exact⟨_,rfl,r2,rfl,e2⟩
     | i+2,e=>simp at e
    ·rw[List.mem_singleton.mp hp]
     split <;> decide
   | false =>
    refine iteF ?_
    refine⟨two,fun t1 h1=>⟨one,fun lA hlA=>⟨_,rfl,one,fun aA haA=>⟨(by show 3<=sizeLine;decide),fun t ht=>?_⟩⟩⟩⟩
    have u1:=same_at (o:=.tup [.int 0,.int 0]) h1
    have u2:=same_at (o:=.lst [.ref t1]) hlA
    have u3:=same_at (o:=.lst [.ref dA]) haA
    have u4:=same_at (o:=.tup [.int 1,.ref lA,.ref aA]) ht
    have k1:=u4 _ _ (u3 _ _ (u2 _ _ (ζ1 (H:=H3) (a:=t1) (o:=.tup [.int 0,.int 0]))))
    have k2:=u4 _ _ (u3 _ _ (ζ1 (H:=upd H3 t1 (.tup [.int 0,.int 0])) (a:=lA) (o:=.lst [.ref t1])))
    have s4:=u1.trans (u2.trans (u3.trans u4))
    have hN:=new 0 0
    rw[ite_self]at hN
    have vt:VT 1 [((0:Int),(0:Int))] [[dd0,dd1]]:=by
     have d0:∀ p:Int,([]:List Int).Perm (dts [] p):=fun p=>.refl _
     refine⟨rfl,fun p row hp=>?_⟩
     match p,hp with
     | 0,hp =>
      obtain rfl:[dd0,dd1]=row:=Option.some.inj hp
      have:=new_row (ps:=[]) hN (p:=0) (d0 0)
      rw[if_pos rfl,if_pos rfl]at this
      exact this
     | p+1,hp=>simp at hp
    refine q t lA aA 1 _ _ [((0:Int),(0:Int))] [[dd0,dd1]] _ (s1.trans s4) ζ1 k2 ⟨rfl,fun i p e=>?_⟩ (u4 _ _ ζ1) ⟨rfl,fun i r e=>?_⟩ ⟨vt,by decide,by decide,fun p hp=>?_,fun h=>(by cases h),fm_first1 hN,by show 1<=1+11;decide⟩ (by show 1<=0+1;omega)
    ·match i,e with
     | 0,e =>
      obtain rfl:=Option.some.inj e
      exact⟨_,rfl,t1,rfl,k1⟩
     | i+1,e=>simp at e
    ·match i,e with
     | 0,e =>
      obtain rfl:[dd0,dd1]=r:=Option.some.inj e
      exact⟨_,rfl,dA,rfl,s4 _ _ hd1⟩
     | i+1,e=>simp at e
    ·rw[List.mem_singleton.mp hp]
     decide
  rintro σ H4 ⟨rfl,hps0,rfl⟩
  intro pA hpA
  have u5:=same_at (o:=.dK []) hpA
  have k5:(upd H4 pA (.dK [])) pA=some (.dK (kvI [])):=ζ1
  have pn0:H pA=none:=s1.free hpA
  have s5:=s1.trans u5
  have d5:=u5 _ _ hd1
  have dpA:dA≠pA:=ne_of_none hd1 hpA
  generalize upd H4 pA (.dK [])=H5 at *
  refine nm ?_
  dsimp only
  have fl:=hV.flat_len
  have flN:=hV.flat
  refine⟨_,rfl,a,rfl,⟨_,SqL.of (s5 _ _ ha)⟩,for_enum (K:=K) (a:=a) (xs:=ys) (fun i σ H6=>∃ v8 v9 v10:Option V,σ=[some (.int n),some (.ref l),some (.ref a),some (.int m),some (.int (2 * (ps.length:Int))),some (.ref dA),some (.bl fr),some (.ref pA),v8,v9,v10,none,none,none,none,none]/\Same H H6/\i<=ys.length/\H6 dA=some (.lst (IL [dd0,dd1]))/\H6 pA=some (.dK (kvI (plL ts i)))) ⟨none,none,none,rfl,s5,Nat.zero_le _,d5,k5⟩ (fun i σ H6 _ ⟨_,_,_,_,e,_⟩=>SqL.of (e _ _ ha)) ?_ ?_⟩
  ·rintro i v σ H6 pt hpt hi ⟨v8,v9,v10,rfl,s6,hil,d6,k6⟩
   obtain⟨row,hrow,r,rfl,hr⟩:=hY.at hi
   have hil':=(List.getElem?_eq_some_iff.mp hi).1
   have u7:=same_at (o:=.tup [.int i,.ref r]) hpt
   refine⟨pt,_,rfl,SqT.of ζ1,rfl,_,_,rfl,_,_,rfl,rfl,?_⟩
   have s7:=s6.trans u7
   have d7:=u7 _ _ d6
   have k7:=u7 _ _ k6
   generalize upd H6 pt (.tup [.int i,.ref r])=H7 at *
   have grow:ts.getD i []=row:=by rw[List.getD_eq_getElem?_getD,hrow];rfl
   have nd:=flat_nd flN hrow
   have hrs:(ts.take i).flatten.length+row.length<=1000:=by
    have e:ts.flatten=(ts.take (i+1)).flatten++(ts.drop (i+1)).flatten:=by rw[<- List.flatten_append,List.take_append_drop]
    rw[e,flat_take hrow,List.length_append,List.length_append]at fl
    omega
   have pk:=plL_keys ts i (by omega)
   have pll:(plL ts i).length=(ts.take i).flatten.length:=by rw[<- pk,List.length_map]
   refine⟨_,rfl,r,rfl,⟨_,SqL.of (s7 _ _ hr)⟩,for_list (K:=K) (a:=r) (xs:=IL row) (fun j σ H8=>∃ v10:Option V,σ=[some (.int n),some (.ref l),some (.ref a),some (.int m),some (.int (2 * (ps.length:Int))),some (.ref dA),some (.bl fr),some (.ref pA),some (.int i),some (.ref r),v10,none,none,none,none,none]/\Same H H8/\j<=row.length/\H8 dA=some (.lst (IL [dd0,dd1]))/\H8 pA=some (.dK (kvI (plL ts i++plR (row.take j) i)))) ⟨v10,rfl,s7,Nat.zero_le _,d7,by rw[show plR (row.take 0) i=[] from rfl,List.append_nil];exact k7⟩ (fun j σ H8 _ ⟨_,_,e,_⟩=>SqL.of (e _ _ hr)) ?_ ?_⟩
   ·rintro j x σ H8 hj ⟨w10,rfl,s8,hjl,d8,k8⟩
    obtain⟨z,rfl,hz⟩:=il_get hj
    have hjl':=(List.getElem?_eq_some_iff.mp hz).1
    refine nm ?_
    dsimp only
    have nw:∀ p∈plL ts i++plR (row.take j) i,p.1≠z:=fun p hp e=>by
     have m1:p.1∈(plL ts i++plR (row.take j) i).map (·.1):=List.mem_map_of_mem hp
     have e1:(plR (row.take j) (i:Int)).map (·.1)=row.take j:=by
      unfold plR
      rw[List.map_map]
      exact List.map_id'' (fun _=>rfl) _
     rw[List.map_append,pk,e1,e]at m1
     have e4:(ts.take i).flatten++row=((ts.take i).flatten++row.take j)++row.drop j:=by rw[List.append_assoc,List.take_append_drop]
     rw[e4]at nd
     exact(List.nodup_append.mp nd).2.2 _ m1 _ (List.mem_of_getElem? (i:=0) (by rw[List.getElem?_drop];exact hz)) rfl
    have kl:(kvI (plL ts i++plR (row.take j) (i:Int))).length<=1000:=by
     unfold kvI plR
     rw[List.length_map,List.length_append,List.length_map,List.length_take]
     omega
    refine⟨_,rfl,_,rfl,_,rfl,pA,_,rfl,DPut.k (k:=Sum.inl z) k8 (small60' (by omega)),?_⟩
    refine⟨_,rfl,same_upd pn0 s8,hjl',by rw[upd_ne dpA];exact d8,?_⟩
    rw[ζ1,kvI_put nw,List.append_assoc]
    have:plR (row.take (j+1)) (i:Int)=plR (row.take j) i++[(z,(i:Int))]:=by
     unfold plR
     rw[List.take_succ,hz,List.map_append]
     rfl
    rw[this]
   rintro σ H8 ⟨w10,rfl,s8,_,d8,k8⟩
   rw[ζ3,List.take_length]at k8
   refine⟨_,_,_,rfl,s8,hil',d8,?_⟩
   rw[k8]
   show some (HO.dK (kvI (plL ts i++plR row i)))=some (HO.dK (kvI (plL ts i++plR (ts.getD i []) i)))
   rw[grow]
  rintro σ H6 ⟨v8,v9,v10,rfl,s6,_,d6,k6⟩
  rw[hyl]at k6
  have pnd:((plL ts ts.length).map (·.1)).Nodup:=by rw[plL_keys ts _ (Nat.le_refl _),List.take_length];exact flN
  have plc:∀ {p:Nat} {row:List Int} {x:Int} {H':Hp},Same H6 H'->ts[p]?=some row->x∈row->DGet H' pA (.int x) (some (.int (p:Int))):=fun {p row x H'} s hp hx=>by
   have:=DGet.k (k:=Sum.inl x) (s _ _ k6)
   rw[kvI_val pnd (plL_mem hp hx (List.getElem?_eq_some_iff.mp hp).1)]at this
   exact this
  have hY6:Bears (ListV H6) ys ts:=hY.imp fun _ _ ⟨r,e,h⟩=>⟨r,e,s6 _ _ h⟩
  have some1:∃ r∈ts,r≠[]:=by
   obtain⟨p,row,hp,hm⟩:=hV.has hg (x:=0) (by omega)
   exact⟨row,List.mem_of_getElem? hp,fun e=>by rw[e]at hm;cases hm⟩
  have rl:∀ r∈ts,r.length<=1000:=fun r hr=>by
   have:=nd_few (nd_row hV hr) (M:=2 * ps.length) fun x hx=>by have:=hV.in hr hx;omega
   omega
  refine⟨_,rfl,_,rfl,_,_,rfl,rfl,⟨by decide,by decide⟩,a,_,ys,ts,rfl,SqL.of (s6 _ _ ha),hY6,by omega,some1,fun x p row H7 s7 hp hx=>?_⟩
  refine nm ?_
  dsimp only
  have s07:=s6.trans s7
  have hl7:=s07 _ _ hl
  have ha7:=s07 _ _ ha
  have d7:=s7 _ _ d6
  have hP7:=hP.same s07
  have hY7:Bears (ListV H7) ys ts:=hY.imp fun _ _ ⟨r,e,h⟩=>⟨r,e,s07 _ _ h⟩
  have hpn:=(List.getElem?_eq_some_iff.mp hp).1
  refine contS (fun σ H8=>H8=H7/\fr=false/\σ=[some (.int n),some (.ref l),some (.ref a),some (.int m),some (.int (2 * (ps.length:Int))),some (.ref dA),some (.bl fr),some (.ref pA),v8,v9,v10,some (.int x),none,none,none,none]) ?_ ?_
  rotate_left
  ·intro Kn hK
   refine⟨_,rfl,_,rfl,?_⟩
   cases fr with
   | false =>
    refine iteF ?_
    exact hK _ _ ⟨rfl,rfl,rfl⟩
   | true =>
    refine iteT ?_
    refine⟨_,rfl,_,rfl,pA,.int (p:Int),rfl,plc s7 hp hx,_,rfl,two,fun t1 h1=>?_⟩
    have u1:=same_at (o:=.tup [.int (p:Int),.int (n:Int)]) h1
    refine⟨_,rfl,_,rfl,_,rfl,pA,.int (p:Int),rfl,plc (s7.trans u1) hp hx,two,fun t2 h2=>⟨two,fun q3 h3=>⟨_,rfl,_,_,rfl,rfl,(by show(0:Int)<2;decide),q3,_,_,_,rfl,rfl,SqL.of ζ1,pickI _ _,?_⟩⟩⟩
    have u2:=same_at (o:=.tup [.int (n:Int),.int (p:Int)]) h2
    have u3:=same_at (o:=.lst [.ref t1,.ref t2]) h3
    have k1:=u3 _ _ (u2 _ _ (ζ1 (H:=H7) (a:=t1) (o:=.tup [.int (p:Int),.int (n:Int)])))
    have k2:=u3 _ _ (ζ1 (H:=upd H7 t1 (.tup [.int (p:Int),.int (n:Int)])) (a:=t2) (o:=.tup [.int (n:Int),.int (p:Int)]))
    have s9:=u1.trans (u2.trans u3)
    generalize upd (upd (upd H7 t1 (.tup [.int (p:Int),.int (n:Int)])) t2 (.tup [.int (n:Int),.int (p:Int)])) q3 (.lst [.ref t1,.ref t2])=H9 at *
    have hE:PairV H9 (if m % 2=0 then V.ref t1 else V.ref t2) (if m % 2=0 then ((p:Int),(n:Int)) else ((n:Int),(p:Int))):=by
     by_cases e:m % 2=0
     ·rw[if_pos e,if_pos e];exact⟨t1,rfl,k1⟩
     ·rw[if_neg e,if_neg e];exact⟨t2,rfl,k2⟩
    generalize (if m % 2=0 then V.ref t1 else V.ref t2)=wv at *
    have hN:=new (p:Int) (n:Int)
    have eR:∀ q∈ps++[if m % 2=0 then ((p:Int),(n:Int)) else ((n:Int),(p:Int))],0<=q.1/\q.1<((n+1:Nat):Int)/\0<=q.2/\q.2<((n+1:Nat):Int):=fun q hq=>by
     rcases List.mem_append.mp hq with e | e
     ·have:=hg q e
      omega
     ·rw[List.mem_singleton.mp e]
      split
      ·exact⟨by show 0<=(p:Int);omega,by show(p:Int)<_;omega,by show 0<=(n:Int);omega,by show(n:Int)<_;omega⟩
      ·exact⟨by show 0<=(n:Int);omega,by show(n:Int)<_;omega,by show 0<=(p:Int);omega,by show(p:Int)<_;omega⟩
    generalize (if m % 2=0 then ((p:Int),(n:Int)) else ((n:Int),(p:Int)))=en at *
    have s09:=s07.trans s9
    refine nm ?_
    dsimp only
    have n13':=hfr rfl
    refine⟨_,rfl,_,_,rfl,rfl,_,rfl,_,rfl,one,fun e1 he1=>?_⟩
    have v1:=same_at (o:=.lst [wv]) he1
    refine⟨l,e1,xs,[wv],rfl,rfl,v1 _ _ (s09 _ _ hl),ζ1,small60 (by show xs.length+1<=_;omega),fun lA hlA=>?_⟩
    have v2:=same_at (o:=.lst (xs++[wv])) hlA
    have l10:(upd (upd H9 e1 (.lst [wv])) lA (.lst (xs++[wv]))) lA=some (.lst (xs++[wv])):=ζ1
    have s10:=v1.trans v2
    generalize upd (upd H9 e1 (.lst [wv])) lA (.lst (xs++[wv]))=H10 at *
    have s010:=s09.trans s10
    have d10:=(s9.trans s10) _ _ d7
    have hY10:Bears (ListV H10) ys ts:=hY.imp fun _ _ ⟨r,e,h⟩=>⟨r,e,s010 _ _ h⟩
    refine⟨_,rfl,_,rfl,_,rfl,a,dA,ys,ts,x,dd0,dd1,none,rfl,SqL.of (s010 _ _ ha),hY10,SqL.of d10,by omega,rl,fun r zs H11 s11 hr0 hJ=>?_⟩
    have zl:=hJ.rows.1
    rw[List.length_map]at zl
    refine⟨_,rfl,dA,_,1,.int dd1,rfl,rfl,SqL.of (s11 _ _ d10),rfl,one,fun i1 hi1=>⟨one,fun i2 hi2=>?_⟩⟩
    have v3:=same_at (o:=.lst [.int dd1]) hi1
    have v4:=same_at (o:=.lst [.ref i1]) hi2
    have g1:=v4 _ _ (ζ1 (H:=H11) (a:=i1) (o:=.lst (IL [dd1])))
    refine⟨r,i2,zs,[.ref i1],rfl,rfl,v4 _ _ (v3 _ _ hJ.tab),ζ1,small60 (by show zs.length+1<=_;omega),fun aA haA=>⟨(by show 3<=sizeLine;decide),fun tt htt=>?_⟩⟩
    have v5:=same_at (o:=.lst (zs++[.ref i1])) haA
    have v6:=same_at (o:=.tup [.int ((n:Int)+1),.ref lA,.ref aA]) htt
    have s1116:=v3.trans (v4.trans (v5.trans v6))
    have s1016:=s11.trans s1116
    refine q tt lA aA (n+1) (xs++[wv]) (zs++[.ref i1]) (ps++[en]) (ts.map (putR x none dd0 dd1)++[[dd1]]) _ (s010.trans s1016) (by rw[Int.natCast_add];exact ζ1) (s1016 _ _ l10) ?_ (v6 _ _ ζ1) ?_ ⟨vt_grow hV hg hp hx hN,by omega,by omega,eR,fun h=>(by simp at h),fm_grow hfm hps0 hV hp hx hN,by rw[List.length_append,List.length_singleton];omega⟩ (by rw[List.length_append];exact Nat.le_refl _)
    ·refine(hP.same (s010.trans s1016)).snoc ?_
     obtain⟨ta,y1,y2⟩:=hE
     exact⟨ta,y1,(s10.trans s1016) _ _ y2⟩
    ·exact(hJ.lists.imp fun _ _ ⟨r',e,h⟩=>⟨r',e,s1116 _ _ h⟩).snoc ⟨i1,rfl,v6 _ _ (v5 _ _ g1)⟩
  rintro σ H8 ⟨rfl,rfl,rfl⟩
  refine⟨_,rfl,?_⟩
  refine nm ?_
  dsimp only
  refine⟨_,rfl,a,ys,ts,rfl,SqL.of ha7,hY7,flN,by omega,fun r hr z hz=>(hV.in hr hz).1,fun bA H9 s9 hb0 hb9=>?_⟩
  refine nm ?_
  dsimp only
  have st0:0<=m / 1000 % 7:=Int.emod_nonneg _ (by decide)
  have st1:m / 1000 % 7<7:=Int.emod_lt_of_pos _ (by decide)
  refine⟨_,rfl,_,_,rfl,rfl,⟨by decide,by decide⟩,_,_,rfl,rfl,(by show(0:Int)<7;decide),_,rfl,by omega,by omega,for_range (lo:=0) (n:=(m / 1000 % 7).toNat) (fun i σ H10=>H10=H9/\∃(y:Int) (q:Nat) (row2:List Int) (v15:Option V),ts[q]?=some row2/\y∈row2/\(∀ L,OP (bhL ts) (2 * ps.length) L->∃ r∈L,x∈r/\y∈r)/\σ=[some (.int n),some (.ref l),some (.ref a),some (.int m),some (.int (2 * (ps.length:Int))),some (.ref dA),some (.bl false),some (.ref pA),v8,v9,v10,some (.int x),none,some (.int y),some (.ref bA),v15]) ⟨rfl,x,p,row,none,hp,hx,rd_self hV ((hV.mem hp).mp hx).1,rfl⟩ ?_ ?_⟩
  ·rintro i σ H10 hi ⟨rfl,y,q,row2,v15,hq,hy,hsr,rfl⟩
   refine nm ?_
   dsimp only
   have yr:=((hV.mem hq).mp hy).1
   obtain⟨z,hz⟩:=bh_ex hV hg yr
   have zr:=(bh_range hV hz).2
   obtain⟨q2,row3,hq2,hz2⟩:=hV.has hg zr
   refine⟨_,rfl,_,rfl,bA,.int z,rfl,?_,?_⟩
   ·have:=DGet.k (k:=Sum.inl y) hb9
    rw[kvI_val (bh_nd flN) hz]at this
    exact this
   refine nm ?_
   dsimp only
   exact⟨rfl,z,q2,row3,_,hq2,hz2,rd_next hV hsr hz,rfl⟩
  rintro σ H10 ⟨rfl,y,q',row2,v15,hq,hy,hsr,rfl⟩
  have s710:=s7.trans s9
  have hqn:=(List.getElem?_eq_some_iff.mp hq).1
  refine⟨_,rfl,_,rfl,pA,.int (p:Int),rfl,plc s710 hp hx,_,rfl,_,rfl,pA,.int (q':Int),rfl,plc s710 hq hy,two,fun t1 h1=>?_⟩
  have u1:=same_at (o:=.tup [.int (p:Int),.int (q':Int)]) h1
  refine⟨_,rfl,_,rfl,pA,.int (q':Int),rfl,plc (s710.trans u1) hq hy,_,rfl,_,rfl,pA,.int (p:Int),rfl,plc (s710.trans u1) hp hx,two,fun t2 h2=>⟨two,fun q3 h3=>⟨_,rfl,_,_,rfl,rfl,(by show(0:Int)<2;decide),q3,_,_,_,rfl,rfl,SqL.of ζ1,pickI _ _,?_⟩⟩⟩
  have u2:=same_at (o:=.tup [.int (q':Int),.int (p:Int)]) h2
  have u3:=same_at (o:=.lst [.ref t1,.ref t2]) h3
  have k1:=u3 _ _ (u2 _ _ (ζ1 (H:=H10) (a:=t1) (o:=.tup [.int (p:Int),.int (q':Int)])))
  have k2:=u3 _ _ (ζ1 (H:=upd H10 t1 (.tup [.int (p:Int),.int (q':Int)])) (a:=t2) (o:=.tup [.int (q':Int),.int (p:Int)]))
  have s11:=u1.trans (u2.trans u3)
  generalize upd (upd (upd H10 t1 (.tup [.int (p:Int),.int (q':Int)])) t2 (.tup [.int (q':Int),.int (p:Int)])) q3 (.lst [.ref t1,.ref t2])=H11 at *
  have hE:PairV H11 (if m % 2=0 then V.ref t1 else V.ref t2) (if m % 2=0 then ((p:Int),(q':Int)) else ((q':Int),(p:Int))):=by
   by_cases e:m % 2=0
   ·rw[if_pos e,if_pos e];exact⟨t1,rfl,k1⟩
   ·rw[if_neg e,if_neg e];exact⟨t2,rfl,k2⟩
  generalize (if m % 2=0 then V.ref t1 else V.ref t2)=wv at *
  have hN:=new (p:Int) (q':Int)
  have eR:∀ z∈ps++[if m % 2=0 then ((p:Int),(q':Int)) else ((q':Int),(p:Int))],0<=z.1/\z.1<(n:Int)/\0<=z.2/\z.2<(n:Int):=fun z hz=>by
   rcases List.mem_append.mp hz with e | e
   ·exact hg z e
   ·rw[List.mem_singleton.mp e]
    split
    ·exact⟨by show 0<=(p:Int);omega,by show(p:Int)<_;omega,by show 0<=(q':Int);omega,by show(q':Int)<_;omega⟩
    ·exact⟨by show 0<=(q':Int);omega,by show(q':Int)<_;omega,by show 0<=(p:Int);omega,by show(p:Int)<_;omega⟩
  generalize (if m % 2=0 then ((p:Int),(q':Int)) else ((q':Int),(p:Int)))=en at *
  have s011:=s07.trans (s9.trans s11)
  refine nm ?_
  dsimp only
  refine⟨_,rfl,_,rfl,_,rfl,one,fun e1 he1=>?_⟩
  have v1:=same_at (o:=.lst [wv]) he1
  refine⟨l,e1,xs,[wv],rfl,rfl,v1 _ _ (s011 _ _ hl),ζ1,small60 (by show xs.length+1<=_;omega),fun lA hlA=>?_⟩
  have v2:=same_at (o:=.lst (xs++[wv])) hlA
  have l12:(upd (upd H11 e1 (.lst [wv])) lA (.lst (xs++[wv]))) lA=some (.lst (xs++[wv])):=ζ1
  have s12:=v1.trans v2
  generalize upd (upd H11 e1 (.lst [wv])) lA (.lst (xs++[wv]))=H12 at *
  have s012:=s011.trans s12
  have d12:=(s9.trans (s11.trans s12)) _ _ d7
  have hY12:Bears (ListV H12) ys ts:=hY.imp fun _ _ ⟨r,e,h⟩=>⟨r,e,s012 _ _ h⟩
  refine⟨_,rfl,_,rfl,_,rfl,_,rfl,a,dA,ys,ts,x,dd0,dd1,some y,rfl,SqL.of (s012 _ _ ha),hY12,SqL.of d12,by omega,rl,fun r zs H13 s13 hr0 hJ=>⟨(by show 3<=sizeLine;decide),fun tt htt=>?_⟩⟩
  have v6:=same_at (o:=.tup [.int (n:Int),.ref lA,.ref r]) htt
  have s1214:=s13.trans v6
  refine q tt lA r n (xs++[wv]) zs (ps++[en]) (ts.map (putR x (some y) dd0 dd1)) _ (s012.trans s1214) ζ1 (s1214 _ _ l12) ?_ (v6 _ _ hJ.tab) (hJ.lists.imp fun _ _ ⟨r',e,h⟩=>⟨r',e,v6 _ _ h⟩) ⟨vt_join hV hp hx hq hy hN,n1,n13,eR,fun h=>(by simp at h),fm_join hfm hps0 hV hp hx hq hy hsr hN,by rw[List.length_append,List.length_singleton];have:=hlm rfl;omega⟩ (by rw[List.length_append];exact Nat.le_refl _)
  refine(hP.same (s012.trans s1214)).snoc ?_
  obtain⟨ta,y1,y2⟩:=hE
  exact⟨ta,y1,(s12.trans s1214) _ _ y2⟩
end
set_option maxHeartbeats 4000000
def spζJ(K:PySem.W.Frag):Sp:=fun vs H Q _=>∃(s:Addr) (ns:List Int),vs=[.ref s]/\SqL K H s (IL ns)/\ns.length<=63 /\
 ∀(t l a:Addr) (n:Nat) (xs ys:List V) (ps:List (Int × Int)) (ts:List (List Int)) (H':Hp),Same H H'->H' t=some (.tup [.int n,.ref l,.ref a])->H' l=some (.lst xs)->PairsV H' xs ps->H' a=some (.lst ys)->Bears (ListV H') ys ts->MapOk n ps ts->ps.length<=24->Q (.ref t) H'
section
variable{P:Program}{w:World}{K:PySem.W.Frag}{mg:Str->Option Value}{base:Heap}{t:Adr}
theorem scζJ:FnScope ["script","count","ties","turns","m"] ["script"] (ζ6 sζJ):=⟨rfl,rfl,rfl,by decide +kernel,rfl,by decide +kernel,by decide +kernel⟩
theorem okζJ (T:Txt K mg t):FnOk P w K mg base CX0 3 t.aζJ t.dζJ ["script"] (spζJ K):=by
 refine T.fζJ.ok scζJ (fun vs H Q E h=>?_) (fun cdv A outer s H vs Q E hr h=>?_)
 ·obtain⟨s,ns,rfl,_⟩:=h
  rfl
 ·obtain⟨sA,ns,rfl,hA,hn63,q⟩:=h
  refine⟨_,(ζ2 (ps_set (i:=1) scζJ.nd rfl (Or.inl rfl) pe_int)
   (ζ2 (ps_set (i:=2) scζJ.nd rfl (Or.inl rfl) (pe_lst ζ4))
   (ζ2 (ps_set (i:=3) scζJ.nd rfl (Or.inl rfl) (pe_lst (ζ0 (pe_lst ζ4) ζ4)))
   (ζ2 (ps_for PassesOwn.never rfl (pi_listK K (pe_call (okζE T) (hr.mono (by decide)) rfl T.mζE T.fζE.kp T.bζE .nil pass0 (ζ0 (pv 0) ζ4))) (pg_name (i:=4) scζJ.nd rfl (Or.inl rfl))
   (ζ5 (ps_asg (pe_call (okζI T) (hr.mono (by decide)) rfl T.mζI T.fζI.kp T.bζI .nil pass0 (ζ0 (pv 1) (ζ0 (pv 2) (ζ0 (pv 3) (ζ0 (pv 4) ζ4))))) (pg_tupK (n:=3) K rfl (pgs_cons (pg_name (i:=1) scζJ.nd rfl (Or.inl rfl)) (pgs_cons (pg_name (i:=2) scζJ.nd rfl (Or.inl rfl)) (pgs_cons (pg_name (i:=3) scζJ.nd rfl (Or.inl rfl)) pgs_nil)))))))
   (ζ5 (ps_ret (pe_tup (ζ0 (pv 1) (ζ0 (pv 2) (ζ0 (pv 3) ζ4)))))))))),?_⟩
  have one:1<=sizeLine:=by decide
  refine asgC ?_
  refine⟨Nat.zero_le _,fun l0 hl0=>?_⟩
  have u1:=same_at (o:=.lst []) hl0
  refine nm ?_
  dsimp only
  refine⟨Nat.zero_le _,fun i0 hi0=>⟨one,fun a0 ha0=>?_⟩⟩
  have u2:=same_at (o:=.lst []) hi0
  have u3:=same_at (o:=.lst [.ref i0]) ha0
  have l3:=u3 _ _ (u2 _ _ (ζ1 (H:=H) (a:=l0) (o:=.lst [])))
  have i3:=u3 _ _ (ζ1 (H:=upd H l0 (.lst [])) (a:=i0) (o:=.lst []))
  have a3:(upd (upd (upd H l0 (.lst [])) i0 (.lst [])) a0 (.lst [.ref i0])) a0=some (.lst [.ref i0]):=ζ1
  have s3:=u1.trans (u2.trans u3)
  generalize upd (upd (upd H l0 (.lst [])) i0 (.lst [])) a0 (.lst [.ref i0])=H3 at *
  refine nm ?_
  dsimp only
  have M0:MapOk 1 [] [[]]:=⟨⟨rfl,fun p row hp=>by
   match p,hp with
   | 0,hp=>obtain rfl:[]=row:=Option.some.inj hp;exact .refl _
   | p+1,hp=>simp at hp⟩,by decide,by decide,fun p h=>(by cases h),fun _=>rfl,fm_one,by decide⟩
  refine⟨_,rfl,sA,ns,rfl,s3.seq hA,hn63,fun rA L H4 s4 hr0 hr4 hL24 hLb=>⟨rA,rfl,⟨_,SqL.of hr4⟩,for_list (K:=K) (a:=rA) (xs:=IL L) (fun i σ H5=>∃(l a:Addr) (n:Nat) (xs ys:List V) (ps:List (Int × Int)) (ts:List (List Int)) (v4:Option V),σ=[some (.ref sA),some (.int n),some (.ref l),some (.ref a),v4]/\Same H H5/\H5 rA=some (.lst (IL L))/\H5 l=some (.lst xs)/\PairsV H5 xs ps/\H5 a=some (.lst ys)/\Bears (ListV H5) ys ts/\MapOk n ps ts/\ps.length<=i) ⟨l0,a0,1,[],[.ref i0],[],[[]],none,rfl,s3.trans s4,hr4,s4 _ _ l3,PairsV.nil,s4 _ _ a3,⟨rfl,fun i r e=>?_⟩,M0,Nat.le_refl _⟩ (fun i σ H5 _ ⟨_,_,_,_,_,_,_,_,_,_,e,_⟩=>SqL.of e) ?_ ?_⟩⟩
  ·match i,e with
   | 0,e=>obtain rfl:[]=r:=Option.some.inj e;exact⟨_,rfl,i0,rfl,s4 _ _ i3⟩
   | i+1,e=>simp at e
  ·rintro i v σ H5 hi ⟨l,a,n,xs,ys,ps,ts,v4,rfl,s5,r5,l5,hP,a5,hY,hM,hpl⟩
   obtain⟨z,rfl,hz⟩:=il_get hi
   have hzi:=(List.getElem?_eq_some_iff.mp hz).1
   obtain⟨z0,z1⟩:=hLb z (List.mem_of_getElem? hz)
   refine nm ?_
   dsimp only
   refine⟨_,rfl,_,rfl,_,rfl,_,rfl,l,a,n,z,xs,ys,ps,ts,rfl,l5,hP,a5,hY,hM,by omega,z0,z1,fun t l' a' n' xs' ys' ps' ts' H6 s6 ht hl' hP' ha' hY' hM' hp'=>?_⟩
   refine⟨t,_,rfl,SqT.of ht,rfl,_,_,rfl,_,_,rfl,_,_,rfl,rfl,?_⟩
   exact⟨l',a',n',xs',ys',ps',ts',_,rfl,s5.trans s6,s6 _ _ r5,hl',hP',ha',hY',hM',by omega⟩
  rintro σ H5 ⟨l,a,n,xs,ys,ps,ts,v4,rfl,s5,r5,l5,hP,a5,hY,hM,hpl⟩
  rw[ζ3]at hpl
  refine⟨_,rfl,_,rfl,_,rfl,(by show 3<=sizeLine;decide),fun t ht=>?_⟩
  have u:=same_at (o:=.tup [.int n,.ref l,.ref a]) ht
  exact q t l a n xs ys ps ts _ (s5.trans u) ζ1 (u _ _ l5) (hP.same u) (u _ _ a5) (hY.imp fun _ _ ⟨r,e,h⟩=>⟨r,e,u _ _ h⟩) hM (by omega)
end
set_option maxHeartbeats 4000000
def spζK(K:PySem.W.Frag)(C:Addr):Sp:=fun vs H Q _=>∃(w:Addr) (n:Int) (ps:List (Int × Int)) (m:Int),vs=[.ref w,.int m]/\WebAt C H w n ps/\GoodW n ps/\Joined n ps/\0<=m/\∀(r:Addr) (S:List Int) (H':Hp),Same H H'->H' r=some (.tup (IL S))->IsTree n ps S->Q (.ref r) H'
section
variable{P:Program}{w:World}{K:PySem.W.Frag}{mg:Str->Option Value}{base:Heap}{t:Adr}
theorem scζK:FnScope ["web","m","tree","turn","others","into","ring","out"] ["web","m"] (ζ6 sζK):=⟨rfl,rfl,rfl,by decide +kernel,rfl,by decide +kernel,by decide +kernel⟩
theorem okζK (T:Txt K mg t):FnOk P w K mg base CX0 9 t.aζK t.dζK ["web","m"] (spζK K t.A_Web):=by
 refine T.fζK.ok scζK (fun vs H Q E h=>?_) (fun cdv A outer s H vs Q E hr h=>?_)
 ·obtain⟨w,n,ps,m,rfl,_⟩:=h
  rfl
 ·obtain⟨w,n,ps,m,rfl,hW,hG,hJ,m0,q⟩:=h
  refine⟨_,(ζ2 (ps_set (i:=2) scζK.nd rfl (Or.inr rfl) (pe_call (okζo T) (hr.mono (by decide)) rfl T.mζo T.fζo.kp T.bζo .nil passN (ζ0 (pv 0) ζ4)))
   (ζ2 (ps_for PassesOwn.never rfl (pi_range1 rfl T.n_range (ζ0 (pe_op op_mod (pv 1) pe_int) ζ4)) (pg_name (i:=3) scζK.nd rfl (Or.inl rfl))
   (ζ2 (ps_set (i:=1) scζK.nd rfl (Or.inl rfl) (pe_call (okζD T) (hr.mono (by decide)) rfl T.mζD T.fζD.kp T.bζD .nil pass0 (ζ0 (pv 1) (ζ0 pe_int ζ4))))
   (ζ2 (ps_lc (i:=4) rfl scζK.nd rfl rfl (sc0:=ζ6 sζK) (N0:=["web","m","tree","turn","others","into","ring","out"]) (N':=["tie","tree"]) (o:=1) (fr:=[2]) ⟨rfl,by decide +kernel,by decide +kernel,by decide +kernel,rfl,by decide +kernel⟩ (pi_range1 rfl T.n_range (ζ0 (pe_callB (call_lenK K) (by rfl) T.n_len Boot.«len» (ζ0 (pe_fldK K (pv 0) rfl) ζ4)) ζ4)) (own_name (by decide)) (fun _ _ _ _=>(pg_name (i:=0) (show List.Nodup (["tie","tree"]:List Str) by decide +kernel) rfl (Or.inl rfl))) (fun _ _ _ _=>(pts_one (pt_cmpR (op_notInK K) (pv 0) (pv 1) rfl))) (fun _ _ _ _=>(pv 0)))
   (ζ5 (ps_if (pt_cmpR op_gt (pe_callB (call_lenK K) (by rfl) T.n_len Boot.«len» (ζ0 (pv 4) ζ4)) pe_int (nomark _))
   (ζ2 (ps_set (i:=5) scζK.nd rfl (Or.inr rfl) (pe_ix (ix_listK K) (pv 4) (pe_op op_mod (pe_op op_fdiv (pv 1) pe_int) (pe_callB (call_lenK K) (by rfl) T.n_len Boot.«len» (ζ0 (pv 4) ζ4))) (fun _ _=>rfl)))
   (ζ2 (ps_lc (i:=6) rfl scζK.nd rfl rfl (sc0:=ζ6 sζK) (N0:=["web","m","tree","turn","others","into","ring","out"]) (N':=["tie","into"]) (o:=1) (fr:=[5]) ⟨rfl,by decide +kernel,by decide +kernel,by decide +kernel,rfl,by decide +kernel⟩ (pi_tupK K (pe_call (okζr T) (hr.mono (by decide)) rfl T.mζr T.fζr.kp T.bζr .nil passN (ζ0 (pv 0) (ζ0 (pv 2) (ζ0 (pv 5) ζ4))))) (own_name (by decide)) (fun _ _ _ _=>(pg_name (i:=0) (show List.Nodup (["tie","into"]:List Str) by decide +kernel) rfl (Or.inl rfl))) (fun _ _ _ _=>(pts_one (pt_cmpR op_ne (pv 0) (pv 1) (nomark _)))) (fun _ _ _ _=>(pv 0)))
   (ζ5 (ps_if (pt_cmpR op_gt (pe_callB (call_lenK K) (by rfl) T.n_len Boot.«len» (ζ0 (pv 6) ζ4)) pe_int (nomark _))
   (ζ2 (ps_set (i:=7) scζK.nd rfl (Or.inr rfl) (pe_ix (ix_listK K) (pv 6) (pe_op op_mod (pe_op op_fdiv (pv 1) (pe_op op_pow pe_int pe_int)) (pe_callB (call_lenK K) (by rfl) T.n_len Boot.«len» (ζ0 (pv 6) ζ4))) (fun _ _=>rfl)))
   (ζ5 (ps_set (i:=2) scζK.nd rfl (Or.inr rfl) (pe_callTy (call_tupleK K) (by rfl) T.n_tuple Boot.«tuple» (ζ0 (pe_callB (call_sortedK K) (by rfl) T.n_sorted Boot.«sorted» (ζ0 (pe_op op_cat (pe_lc rfl (sc0:=ζ6 sζK) (N0:=["web","m","tree","turn","others","into","ring","out"]) (N':=["tie","out"]) (o:=1) (fr:=[7]) ⟨rfl,by decide +kernel,by decide +kernel,by decide +kernel,rfl,by decide +kernel⟩ (pi_tupK K (pv 2)) (own_name (by decide)) (fun _ _ _ _=>(pg_name (i:=0) (show List.Nodup (["tie","out"]:List Str) by decide +kernel) rfl (Or.inl rfl))) (fun _ _ _ _=>(pts_one (pt_cmpR op_ne (pv 0) (pv 1) (nomark _)))) (fun _ _ _ _=>(pv 0))) (pe_lst (ζ0 (pv 5) ζ4))) ζ4)) ζ4)))))
   pss_nil))))
   pss_nil)))))
   (ζ5 (ps_ret (pv 2))))),?_⟩
  obtain⟨dx,tl,xs,g1,g2,g3⟩:=id hW
  have hxl:=g3.1
  have hp30:=hG.2.2.1
  have one:1<=sizeLine:=by decide
  have hnl:=(grd_joined hG).mp hJ
  have e6:0<=m % 6/\m % 6<6:=⟨Int.emod_nonneg _ (by decide),Int.emod_lt_of_pos _ (by decide)⟩
  refine⟨_,rfl,w,n,ps,rfl,hW,hG,fun _ r0 H1 s1 hr0=>?_,fun h=>absurd h hnl⟩
  have T0:=grd_full hG hnl
  refine⟨_,rfl,_,_,rfl,rfl,(by show(0:Int)<6;decide),_,rfl,by omega,by omega,for_range (lo:=0) (n:=(m % 6).toNat) (fun i σ H2=>∃(r:Addr) (S:List Int) (mm:Int) (v3 v4 v5 v6 v7:Option V),σ=[some (.ref w),some (.int mm),some (.ref r),v3,v4,v5,v6,v7]/\0<=mm/\Same H H2/\H2 r=some (.tup (IL S))/\IsTree n ps S) ⟨r0,_,m,none,none,none,none,none,rfl,m0,s1,hr0,T0⟩ ?_ ?_⟩
  rotate_left
  ·rintro σ H2 ⟨r,S,mm,v3,v4,v5,v6,v7,rfl,_,s2,hr,hT⟩
   exact⟨_,rfl,q r S H2 s2 hr hT⟩
  rintro i σ H2 hi ⟨r,S,mm,v3,v4,v5,v6,v7,rfl,mm0,s2,hr,hT⟩
  have sl:=hT.1.len
  refine nm ?_
  dsimp only
  refine⟨_,rfl,_,55,rfl,by decide,by decide,fun m' m0'=>?_⟩
  refine nm ?_
  dsimp only
  refine⟨_,rfl,w,_,dx,_,_,rfl,s2 _ _ g1,T.cl_Web,T.n_Web_ties,wf_ties _ _,tl,xs,rfl,.inl (SqL.of (s2 _ _ g2)),_,rfl,by omega,by omega,lc_range (lo:=0) (n:=(xs.length:Int).toNat) (fun o zs H3=>H3=H2/\zs=IL (cmpl o S)) ⟨rfl,rfl⟩ (small60' (by omega)) (fun o zs H3 _ ⟨_,e⟩=>by rw[e,ζ3];exact cmpl_le o S) ?_ ?_⟩
  ·rintro o zs H3 ho ⟨rfl,rfl⟩ Sx hSS
   refine nm ?_
   refine⟨_,rfl,_,rfl,r,_,rfl,.inr (SqT.of hr),rfl,flat_ints _,_,rfl,?_⟩
   have e0:(0:Int)+(o:Int)=(o:Int):=by omega
   rw[inV_ints,e0]
   refine itn2 (fun hin=>?_) (fun hin=>?_)
   ·exact hSS _ _ ⟨rfl,by rw[cmpl_succ,if_pos hin,List.append_nil]⟩
   ·exact⟨_,rfl,hSS _ _ ⟨rfl,by rw[cmpl_succ,if_neg hin,il_snoc]⟩⟩
  rintro zs H3 ⟨rfl,rfl⟩ oA hoA
  rw[show((xs.length:Int)).toNat=ps.length by omega]
  obtain⟨O,hO⟩:∃ O,O=cmpl ps.length S:=⟨_,rfl⟩
  rw[<- hO]
  have hOm:∀ z∈O,(0<=z/\z<(ps.length:Int))/\z∉S:=fun z hz=>cmpl_mem.mp (hO ▸ hz)
  have hOl:O.length<=30:=by have:=cmpl_le ps.length S;rw[<- hO]at this;omega
  have u1:=same_at (o:=.lst (IL O)) hoA
  have s4:=s2.trans u1
  have hr4:=u1 _ _ hr
  have ho4:(upd H3 oA (.lst (IL O))) oA=some (.lst (IL O)):=ζ1
  generalize upd H3 oA (.lst (IL O))=H4 at *
  refine nm ?_
  dsimp only
  refine⟨_,rfl,oA,_,rfl,.inl (SqL.of ho4),_,_,rfl,rfl,_,rfl,?_⟩
  rw[ζ3]
  refine itd2 (fun hpos=>?_) (fun _=>⟨r,S,m',_,_,_,_,_,rfl,m0',s4,hr4,hT⟩)
  have ix0:0<=m' / 8 % (O.length:Int):=Int.emod_nonneg _ (by omega)
  have ix1:m' / 8 % (O.length:Int)<(O.length:Int):=Int.emod_lt_of_pos _ (by omega)
  obtain⟨z,hz⟩:∃ z,O[(m' / 8 % (O.length:Int)).toNat]?=some z:=⟨_,List.getElem?_eq_getElem (by omega)⟩
  obtain⟨⟨z0,z1⟩,hzS⟩:=hOm z (List.mem_of_getElem? hz)
  refine⟨_,rfl,_,rfl,_,_,rfl,rfl,⟨by decide,by decide⟩,_,rfl,oA,_,rfl,.inl (SqL.of ho4),_,_,rfl,rfl,(by rw[ζ3];exact hpos),oA,_,_,.int z,rfl,rfl,SqL.of ho4,by rw[ζ3];exact atI_of (n:=(m' / 8 % (O.length:Int)).toNat) (by omega) (il_at hz),?_⟩
  refine nm ?_
  dsimp only
  refine⟨_,rfl,_,rfl,_,rfl,w,r,n,ps,true,S,z,rfl,hW.same s4,hG,SqT.of hr4,by omega,by omega,fun _ _ _ _ ms hpm hpw rr H5 s5 _ hrr=>?_,fun _ h=>(h.elim hzS fun h=>h ⟨z0,z1⟩).elim,fun h=>absurd hT h⟩
  have msl:ms.length<=40:=by
   rw[hpm.length_eq,List.length_append,List.length_singleton]
   have:=ringA_len n ps S z S
   omega
  refine⟨rr,rfl,⟨_,SqT.of hrr⟩,lc_tup (K:=K) (a:=rr) (xs:=IL ms) (fun i ys H6=>H6=H5/\i<=ms.length/\ys=IL (wo (ms.take i) z)) ⟨rfl,Nat.zero_le _,rfl⟩ (small60' (by rw[ζ3];omega))
   (fun i ys H6 hi ⟨e,hi2,ey⟩=>⟨e ▸ SqT.of hrr,by rw[ey,ζ3];exact Nat.le_trans (wo_len _ _) (by rw[List.length_take];omega)⟩) ?_ ?_⟩
  ·rintro i x ys H6 hi ⟨rfl,hil,rfl⟩ Sx hSS
   obtain⟨y,rfl,hy⟩:=il_get hi
   have hil':i<ms.length:=(List.getElem?_eq_some_iff.mp hy).1
   refine nm ?_
   refine⟨_,rfl,_,rfl,rfl,_,rfl,?_⟩
   rw[dec_int]
   refine itn2 (fun he=>?_) (fun he=>?_)
   ·refine hSS _ _ ⟨rfl,hil',?_⟩
    rw[wo_take_succ hy,if_neg (by simpa using he),List.append_nil]
   ·refine⟨_,rfl,hSS _ _ ⟨rfl,hil',?_⟩⟩
    rw[wo_take_succ hy,if_pos he,il_snoc]
  rintro ys H6 ⟨rfl,_,rfl⟩ qA hqA
  rw[ζ3,List.take_length]
  obtain⟨G,hGe⟩:∃ G,G=wo ms z:=⟨_,rfl⟩
  rw[<- hGe]
  have hGm:∀ y∈G,y∈S/\z∈cutT n ps S y:=fun y hy=>by
   rw[hGe]at hy
   obtain⟨h1,h2⟩:=wo_mem.mp hy
   rcases List.mem_append.mp (hpm.mem_iff.mp h1) with h3 | h3
   ·exact ringA_mem.mp h3
   ·exact absurd (List.mem_singleton.mp h3) h2
  have hGl:G.length<=40:=by have:=wo_len ms z;rw[<- hGe]at this;omega
  have u2:=same_at (o:=.lst (IL G)) hqA
  have s6:=s4.trans (s5.trans u2)
  have hr6:=(s5.trans u2) _ _ hr4
  have hq6:(upd H6 qA (.lst (IL G))) qA=some (.lst (IL G)):=ζ1
  generalize upd H6 qA (.lst (IL G))=H7 at *
  refine nm ?_
  dsimp only
  refine⟨_,rfl,qA,_,rfl,.inl (SqL.of hq6),_,_,rfl,rfl,_,rfl,?_⟩
  rw[ζ3]
  refine itd2 (fun hpos2=>?_) (fun _=>⟨r,S,m',_,_,_,_,_,rfl,m0',s6,hr6,hT⟩)
  have jx0:0<=m' / 10 ^ (6:Int).toNat % (G.length:Int):=Int.emod_nonneg _ (by omega)
  have jx1:m' / 10 ^ (6:Int).toNat % (G.length:Int)<(G.length:Int):=Int.emod_lt_of_pos _ (by omega)
  obtain⟨o,ho⟩:∃ o,G[(m' / 10 ^ (6:Int).toNat % (G.length:Int)).toNat]?=some o:=⟨_,List.getElem?_eq_getElem (by omega)⟩
  obtain⟨hoS,hzc⟩:=hGm o (List.mem_of_getElem? ho)
  refine⟨_,rfl,_,rfl,_,_,rfl,rfl,⟨by decide,by decide,by decide⟩,_,_,rfl,rfl,⟨by decide,by decide⟩,_,rfl,qA,_,rfl,.inl (SqL.of hq6),_,_,rfl,rfl,(by rw[ζ3];exact hpos2),qA,_,_,.int o,rfl,rfl,SqL.of hq6,by rw[ζ3];exact atI_of (n:=(m' / 10 ^ (6:Int).toNat % (G.length:Int)).toNat) (by omega) (il_at ho),?_⟩
  refine nm ?_
  dsimp only
  have hx:exg n ps S o z:=⟨hoS,fun e=>hzS (e ▸ hoS),hzc⟩
  refine⟨_,rfl,r,rfl,⟨_,SqT.of hr6⟩,lc_tup (K:=K) (a:=r) (xs:=IL S) (fun i ys H8=>H8=H7/\i<=S.length/\ys=IL (wo (S.take i) o)) ⟨rfl,Nat.zero_le _,rfl⟩ (small60' (by rw[ζ3];omega))
   (fun i ys H8 hi ⟨e,hi2,ey⟩=>⟨e ▸ SqT.of hr6,by rw[ey,ζ3];exact Nat.le_trans (wo_len _ _) (by rw[List.length_take];omega)⟩) ?_ ?_⟩
  ·rintro i x ys H8 hi ⟨rfl,hil,rfl⟩ Sx hSS
   obtain⟨y,rfl,hy⟩:=il_get hi
   have hil':i<S.length:=(List.getElem?_eq_some_iff.mp hy).1
   refine nm ?_
   refine⟨_,rfl,_,rfl,rfl,_,rfl,?_⟩
   rw[dec_int]
   refine itn2 (fun he=>?_) (fun he=>?_)
   ·refine hSS _ _ ⟨rfl,hil',?_⟩
    rw[wo_take_succ hy,if_neg (by simpa using he),List.append_nil]
   ·refine⟨_,rfl,hSS _ _ ⟨rfl,hil',?_⟩⟩
    rw[wo_take_succ hy,if_pos he,il_snoc]
  rintro ys H8 ⟨rfl,_,rfl⟩ p1 hp1
  rw[ζ3,List.take_length]
  have u3:=same_at (o:=.lst (IL (wo S o))) hp1
  refine⟨_,rfl,one,fun p2 hp2=>?_⟩
  have u4:=same_at (o:=.lst (IL [z])) hp2
  have wl:=wo_len S o
  refine cat_ok (l1:=wo S o) (l2:=[z]) (u4 _ _ ζ1) ζ1 (by rw[List.length_singleton];omega) fun p3 hp3=>?_
  have u5:=same_at (o:=.lst (IL (wo S o++[z]))) hp3
  refine⟨p3,_,rfl,SqL.of ζ1,by rw[List.length_append,List.length_singleton];omega,fun ks kp kw p4 hp4=>?_⟩
  have u6:=same_at (o:=.lst (IL ks)) hp4
  refine⟨p4,_,rfl,.inl ⟨SqL.of ζ1,fun p5 hp5=>?_⟩⟩
  exact⟨p5,ks,m',_,_,_,_,_,rfl,m0',s6.trans (u3.trans (u4.trans (u5.trans (u6.trans (same_at hp5))))),ζ1,exg_tree hG hT hx kp kw⟩
end
set_option maxHeartbeats 4000000
def spζL(K:PySem.W.Frag)(C:Addr):Sp:=fun vs H Q _=>∃(w:Addr) (n:Int) (ps:List (Int × Int)) (m:Int),vs=[.ref w,.int m]/\WebAt C H w n ps/\GoodW n ps/\Joined n ps/\0<=m/\∀(r:Addr) (ys:List V) (L:List (List Int)) (H':Hp),Same H H'->H' r=some (.lst ys)->TupsV H' ys L->L.length<=512->(∀ l∈L,IsSet ps.length l)->Q (.ref r) H'
theorem two_pow{i:Nat}(h:i<=9):2 ^ i<=512:=Nat.pow_le_pow_right (n:=2) (by decide) h
section
variable{P:Program}{w:World}{K:PySem.W.Frag}{mg:Str->Option Value}{base:Heap}{t:Adr}
theorem scζL:FnScope ["web","m","size","told","tie","turn","tree"] ["web","m"] (ζ6 sζL):=⟨rfl,rfl,rfl,by decide +kernel,rfl,by decide +kernel,by decide +kernel⟩
theorem okζL (T:Txt K mg t):FnOk P w K mg base CX0 10 t.aζL t.dζL ["web","m"] (spζL K t.A_Web):=by
 refine T.fζL.ok scζL (fun vs H Q E h=>?_) (fun cdv A outer s H vs Q E hr h=>?_)
 ·obtain⟨w,n,ps,m,rfl,_⟩:=h
  rfl
 ·obtain⟨w,n,ps,m,rfl,hW,hG,hJ,m0,q⟩:=h
  refine⟨_,(ζ2 (ps_set (i:=2) scζL.nd rfl (Or.inl rfl) (pe_callB (call_lenK K) (by rfl) T.n_len Boot.«len» (ζ0 (pe_fldK K (pv 0) rfl) ζ4)))
   (ζ2 (ps_if (pt_cmpR op_le (pv 2) pe_int (nomark _))
   (ζ2 (ps_set (i:=3) scζL.nd rfl (Or.inl rfl) (pe_lst (ζ0 (pe_tup ζ4) ζ4)))
   (ζ2 (ps_for PassesOwn.never rfl (pi_range1 rfl T.n_range (ζ0 (pv 2) ζ4)) (pg_name (i:=4) scζL.nd rfl (Or.inr rfl))
   (ζ5 (ps_set (i:=3) scζL.nd rfl (Or.inl rfl) (pe_op op_cat (pv 3) (pe_lc rfl (sc0:=ζ6 sζL) (N0:=["web","m","size","told","tie","turn","tree"]) (N':=["row","tie"]) (o:=1) (fr:=[4]) ⟨rfl,by decide +kernel,by decide +kernel,by decide +kernel,rfl,by decide +kernel⟩ (pi_listK K (pv 3)) (own_name (by decide)) (fun _ _ _ _=>(pg_name (i:=0) (show List.Nodup (["row","tie"]:List Str) by decide +kernel) rfl (Or.inl rfl))) (fun _ _ _ _=>pts_nil) (fun _ _ _ _=>(pe_op (op_catQ K) (pv 0) (pe_tup (ζ0 (pv 1) ζ4)))))))))
   (ζ5 (ps_ret (pv 3)))))
   pss_nil)
   (ζ2 (ps_set (i:=3) scζL.nd rfl (Or.inl rfl) (pe_lst ζ4))
   (ζ2 (ps_for PassesOwn.never rfl (pi_range1 rfl T.n_range (ζ0 pe_int ζ4)) (pg_name (i:=5) scζL.nd rfl (Or.inl rfl))
   (ζ2 (ps_set (i:=1) scζL.nd rfl (Or.inl rfl) (pe_call (okζD T) (hr.mono (by decide)) rfl T.mζD T.fζD.kp T.bζD .nil pass0 (ζ0 (pv 1) (ζ0 pe_int ζ4))))
   (ζ2 (ps_set (i:=6) scζL.nd rfl (Or.inl rfl) (pe_call (okζK T) (hr.mono (by decide)) rfl T.mζK T.fζK.kp T.bζK .nil pass0 (ζ0 (pv 0) (ζ0 (pv 1) ζ4))))
   (ζ2 (ps_set (i:=4) scζL.nd rfl (Or.inr rfl) (pe_op op_mod (pe_op op_fdiv (pv 1) (pe_op op_pow pe_int pe_int)) (pv 2)))
   (ζ2 (ps_expr (pe_bmK K PySem.F.plainAttrs_list PySem.F.slot_list_append PySem.F.type_list_append mt_append (pv 3) (ζ0 (pv 6) ζ4)))
   (ζ5 (ps_if (pt_cmpR (op_inK K) (pv 4) (pv 6) rfl)
   (ζ5 (ps_expr (pe_bmK K PySem.F.plainAttrs_list PySem.F.slot_list_append PySem.F.type_list_append mt_append (pv 3) (ζ0 (pe_callTy (call_tupleK K) (by rfl) T.n_tuple Boot.«tuple» (ζ0 (pe_lc rfl (sc0:=ζ6 sζL) (N0:=["web","m","size","told","tie","turn","tree"]) (N':=["other","tie"]) (o:=1) (fr:=[4]) ⟨rfl,by decide +kernel,by decide +kernel,by decide +kernel,rfl,by decide +kernel⟩ (pi_tupK K (pv 6)) (own_name (by decide)) (fun _ _ _ _=>(pg_name (i:=0) (show List.Nodup (["other","tie"]:List Str) by decide +kernel) rfl (Or.inl rfl))) (fun _ _ _ _=>(pts_one (pt_cmpR op_ne (pv 0) (pv 1) (nomark _)))) (fun _ _ _ _=>(pv 0))) ζ4)) ζ4))))
   (ζ5 (ps_expr (pe_bmK K PySem.F.plainAttrs_list PySem.F.slot_list_append PySem.F.type_list_append mt_append (pv 3) (ζ0 (pe_callTy (call_tupleK K) (by rfl) T.n_tuple Boot.«tuple» (ζ0 (pe_callB (call_sortedT K) (by rfl) T.n_sorted Boot.«sorted» (ζ0 (pe_op (op_catQ K) (pv 6) (pe_tup (ζ0 (pv 4) ζ4))) ζ4)) ζ4)) ζ4)))))))))))
   (ζ5 (ps_ret (pv 3))))))),?_⟩
  obtain⟨dx,tl,xs,g1,g2,g3⟩:=id hW
  have hxl:=g3.1
  have hp30:=hG.2.2.1
  have one:1<=sizeLine:=by decide
  refine⟨_,rfl,w,_,dx,_,_,rfl,g1,T.cl_Web,T.n_Web_ties,wf_ties _ _,tl,xs,rfl,.inl (SqL.of g2),?_⟩
  refine nm ?_
  dsimp only
  refine⟨_,rfl,_,_,rfl,rfl,_,rfl,?_⟩
  refine itd2 (fun h9=>?_) (fun h9=>?_)
  ·refine⟨Nat.zero_le _,fun e0 he0=>⟨one,fun d0 hd0=>?_⟩⟩
   have u1:=same_at (o:=.tup []) he0
   have u2:=same_at (o:=.lst [.ref e0]) hd0
   have B0:TupsV (upd (upd H e0 (.tup [])) d0 (.lst [.ref e0])) [.ref e0] [[]]:=.one ⟨e0,rfl,u2 _ _ ζ1⟩
   refine nm ?_
   dsimp only
   refine⟨_,rfl,_,rfl,by omega,by omega,for_range (lo:=0) (n:=(xs.length:Int).toNat) (fun i σ H2=>∃(d:Addr) (ys:List V) (L:List (List Int)) (v4:Option V),σ=[some (.ref w),some (.int m),some (.int xs.length),some (.ref d),v4,none,none]/\Same H H2/\H2 d=some (.lst ys)/\TupsV H2 ys L/\L.length=2 ^ i/\∀ l∈L,IsSet i l) ⟨d0,_,_,none,rfl,u1.trans u2,ζ1,B0,rfl,fun l hl=>by rw[List.mem_singleton.mp hl];exact IsSet.nil 0⟩ ?_ ?_⟩
   rotate_left
   ·rintro σ H2 ⟨d,ys,L,v4,rfl,s2,hd,hB,hL,hI⟩
    have:2 ^ (xs.length:Int).toNat<=512:=two_pow (by omega)
    exact⟨_,rfl,q d ys L H2 s2 hd hB (by omega) (by rw[show(xs.length:Int).toNat=ps.length by omega]at hI;exact hI)⟩
   rintro i σ H2 hi ⟨d,ys,L,v4,rfl,s2,hd,hB,hL,hI⟩
   have hyl:=hB.1
   have p2:2 ^ i<=512:=two_pow (by omega)
   refine nm ?_
   dsimp only
   refine⟨_,rfl,_,rfl,d,rfl,⟨_,SqL.of hd⟩,lc_list (K:=K) (a:=d) (xs:=ys) (fun j zs H3=>Same H2 H3/\j<=ys.length/\TupsV H3 zs ((L.take j).map (·++[(i:Int)]))) ⟨Same.refl _,Nat.zero_le _,TupsV.nil⟩ (small60' (by omega)) (fun j zs H3 _ ⟨e,hj,h⟩=>⟨SqL.of (e _ _ hd),by rw[h.1,List.length_map,List.length_take];omega⟩) ?_ ?_⟩
   ·rintro j v zs H3 hj ⟨s3,hjl,hZ⟩ Sx hSS
    obtain⟨l,hl,tt,rfl,htt⟩:=hB.at hj
    have hjl':=(List.getElem?_eq_some_iff.mp hj).1
    have ll:=(hI l (List.mem_of_getElem? hl)).len
    refine nm ?_
    refine⟨_,rfl,_,rfl,one,fun p1 hp1=>⟨tt,p1,IL l,IL [0+(i:Int)],rfl,rfl,(same_at hp1) _ _ (s3 _ _ htt),ζ1,small60 (by rw[ζ3,ζ3,List.length_singleton];omega),fun r H5 s5 hr=>hSS _ _ ⟨s3.trans ((same_at hp1).trans s5),hjl',?_⟩⟩⟩
    rw[List.take_succ,hl,List.map_append]
    refine(hZ.same ((same_at hp1).trans s5)).snoc ⟨r,rfl,?_⟩
    rw[hr,<- il_append,Int.zero_add]
   rintro zs H3 ⟨s3,_,hZ⟩ p1 hp1
   rw[show ys.length=L.length from hyl,List.take_length]at hZ
   have u3:=same_at (o:=.lst zs) hp1
   have hzl:=hZ.1
   rw[List.length_map]at hzl
   refine⟨d,p1,ys,zs,rfl,rfl,(s3.trans u3) _ _ hd,ζ1,small60 (by omega),fun p3 hp3=>?_⟩
   have u4:=same_at (o:=.lst (ys++zs)) hp3
   have s4:=s3.trans (u3.trans u4)
   refine⟨p3,_,_,_,rfl,s2.trans s4,ζ1,(hB.same s4).app (hZ.same (u3.trans u4)),by rw[List.length_append,List.length_map,Nat.pow_succ];omega,fun l hl=>?_⟩
   rcases List.mem_append.mp hl with h | h
   ·exact(hI l h).up
   ·obtain⟨k,hk,rfl⟩:=List.mem_map.mp h
    exact(hI k hk).snoc
  ·refine⟨Nat.zero_le _,fun d hd0=>?_⟩
   have u1:=same_at (o:=.lst []) hd0
   refine nm ?_
   dsimp only
   refine⟨6,rfl,by decide,by decide,for_range (lo:=0) (n:=6) (fun i σ H2=>∃(mm:Int) (ys:List V) (L:List (List Int)) (v4 v5 v6:Option V),σ=[some (.ref w),some (.int mm),some (.int xs.length),some (.ref d),v4,v5,v6]/\0<=mm/\Same H H2/\H2 d=some (.lst ys)/\TupsV H2 ys L/\L.length=2 * i/\∀ l∈L,IsSet ps.length l) ⟨m,[],[],none,none,none,rfl,m0,u1,ζ1,TupsV.nil,rfl,fun l hl=>(by cases hl)⟩ ?_ ?_⟩
   rotate_left
   ·rintro σ H2 ⟨mm,ys,L,v4,v5,v6,rfl,_,s2,hd,hB,hL,hI⟩
    exact⟨_,rfl,q d ys L H2 s2 hd hB (by omega) hI⟩
   rintro i σ H2 hi ⟨mm,ys,L,v4,v5,v6,rfl,mm0,s2,hd,hB,hL,hI⟩
   have hyl:=hB.1
   refine nm ?_
   dsimp only
   refine⟨_,rfl,_,56,rfl,by decide,by decide,fun m' m0'=>?_⟩
   refine nm ?_
   dsimp only
   refine⟨_,rfl,_,rfl,w,n,ps,m',rfl,hW.same s2,hG,hJ,m0',fun r S H3 s3 hr hT=>?_⟩
   have s3':=s2.trans s3
   have sl:=hT.1.len
   refine nm ?_
   dsimp only
   have xpos:(0:Int)<(xs.length:Int):=by omega
   refine⟨_,rfl,_,_,rfl,rfl,⟨by decide,by decide,by decide⟩,_,_,rfl,rfl,⟨by decide,by decide⟩,_,rfl,_,_,rfl,rfl,xpos,?_⟩
   have z0:0<=m' / 10 ^ (9:Int).toNat % (xs.length:Int):=Int.emod_nonneg _ (by omega)
   have z1:m' / 10 ^ (9:Int).toNat % (xs.length:Int)<(xs.length:Int):=Int.emod_lt_of_pos _ xpos
   refine nm ?_
   dsimp only
   generalize m' / 10 ^ (9:Int).toNat % (xs.length:Int)=z at *
   have hd3:=s3 _ _ hd
   have hB3:=hB.same s3
   refine⟨_,rfl,.inl ⟨rfl,_,SqL.of hd3⟩,_,rfl,d,_,_,rfl,rfl,hd3,small60' (by omega),?_⟩
   have s4:Same H (upd H3 d (.lst (ys++[.ref r]))):=same_upd hd0 s3'
   have hd4:(upd H3 d (.lst (ys++[.ref r]))) d=some (.lst (ys++[.ref r])):=ζ1
   have nrd:r≠d:=fun e=>by rw[e,hd3]at hr;cases hr
   have hr4:(upd H3 d (.lst (ys++[.ref r]))) r=some (.tup (IL S)):=by rw[upd_ne nrd];exact hr
   have hB4:TupsV (upd H3 d (.lst (ys++[.ref r]))) (ys++[.ref r]) (L++[S]):=(hB3.mut hd3).snoc ⟨r,rfl,hr4⟩
   generalize upd H3 d (.lst (ys++[.ref r]))=H4 at *
   have yl4:(ys++[V.ref r]).length=2 * i+1:=by rw[List.length_append,List.length_singleton];omega
   have fin:∀(H5:Hp) (p:Addr) (ks:List Int),Same H4 H5->H5 p=some (.tup (IL ks))->IsSet ps.length ks->Same H (upd H5 d (.lst ((ys++[.ref r])++[.ref p])))/\(upd H5 d (.lst ((ys++[.ref r])++[.ref p]))) d=some (.lst ((ys++[.ref r])++[.ref p]))/\TupsV (upd H5 d (.lst ((ys++[.ref r])++[.ref p]))) ((ys++[.ref r])++[.ref p]) ((L++[S])++[ks])/\((L++[S])++[ks]).length=2 * (i+1)/\∀ l∈(L++[S])++[ks],IsSet ps.length l:=fun H5 p ks s5 hp hk=>by
    have hd5:=s5 _ _ hd4
    have npd:p≠d:=fun e=>by rw[e,hd5]at hp;cases hp
    refine⟨same_upd hd0 (s4.trans s5),ζ1,((hB4.same s5).mut hd5).snoc ⟨p,rfl,by rw[upd_ne npd];exact hp⟩,by rw[List.length_append,List.length_append,List.length_singleton,List.length_singleton];omega,fun l hl=>?_⟩
    rcases List.mem_append.mp hl with h | h
    ·rcases List.mem_append.mp h with h | h
     ·exact hI l h
     ·rw[List.mem_singleton.mp h];exact hT.1
    ·rw[List.mem_singleton.mp h];exact hk
   refine⟨_,rfl,_,rfl,r,_,rfl,.inr (SqT.of hr4),rfl,flat_ints _,_,rfl,?_⟩
   rw[inV_ints]
   refine itd2 (fun hin=>?_) (fun hin=>?_)
   ·refine⟨_,rfl,.inl ⟨rfl,_,SqL.of hd4⟩,_,rfl,r,rfl,⟨_,SqT.of hr4⟩,lc_tup (K:=K) (a:=r) (xs:=IL S) (fun i ys H8=>H8=H4/\i<=S.length/\ys=IL (wo (S.take i) z)) ⟨rfl,Nat.zero_le _,rfl⟩ (small60' (by rw[ζ3];omega))
     (fun i ys H8 hi ⟨e,hi2,ey⟩=>⟨e ▸ SqT.of hr4,by rw[ey,ζ3];exact Nat.le_trans (wo_len _ _) (by rw[List.length_take];omega)⟩) ?_ ?_⟩
    ·rintro i x ys H8 hi ⟨rfl,hil,rfl⟩ Sx hSS
     obtain⟨y,rfl,hy⟩:=il_get hi
     have hil':i<S.length:=(List.getElem?_eq_some_iff.mp hy).1
     refine nm ?_
     refine⟨_,rfl,_,rfl,rfl,_,rfl,?_⟩
     rw[dec_int]
     refine itn2 (fun he=>?_) (fun he=>?_)
     ·refine hSS _ _ ⟨rfl,hil',?_⟩
      rw[wo_take_succ hy,if_neg (by simpa using he),List.append_nil]
     ·refine⟨_,rfl,hSS _ _ ⟨rfl,hil',?_⟩⟩
      rw[wo_take_succ hy,if_pos he,il_snoc]
    rintro ws H8 ⟨rfl,_,rfl⟩ p1 hp1
    rw[ζ3,List.take_length]
    have u3:=same_at (o:=.lst (IL (wo S z))) hp1
    refine⟨p1,_,rfl,.inl ⟨SqL.of ζ1,fun p2 hp2=>?_⟩⟩
    have u4:=same_at (o:=.tup (IL (wo S z))) hp2
    obtain⟨f1,f2,f3,f4,f5⟩:=fin _ p2 (wo S z) (u3.trans u4) ζ1 (wo_set hT.1)
    exact⟨d,_,_,rfl,rfl,(u3.trans u4) _ _ hd4,small60' (by omega),m',_,_,_,_,_,rfl,m0',f1,f2,f3,f4,f5⟩
   ·refine⟨_,rfl,.inl ⟨rfl,_,SqL.of hd4⟩,_,rfl,_,rfl,one,fun p1 hp1=>?_⟩
    have u3:=same_at (o:=.tup (IL [z])) hp1
    refine⟨r,p1,IL S,IL [z],rfl,rfl,u3 _ _ hr4,ζ1,small60 (by rw[ζ3,ζ3,List.length_singleton];omega),fun p2 H6 u4 hp2=>?_⟩
    rw[<- il_append]at hp2
    refine⟨p2,_,rfl,SqT.of hp2,by rw[List.length_append,List.length_singleton];omega,fun ms hpm hpw p3 hp3=>?_⟩
    have u5:=same_at (o:=.lst (IL ms)) hp3
    refine⟨p3,_,rfl,.inl ⟨SqL.of ζ1,fun p4 hp4=>?_⟩⟩
    have u6:=same_at (o:=.tup (IL ms)) hp4
    have u36:=u3.trans (u4.trans (u5.trans u6))
    obtain⟨f1,f2,f3,f4,f5⟩:=fin _ p4 ms u36 ζ1 (put_set hT.1 z0 (by omega) hin hpm hpw)
    exact⟨d,_,_,rfl,rfl,u36 _ _ hd4,small60' (by omega),m',_,_,_,_,_,rfl,m0',f1,f2,f3,f4,f5⟩
end
set_option maxHeartbeats 4000000
def spζM(K:PySem.W.Frag)(C:Addr):Sp:=fun vs H Q _=>∃(w w2 a:Addr) (n n2:Int) (ps qs:List (Int × Int)) (S:List Int),vs=[.ref w,.ref w2,.ref a]/\WebAt C H w n ps/\GoodW n ps/\WebAt C H w2 n2 qs/\GoodW n2 qs/\qs.length=ps.length/\H a=some (.tup (IL S))/\IsSet ps.length S/\(IsTree n ps S↔IsTree n2 qs (cmpl ps.length S))/\∀ H':Hp,Same H H'->Q (.bl true) H'
section
variable{P:Program}{w:World}{K:PySem.W.Frag}{mg:Str->Option Value}{base:Heap}{t:Adr}
theorem scζM:FnScope ["web","other","ties","left","found"] ["web","other","ties"] (ζ6 sζM):=⟨rfl,rfl,rfl,by decide +kernel,rfl,by decide +kernel,by decide +kernel⟩
theorem okζM (T:Txt K mg t):FnOk P w K mg base CX0 9 t.aζM t.dζM ["web","other","ties"] (spζM K t.A_Web):=by
 refine T.fζM.ok scζM (fun vs H Q E h=>?_) (fun cdv A outer s H vs Q E hr h=>?_)
 ·obtain⟨w,w2,a,n,n2,ps,qs,S,rfl,_⟩:=h
  rfl
 ·obtain⟨w,w2,a,n,n2,ps,qs,S,rfl,hW,hG,hW2,hG2,hl,hA,hI,hC,q⟩:=h
  refine⟨_,(ζ2 (ps_set (i:=3) scζM.nd rfl (Or.inl rfl) (pe_callTy (call_tupleK K) (by rfl) T.n_tuple Boot.«tuple» (ζ0 (pe_lc rfl (sc0:=ζ6 sζM) (N0:=["web","other","ties","left","found"]) (N':=["tie","ties"]) (o:=1) (fr:=[2]) ⟨rfl,by decide +kernel,by decide +kernel,by decide +kernel,rfl,by decide +kernel⟩ (pi_range1 rfl T.n_range (ζ0 (pe_callB (call_lenK K) (by rfl) T.n_len Boot.«len» (ζ0 (pe_fldK K (pv 0) rfl) ζ4)) ζ4)) (own_name (by decide)) (fun _ _ _ _=>(pg_name (i:=0) (show List.Nodup (["tie","ties"]:List Str) by decide +kernel) rfl (Or.inl rfl))) (fun _ _ _ _=>(pts_one (pt_cmpR (op_notInK K) (pv 0) (pv 1) rfl))) (fun _ _ _ _=>(pv 0))) ζ4)))
   (ζ2 (ps_set (i:=4) scζM.nd rfl (Or.inl rfl) (pe_call (okζk T) (hr.mono (by decide)) rfl T.mζk T.fζk.kp T.bζk .nil pass0 (ζ0 (pv 0) (ζ0 (pv 2) ζ4))))
   (ζ2 (ps_if (pt_cmpR op_ne (pv 4) (pe_call (okζk T) (hr.mono (by decide)) rfl T.mζk T.fζk.kp T.bζk .nil pass0 (ζ0 (pv 1) (ζ0 (pv 3) ζ4))) (nomark _))
   (ζ5 (ps_ret pe_bl))
   pss_nil)
   (ζ5 (ps_ret (pe_or (pe_not (pv 4)) (pe_one (pe_and (pe_cmpR (op_eqDK K (hu8 hr)) (pe_call (okζs T) (hr.mono (by decide)) rfl T.mζs T.fζs.kp T.bζs .nil passN (ζ0 (pv 0) (ζ0 (pv 2) ζ4))) (pv 3) (nomark _)) (pe_one (pe_cmpR (op_eqDK K (hu8 hr)) (pe_call (okζs T) (hr.mono (by decide)) rfl T.mζs T.fζs.kp T.bζs .nil passN (ζ0 (pv 1) (ζ0 (pv 3) ζ4))) (pv 2) (nomark _))))))))))),?_⟩
  obtain⟨dx,tl,xs,g1,g2,g3⟩:=id hW
  have hxl:=g3.1
  have hp30:=hG.2.2.1
  refine⟨_,rfl,w,_,dx,_,_,rfl,g1,T.cl_Web,T.n_Web_ties,wf_ties _ _,tl,xs,rfl,.inl (SqL.of g2),_,rfl,by omega,by omega,lc_range (lo:=0) (n:=(xs.length:Int).toNat) (fun o zs H3=>H3=H/\zs=IL (cmpl o S)) ⟨rfl,rfl⟩ (small60' (by omega)) (fun o zs H3 _ ⟨_,e⟩=>by rw[e,ζ3];exact cmpl_le o S) ?_ ?_⟩
  ·rintro o zs H3 ho ⟨rfl,rfl⟩ Sx hSS
   refine nm ?_
   refine⟨_,rfl,_,rfl,a,_,rfl,.inr (SqT.of hA),rfl,flat_ints _,_,rfl,?_⟩
   rw[inV_ints,Int.zero_add]
   refine itn2 (fun hin=>?_) (fun hin=>?_)
   ·exact hSS _ _ ⟨rfl,by rw[cmpl_succ,if_pos hin,List.append_nil]⟩
   ·exact⟨_,rfl,hSS _ _ ⟨rfl,by rw[cmpl_succ,if_neg hin,il_snoc]⟩⟩
  rintro zs H3 ⟨rfl,rfl⟩ oA hoA
  rw[show((xs.length:Int)).toNat=ps.length by omega]
  obtain⟨O,hO⟩:∃ O,O=cmpl ps.length S:=⟨_,rfl⟩
  rw[<- hO]
  have u1:=same_at (o:=.lst (IL O)) hoA
  have ho1:(upd H3 oA (.lst (IL O))) oA=some (.lst (IL O)):=ζ1
  generalize upd H3 oA (.lst (IL O))=H4 at *
  refine⟨oA,_,rfl,.inl ⟨SqL.of ho1,fun p2 hp2=>?_⟩⟩
  have u2:=same_at (o:=.tup (IL O)) hp2
  have s4:=u1.trans u2
  have ho4:(upd H4 p2 (.tup (IL O))) p2=some (.tup (IL O)):=ζ1
  generalize upd H4 p2 (.tup (IL O))=H5 at *
  refine nm ?_
  dsimp only
  rw[<- hO]at hC
  refine⟨_,rfl,_,rfl,w,a,n,ps,true,S,rfl,hW.same s4,hG,SqT.of (s4 _ _ hA),fun b H6 s6 hb=>?_⟩
  refine nm ?_
  dsimp only
  refine⟨_,rfl,_,rfl,_,rfl,w2,p2,n2,qs,true,O,rfl,hW2.same (s4.trans s6),hG2,SqT.of (s6 _ _ ho4),fun b2 H7 s7 hb2=>?_⟩
  have eb:b=b2:=by
   cases b <;> cases b2
   ·rfl
   ·exact absurd (hb.mpr (hC.mpr (hb2.mp rfl))) (by decide)
   ·exact absurd (hb2.mpr (hC.mp (hb.mp rfl))) (by decide)
   ·rfl
  subst eb
  have s7':=s4.trans (s6.trans s7)
  refine⟨rfl,_,rfl,?_⟩
  refine itn rfl ?_
  show(_:Prop)
  refine nx_mk ?_
  refine⟨_,rfl,_,rfl,_,rfl,?_⟩
  cases b with
  | false=>exact iteT (q _ s7')
  | true =>
   refine iteF ?_
   have hT:=hb.mp rfl
   have hT2:=hC.mp hT
   refine⟨_,rfl,_,rfl,w,a,n,ps,true,S,rfl,hW.same s7',hG,SqT.of (s7' _ _ hA),fun _ D r H8 hDa hD s8 hr=>?_,fun h=>absurd hT h⟩
   obtain rfl:D=O:=by
    rw[hO]
    exact asc_ext hDa (cmpl_asc _ _) fun z=>by rw[hD,cmpl_mem]
   have s8':=s7'.trans s8
   have ho8:=(s6.trans (s7.trans s8)) _ _ ho4
   refine⟨_,rfl,1,_,r,p2,rfl,rfl,by decide,eqd_tints (SqT.of hr) (SqT.of ho8),?_⟩
   rw[decide_eq_true rfl]
   refine⟨_,rfl,?_⟩
   refine iteT ?_
   refine⟨_,rfl,_,rfl,w2,p2,n2,qs,true,D,rfl,hW2.same s8',hG2,SqT.of ho8,fun _ D2 r2 H9 hDa2 hD2 s9 hr2=>?_,fun h=>absurd hT2 h⟩
   obtain rfl:D2=S:=by
    refine asc_ext hDa2 (isSet_iff.mp hI).2 fun z=>?_
    rw[hD2,hl]
    conv=>rhs;rw[<- cmpl_two hI]
    rw[cmpl_mem,hO]
   have s9':=s8'.trans s9
   refine⟨_,rfl,1,_,r2,a,rfl,rfl,by decide,eqd_tints (SqT.of hr2) (SqT.of (s9' _ _ hA)),?_⟩
   rw[decide_eq_true rfl]
   exact q _ s9'
end
set_option maxHeartbeats 4000000
def spζN(K:PySem.W.Frag):Sp:=fun vs H Q _=>∃(a:Addr) (ns:List Int),vs=[.ref a]/\SqL K H a (IL ns)/\ns.length<=63/\∀ H',Q (.bl true) H'
theorem all_true(k:Nat):(List.replicate k true).all id=true:=by
 induction k with
 | zero=>rfl
 | succ k ih=>rw[List.replicate_succ,List.all_cons,ih];rfl
section
variable{P:Program}{w:World}{K:PySem.W.Frag}{mg:Str->Option Value}{base:Heap}{t:Adr}
theorem scζN:FnScope ["script","count","ties","turns","web","other","m"] ["script"] (ζ6 sζN):=⟨rfl,rfl,rfl,by decide +kernel,rfl,by decide +kernel,by decide +kernel⟩
theorem okζN (T:Txt K mg t):FnOk P w K mg base CX0 12 t.aζN t.dζN ["script"] (spζN K):=by
 refine T.fζN.ok scζN (fun vs H Q E h=>?_) (fun cdv A outer s H vs Q E hr h=>?_)
 ·obtain⟨a,ns,rfl,_⟩:=h
  rfl
 ·obtain⟨a,ns,rfl,hS,hn63,k⟩:=h
  refine⟨_,(@ζ2 _ _ _ _ _ (ps_asg (pe_call (okζJ T) (hr.mono (by decide)) rfl T.mζJ T.fζJ.kp T.bζJ .nil pass0 (ζ0 (pv 0) ζ4)) (pg_tupK (n:=3) K rfl (pgs_cons (pg_name (i:=1) scζN.nd rfl (Or.inl rfl)) (pgs_cons (pg_name (i:=2) scζN.nd rfl (Or.inl rfl)) (pgs_cons (pg_name (i:=3) scζN.nd rfl (Or.inl rfl)) pgs_nil)))))
   (@ζ2 _ _ _ _ _ (ps_set (i:=4) scζN.nd rfl (Or.inr rfl) (pe_make T.k_Web (okζ1 T) (hr.mono (by decide)) rfl T.c_Web T.bζ1 .nil passN (ζ0 (pv 1) (ζ0 (pv 2) ζ4))))
   (@ζ2 _ _ _ _ _ (ps_set (i:=5) scζN.nd rfl (Or.inr rfl) (pe_call (okζi T) (hr.mono (by decide)) rfl T.mζi T.fζi.kp T.bζi .nil passN (ζ0 (pv 4) (ζ0 (pv 3) ζ4))))
   (@ζ2 _ _ _ _ _ (@ps_if _ _ _ _ _ _ _ _ (pt_cmpR op_ne (pe_call (okζB T) (hr.mono (by decide)) rfl T.mζB T.fζB.kp T.bζB .nil pass0 (ζ0 (pv 4) ζ4)) (pe_call (okζB T) (hr.mono (by decide)) rfl T.mζB T.fζB.kp T.bζB .nil pass0 (ζ0 (pv 5) ζ4)) (nomark _))
   (@ζ5 _ _ _ (@ps_ret _ _ _ _ pe_bl))
   pss_nil)
   (@ζ2 _ _ _ _ _ (ps_set (i:=6) scζN.nd rfl (Or.inl rfl) (pe_call (okζD T) (hr.mono (by decide)) rfl T.mζD T.fζD.kp T.bζD .nil pass0 (ζ0 (@pe_op _ _ _ _ _ _ _ _ op_add (@pe_op _ _ _ _ _ _ _ _ op_mod (pe_call (okζC T) (hr.mono (by decide)) rfl T.mζC T.fζC.kp T.bζC .nil pass0 (ζ0 (pv 0) (ζ0 pe_int ζ4))) (@pe_op _ _ _ _ _ _ _ _ op_pow pe_int pe_int)) (pe_callB (call_lenK K) (by rfl) T.n_len Boot.«len» (ζ0 (pv 0) ζ4))) (ζ0 pe_int ζ4))))
   (@ζ5 _ _ _ (@ps_ret _ _ _ _ (pe_callB (call_allK K rfl) (by rfl) T.n_all Boot.«all» (ζ0 (pe_lc rfl (sc0:=ζ6 sζN) (N0:=["script","count","ties","turns","web","other","m"]) (N':=["some","web","other"]) (o:=1) (fr:=[4,5]) ⟨rfl,by decide +kernel,by decide +kernel,by decide +kernel,rfl,by decide +kernel⟩ (pi_listK K (pe_call (okζL T) (hr.mono (by decide)) rfl T.mζL T.fζL.kp T.bζL .nil pass0 (ζ0 (pv 4) (ζ0 (pv 6) ζ4)))) (own_name (by decide)) (fun _ _ _ _=>(pg_name (i:=0) (show List.Nodup (["some","web","other"]:List Str) by decide +kernel) rfl (Or.inl rfl))) (fun _ _ _ _=>pts_nil) (fun _ _ _ _=>(pe_call (okζM T) (hr.mono (by decide)) rfl T.mζM T.fζM.kp T.bζM .nil pass0 (ζ0 (pv 1) (ζ0 (pv 2) (ζ0 (pv 0) ζ4)))))) ζ4))))))))),?_⟩
  refine⟨_,rfl,a,ns,rfl,hS,hn63,fun t0 l a' n xs ys ps ts H1 s1 ht hl hP ha hY hM hp24=>?_⟩
  refine⟨t0,_,rfl,SqT.of ht,rfl,_,_,rfl,_,_,rfl,_,_,rfl,rfl,?_⟩
  obtain⟨hV,n1,n13,hg,hn0,hfm,hlim⟩:=hM
  have hG:GoodW (n:Int) ps:=⟨by omega,by omega,by omega,hg⟩
  have htl:=hV.1
  have rl:∀ r∈ts,r.length<64:=fun r hr=>by
   have:=nd_few (nd_row hV hr) (M:=2 * ps.length) fun x hx=>by have:=hV.in hr hx;omega
   omega
  have hV':VT (n:Int).toNat ps ts:=hV
  refine⟨_,rfl,_,rfl,?_⟩
  intro x dx nx ndx nex
  have t1:Same H1 (upd (upd H1 dx (.own x)) x (.ins t.A_Web dx [])):=same_new (same_at ndx) (by rw[upd_ne (Ne.symm nex)];exact nx)
  refine⟨x,dx,n,l,false,xs,ps,rfl,ζ1,fun o=>?_,hP.same t1,fun p hp=>by have:=hg p hp;omega,fun _ H2 hW' k2=>⟨rfl,?_⟩,fun h=>absurd hG h⟩
  ·exact(same_upd nx t1).seq (SqL.of hl)
  have hW:=hW'.web
  have s2:Same H1 H2:=fun b o e=>k2 b o (t1 b o e) (ne_of_none e nx)
  refine nm ?_
  dsimp only
  have hY2:Bears (RowV K H2) ys ts:=hY.imp fun _ _ ⟨r,e,h⟩=>⟨r,false,e,SqL.of (s2 _ _ h)⟩
  refine⟨_,rfl,_,rfl,x,a',false,n,ps,ys,ts,rfl,hW,hG,SqL.of (s2 _ _ ha),hY2,by omega,rl,fun _ R hR=>?_,fun h=>absurd hV' h⟩
  have hF:=hfm.flat hV hn0 hR
  have h14:R.length<=14:=by
   have:=hF.2
   omega
  refine⟨fun _ _ w2 H3 s3 hW2=>?_,fun _ h=>absurd h14 h,fun h=>absurd hF h⟩
  refine nm ?_
  dsimp only
  obtain⟨hG2,hJ2⟩:=other_ok hV hg hG.2.2.1 h14 hR hF
  have hO:=dual_orth hV hg hR
  have ol:=owT_len R ps.length
  have hE:=hF.2
  have cm:∀ S,IsSet ps.length S->(IsTree (n:Int) ps S↔IsTree (R.length:Int) (owT R ps.length) (cmpl ps.length S)):=fun S hS=>cmpl_iff hG hG2 ol hO hF.1 hJ2 hE hS
  have s13:=s2.trans s3
  refine⟨_,rfl,x,n,ps,rfl,hW.same s3,hG,fun c1 H4 hc1 s4=>?_⟩
  refine⟨_,rfl,w2,R.length,owT R ps.length,rfl,hW2.same s4,hG2,fun c2 H5 hc2 s5=>?_⟩
  obtain rfl:c2=c1:=hc2.uniq (cmpl_tc hG hG2 ol hO hF.1 hJ2 hE hc1)
  refine⟨rfl,_,rfl,?_⟩
  refine itn rfl ?_
  show(_:Prop)
  refine nx_mk ?_
  have s15:=s1.trans (s13.trans (s4.trans s5))
  have hS5:=s15.seq hS
  refine⟨_,rfl,a,ns,3,rfl,hS5,by decide,fun c3=>⟨_,_,rfl,rfl,⟨by decide,by decide,by decide⟩,_,_,rfl,rfl,(by show(0:Int)<10 ^ 60;decide),_,rfl,a,_,rfl,.inl hS5,_,_,rfl,rfl,_,51,rfl,by decide,by decide,fun m m0=>?_⟩⟩
  refine nm ?_
  dsimp only
  have s35:=s4.trans s5
  refine⟨_,rfl,_,rfl,x,n,ps,m,rfl,hW.same (s3.trans s35),hG,hF.1,m0,fun sA zs L H6 s6 hsA hB hL hI=>?_⟩
  have hzl:=hB.1
  have s36:=s35.trans s6
  refine⟨sA,rfl,⟨_,SqL.of hsA⟩,lc_list (K:=K) (a:=sA) (xs:=zs) (fun i ws H7=>Same H6 H7/\ws=(List.replicate i true).map V.bl) ⟨Same.refl _,rfl⟩ (small60' (by omega)) (fun i ws H7 _ ⟨e,ez⟩=>⟨SqL.of (e _ _ hsA),by rw[ez,List.length_map,List.length_replicate];exact Nat.le_refl _⟩) ?_ ?_⟩
  ·rintro i v ws H7 hi ⟨s7,rfl⟩ Sx hSS
   obtain⟨S,hSi,tt,rfl,htt⟩:=hB.at hi
   have hIS:=hI S (List.mem_of_getElem? hSi)
   have s37:=s36.trans s7
   refine nm ?_
   refine⟨_,rfl,_,rfl,_,rfl,x,w2,tt,n,R.length,ps,owT R ps.length,S,rfl,hW.same (s3.trans s37),hG,hW2.same s37,hG2,ol,s7 _ _ htt,hIS,cm S hIS,fun H8 s8=>hSS _ _ ⟨s7.trans s8,?_⟩⟩
   rw[List.replicate_succ',List.map_append]
   rfl
  rintro ws H7 ⟨s7,rfl⟩ cA hcA
  refine⟨cA,List.replicate zs.length true,rfl,SqL.of ζ1,?_⟩
  rw[all_true]
  exact k _
end
end My
namespace My
open PySem L2
theorem law_binds {K:PySem.W.Frag} {f:Addr} {fd:FuncData} (F:Fun K "law" "law" sζN f fd) (s:Shared) (u:Value):BindsTo s fd ⟨[u],[]⟩ [("script",u)]:=by
 obtain⟨oc,od,kV,doc,pm,an,cdv,ct,osl,rfl,lk,hcd⟩:=F.ex
 exact .of_eq rfl
end My
open PySem PySem.W PyProof.Rows
set_option maxRecDepth 100000 in
set_option maxHeartbeats 0 in
theorem PySem.Challenge.cw_spanrow_k79_whole_trees_of_the_other_web_holds : PySem.Challenge.rw_spanrow_k79_whole_trees_of_the_other_web.Holds := by
 w_on;o_law;k_head;(case hw=>w_witness2)
 k_fill
 refine L2.walk_ofK (l:=PySem.Challenge.rw_spanrow_k79_whole_trees_of_the_other_web) (n:=63) (k:=12) (x:="script") (CX:=L2.CX0) (sp:=My.spζN) rfl (by decide) rfl ⟨rfl,by decide,by decide⟩ (fun w h Y=>PySem.W.kIn_of Y) ?F (fun _ H a ns hl _ hS=>⟨a,ns,rfl,hS,hl,fun _=>rfl⟩) (fun _ _ _ _ z=>z)
 case F =>
  intro w mg fa h KX G hmg
  have hζ0:My.FX (L2.KOf KX) mg "refuse_bad_web" "refuse_bad_web" My.sζ0:=by
   dsimp only [L2.KOf]
   refine' My.fx_mk KX G ?a ?l ?c ?k
   (case a=>k_is);(case l=>k_is);(case c=>k_is);(case k=>k_is)
  have hζ2:My.FX (L2.KOf KX) mg "is_tie" "is_tie" My.sζ2:=by
   dsimp only [L2.KOf]
   refine' My.fx_mk KX G ?a ?l ?c ?k
   (case a=>k_is);(case l=>k_is);(case c=>k_is);(case k=>k_is)
  have hζ3:My.FX (L2.KOf KX) mg "all_ties" "all_ties" My.sζ3:=by
   dsimp only [L2.KOf]
   refine' My.fx_mk KX G ?a ?l ?c ?k
   (case a=>k_is);(case l=>k_is);(case c=>k_is);(case k=>k_is)
  have hζ4:My.FX (L2.KOf KX) mg "is_set" "is_set" My.sζ4:=by
   dsimp only [L2.KOf]
   refine' My.fx_mk KX G ?a ?l ?c ?k
   (case a=>k_is);(case l=>k_is);(case c=>k_is);(case k=>k_is)
  have hζ5:My.FX (L2.KOf KX) mg "made_set" "made_set" My.sζ5:=by
   dsimp only [L2.KOf]
   refine' My.fx_mk KX G ?a ?l ?c ?k
   (case a=>k_is);(case l=>k_is);(case c=>k_is);(case k=>k_is)
  have hζ6:My.FX (L2.KOf KX) mg "merged_marks" "merged_marks" My.sζ6:=by
   dsimp only [L2.KOf]
   refine' My.fx_mk KX G ?a ?l ?c ?k
   (case a=>k_is);(case l=>k_is);(case c=>k_is);(case k=>k_is)
  have hζ7:My.FX (L2.KOf KX) mg "piece_marks" "piece_marks" My.sζ7:=by
   dsimp only [L2.KOf]
   refine' My.fx_mk KX G ?a ?l ?c ?k
   (case a=>k_is);(case l=>k_is);(case c=>k_is);(case k=>k_is)
  have hζ8:My.FX (L2.KOf KX) mg "pieces_of" "pieces_of" My.sζ8:=by
   dsimp only [L2.KOf]
   refine' My.fx_mk KX G ?a ?l ?c ?k
   (case a=>k_is);(case l=>k_is);(case c=>k_is);(case k=>k_is)
  have hζ9:My.FX (L2.KOf KX) mg "is_joined" "is_joined" My.sζ9:=by
   dsimp only [L2.KOf]
   refine' My.fx_mk KX G ?a ?l ?c ?k
   (case a=>k_is);(case l=>k_is);(case c=>k_is);(case k=>k_is)
  have hζa:My.FX (L2.KOf KX) mg "darts_away" "darts_away" My.sζa:=by
   dsimp only [L2.KOf]
   refine' My.fx_mk KX G ?a ?l ?c ?k
   (case a=>k_is);(case l=>k_is);(case c=>k_is);(case k=>k_is)
  have hζb:My.FX (L2.KOf KX) mg "refuse_bad_turns" "refuse_bad_turns" My.sζb:=by
   dsimp only [L2.KOf]
   refine' My.fx_mk KX G ?a ?l ?c ?k
   (case a=>k_is);(case l=>k_is);(case c=>k_is);(case k=>k_is)
  have hζc:My.FX (L2.KOf KX) mg "back_dart" "back_dart" My.sζc:=by
   dsimp only [L2.KOf]
   refine' My.fx_mk KX G ?a ?l ?c ?k
   (case a=>k_is);(case l=>k_is);(case c=>k_is);(case k=>k_is)
  have hζd:My.FX (L2.KOf KX) mg "darts_behind" "darts_behind" My.sζd:=by
   dsimp only [L2.KOf]
   refine' My.fx_mk KX G ?a ?l ?c ?k
   (case a=>k_is);(case l=>k_is);(case c=>k_is);(case k=>k_is)
  have hζe:My.FX (L2.KOf KX) mg "round_from" "round_from" My.sζe:=by
   dsimp only [L2.KOf]
   refine' My.fx_mk KX G ?a ?l ?c ?k
   (case a=>k_is);(case l=>k_is);(case c=>k_is);(case k=>k_is)
  have hζf:My.FX (L2.KOf KX) mg "rounds_of" "rounds_of" My.sζf:=by
   dsimp only [L2.KOf]
   refine' My.fx_mk KX G ?a ?l ?c ?k
   (case a=>k_is);(case l=>k_is);(case c=>k_is);(case k=>k_is)
  have hζg:My.FX (L2.KOf KX) mg "lies_flat" "lies_flat" My.sζg:=by
   dsimp only [L2.KOf]
   refine' My.fx_mk KX G ?a ?l ?c ?k
   (case a=>k_is);(case l=>k_is);(case c=>k_is);(case k=>k_is)
  have hζh:My.FX (L2.KOf KX) mg "round_numbers" "round_numbers" My.sζh:=by
   dsimp only [L2.KOf]
   refine' My.fx_mk KX G ?a ?l ?c ?k
   (case a=>k_is);(case l=>k_is);(case c=>k_is);(case k=>k_is)
  have hζi:My.FX (L2.KOf KX) mg "other_web" "other_web" My.sζi:=by
   dsimp only [L2.KOf]
   refine' My.fx_mk KX G ?a ?l ?c ?k
   (case a=>k_is);(case l=>k_is);(case c=>k_is);(case k=>k_is)
  have hζj:My.FX (L2.KOf KX) mg "ties_beside" "ties_beside" My.sζj:=by
   dsimp only [L2.KOf]
   refine' My.fx_mk KX G ?a ?l ?c ?k
   (case a=>k_is);(case l=>k_is);(case c=>k_is);(case k=>k_is)
  have hζk:My.FX (L2.KOf KX) mg "is_tree" "is_tree" My.sζk:=by
   dsimp only [L2.KOf]
   refine' My.fx_mk KX G ?a ?l ?c ?k
   (case a=>k_is);(case l=>k_is);(case c=>k_is);(case k=>k_is)
  have hζl:My.FX (L2.KOf KX) mg "refuse_no_tree" "refuse_no_tree" My.sζl:=by
   dsimp only [L2.KOf]
   refine' My.fx_mk KX G ?a ?l ?c ?k
   (case a=>k_is);(case l=>k_is);(case c=>k_is);(case k=>k_is)
  have hζm:My.FX (L2.KOf KX) mg "refuse_parted" "refuse_parted" My.sζm:=by
   dsimp only [L2.KOf]
   refine' My.fx_mk KX G ?a ?l ?c ?k
   (case a=>k_is);(case l=>k_is);(case c=>k_is);(case k=>k_is)
  have hζn:My.FX (L2.KOf KX) mg "grown_tree" "grown_tree" My.sζn:=by
   dsimp only [L2.KOf]
   refine' My.fx_mk KX G ?a ?l ?c ?k
   (case a=>k_is);(case l=>k_is);(case c=>k_is);(case k=>k_is)
  have hζo:My.FX (L2.KOf KX) mg "least_tree" "least_tree" My.sζo:=by
   dsimp only [L2.KOf]
   refine' My.fx_mk KX G ?a ?l ?c ?k
   (case a=>k_is);(case l=>k_is);(case c=>k_is);(case k=>k_is)
  have hζp:My.FX (L2.KOf KX) mg "ties_without" "ties_without" My.sζp:=by
   dsimp only [L2.KOf]
   refine' My.fx_mk KX G ?a ?l ?c ?k
   (case a=>k_is);(case l=>k_is);(case c=>k_is);(case k=>k_is)
  have hζq:My.FX (L2.KOf KX) mg "tree_cut" "tree_cut" My.sζq:=by
   dsimp only [L2.KOf]
   refine' My.fx_mk KX G ?a ?l ?c ?k
   (case a=>k_is);(case l=>k_is);(case c=>k_is);(case k=>k_is)
  have hζr:My.FX (L2.KOf KX) mg "ring_of" "ring_of" My.sζr:=by
   dsimp only [L2.KOf]
   refine' My.fx_mk KX G ?a ?l ?c ?k
   (case a=>k_is);(case l=>k_is);(case c=>k_is);(case k=>k_is)
  have hζs:My.FX (L2.KOf KX) mg "left_of" "left_of" My.sζs:=by
   dsimp only [L2.KOf]
   refine' My.fx_mk KX G ?a ?l ?c ?k
   (case a=>k_is);(case l=>k_is);(case c=>k_is);(case k=>k_is)
  have hζt:My.FX (L2.KOf KX) mg "refuse_not_square" "refuse_not_square" My.sζt:=by
   dsimp only [L2.KOf]
   refine' My.fx_mk KX G ?a ?l ?c ?k
   (case a=>k_is);(case l=>k_is);(case c=>k_is);(case k=>k_is)
  have hζu:My.FX (L2.KOf KX) mg "row_taken_off" "row_taken_off" My.sζu:=by
   dsimp only [L2.KOf]
   refine' My.fx_mk KX G ?a ?l ?c ?k
   (case a=>k_is);(case l=>k_is);(case c=>k_is);(case k=>k_is)
  have hζv:My.FX (L2.KOf KX) mg "first_with_some" "first_with_some" My.sζv:=by
   dsimp only [L2.KOf]
   refine' My.fx_mk KX G ?a ?l ?c ?k
   (case a=>k_is);(case l=>k_is);(case c=>k_is);(case k=>k_is)
  have hζw:My.FX (L2.KOf KX) mg "determinant" "determinant" My.sζw:=by
   dsimp only [L2.KOf]
   refine' My.fx_mk KX G ?a ?l ?c ?k
   (case a=>k_is);(case l=>k_is);(case c=>k_is);(case k=>k_is)
  have hζx:My.FX (L2.KOf KX) mg "row_without" "row_without" My.sζx:=by
   dsimp only [L2.KOf]
   refine' My.fx_mk KX G ?a ?l ?c ?k
   (case a=>k_is);(case l=>k_is);(case c=>k_is);(case k=>k_is)
  have hζy:My.FX (L2.KOf KX) mg "table_without" "table_without" My.sζy:=by
   dsimp only [L2.KOf]
   refine' My.fx_mk KX G ?a ?l ?c ?k
   (case a=>k_is);(case l=>k_is);(case c=>k_is);(case k=>k_is)
  have hζz:My.FX (L2.KOf KX) mg "weighted_table" "weighted_table" My.sζz:=by
   dsimp only [L2.KOf]
   refine' My.fx_mk KX G ?a ?l ?c ?k
   (case a=>k_is);(case l=>k_is);(case c=>k_is);(case k=>k_is)
  have hζA:My.FX (L2.KOf KX) mg "pull_table" "pull_table" My.sζA:=by
   dsimp only [L2.KOf]
   refine' My.fx_mk KX G ?a ?l ?c ?k
   (case a=>k_is);(case l=>k_is);(case c=>k_is);(case k=>k_is)
  have hζB:My.FX (L2.KOf KX) mg "tree_count" "tree_count" My.sζB:=by
   dsimp only [L2.KOf]
   refine' My.fx_mk KX G ?a ?l ?c ?k
   (case a=>k_is);(case l=>k_is);(case c=>k_is);(case k=>k_is)
  have hζC:My.FX (L2.KOf KX) mg "_law_at" "_law_at" My.sζC:=by
   dsimp only [L2.KOf]
   refine' My.fx_mk KX G ?a ?l ?c ?k
   (case a=>k_is);(case l=>k_is);(case c=>k_is);(case k=>k_is)
  have hζD:My.FX (L2.KOf KX) mg "_law_mixed" "_law_mixed" My.sζD:=by
   dsimp only [L2.KOf]
   refine' My.fx_mk KX G ?a ?l ?c ?k
   (case a=>k_is);(case l=>k_is);(case c=>k_is);(case k=>k_is)
  have hζE:My.FX (L2.KOf KX) mg "_law_amounts" "_law_amounts" My.sζE:=by
   dsimp only [L2.KOf]
   refine' My.fx_mk KX G ?a ?l ?c ?k
   (case a=>k_is);(case l=>k_is);(case c=>k_is);(case k=>k_is)
  have hζF:My.FX (L2.KOf KX) mg "_law_behind" "_law_behind" My.sζF:=by
   dsimp only [L2.KOf]
   refine' My.fx_mk KX G ?a ?l ?c ?k
   (case a=>k_is);(case l=>k_is);(case c=>k_is);(case k=>k_is)
  have hζG:My.FX (L2.KOf KX) mg "_law_put" "_law_put" My.sζG:=by
   dsimp only [L2.KOf]
   refine' My.fx_mk KX G ?a ?l ?c ?k
   (case a=>k_is);(case l=>k_is);(case c=>k_is);(case k=>k_is)
  have hζH:My.FX (L2.KOf KX) mg "_law_corner" "_law_corner" My.sζH:=by
   dsimp only [L2.KOf]
   refine' My.fx_mk KX G ?a ?l ?c ?k
   (case a=>k_is);(case l=>k_is);(case c=>k_is);(case k=>k_is)
  have hζI:My.FX (L2.KOf KX) mg "_law_grown" "_law_grown" My.sζI:=by
   dsimp only [L2.KOf]
   refine' My.fx_mk KX G ?a ?l ?c ?k
   (case a=>k_is);(case l=>k_is);(case c=>k_is);(case k=>k_is)
  have hζJ:My.FX (L2.KOf KX) mg "_law_map" "_law_map" My.sζJ:=by
   dsimp only [L2.KOf]
   refine' My.fx_mk KX G ?a ?l ?c ?k
   (case a=>k_is);(case l=>k_is);(case c=>k_is);(case k=>k_is)
  have hζK:My.FX (L2.KOf KX) mg "_law_tree" "_law_tree" My.sζK:=by
   dsimp only [L2.KOf]
   refine' My.fx_mk KX G ?a ?l ?c ?k
   (case a=>k_is);(case l=>k_is);(case c=>k_is);(case k=>k_is)
  have hζL:My.FX (L2.KOf KX) mg "_law_sets" "_law_sets" My.sζL:=by
   dsimp only [L2.KOf]
   refine' My.fx_mk KX G ?a ?l ?c ?k
   (case a=>k_is);(case l=>k_is);(case c=>k_is);(case k=>k_is)
  have hζM:My.FX (L2.KOf KX) mg "_law_good" "_law_good" My.sζM:=by
   dsimp only [L2.KOf]
   refine' My.fx_mk KX G ?a ?l ?c ?k
   (case a=>k_is);(case l=>k_is);(case c=>k_is);(case k=>k_is)
  have hζN:My.FX (L2.KOf KX) mg "law" "law" My.sζN:=by
   dsimp only [L2.KOf]
   refine' My.fx_mk KX G ?a ?l ?c ?k
   (case a=>k_is);(case l=>k_is);(case c=>k_is);(case k=>k_is)
  have h_Web:My.CXF (L2.KOf KX) mg "Web" "Web.__init__" My.sζ1 ["places","ties"]:=by
   dsimp only [L2.KOf]
   refine' My.cx_mk KX G ?aC ?a ?i ?l ?c ?k ?pg ?hd ?po ?sa ?mk ?kc ?na
   (case aC=>k_is);(case a=>k_is);(case i=>k_is);(case l=>k_is);(case c=>k_is);(case k=>k_is)
   (case pg=>k_is);(case hd=>k_is);(case po=>k_is);(case sa=>k_is);(case mk=>k_is);(case kc=>k_is)
   (case na=>(intro f hf;simp only [List.mem_cons,List.not_mem_nil,or_false]at hf;rcases hf with rfl | rfl <;> k_is))
  have hX:∃ A_WebError A_BadWeb A_BadSet A_NotSquare A_BadTurns A_NotFlat A_NoTree A_NoTie A_Parted:Addr,mg "WebError"=some (.ref A_WebError)/\mg "BadWeb"=some (.ref A_BadWeb)/\mg "BadSet"=some (.ref A_BadSet)/\mg "NotSquare"=some (.ref A_NotSquare)/\mg "BadTurns"=some (.ref A_BadTurns)/\mg "NotFlat"=some (.ref A_NotFlat)/\mg "NoTree"=some (.ref A_NoTree)/\mg "NoTie"=some (.ref A_NoTie)/\mg "Parted"=some (.ref A_Parted)/\L2.XCls (L2.KOf KX) (A_BadTurns)/\L2.XCls (L2.KOf KX) (A_NotFlat)/\L2.XCls (L2.KOf KX) (A_BadWeb)/\L2.XCls (L2.KOf KX) (A_NotSquare)/\L2.XCls (L2.KOf KX) (A_NoTree)/\L2.XCls (L2.KOf KX) (A_NoTie)/\L2.XCls (L2.KOf KX) (A_Parted)/\PySem.W.exmOne (L2.KOf KX) (.ref (A_BadTurns)) (.ref (A_WebError))=some true/\PySem.W.exmOne (L2.KOf KX) (.ref (A_NotFlat)) (.ref (A_WebError))=some true/\PySem.W.exmOne (L2.KOf KX) (.ref (A_BadWeb)) (.ref (A_WebError))=some true/\PySem.W.exmOne (L2.KOf KX) (.ref (A_NotSquare)) (.ref (A_WebError))=some true/\PySem.W.exmOne (L2.KOf KX) (.ref (A_NoTree)) (.ref (A_WebError))=some true/\PySem.W.exmOne (L2.KOf KX) (.ref (A_NoTie)) (.ref (A_WebError))=some true/\PySem.W.exmOne (L2.KOf KX) (.ref (A_Parted)) (.ref (A_WebError))=some true:=by
   dsimp only [L2.KOf]
   refine' My.xI (My.xI (My.xI (My.xI (My.xI (My.xI (My.xI (My.xI (My.xI (⟨PySem.W.mg_of KX G ?m_WebError,PySem.W.mg_of KX G ?m_BadWeb,PySem.W.mg_of KX G ?m_BadSet,PySem.W.mg_of KX G ?m_NotSquare,PySem.W.mg_of KX G ?m_BadTurns,PySem.W.mg_of KX G ?m_NotFlat,PySem.W.mg_of KX G ?m_NoTree,PySem.W.mg_of KX G ?m_NoTie,PySem.W.mg_of KX G ?m_Parted,⟨?x_BadTurns_ex,?x_BadTurns_ga,?x_BadTurns_gh,?x_BadTurns_cl,?x_BadTurns_ob,?x_BadTurns_bx⟩,⟨?x_NotFlat_ex,?x_NotFlat_ga,?x_NotFlat_gh,?x_NotFlat_cl,?x_NotFlat_ob,?x_NotFlat_bx⟩,⟨?x_BadWeb_ex,?x_BadWeb_ga,?x_BadWeb_gh,?x_BadWeb_cl,?x_BadWeb_ob,?x_BadWeb_bx⟩,⟨?x_NotSquare_ex,?x_NotSquare_ga,?x_NotSquare_gh,?x_NotSquare_cl,?x_NotSquare_ob,?x_NotSquare_bx⟩,⟨?x_NoTree_ex,?x_NoTree_ga,?x_NoTree_gh,?x_NoTree_cl,?x_NoTree_ob,?x_NoTree_bx⟩,⟨?x_NoTie_ex,?x_NoTie_ga,?x_NoTie_gh,?x_NoTie_cl,?x_NoTie_ob,?x_NoTie_bx⟩,⟨?x_Parted_ex,?x_Parted_ga,?x_Parted_gh,?x_Parted_cl,?x_Parted_ob,?x_Parted_bx⟩,?em_BadTurns,?em_NotFlat,?em_BadWeb,?em_NotSquare,?em_NoTree,?em_NoTie,?em_Parted⟩)))))))))
   (case m_WebError=>k_is)
   (case m_BadWeb=>k_is)
   (case m_BadSet=>k_is)
   (case m_NotSquare=>k_is)
   (case m_BadTurns=>k_is)
   (case m_NotFlat=>k_is)
   (case m_NoTree=>k_is)
   (case m_NoTie=>k_is)
   (case m_Parted=>k_is)
   (case x_BadTurns_ex=>k_exc);(case x_BadTurns_ga=>k_is);(case x_BadTurns_gh=>k_is);(case x_BadTurns_cl=>k_is);(case x_BadTurns_ob=>k_is);(case x_BadTurns_bx=>k_is)
   (case x_NotFlat_ex=>k_exc);(case x_NotFlat_ga=>k_is);(case x_NotFlat_gh=>k_is);(case x_NotFlat_cl=>k_is);(case x_NotFlat_ob=>k_is);(case x_NotFlat_bx=>k_is)
   (case x_BadWeb_ex=>k_exc);(case x_BadWeb_ga=>k_is);(case x_BadWeb_gh=>k_is);(case x_BadWeb_cl=>k_is);(case x_BadWeb_ob=>k_is);(case x_BadWeb_bx=>k_is)
   (case x_NotSquare_ex=>k_exc);(case x_NotSquare_ga=>k_is);(case x_NotSquare_gh=>k_is);(case x_NotSquare_cl=>k_is);(case x_NotSquare_ob=>k_is);(case x_NotSquare_bx=>k_is)
   (case x_NoTree_ex=>k_exc);(case x_NoTree_ga=>k_is);(case x_NoTree_gh=>k_is);(case x_NoTree_cl=>k_is);(case x_NoTree_ob=>k_is);(case x_NoTree_bx=>k_is)
   (case x_NoTie_ex=>k_exc);(case x_NoTie_ga=>k_is);(case x_NoTie_gh=>k_is);(case x_NoTie_cl=>k_is);(case x_NoTie_ob=>k_is);(case x_NoTie_bx=>k_is)
   (case x_Parted_ex=>k_exc);(case x_Parted_ga=>k_is);(case x_Parted_gh=>k_is);(case x_Parted_cl=>k_is);(case x_Parted_ob=>k_is);(case x_Parted_bx=>k_is)
   (case em_BadTurns=>kts_exm)
   (case em_NotFlat=>kts_exm)
   (case em_BadWeb=>kts_exm)
   (case em_NotSquare=>kts_exm)
   (case em_NoTree=>kts_exm)
   (case em_NoTie=>kts_exm)
   (case em_Parted=>kts_exm)
  have h_MOST_PLACES:∃ tk,mg "MOST_PLACES"=some (.int 14 tk):=by
   refine' My.const_mk KX G ?a ?b
   (case a=>k_is);(case b=>exact⟨_,rfl⟩)
  have h_MOST_TIES:∃ tk,mg "MOST_TIES"=some (.int 30 tk):=by
   refine' My.const_mk KX G ?a ?b
   (case a=>k_is);(case b=>exact⟨_,rfl⟩)
  have h_all:mg "all"=none:=by
   refine' PySem.W.mg_none_of KX G ?a
   (case a=>k_is)
  have h_enumerate:mg "enumerate"=none:=by
   refine' PySem.W.mg_none_of KX G ?a
   (case a=>k_is)
  have h_len:mg "len"=none:=by
   refine' PySem.W.mg_none_of KX G ?a
   (case a=>k_is)
  have h_list:mg "list"=none:=by
   refine' PySem.W.mg_none_of KX G ?a
   (case a=>k_is)
  have h_max:mg "max"=none:=by
   refine' PySem.W.mg_none_of KX G ?a
   (case a=>k_is)
  have h_min:mg "min"=none:=by
   refine' PySem.W.mg_none_of KX G ?a
   (case a=>k_is)
  have h_range:mg "range"=none:=by
   refine' PySem.W.mg_none_of KX G ?a
   (case a=>k_is)
  have h_sorted:mg "sorted"=none:=by
   refine' PySem.W.mg_none_of KX G ?a
   (case a=>k_is)
  have h_tuple:mg "tuple"=none:=by
   refine' PySem.W.mg_none_of KX G ?a
   (case a=>k_is)
  have h_zip:mg "zip"=none:=by
   refine' PySem.W.mg_none_of KX G ?a
   (case a=>k_is)
  obtain⟨aζ0,dζ0,mζ0,fζ0⟩:=hζ0
  obtain⟨aζ2,dζ2,mζ2,fζ2⟩:=hζ2
  obtain⟨aζ3,dζ3,mζ3,fζ3⟩:=hζ3
  obtain⟨aζ4,dζ4,mζ4,fζ4⟩:=hζ4
  obtain⟨aζ5,dζ5,mζ5,fζ5⟩:=hζ5
  obtain⟨aζ6,dζ6,mζ6,fζ6⟩:=hζ6
  obtain⟨aζ7,dζ7,mζ7,fζ7⟩:=hζ7
  obtain⟨aζ8,dζ8,mζ8,fζ8⟩:=hζ8
  obtain⟨aζ9,dζ9,mζ9,fζ9⟩:=hζ9
  obtain⟨aζa,dζa,mζa,fζa⟩:=hζa
  obtain⟨aζb,dζb,mζb,fζb⟩:=hζb
  obtain⟨aζc,dζc,mζc,fζc⟩:=hζc
  obtain⟨aζd,dζd,mζd,fζd⟩:=hζd
  obtain⟨aζe,dζe,mζe,fζe⟩:=hζe
  obtain⟨aζf,dζf,mζf,fζf⟩:=hζf
  obtain⟨aζg,dζg,mζg,fζg⟩:=hζg
  obtain⟨aζh,dζh,mζh,fζh⟩:=hζh
  obtain⟨aζi,dζi,mζi,fζi⟩:=hζi
  obtain⟨aζj,dζj,mζj,fζj⟩:=hζj
  obtain⟨aζk,dζk,mζk,fζk⟩:=hζk
  obtain⟨aζl,dζl,mζl,fζl⟩:=hζl
  obtain⟨aζm,dζm,mζm,fζm⟩:=hζm
  obtain⟨aζn,dζn,mζn,fζn⟩:=hζn
  obtain⟨aζo,dζo,mζo,fζo⟩:=hζo
  obtain⟨aζp,dζp,mζp,fζp⟩:=hζp
  obtain⟨aζq,dζq,mζq,fζq⟩:=hζq
  obtain⟨aζr,dζr,mζr,fζr⟩:=hζr
  obtain⟨aζs,dζs,mζs,fζs⟩:=hζs
  obtain⟨aζt,dζt,mζt,fζt⟩:=hζt
  obtain⟨aζu,dζu,mζu,fζu⟩:=hζu
  obtain⟨aζv,dζv,mζv,fζv⟩:=hζv
  obtain⟨aζw,dζw,mζw,fζw⟩:=hζw
  obtain⟨aζx,dζx,mζx,fζx⟩:=hζx
  obtain⟨aζy,dζy,mζy,fζy⟩:=hζy
  obtain⟨aζz,dζz,mζz,fζz⟩:=hζz
  obtain⟨aζA,dζA,mζA,fζA⟩:=hζA
  obtain⟨aζB,dζB,mζB,fζB⟩:=hζB
  obtain⟨aζC,dζC,mζC,fζC⟩:=hζC
  obtain⟨aζD,dζD,mζD,fζD⟩:=hζD
  obtain⟨aζE,dζE,mζE,fζE⟩:=hζE
  obtain⟨aζF,dζF,mζF,fζF⟩:=hζF
  obtain⟨aζG,dζG,mζG,fζG⟩:=hζG
  obtain⟨aζH,dζH,mζH,fζH⟩:=hζH
  obtain⟨aζI,dζI,mζI,fζI⟩:=hζI
  obtain⟨aζJ,dζJ,mζJ,fζJ⟩:=hζJ
  obtain⟨aζK,dζK,mζK,fζK⟩:=hζK
  obtain⟨aζL,dζL,mζL,fζL⟩:=hζL
  obtain⟨aζM,dζM,mζM,fζM⟩:=hζM
  obtain⟨aζN,dζN,mζN,fζN⟩:=hζN
  obtain⟨A_Web,aζ1,dζ1,c_Web,fζ1,cl_Web,k_Web,na_Web⟩:=h_Web
  obtain⟨A_WebError,A_BadWeb,A_BadSet,A_NotSquare,A_BadTurns,A_NotFlat,A_NoTree,A_NoTie,A_Parted,c_WebError,c_BadWeb,c_BadSet,c_NotSquare,c_BadTurns,c_NotFlat,c_NoTree,c_NoTie,c_Parted,x_BadTurns,x_NotFlat,x_BadWeb,x_NotSquare,x_NoTree,x_NoTie,x_Parted,em_BadTurns,em_NotFlat,em_BadWeb,em_NotSquare,em_NoTree,em_NoTie,em_Parted⟩:=hX
  have T:My.Txt (L2.KOf KX) mg ⟨aζ0,dζ0,aζ1,dζ1,aζ2,dζ2,aζ3,dζ3,aζ4,dζ4,aζ5,dζ5,aζ6,dζ6,aζ7,dζ7,aζ8,dζ8,aζ9,dζ9,aζa,dζa,aζb,dζb,aζc,dζc,aζd,dζd,aζe,dζe,aζf,dζf,aζg,dζg,aζh,dζh,aζi,dζi,aζj,dζj,aζk,dζk,aζl,dζl,aζm,dζm,aζn,dζn,aζo,dζo,aζp,dζp,aζq,dζq,aζr,dζr,aζs,dζs,aζt,dζt,aζu,dζu,aζv,dζv,aζw,dζw,aζx,dζx,aζy,dζy,aζz,dζz,aζA,dζA,aζB,dζB,aζC,dζC,aζD,dζD,aζE,dζE,aζF,dζF,aζG,dζG,aζH,dζH,aζI,dζI,aζJ,dζJ,aζK,dζK,aζL,dζL,aζM,dζM,aζN,dζN,A_Web,A_WebError,A_BadWeb,A_BadSet,A_NotSquare,A_BadTurns,A_NotFlat,A_NoTree,A_NoTie,A_Parted⟩:=⟨fζ0,fζ0.binds (fun _ _ _ _ _ _ us hl=>by obtain⟨_,_,rfl⟩:=My.len2 hl;rfl),mζ0,fζ1,fζ1.binds (fun _ _ _ _ _ _ us hl=>by obtain⟨_,_,_,rfl⟩:=My.len3 hl;rfl),fζ2,fζ2.binds (fun _ _ _ _ _ _ us hl=>by obtain⟨_,_,rfl⟩:=My.len2 hl;rfl),mζ2,fζ3,fζ3.binds (fun _ _ _ _ _ _ us hl=>by obtain⟨_,rfl⟩:=My.len1 hl;rfl),mζ3,fζ4,fζ4.binds (fun _ _ _ _ _ _ us hl=>by obtain⟨_,_,rfl⟩:=My.len2 hl;rfl),mζ4,fζ5,fζ5.binds (fun _ _ _ _ _ _ us hl=>by obtain⟨_,_,rfl⟩:=My.len2 hl;rfl),mζ5,fζ6,fζ6.binds (fun _ _ _ _ _ _ us hl=>by obtain⟨_,_,_,rfl⟩:=My.len3 hl;rfl),mζ6,fζ7,fζ7.binds (fun _ _ _ _ _ _ us hl=>by obtain⟨_,_,rfl⟩:=My.len2 hl;rfl),mζ7,fζ8,fζ8.binds (fun _ _ _ _ _ _ us hl=>by obtain⟨_,_,rfl⟩:=My.len2 hl;rfl),mζ8,fζ9,fζ9.binds (fun _ _ _ _ _ _ us hl=>by obtain⟨_,_,rfl⟩:=My.len2 hl;rfl),mζ9,fζa,fζa.binds (fun _ _ _ _ _ _ us hl=>by obtain⟨_,rfl⟩:=My.len1 hl;rfl),mζa,fζb,fζb.binds (fun _ _ _ _ _ _ us hl=>by obtain⟨_,_,rfl⟩:=My.len2 hl;rfl),mζb,fζc,fζc.binds (fun _ _ _ _ _ _ us hl=>by obtain⟨_,rfl⟩:=My.len1 hl;rfl),mζc,fζd,fζd.binds (fun _ _ _ _ _ _ us hl=>by obtain⟨_,rfl⟩:=My.len1 hl;rfl),mζd,fζe,fζe.binds (fun _ _ _ _ _ _ us hl=>by obtain⟨_,_,rfl⟩:=My.len2 hl;rfl),mζe,fζf,fζf.binds (fun _ _ _ _ _ _ us hl=>by obtain⟨_,_,rfl⟩:=My.len2 hl;rfl),mζf,fζg,fζg.binds (fun _ _ _ _ _ _ us hl=>by obtain⟨_,_,rfl⟩:=My.len2 hl;rfl),mζg,fζh,fζh.binds (fun _ _ _ _ _ _ us hl=>by obtain⟨_,rfl⟩:=My.len1 hl;rfl),mζh,fζi,fζi.binds (fun _ _ _ _ _ _ us hl=>by obtain⟨_,_,rfl⟩:=My.len2 hl;rfl),mζi,fζj,fζj.binds (fun _ _ _ _ _ _ us hl=>by obtain⟨_,_,rfl⟩:=My.len2 hl;rfl),mζj,fζk,fζk.binds (fun _ _ _ _ _ _ us hl=>by obtain⟨_,_,rfl⟩:=My.len2 hl;rfl),mζk,fζl,fζl.binds (fun _ _ _ _ _ _ us hl=>by obtain⟨_,_,rfl⟩:=My.len2 hl;rfl),mζl,fζm,fζm.binds (fun _ _ _ _ _ _ us hl=>by obtain⟨_,rfl⟩:=My.len1 hl;rfl),mζm,fζn,fζn.binds (fun _ _ _ _ _ _ us hl=>by obtain⟨_,_,_,rfl⟩:=My.len3 hl;rfl),mζn,fζo,fζo.binds (fun _ _ _ _ _ _ us hl=>by obtain⟨_,rfl⟩:=My.len1 hl;rfl),mζo,fζp,fζp.binds (fun _ _ _ _ _ _ us hl=>by obtain⟨_,_,rfl⟩:=My.len2 hl;rfl),mζp,fζq,fζq.binds (fun _ _ _ _ _ _ us hl=>by obtain⟨_,_,_,rfl⟩:=My.len3 hl;rfl),mζq,fζr,fζr.binds (fun _ _ _ _ _ _ us hl=>by obtain⟨_,_,_,rfl⟩:=My.len3 hl;rfl),mζr,fζs,fζs.binds (fun _ _ _ _ _ _ us hl=>by obtain⟨_,_,rfl⟩:=My.len2 hl;rfl),mζs,fζt,fζt.binds (fun _ _ _ _ _ _ us hl=>by obtain⟨_,rfl⟩:=My.len1 hl;rfl),mζt,fζu,fζu.binds (fun _ _ _ _ _ _ us hl=>by obtain⟨_,_,_,rfl⟩:=My.len3 hl;rfl),mζu,fζv,fζv.binds (fun _ _ _ _ _ _ us hl=>by obtain⟨_,rfl⟩:=My.len1 hl;rfl),mζv,fζw,fζw.binds (fun _ _ _ _ _ _ us hl=>by obtain⟨_,rfl⟩:=My.len1 hl;rfl),mζw,fζx,fζx.binds (fun _ _ _ _ _ _ us hl=>by obtain⟨_,_,rfl⟩:=My.len2 hl;rfl),mζx,fζy,fζy.binds (fun _ _ _ _ _ _ us hl=>by obtain⟨_,_,rfl⟩:=My.len2 hl;rfl),mζy,fζz,fζz.binds (fun _ _ _ _ _ _ us hl=>by obtain⟨_,_,rfl⟩:=My.len2 hl;rfl),mζz,fζA,fζA.binds (fun _ _ _ _ _ _ us hl=>by obtain⟨_,rfl⟩:=My.len1 hl;rfl),mζA,fζB,fζB.binds (fun _ _ _ _ _ _ us hl=>by obtain⟨_,rfl⟩:=My.len1 hl;rfl),mζB,fζC,fζC.binds (fun _ _ _ _ _ _ us hl=>by obtain⟨_,_,rfl⟩:=My.len2 hl;rfl),mζC,fζD,fζD.binds (fun _ _ _ _ _ _ us hl=>by obtain⟨_,_,rfl⟩:=My.len2 hl;rfl),mζD,fζE,fζE.binds (fun _ _ _ _ _ _ us hl=>by obtain⟨_,rfl⟩:=My.len1 hl;rfl),mζE,fζF,fζF.binds (fun _ _ _ _ _ _ us hl=>by obtain⟨_,rfl⟩:=My.len1 hl;rfl),mζF,fζG,fζG.binds (fun _ _ _ _ _ _ us hl=>by obtain⟨_,_,_,_,rfl⟩:=My.len4 hl;rfl),mζG,fζH,fζH.binds (fun _ _ _ _ _ _ us hl=>by obtain⟨_,_,rfl⟩:=My.len2 hl;rfl),mζH,fζI,fζI.binds (fun _ _ _ _ _ _ us hl=>by obtain⟨_,_,_,_,rfl⟩:=My.len4 hl;rfl),mζI,fζJ,fζJ.binds (fun _ _ _ _ _ _ us hl=>by obtain⟨_,rfl⟩:=My.len1 hl;rfl),mζJ,fζK,fζK.binds (fun _ _ _ _ _ _ us hl=>by obtain⟨_,_,rfl⟩:=My.len2 hl;rfl),mζK,fζL,fζL.binds (fun _ _ _ _ _ _ us hl=>by obtain⟨_,_,rfl⟩:=My.len2 hl;rfl),mζL,fζM,fζM.binds (fun _ _ _ _ _ _ us hl=>by obtain⟨_,_,_,rfl⟩:=My.len3 hl;rfl),mζM,fζN,fζN.binds (fun _ _ _ _ _ _ us hl=>by obtain⟨_,rfl⟩:=My.len1 hl;rfl),mζN,c_Web,cl_Web,k_Web,na_Web _ (by simp),na_Web _ (by simp),c_WebError,c_BadWeb,c_BadSet,c_NotSquare,c_BadTurns,c_NotFlat,c_NoTree,c_NoTie,c_Parted,x_BadTurns,x_NotFlat,x_BadWeb,x_NotSquare,x_NoTree,x_NoTie,x_Parted,em_BadTurns,em_NotFlat,em_BadWeb,em_NotSquare,em_NoTree,em_NoTie,em_Parted,h_MOST_PLACES,h_MOST_TIES,h_all,h_enumerate,h_len,h_list,h_max,h_min,h_range,h_sorted,h_tuple,h_zip⟩
  have e0:=hmg.symm.trans mζN
  cases e0
  exact⟨dζN,fun s u=>My.law_binds fζN s u,fun base _ _=>My.okζN T⟩
#print axioms PySem.Challenge.cw_spanrow_k79_whole_trees_of_the_other_web_holds
