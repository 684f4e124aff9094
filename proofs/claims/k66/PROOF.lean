import PyProof.Rows.All
import Wide.All
import OpenK.AllK
import Wide.FinOn
import Lean
import PyProof.EqAt
import PyProof.EqKinds
import PyProof.TupleCall
import PySem.Challenge.RW_spanrow_k66_whole_ranked_of_great_webs
set_option Elab.async false
set_option linter.all false
set_option maxRecDepth 100000
namespace PySem.W.Fast
def tw10533697039559181348:=0
def tw1988157973510208755:=0
def tw13728923516335986081:=0
def tw3452104679055808782:=0
def tw18387400726947746395:=0
def tw16941941324809604434:=0
def tw13436631886600255725:=0
def tw357615026015406297:=0
def tw8611045002112024039:=0
def tw16642274484028909723:=0
def tw7187735414082745866:=0
def tw15290125207402884118:=0
def tw17946095482030175343:=0
def tw17565655488027119340:=0
def tw5326110474622107524:=0
def tw7361279860513444105:=0
def tw9931440019524496586:=0
def tw12718000282890180559:=0
def tw2018130544251832383:=0
def tw18395252445435260487:=0
def tw4454150357384472863:=0
def tw8326640040061476316:=0
def tw8672065224353291182:=0
def tw720369503338115947:=0
def tw8099471330448816773:=0
def tw14954178115233725307:=0
def tw4457167294986288047:=0
def tw828912930281380531:=0
def tw5660281560512964099:=0
def tw9383315879593875597:=0
def tw2317058252456091851:=0
def tw14262866865390044213:=0
def tw8675135842715836598:=0
def tw5008785237694222883:=0
def tw8168955282826702760:=0
def tw9006971500135435383:=0
def tw7032052816502449022:=0
def tw17109636592456209155:=0
def tw1421056669890661066:=0
def tw18238671967969569150:=0
def tw7185246706513745680:=0
def tw2021932473387487684:=0
def tw1936954300320454647:=0
def tw14517655185723606316:=0
def tw10603656874514612617:=0
def tw10700341355946799696:=0
def tw17794552524642472542:=0
def tw17784900831243746431:=0
def tw11926996058089251774:=0
def tw17183026457494803063:=0
def tw4828085532808038563:=0
def tw682360527552573004:=0
def tw6671649775172359965:=0
def tw2074469057359791582:=0
def tw17648111272545040842:=0
def tw2704825173016575222:=0
def tw90856216006028248:=0
def tw17827163744272198534:=0
def tw8976489780303484594:=0
def tw11842986244510415856:=0
def tw3167203579383910496:=0
def tw11971975387664508735:=0
def tw13941136001574253936:=0
def tw5325396111376553302:=0
def tw8220443440032324929:=0
def tw16772022351949947363:=0
def tw8089428482438452079:=0
def tw6744709118557737470:=0
def tw3081004570531631477:=0
def tw1402461249063304614:=0
def tw2019585287979390654:=0
def tw16157854071420922043:=0
def tw14444989166557323580:=0
def tw16130081113844356925:=0
def tw15645668915220686737:=0
def tw10763044707327374491:=0
def tw4937829419768906792:=0
def tw14790039315611295417:=0
def tw2938737755964661809:=0
def tw2837074894991270581:=0
def tw7373912644077036638:=0
def tw12195216481755760564:=0
def tw1376517254575541587:=0
def tw14199404050897666214:=0
def tw16434134037718176861:=0
def tw3256861444626490740:=0
def tw9234798884857350352:=0
def tw11934647944988359415:=0
def tw12163379396905338599:=0
def tw5971853780420396843:=0
def tw10670674175962749621:=0
def tw14339307978102587634:=0
def tw1749950382979335495:=0
def tw12197904449731296326:=0
def tw7790631077660117859:=0
def tw12130910221113608223:=0
def tw18120590086837437479:=0
def tw4717636633756924891:=0
def tw17063812271950196559:=0
def tw10609099114432806189:=0
def tw14362377201679720600:=0
def tw10326144282948299082:=0
def tw13219933434667048719:=0
def tw7833893906489616112:=0
def tw15115844675934373040:=0
def tw14755350151444757639:=0
def tw14297359923333674951:=0
def tw17894444225974550878:=0
def tw8687649479485823317:=0
def tw3075304943249859:=0
def tw2073458338453688370:=0
def tw16959049667262142658:=0
def tw9263985046948877658:=0
def tw7150727442683885191:=0
def tw3947845917834255534:=0
def tw314813852915545790:=0
def tw5536260398180348832:=0
def tw13136573910844567301:=0
def tw3071792491838877194:=0
def tw1739369485779464373:=0
def tw11939300226263833770:=0
def tw11368742346411340061:=0
def tw3122246288911064404:=0
def tw13068991573030914180:=0
def tw10451719552030950409:=0
def tw48257484337201389:=0
def tw12279562707881283014:=0
def tw3568395663476144673:=0
def tw9993030840608525382:=0
def tw7047747751025435454:=0
def tw5180274765507385124:=0
def tw8148376554603150587:=0
def tw7711271312325209990:=0
def tw16286439504206058053:=0
def tw12586465064473911042:=0
def tw7357562306741947812:=0
def tw17793904257261740080:=0
def tw9122750359033510380:=0
def tw1269473344535493913:=0
def tw6167516380041579105:=0
def tw8696270145888333909:=0
def tw5047811393116280797:=0
def tw5022403603534420851:=0
def tw8264470810982933243:=0
def tw4363759087669335925:=0
def tw17390520321486506992:=0
def tw10560152648976064848:=0
def tw9871314643766086867:=0
def tw11991534438111071048:=0
def tw10889560181591972864:=0
def tw13420246087816772990:=0
def tw9894432573932518183:=0
def tw4304057977011158540:=0
def tw16130527260569627148:=0
def tw15432636942829547453:=0
def tw14320586991255042428:=0
def tw17358459203614586298:=0
def tw16918405358760459567:=0
def tw12859109839354672182:=0
def tw245796125594209875:=0
def tw4587369088253324360:=0
def tw15647312802550596634:=0
def tw2099142548479129410:=0
def tw8785741200663510955:=0
def tw8658187362165176993:=0
def tw17874851171532192712:=0
def tw4633661183833790089:=0
def tw6651247217036306915:=0
def tw12206985457082604579:=0
def tw16280325328806220395:=0
def tw8029870219798869374:=0
def tw7220453677950812100:=0
def tw13929689598711736816:=0
def tw4533700325869021236:=0
def tw9742541747597900595:=0
def tw7712849691060369848:=0
def tw9894126725338752662:=0
def tw6285864209830643160:=0
def tw3346050561973886811:=0
def tw1776775805783427358:=0
def tw12140491619351748145:=0
def tw9106879139654176514:=0
def tw6747558542568488002:=0
def tw3146664001345625455:=0
def tw18170732890331277804:=0
def tw16586558047331987258:=0
def tw18011951280231358195:=0
def tw13718572199693434985:=0
def tw11204164171055705648:=0
def tw5828673874707375743:=0
def tw2094813740223656055:=0
def tw121108376325453020:=0
def tw8722167110420694277:=0
def tw5342777932471905727:=0
def tw3646306485044046437:=0
def tw3345586168796518559:=0
def tw2196368473950312238:=0
def tw17201301578761025181:=0
def tw7439114439949248637:=0
def tw7250518645514144000:=0
def tw5722597864346488179:=0
def tw4392366610733556030:=0
def tw4063619067295395007:=0
def tw10600712938526704217:=0
def tw1002961013619848289:=0
def tw6027699976649792763:=0
def tw3739643441460686399:=0
def tw2648219628397178568:=0
def tw16322940456203696704:=0
def tw13940984293903333910:=0
def tw7569807895558654826:=0
def tw5663929803146386039:=0
def tw2605516177389305078:=0
def tw14031280830100308245:=0
def tw12154148805598994065:=0
def tw11190078266832229733:=0
def tw9770552673249804720:=0
def tw8766400173819316823:=0
def tw8242917780719729301:=0
def tw7726610378746219411:=0
def tw7555030907081438922:=0
def tw7517035685608989235:=0
def tw7277543828148322415:=0
def tw678478153480624216:=0
def tw6714858275187302033:=0
def tw6543486581830949921:=0
def tw6383008094635982934:=0
def tw6166211693652004716:=0
def tw5845056695335140715:=0
def tw5408929046617866355:=0
def tw5350016094182493368:=0
def tw5208152287221120023:=0
def tw4772658896135765568:=0
def tw438202941081936419:=0
def tw4140250800720989567:=0
def tw302023653950157463:=0
def tw2998805047548862993:=0
def tw2949488943809448026:=0
def tw2945247819655022978:=0
def tw2726321557459711463:=0
def tw2619435926888677466:=0
def tw2504725167946806192:=0
def tw1938206879804320967:=0
def tw18036336723365594148:=0
def tw17932125878270997854:=0
def tw17777599094549194698:=0
def tw17583502768263406489:=0
def tw17224113101387296425:=0
def tw17219771558832318052:=0
def tw17175395451135305145:=0
def tw16442113954714765277:=0
def tw16253853175409465849:=0
def tw16118212325980565582:=0
def tw15984959995132017624:=0
def tw15712502400117870182:=0
def tw15578938651857111287:=0
def tw15150467494585604522:=0
def tw14971808319815128944:=0
def tw14853937908700606070:=0
def tw14763065268978913645:=0
def tw14452184068091850692:=0
def tw14309897699300269564:=0
def tw13968453024563281276:=0
def tw1385587961290444833:=0
def tw13683156507241679605:=0
def tw13474765158333758927:=0
def tw12734709807506301496:=0
def tw12283446637473697450:=0
def tw12084892154735046057:=0
def tw12057617227752395431:=0
def tw12017811652587325436:=0
def tw11993220618065260158:=0
def tw11758293085855590352:=0
def tw11533717000737069656:=0
def tw11472049630029450182:=0
def tw11344247477818504462:=0
def tw11230924475309659683:=0
def tw1085847547253750444:=0
def tw10515936347094357679:=0
def tw1031069440919704970:=0
def tw10144115738468205177:=0
def tw10109180901846150965:=0
end PySem.W.Fast
/-! THE HAND LAYER, for ints, bools, texts, own classes, LISTS and tuples (index, slices, in, append, pop ..), calls, loops. Paste it whole ahead of your own text; what your proof does not reach may be deleted. -/
namespace L2
open PySem PySem.Spec PyProof.Rows
abbrev Key := Sum Int Str
def keyIs : Key -> Value -> Bool
 | .inl k, v => Value.isInt k v
 | .inr x, v => Value.isStrOf x v
def keyH (w : World) : Key -> Int
 | .inl k => hashInt k
 | .inr x => hashStr w x
theorem keyIs_shape : ∀ {k : Key} {v : Value}, keyIs k v = true -> (∃ i t, k = Sum.inl i /\ v = Value.int i t) \/ (∃ x t, k = Sum.inr x /\ v = Value.str x t)
 | .inl i, v, h => by
  obtain ⟨t, e⟩ := Value.isInt_shape (k := i) (v := v) h
  exact .inl ⟨i, t, rfl, e⟩
 | .inr x, v, h => by
  obtain ⟨t, e⟩ := Value.isStrOf_shape (x := x) (v := v) h
  exact .inr ⟨x, t, rfl, e⟩
theorem key_ll (a b : Int) : decide ((Sum.inl a : Key) = Sum.inl b) = (a == b) := by
 by_cases e : a = b
 ·subst e; simp
 ·have h : ¬ (Sum.inl a : Key) = Sum.inl b := fun q => e (Sum.inl.inj q)
  rw [decide_eq_false h]
  exact (beq_eq_false_iff_ne.mpr e).symm
theorem key_rr (a b : Str) : decide ((Sum.inr a : Key) = Sum.inr b) = decide (a = b) := by
 by_cases e : a = b
 ·subst e; simp
 ·have h : ¬ (Sum.inr a : Key) = Sum.inr b := fun q => e (Sum.inr.inj q)
  rw [decide_eq_false h, decide_eq_false e]
theorem key_lr (a : Int) (b : Str) : decide ((Sum.inl a : Key) = Sum.inr b) = false := decide_eq_false (fun q => nomatch q)
theorem key_rl (a : Str) (b : Int) : decide ((Sum.inr a : Key) = Sum.inl b) = false := decide_eq_false (fun q => nomatch q)
def mixKind (prog : Program) (w : World) : PySem.KeyKind prog w Key where
 is := keyIs
 hash := keyH w
 inj := fun v a b ha hb => by
  rcases keyIs_shape ha with ⟨i, t, rfl, rfl⟩ | ⟨x, t, rfl, rfl⟩
  ·rcases keyIs_shape hb with ⟨j, u, rfl, e⟩ | ⟨y, u, rfl, e⟩
   ·injection e with e1 _; rw [e1]
   ·exact nomatch e
  ·rcases keyIs_shape hb with ⟨j, u, rfl, e⟩ | ⟨y, u, rfl, e⟩
   ·exact nomatch e
   ·injection e with e1 _; rw [e1]
 byValue := fun k v h => by
  rcases keyIs_shape h with ⟨i, t, rfl, rfl⟩ | ⟨x, t, rfl, rfl⟩ <;> rfl
 pyHash := fun hv h => by
  rcases keyIs_shape hv with ⟨i, t, rfl, rfl⟩ | ⟨x, t, rfl, rfl⟩
  ·exact wpAny_pyHash_int h
  ·exact wpAny_pyHash_str h
 eqBool := fun hu hv h => by
  rcases keyIs_shape hu with ⟨i, t, rfl, rfl⟩ | ⟨x, t, rfl, rfl⟩
  ·rcases keyIs_shape hv with ⟨j, u, rfl, rfl⟩ | ⟨y, u, rfl, rfl⟩
   ·rw [key_ll] at h; exact wpAny_eqBool_int h
   ·rw [key_lr] at h; exact SeqAt.EqAt.int_str i t y u _ _ _ _ h
  ·rcases keyIs_shape hv with ⟨j, u, rfl, rfl⟩ | ⟨y, u, rfl, rfl⟩
   ·rw [key_rl] at h; exact SeqAt.EqAt.str_int x t j u _ _ _ _ h
   ·rw [key_rr] at h; exact wpAny_eqBool_str h
 «strs» := fun k x t v h => by
  rcases keyIs_shape h with ⟨i, u, rfl, e⟩ | ⟨y, u, rfl, e⟩
  ·exact nomatch e
  ·injection e with e1 _
   subst e1
   cases v <;> rfl
inductive V where
 | non | bl (b : Bool) | int (i : Int) | str (x : Str) | byt (b : Array UInt8) | flt (b : UInt64) | ref (a : Addr) | ty (n : String)
 deriving DecidableEq
def RelV : V -> Value -> Prop
 | .non, u => u = Value.none
 | .bl b, u => u = Value.bool b
 | .int i, u => ∃ t, u = Value.int i t
 | .str x, u => ∃ t, u = Value.str x t
 | .byt b, u => ∃ t, u = Value.bytes b t
 | .flt b, u => ∃ t, u = Value.float b t
 | .ref a, u => u = Value.ref a
 | .ty n, u => u = Value.type n
abbrev Vals : List V -> List Value -> Prop := Paired RelV
theorem Vals.length {xs : List V} {us : List Value} (r : Vals xs us) : xs.length = us.length := Paired.length r
theorem Vals.get : ∀ {xs : List V} {us : List Value} {i : Nat} {x : V}, Vals xs us -> xs[i]? = some x -> ∃ u, us[i]? = some u /\ RelV x u
 | _, _, _, _, .nil, e => by simp at e
 | _, _, 0, _, .cons r _, e => by simp at e; subst e; exact ⟨_, rfl, r⟩
 | _, _, i + 1, x, .cons _ t, e => by
  obtain ⟨u, h1, h2⟩ := Vals.get (i := i) (x := x) t (by simpa using e)
  exact ⟨u, by simpa using h1, h2⟩
theorem Vals.set {x : V} {u : Value} (r : RelV x u) : ∀ {xs : List V} {us : List Value} (i : Nat), Vals xs us -> Vals (xs.set i x) (us.set i u)
 | _, _, _, .nil => .nil
 | _, _, 0, .cons _ t => .cons r t
 | _, _, i + 1, .cons q t => .cons q (Vals.set r i t)
theorem Vals.append : ∀ {xs ys : List V} {us ws : List Value}, Vals xs us -> Vals ys ws -> Vals (xs ++ ys) (us ++ ws)
 | _, _, _, _, .nil, s => s
 | _, _, _, _, .cons r t, s => .cons r (Vals.append t s)
theorem Vals.take : ∀ {xs : List V} {us : List Value} (n : Nat), Vals xs us -> Vals (xs.take n) (us.take n)
 | _, _, 0, _ => .nil
 | _, _, _ + 1, .nil => .nil
 | _, _, n + 1, .cons r t => .cons r (Vals.take n t)
theorem Vals.drop : ∀ {xs : List V} {us : List Value} (n : Nat), Vals xs us -> Vals (xs.drop n) (us.drop n)
 | _, _, 0, r => r
 | _, _, _ + 1, .nil => .nil
 | _, _, n + 1, .cons _ t => Vals.drop n t
def RelO : Option V -> Option Value -> Prop
 | some v, some u => RelV v u
 | none, none => True
 | _, _ => False
def KV {κ : Type} : List (κ × V) -> List (κ × Value) -> Prop := Paired fun (p : κ × V) (q : κ × Value) => p.1 = q.1 /\ RelV p.2 q.2
def kV : Key -> V
 | .inl i => .int i
 | .inr x => .str x
inductive HO where
 | lst (xs : List V)
 | tup (xs : List V)
 | dK (kvs : List (Key × V)) | dT (kvs : List (List Key × V))
 | set (S : Int -> Bool) (n : Nat)
 | ins (C dx : Addr) (fs : List (Str × V))
 | own (x : Addr)
 | xd (fs : List (Str × V))
 | met (f x : Addr)
 | rng (lo hi : Int)
 | frz (o : Obj) (u : HO)
 | tbl (ps : Array Value)
 | ext (φ : Heap -> Prop)
abbrev Hp := Addr -> Option HO
def upd (H : Hp) (a : Addr) (o : HO) : Hp := fun b => if b = a then some o else H b
theorem upd_same {H : Hp} {a : Addr} {o : HO} : upd H a o a = some o := by unfold upd; rw [if_pos rfl]
theorem upd_ne {H : Hp} {a b : Addr} {o : HO} (h : b ≠ a) : upd H a o b = H b := by unfold upd; rw [if_neg h]
theorem ne_of {H : Hp} {a b : Addr} {o u : HO} (h : H a = some o) (h' : H b = some u) (d : o ≠ u) : a ≠ b := by
 intro e; subst e; rw [h] at h'; exact d (Option.some.inj h')
theorem ne_of_none {H : Hp} {a b : Addr} {o : HO} (h : H a = some o) (h' : H b = none) : a ≠ b := by
 intro e; subst e; rw [h] at h'; cases h'
section
variable (P : Program) (w : World)
def ObjOk (H : Hp) (h : Heap) (a : Addr) : HO -> Prop
 | .lst xs => xs.length <= sizeLine /\ ∃ (its : List Value) (n : Nat), Vals xs its /\ h.get? a = some { cls := .type "list", data := .seq its.toArray n }
 | .tup xs => xs.length <= sizeLine /\ ∃ its : List Value, Vals xs its /\ IsTup h a its.toArray
 | .dK kvs => kvs.length <= sizeLine /\ (a == sysModules) = false /\ ∃ vs, KV kvs vs /\ h.DictOf (mixKind P w) a vs
 | .dT kvs => kvs.length <= sizeLine /\ (a == sysModules) = false /\ ∃ xs : List (List Key × Addr × Value),
   Paired (fun (p : List Key × V) (q : List Key × Addr × Value) => p.1 = q.1 /\ H q.2.1 = some (.tup (p.1.map kV)) /\ RelV p.2 q.2.2) kvs xs /\
   ∃ o es ep, h.get? a = some o /\ o.ExactDict /\ o.data = .dict es ep /\ es.toList = xs.map (entryOfKey (tupleKind (mixKind P w))) /\ (xs.map (·.1)).Nodup
 | .set S n => h.SetOf (intKind P w) a S n
 | .ins C dx fs => H dx = some (.own a) /\ fs.length <= 1000 /\ dx ≠ a /\ h.get? a = some (PySem.W.instObj C dx) /\
   ∃ mA, h.Ns1 dx mA /\ (∀ f, RelO (fs.lookup f) (mA f)) /\ PySem.Within mA (fs.map (·.1))
 | .own _ => ∃ o, h.get? a = some o
 | .xd fs => ∃ mA, h.Ns1 a mA /\ ∀ f, RelO (fs.lookup f) (mA f)
 | .rng lo hi => ∃ t u v, h.get? a = some { cls := .type "range", data := .fields #[.int lo t, .int hi u, .int 1 v] }
 | .frz o u => h.get? a = some o /\ ObjOk H h a u
 | .tbl ps => h.get? a = some { cls := .none, data := .fields ps }
 | .met f x => h.get? a = some (PySem.W.methodObj (.ref f) (.ref x))
 | .ext φ => φ h /\ (∃ o, h.get? a = some o) /\ ∀ h1 h2 : Heap, φ h1 -> (∀ o, h1.get? a = some o -> h2.get? a = some o) -> φ h2
def HOk (H : Hp) (h : Heap) : Prop := ∀ a o, H a = some o -> ObjOk P w H h a o
end
section
variable {P : Program} {w : World} {H H' : Hp} {h h' : Heap} {a : Addr} {o : HO}
theorem ObjOk.lt (x : ObjOk P w H h a o) : a < h.objs.size := by
 cases o with
 | lst xs => obtain ⟨_, _, _, _, e⟩ := x; exact Heap.lt_size e
 | tup xs => obtain ⟨_, _, _, p⟩ := x; exact p.lt
 | dK kvs => obtain ⟨_, _, _, _, o, _, _, e, _⟩ := x; exact Heap.lt_size e
 | dT kvs => obtain ⟨_, _, _, _, o, _, _, e, _⟩ := x; exact Heap.lt_size e
 | set S n => obtain ⟨o, _, _, _, e, _⟩ := x; exact Heap.lt_size e
 | ins C dx fs => obtain ⟨_, _, _, e, _⟩ := x; exact Heap.lt_size e
 | own y => obtain ⟨_, e⟩ := x; exact Heap.lt_size e
 | xd fs => obtain ⟨_, ⟨_, _, _, e, _⟩, _⟩ := x; exact Heap.lt_size e
 | rng lo hi => obtain ⟨_, _, _, e⟩ := x; exact Heap.lt_size e
 | frz ob u => obtain ⟨e, _⟩ := x; exact Heap.lt_size e
 | tbl ps => exact Heap.lt_size (show h.get? a = some _ from x)
 | met f y => exact Heap.lt_size (show h.get? a = some _ from x)
 | ext φ => obtain ⟨_, ⟨_, e⟩, _⟩ := x; exact Heap.lt_size e
theorem Paired.mapP {α β : Type} {F G : α -> β -> Prop} : ∀ {l₁ : List α} {l₂ : List β}, Paired F l₁ l₂ -> (∀ a b, F a b -> G a b) -> Paired G l₁ l₂
 | _, _, .nil, _ => .nil
 | _, _, .cons r t, f => .cons (f _ _ r) (Paired.mapP t f)
theorem ObjOk.stay (x : ObjOk P w H h a o) (k : ∀ b u, (b = a \/ H b = some (.own a)) -> h.get? b = some u -> h'.get? b = some u)
  (ho : ∀ b, H b = some (.own a) -> H' b = some (.own a)) (ht : ∀ b xs, H b = some (.tup xs) -> H' b = some (.tup xs)) : ObjOk P w H' h' a o := by
 induction o with
 | lst xs => obtain ⟨z, its, n, r, e⟩ := x; exact ⟨z, its, n, r, k _ _ (.inl rfl) e⟩
 | tup xs => obtain ⟨z, its, r, ob, e, c⟩ := x; exact ⟨z, its, r, ob, k _ _ (.inl rfl) e, c⟩
 | dK kvs => obtain ⟨z, y, vs, r, ob, es, ep, e, c⟩ := x; exact ⟨z, y, vs, r, ob, es, ep, k _ _ (.inl rfl) e, c⟩
 | dT kvs =>
  obtain ⟨z, y, xs, r, ob, es, ep, e, c⟩ := x
  exact ⟨z, y, xs, Paired.mapP r fun p q z => ⟨z.1, ht _ _ z.2.1, z.2.2⟩, ob, es, ep, k _ _ (.inl rfl) e, c⟩
 | set S n => obtain ⟨ob, es, ep, t, e, c⟩ := x; exact ⟨ob, es, ep, t, k _ _ (.inl rfl) e, c⟩
 | ins C dx fs =>
  obtain ⟨d, z, ne, e, mA, ⟨od, es, ep, e2, c⟩, r⟩ := x
  exact ⟨ho _ d, z, ne, k _ _ (.inl rfl) e, mA, ⟨od, es, ep, k _ _ (.inr d) e2, c⟩, r⟩
 | own y => obtain ⟨ob, e⟩ := x; exact ⟨ob, k _ _ (.inl rfl) e⟩
 | xd fs => obtain ⟨mA, ⟨od, es, ep, e, c⟩, r⟩ := x; exact ⟨mA, ⟨od, es, ep, k _ _ (.inl rfl) e, c⟩, r⟩
 | rng lo hi => obtain ⟨t, u, v, e⟩ := x; exact ⟨t, u, v, k _ _ (.inl rfl) e⟩
 | frz ob u ih => obtain ⟨e, q⟩ := x; exact ⟨k _ _ (.inl rfl) e, ih q⟩
 | tbl ps =>
  have e : h.get? a = some { cls := .none, data := .fields ps } := x
  show h'.get? a = some { cls := .none, data := .fields ps }
  exact k a _ (.inl rfl) e
 | met f y =>
  have e : h.get? a = some (PySem.W.methodObj (.ref f) (.ref y)) := x
  show h'.get? a = some (PySem.W.methodObj (.ref f) (.ref y))
  exact k a _ (.inl rfl) e
 | ext φ => obtain ⟨p, ⟨o, e⟩, st⟩ := x; exact ⟨st _ _ p fun o q => k _ _ (.inl rfl) q, ⟨o, k _ _ (.inl rfl) e⟩, st⟩
theorem HOk.lt (x : HOk P w H h) (e : H a = some o) : a < h.objs.size := (x a o e).lt
theorem HOk.fresh (x : HOk P w H h) (e : h.objs.size <= a) : H a = none := by
 cases q : H a with
 | none => rfl
 | some u => exact absurd (Nat.lt_of_lt_of_le (x.lt q) e) (Nat.lt_irrefl _)
theorem HOk.kept (x : HOk P w H h) (k : ∀ b u, h.get? b = some u -> h'.get? b = some u) : HOk P w H h' := fun a o e =>
 (x a o e).stay (fun b u _ q => k b u q) (fun _ q => q) fun _ _ q => q
theorem HOk.laid (x : HOk P w H h) (k : ∀ b u, h.get? b = some u -> h'.get? b = some u) (hp : h.objs.size <= a) (new : ObjOk P w (upd H a o) h' a o) : HOk P w (upd H a o) h' := fun b u e => by
 have hn := x.fresh hp
 by_cases hb : b = a
 ·subst hb; rw [upd_same] at e; cases e; exact new
 ·rw [upd_ne hb] at e
  exact (x b u e).stay (fun c v _ q => k c v q) (fun c q => by rw [upd_ne (ne_of_none q hn)]; exact q) fun c xs q => by rw [upd_ne (ne_of_none q hn)]; exact q
end
def Rd (H : Hp) (a : Addr) (u : HO) : Prop := H a = some u \/ ∃ o, H a = some (.frz o u)
theorem Rd.ok {P : Program} {w : World} {H : Hp} {h : Heap} {a : Addr} {u : HO} (r : Rd H a u) (x : HOk P w H h) : ObjOk P w H h a u := by
 rcases r with r | ⟨o, r⟩
 ·exact x a u r
 ·obtain ⟨_, q⟩ := x a _ r
  exact q
def Mut : Option HO -> Prop
 | some (.lst _) => True
 | some (.dK _) => True
 | some (.dT _) => True
 | some (.set _ _) => True
 | some (.ins _ _ _) => True
 | some (.ext _) => True
 | _ => False
section
variable {P : Program} {w : World} {H : Hp} {h h' : Heap} {x e : Addr} {o' : HO}
theorem HOk.write (ok : HOk P w H h) (mu : Mut (H x)) (he : e = x \/ H e = some (.own x)) (k : ∀ b u, b ≠ e -> h.get? b = some u -> h'.get? b = some u) (heo : ∃ u, h'.get? e = some u)
  (new : ObjOk P w (upd H x o') h' x o') : HOk P w (upd H x o') h' := fun b u q => by
 have nown : ∀ c y, H c = some (.own y) -> c ≠ x := fun c y r z => by subst z; rw [r] at mu; exact mu
 have ntup : ∀ c xs, H c = some (.tup xs) -> c ≠ x := fun c xs r z => by subst z; rw [r] at mu; exact mu
 by_cases hb : b = x
 ·subst hb; rw [upd_same] at q; cases q; exact new
 ·rw [upd_ne hb] at q
  by_cases hbe : b = e
  ·have q' : H b = some (.own x) := by
    rcases he with z | z
    ·exact absurd (hbe.trans z) hb
    ·rw [hbe]; exact z
   rw [q] at q'; cases q'
   obtain ⟨v, hv⟩ := heo
   exact ⟨v, by rw [hbe]; exact hv⟩
  ·refine (ok b u q).stay (fun c v hc r => k c v ?_ r) (fun c r => by rw [upd_ne (nown c b r)]; exact r) fun c xs r => by rw [upd_ne (ntup c xs r)]; exact r
   rcases hc with rfl | hc
   ·exact hbe
   ·rintro rfl
    rcases he with z | z
    ·exact nown c b hc z
    ·rw [hc] at z; cases z; exact hb rfl
end
structure Un (fs ex : List Addr) (H H' : Hp) (h h' : Heap) : Prop where
 keep : ∀ b o, h.get? b = some o -> H b = none -> b ∉ fs -> b ∉ ex -> h'.get? b = some o
 slot : ∀ b o, h.get? b = some o -> H b = none -> b ∈ fs -> b ∉ ex -> ∃ sl, h'.get? b = some { o with slots := sl }
 free : ∀ b o, h.get? b = some o -> H b = none -> b ∉ ex -> H' b = none
 there : ∀ b o, h.get? b = some o -> b ∉ ex -> ∃ o', h'.get? b = some o'
 tups : ∀ b xs, H b = some (.tup xs) -> H' b = some (.tup xs)
 frzs : ∀ b o u, H b = some (.frz o u) -> H' b = some (.frz o u)
 tbls : ∀ b ps, H b = some (.tbl ps) -> ∃ more, H' b = some (.tbl (ps ++ more))
section
variable {fs fs' ex ex' : List Addr} {H H1 H2 : Hp} {h h1 h2 h' : Heap} {a x e : Addr} {o : HO}
theorem Un.any (u : Un fs ex H H1 h h1) {b : Addr} {ob : Obj} (q : h.get? b = some ob) (n : H b = none) (hx : b ∉ ex) : ∃ sl, h1.get? b = some { ob with slots := sl } := by
 by_cases hb : b ∈ fs
 ·exact u.slot b ob q n hb hx
 ·exact ⟨ob.slots, u.keep b ob q n hb hx⟩
theorem Un.kept (k : ∀ b u, h.get? b = some u -> h'.get? b = some u) : Un fs ex H H h h' :=
 ⟨fun b ob q _ _ _ => k b ob q, fun b ob q _ _ _ => ⟨ob.slots, k b ob q⟩, fun _ _ _ n _ => n, fun b ob q _ => ⟨ob, k b ob q⟩, fun _ _ q => q, fun _ _ _ q => q, fun _ ps q => ⟨#[], by rw [q]; simp⟩⟩
theorem Un.refl : Un fs ex H H h h := Un.kept fun _ _ q => q
theorem Un.laid (k : ∀ b u, h.get? b = some u -> h'.get? b = some u) (hp : h.objs.size <= a) (hn : H a = none) : Un fs ex H (upd H a o) h h' where
 keep := fun b u q _ _ _ => k b u q
 slot := fun b u q _ _ _ => ⟨u.slots, k b u q⟩
 free := fun b u q n _ => by rw [upd_ne (Nat.ne_of_lt (Nat.lt_of_lt_of_le (Heap.lt_size q) hp))]; exact n
 there := fun b u q _ => ⟨u, k b u q⟩
 tups := fun b xs q => by rw [upd_ne (ne_of_none q hn)]; exact q
 frzs := fun b u xs q => by rw [upd_ne (ne_of_none q hn)]; exact q
 tbls := fun b ps q => ⟨#[], by rw [upd_ne (ne_of_none q hn), q]; simp⟩
theorem Un.write (mu : Mut (H x)) (he : e = x \/ H e = some (.own x)) (k : ∀ b u, b ≠ e -> h.get? b = some u -> h'.get? b = some u) (heo : ∃ u, h'.get? e = some u) : Un fs ex H (upd H x o) h h' := by
 have hx : ∀ b, H b = none -> b ≠ x := fun b n z => by subst z; rw [n] at mu; exact mu
 have hb : ∀ b, H b = none -> b ≠ e := fun b n z => by
  subst z
  rcases he with r | r
  ·exact hx b n r
  ·rw [n] at r; cases r
 have hm : ∀ b u, H b = some u -> ¬ Mut (some u) -> b ≠ x := fun b u q nm z => by subst z; rw [q] at mu; exact nm mu
 refine ⟨fun b u q n _ _ => k b u (hb b n) q, fun b u q n _ _ => ⟨u.slots, k b u (hb b n) q⟩, fun b u q n _ => by rw [upd_ne (hx b n)]; exact n, fun b u q _ => ?_,
  fun b xs q => by rw [upd_ne (hm b _ q fun z => z)]; exact q, fun b u xs q => by rw [upd_ne (hm b _ q fun z => z)]; exact q, fun b ps q => ⟨#[], by rw [upd_ne (hm b _ q fun z => z), q]; simp⟩⟩
 by_cases hbe : b = e
 ·subst hbe; exact heo
 ·exact ⟨u, k b u hbe q⟩
end
def trk (h : Heap) (H : Hp) : List Addr := (List.range h.objs.size).filter fun a => (H a).isSome
def hidT (h : Heap) (H : Hp) : Heap := PySem.W.hideAll h (trk h H)
theorem hidT_size (h : Heap) (H : Hp) : (hidT h H).objs.size = h.objs.size := PySem.W.hideAll_size _ _
theorem hidT_get {h : Heap} {H : Hp} {b : Addr} {o : Obj} (e : h.get? b = some o) (n : H b = none) : (hidT h H).get? b = some o :=
 PySem.W.hideAll_get _ e fun hm => by
  have q : (H b).isSome = true := (List.mem_filter.mp hm).2
  rw [n] at q; simp at q
theorem of_hidT {h : Heap} {H : Hp} {b : Addr} {o : Obj} (e : (hidT h H).get? b = some o) : h.get? b = some o /\ H b = none := by
 have e' : h.get? b = some o := PySem.W.of_hideAll (trk h H) e
 refine ⟨e', ?_⟩
 cases q : H b with
 | none => rfl
 | some x =>
  have hm : b ∈ trk h H := List.mem_filter.mpr ⟨List.mem_range.mpr (Heap.lt_size e'), by simp [q]⟩
  have z : (hidT h H).get? b = none := PySem.W.hideAll_none (trk h H) hm
  rw [z] at e; cases e
def allNews (g h : Heap) (L : Addr) : List (Addr × Obj) := (List.range h.objs.size).filterMap fun a => if a = L \/ (g.get? a).isSome = true then none else (h.get? a).map fun o => (a, o)
def rest (g h : Heap) (L d : Addr) : List (Addr × Obj) := (allNews g h L).filter fun p => decide (p.1 ≠ d)
structure Mod (K : PySem.W.Frag) (mg : Str -> Option Value) (base : Heap) : Prop where
 kin : K.In base
 glob : base.Ns mainGlobals mg
 blt : ∃ mb, base.Ns builtinsNs mb /\ ∀ x : Str, x ≠ "__name__" -> mb x = bootBuiltins x
 nolimit : base.NoLimit
structure Cx where
 prog : Program
 w : World
 K : PySem.W.Frag
 mg : Str -> Option Value
 base : Heap
 A : Around
 N : List Str
 s₀ : Shared
 H₀ : Hp
 env : Env
 outer : List Env
 stack : List Env
 ex : List Addr
 fn : Str -> Bool
 calm : Bool
 pn : List (Addr × Obj)
 xe : Value -> Shared -> Prop
def frs (l : List Env) : List Addr := l.filterMap (·.frame)
abbrev Cx.fs (X : Cx) : List Addr := frs X.outer
def Vis (sc : Scope) (x : Str) : Prop := sc.names.lookup x = some .local \/ sc.names.lookup x = some .cell \/ sc.names.lookup x = some .free
def Loc (sc : Scope) (x : Str) : Prop := sc.names.lookup x = some .local \/ sc.names.lookup x = some .cell
def Look (env : Env) (h : Heap) (m : Str -> Option Value) (x : Str) (u : Value) : Prop :=
 (env.kindOf x = some .local /\ m x = some u) \/ ((env.kindOf x = some .cell \/ env.kindOf x = some .free) /\ ∃ c, env.cells.lookup x = some c /\ h.IsCell c (some u))
structure Cx.Ok (X : Cx) : Prop where
 mod : Mod X.K X.mg X.base
 kind : X.env.scope.kind = .function
 glob : X.env.globals = mainGlobals
 blt : X.env.builtins = builtinsNs
 above : X.s₀.heap.objs.size <= X.env.locals
 inj : ∀ x y c, X.env.cells.lookup x = some c -> X.env.cells.lookup y = some c -> x = y
 has : ∀ x, (X.env.kindOf x = some .cell \/ X.env.kindOf x = some .free) -> ∃ c, X.env.cells.lookup x = some c
 cab : ∀ x c, X.fn x = true -> X.env.cells.lookup x = some c -> X.s₀.heap.objs.size <= c
 hd : X.calm = true -> X.A.handled = none
 frames : X.A.frames = some X.stack
 stk : X.stack = X.outer \/ (X.stack = X.env :: X.outer /\ X.env.frame = some X.env.locals)
 exf : ∀ b ∈ X.ex, b ≠ X.env.locals /\ ∀ x c, X.env.cells.lookup x = some c -> c ≠ b
 bs : ∀ b o, X.base.get? b = some o -> X.s₀.heap.get? b = some o /\ X.H₀ b = none
 bsz : X.base.objs.size <= X.s₀.heap.objs.size
 noex : ∀ b o, X.base.get? b = some o -> b ∉ X.ex
 exfs : ∀ b ∈ X.ex, b ∉ X.fs
 funs : X.s₀.heap.FunFrames X.base X.outer
 frf : ∀ b ∈ X.fs, X.H₀ b = none
structure Inv (X : Cx) (pins : List (Addr × Obj)) (σ : List (Option V)) (H : Hp) (s : Shared) : Prop where
 ok : X.Ok
 os : s.os = X.s₀.os
 bare : AllBare s.gens
 base : Un X.fs X.ex X.H₀ H X.s₀.heap s.heap
 loc : ∃ m, s.heap.Ns X.env.locals m /\ ∀ (i : Nat) (x : Str) (v : V), X.N[i]? = some x -> σ[i]? = some (some v) -> Vis X.env.scope x -> ∃ u, RelV v u /\ Look X.env s.heap m x u
 cell : ∀ x c, X.env.cells.lookup x = some c -> ∃ v, s.heap.IsCell c v
 free : H X.env.locals = none
 freeC : ∀ x c, X.env.cells.lookup x = some c -> H c = none
 pin : ∀ p ∈ X.pn ++ pins, s.heap.get? p.1 = some p.2 /\ H p.1 = none /\ p.1 ≠ X.env.locals /\ p.1 ∉ X.fs /\ ∀ v, p.2.data ≠ .cell v
 hok : HOk X.prog X.w H s.heap
 len : σ.length = X.N.length
section
variable {X : Cx} {pins : List (Addr × Obj)} {σ : List (Option V)} {H H' : Hp} {s : Shared} {h' : Heap}
theorem Cx.Ok.nofr (ok : X.Ok) {b : Addr} {o : Obj} (e : X.base.get? b = some o) : b ∉ X.fs := fun hb => by
 have := (ok.funs.mem hb).1
 rw [e] at this; cases this
theorem Inv.bs (I : Inv X pins σ H s) : ∀ b o, X.base.get? b = some o -> s.heap.get? b = some o /\ H b = none := fun b o e =>
 ⟨I.base.keep b o (I.ok.bs b o e).1 (I.ok.bs b o e).2 (I.ok.nofr e) (I.ok.noex b o e), I.base.free b o (I.ok.bs b o e).1 (I.ok.bs b o e).2 (I.ok.noex b o e)⟩
theorem Inv.bk (I : Inv X pins σ H s) : ∀ b o, X.base.get? b = some o -> s.heap.get? b = some o := fun b o e => (I.bs b o e).1
theorem Inv.mod (I : Inv X pins σ H s) : Mod X.K X.mg X.base := I.ok.mod
theorem Inv.kIn (I : Inv X pins σ H s) : X.K.In s.heap := I.ok.mod.kin.keeps I.bk
theorem Inv.lt (I : Inv X pins σ H s) : X.env.locals < s.heap.objs.size := let ⟨_, hn, _⟩ := I.loc; hn.lt
theorem Inv.sz (I : Inv X pins σ H s) : X.s₀.heap.objs.size <= s.heap.objs.size := Nat.le_trans I.ok.above (Nat.le_of_lt I.lt)
theorem Inv.nofs (I : Inv X pins σ H s) {a : Addr} (h : s.heap.objs.size <= a) : a ∉ X.fs := fun hb => by
 obtain ⟨_, o, ho, _⟩ := I.ok.funs.mem hb
 exact absurd (Nat.lt_of_lt_of_le (Heap.lt_size ho) (Nat.le_trans I.sz h)) (Nat.lt_irrefl _)
theorem Inv.cne (I : Inv X pins σ H s) : ∀ x c, X.env.cells.lookup x = some c -> c ≠ X.env.locals := fun x c e z => by
 obtain ⟨v, o, ho, hd⟩ := I.cell x c e
 obtain ⟨m, ⟨o', es, ep, ho', hd', _⟩, _⟩ := I.loc
 rw [z, ho'] at ho; cases ho; rw [hd'] at hd; cases hd
theorem Inv.funs (I : Inv X pins σ H s) : s.heap.FunFrames X.base X.outer := by
 have all : ∀ (l : List Env), (∀ b ∈ frs l, b ∈ X.fs) -> X.s₀.heap.FunFrames X.base l -> s.heap.FunFrames X.base l := by
  intro l
  induction l with
  | nil => intro _ _; trivial
  | cons env r ih =>
   intro hs hl
   obtain ⟨hk, ⟨L, o, hf, hn, ho, hd⟩, hr⟩ := hl
   have hL : L ∈ X.fs := hs L (by unfold frs; rw [List.filterMap_cons, hf]; exact List.mem_cons_self)
   obtain ⟨sl, e⟩ := I.base.slot L o ho (I.ok.frf L hL) hL fun z => I.ok.exfs L z hL
   exact ⟨hk, ⟨L, _, hf, hn, e, hd⟩, ih (fun b hb => hs b (by unfold frs; rw [List.filterMap_cons, hf]; exact List.mem_cons_of_mem _ hb)) hr⟩
 exact all X.outer (fun _ hb => hb) I.ok.funs
theorem Inv.stack (I : Inv X pins σ H s) : s.heap.FunFrames X.base X.stack := by
 rcases I.ok.stk with e | ⟨e, hf⟩
 ·rw [e]; exact I.funs
 ·rw [e]
  obtain ⟨m, hn, _⟩ := I.loc
  refine .cons (by rw [I.ok.kind]; decide) hf hn ?_ I.funs
  exact Heap.get?_none_of_le (Nat.le_trans I.ok.bsz I.ok.above)
theorem Inv.stkSub (I : Inv X pins σ H s) : ∀ b ∈ frs X.stack, b ∈ X.env.locals :: X.fs := fun b hb => by
 rcases I.ok.stk with e | ⟨e, hf⟩
 ·rw [e] at hb; exact List.mem_cons_of_mem _ hb
 ·rw [e] at hb
  unfold frs at hb
  rw [List.filterMap_cons, hf] at hb
  exact hb
theorem Inv.stkFree (I : Inv X pins σ H s) : ∀ b ∈ frs X.stack, H b = none := fun b hb => by
 rcases List.mem_cons.mp (I.stkSub b hb) with e | hb
 ·rw [e]; exact I.free
 ·obtain ⟨_, o, ho, _⟩ := I.ok.funs.mem hb
  exact I.base.free b o ho (I.ok.frf b hb) fun z => I.ok.exfs b z hb
theorem Inv.step {g' : Array GenState} {t' : Nat} {d' : Drawn} {ch : List Addr} (I : Inv X pins σ H s)
  (hch : ∀ b ∈ ch, (b ∈ X.ex \/ X.s₀.heap.objs.size <= b) /\ b ≠ X.env.locals /\ (∀ x c, X.env.cells.lookup x = some c -> c ≠ b) /\ ∀ p ∈ X.pn ++ pins, p.1 ≠ b)
  (keep : ∀ b o, b ≠ X.env.locals -> b ∉ X.fs -> b ∉ ch -> s.heap.get? b = some o -> H b = none -> h'.get? b = some o)
  (slot : ∀ b o, b ≠ X.env.locals -> b ∈ X.fs -> b ∉ ch -> s.heap.get? b = some o -> H b = none -> ∃ sl, h'.get? b = some { o with slots := sl }) (free : ∀ b o, b ∉ ch -> s.heap.get? b = some o -> H b = none -> H' b = none)
  (there : ∀ b o, b ∉ ch -> s.heap.get? b = some o -> ∃ o', h'.get? b = some o')
  (tups : ∀ b xs, H b = some (.tup xs) -> H' b = some (.tup xs)) (frzs : ∀ b o u, H b = some (.frz o u) -> H' b = some (.frz o u)) (tbls : ∀ b ps, H b = some (.tbl ps) -> ∃ more, H' b = some (.tbl (ps ++ more)))
  (ns : ∀ m, s.heap.Ns X.env.locals m -> h'.Ns X.env.locals m) (hok : HOk X.prog X.w H' h') (hg : AllBare g') :
  Inv X pins σ H' { s with heap := h', gens := g', drawn := d', toks := t' } := by
 have neL : ∀ b o, X.s₀.heap.get? b = some o -> b ≠ X.env.locals := fun b o e => Nat.ne_of_lt (Nat.lt_of_lt_of_le (Heap.lt_size e) I.ok.above)
 have neC : ∀ b o, X.s₀.heap.get? b = some o -> b ∉ X.ex -> b ∉ ch := fun b o e hx hb => by
  rcases (hch b hb).1 with z | z
  ·exact hx z
  ·exact absurd (Nat.lt_of_lt_of_le (Heap.lt_size e) z) (Nat.lt_irrefl _)
 have cellK : ∀ x c, X.env.cells.lookup x = some c -> ∀ v, s.heap.IsCell c v -> h'.IsCell c v := fun x c e v ⟨o, ho, hd⟩ => by
  have nch : c ∉ ch := fun z => (hch c z).2.2.1 x c e rfl
  by_cases hc : c ∈ X.fs
  ·obtain ⟨sl, q⟩ := slot c o (I.cne x c e) hc nch ho (I.freeC x c e)
   exact ⟨_, q, hd⟩
  ·exact ⟨o, keep c o (I.cne x c e) hc nch ho (I.freeC x c e), hd⟩
 refine ⟨I.ok, I.os, hg, ⟨fun b o e n hb hx => ?_, fun b o e n hb hx => ?_, fun b o e n hx => ?_, fun b o e hx => ?_, fun b xs e => tups b xs (I.base.tups b xs e), fun b o xs e => frzs b o xs (I.base.frzs b o xs e), fun b ps e => ?_⟩, ?_, fun x c e => ?_, ?_, fun x c e => ?_, fun p hp => ?_, hok, I.len⟩
 ·exact keep b o (neL b o e) hb (neC b o e hx) (I.base.keep b o e n hb hx) (I.base.free b o e n hx)
 ·obtain ⟨sl, e1⟩ := I.base.slot b o e n hb hx
  obtain ⟨sl', e2⟩ := slot b _ (neL b o e) hb (neC b o e hx) e1 (I.base.free b o e n hx)
  exact ⟨sl', e2⟩
 ·obtain ⟨o', e1⟩ := I.base.there b o e hx
  exact free b o' (neC b o e hx) e1 (I.base.free b o e n hx)
 ·obtain ⟨o', e1⟩ := I.base.there b o e hx
  exact there b o' (neC b o e hx) e1
 ·obtain ⟨m1, e1⟩ := I.base.tbls b ps e
  obtain ⟨m2, e2⟩ := tbls b _ e1
  exact ⟨m1 ++ m2, by rw [e2, Array.append_assoc]⟩
 ·obtain ⟨m, hn, hl⟩ := I.loc
  refine ⟨m, ns m hn, fun i x v e1 e2 e3 => ?_⟩
  obtain ⟨u, r, l⟩ := hl i x v e1 e2 e3
  refine ⟨u, r, ?_⟩
  rcases l with l | ⟨k, c, e, z⟩
  ·exact .inl l
  ·exact .inr ⟨k, c, e, cellK x c e _ z⟩
 ·obtain ⟨v, z⟩ := I.cell x c e
  exact ⟨v, cellK x c e v z⟩
 ·obtain ⟨m, ⟨o, _, _, ho, _⟩, _⟩ := I.loc
  exact free _ o (fun z => (hch _ z).2.1 rfl) ho I.free
 ·obtain ⟨v, o, ho, hd⟩ := I.cell x c e
  exact free c o (fun z => (hch c z).2.2.1 x c e rfl) ho (I.freeC x c e)
 ·obtain ⟨e, n, ne, nf, d⟩ := I.pin p hp
  have nch : p.1 ∉ ch := fun z => (hch p.1 z).2.2.2 p hp rfl
  exact ⟨keep p.1 p.2 ne nf nch e n, free p.1 p.2 nch e n, ne, nf, d⟩
theorem Inv.un {t' : Nat} (I : Inv X pins σ H s) (u : Un X.fs [] H H' s.heap h') (hok : HOk X.prog X.w H' h') : Inv X pins σ H' { s with heap := h', toks := t' } := by
 obtain ⟨m, ⟨o, es, ep, ho, r⟩, _⟩ := id I.loc
 obtain ⟨sl, hL⟩ := u.any ho I.free (by simp)
 exact I.step (g' := s.gens) (d' := s.drawn) (ch := []) (fun _ z => nomatch z) (fun b o _ hb _ e n => u.keep b o e n hb (by simp)) (fun b o _ hb _ e n => u.slot b o e n hb (by simp)) (fun b o _ e n => u.free b o e n (by simp)) (fun b o _ e => u.there b o e (by simp)) u.tups u.frzs u.tbls (fun m' hm => by
  obtain ⟨o', es', ep', ho', r'⟩ := hm
  rw [ho] at ho'; cases ho'
  exact ⟨_, es', ep', hL, r'⟩) hok I.bare
theorem Inv.call {g' : Array GenState} {t' : Nat} {d' : Drawn} {ch : List Addr} (I : Inv X pins σ H s) (u : Un (frs X.stack) ch H H' s.heap h') (hok : HOk X.prog X.w H' h') (hg : AllBare g')
  (hch : ∀ b ∈ ch, (b ∈ X.ex \/ X.s₀.heap.objs.size <= b) /\ b ≠ X.env.locals /\ (∀ x c, X.env.cells.lookup x = some c -> c ≠ b) /\ ∀ p ∈ X.pn ++ pins, p.1 ≠ b) :
  Inv X pins σ H' { s with heap := h', gens := g', drawn := d', toks := t' } := by
 obtain ⟨m, ⟨o, es, ep, ho, r⟩, _⟩ := id I.loc
 obtain ⟨sl, hL⟩ := u.any ho I.free fun z => (hch _ z).2.1 rfl
 exact I.step (ch := ch) hch (fun b o hL hb hc e n => u.keep b o e n (fun z => (List.mem_cons.mp (I.stkSub b z)).elim hL hb) hc) (fun b o _ _ hc e n => u.any e n hc) (fun b o hc e n => u.free b o e n hc) (fun b o hc e => u.there b o e hc) u.tups u.frzs u.tbls (fun m' hm => by
  obtain ⟨o', es', ep', ho', r'⟩ := hm
  rw [ho] at ho'; cases ho'
  exact ⟨_, es', ep', hL, r'⟩) hok hg
theorem Inv.turned {t' : Nat} {it : Addr} (I : Inv X pins σ H s) (k : ∀ b o, b ≠ it -> s.heap.get? b = some o -> h'.get? b = some o) (hn : H it = none) (hL : it ≠ X.env.locals)
  (h1 : it ∈ X.ex \/ X.s₀.heap.objs.size <= it) (h2 : ∀ x c, X.env.cells.lookup x = some c -> c ≠ it) (h3 : ∀ p ∈ X.pn ++ pins, p.1 ≠ it) : Inv X pins σ H { s with heap := h', toks := t' } := by
 have nit : ∀ b u, H b = some u -> b ≠ it := fun b u e z => by rw [z, hn] at e; cases e
 refine I.step (g' := s.gens) (d' := s.drawn) (ch := [it]) (fun b hb => ?_) (fun b o _ _ hc e _ => k b o (fun z => hc (by simp [z])) e) (fun b o _ _ hc e _ => ⟨o.slots, k b o (fun z => hc (by simp [z])) e⟩) (fun _ _ _ _ n => n)
  (fun b o hc e => ⟨o, k b o (fun z => hc (by simp [z])) e⟩) (fun _ _ e => e) (fun _ _ _ e => e) (fun b ps e => ⟨#[], by rw [e]; simp⟩) (fun m hm => ?_) (fun b u e => ?_) I.bare
 ·have e : b = it := by simpa using hb
  subst e
  exact ⟨h1, hL, h2, h3⟩
 ·obtain ⟨o, es, ep, ho, r⟩ := hm
  exact ⟨o, es, ep, k _ o (Ne.symm hL) ho, r⟩
 ·refine (I.hok b u e).stay (fun c v hc q => k c v ?_ q) (fun _ q => q) fun _ _ q => q
  rcases hc with z | z
  ·rw [z]; exact nit b u e
  ·exact nit c _ z
theorem Inv.tok (I : Inv X pins σ H s) (t : Nat) : Inv X pins σ H { s with toks := t } := I.un (h' := s.heap) (t' := t) Un.refl I.hok
theorem Inv.kept {t' : Nat} (I : Inv X pins σ H s) (k : ∀ b u, s.heap.get? b = some u -> h'.get? b = some u) : Inv X pins σ H { s with heap := h', toks := t' } := I.un (Un.kept k) (I.hok.kept k)
theorem Inv.laid {a : Addr} {o : HO} {t' : Nat} (I : Inv X pins σ H s) (k : ∀ b u, s.heap.get? b = some u -> h'.get? b = some u) (hp : s.heap.objs.size <= a) (new : ObjOk X.prog X.w (upd H a o) h' a o) :
  Inv X pins σ (upd H a o) { s with heap := h', toks := t' } := I.un (Un.laid k hp (I.hok.fresh hp)) (I.hok.laid k hp new)
theorem Inv.write {x e : Addr} {o : HO} {t' : Nat} (I : Inv X pins σ H s) (mu : Mut (H x)) (he : e = x \/ H e = some (.own x)) (k : ∀ b u, b ≠ e -> s.heap.get? b = some u -> h'.get? b = some u) (heo : ∃ u, h'.get? e = some u)
  (new : ObjOk X.prog X.w (upd H x o) h' x o) : Inv X pins σ (upd H x o) { s with heap := h', toks := t' } := I.un (Un.write mu he k heo) (I.hok.write mu he k heo new)
theorem Inv.weak {σ' : List (Option V)} (I : Inv X pins σ H s) (hl : σ'.length = σ.length) (w : ∀ (i : Nat) v, σ'[i]? = some (some v) -> σ[i]? = some (some v)) : Inv X pins σ' H s :=
 ⟨I.ok, I.os, I.bare, I.base, let ⟨m, hn, hl'⟩ := I.loc; ⟨m, hn, fun i x v e1 e2 e3 => hl' i x v e1 (w i v e2) e3⟩, I.cell, I.free, I.freeC, I.pin, I.hok, hl.trans I.len⟩
theorem Inv.pins_of {pins' : List (Addr × Obj)} (I : Inv X pins σ H s) (h : ∀ p ∈ pins', s.heap.get? p.1 = some p.2 /\ H p.1 = none /\ p.1 ≠ X.env.locals /\ p.1 ∉ X.fs /\ ∀ v, p.2.data ≠ .cell v) : Inv X pins' σ H s :=
 ⟨I.ok, I.os, I.bare, I.base, I.loc, I.cell, I.free, I.freeC, fun p hp => (List.mem_append.mp hp).elim (fun z => I.pin p (List.mem_append_left _ z)) (h p), I.hok, I.len⟩
theorem nodup_ix {N : List Str} (hN : N.Nodup) {i j : Nat} {x : Str} (a : N[i]? = some x) (b : N[j]? = some x) : i = j := by
 obtain ⟨h1, e1⟩ := List.getElem?_eq_some_iff.mp a
 obtain ⟨h2, e2⟩ := List.getElem?_eq_some_iff.mp b
 exact (List.getElem_inj hN).mp (e1.trans e2.symm)
theorem store_ok2 {M : Model} {A : Around} {E : Value -> Shared -> Prop} {i : Nat} {x : Str} {v : V} {u : Value} {Q : Unit -> Shared -> Prop} (I : Inv X pins σ H s) (hN : X.N.Nodup) (hi : X.N[i]? = some x) (hx : Loc X.env.scope x) (r : RelV v u)
  (h : ∀ s', Inv X pins (σ.set i (some v)) H s' -> (∃ a, Heap.SameBut a s.heap s'.heap /\ (a = X.env.locals \/ X.env.cells.lookup x = some a)) -> Q () s') (hf : X.fn x = true \/ X.env.scope.names.lookup x = some .local := by first | exact .inl rfl | exact .inr rfl | assumption) : wpAny M A (storeName X.env x u) Q E s := by
 obtain ⟨m, hn, hl⟩ := id I.loc
 have hcls : (X.env.scope.kind == .class || (X.env.scope.kind == .module && X.env.locals != X.env.globals)) = false := by rw [I.ok.kind]; rfl
 have hiσ : i < σ.length := by rw [I.len]; exact (List.getElem?_eq_some_iff.mp hi).1
 have cne := I.cne
 have tracked : ∀ {a : Addr} {h' : Heap}, (∃ o, s.heap.get? a = some o /\ H a = none) -> Heap.SameBut a s.heap h' -> HOk X.prog X.w H h' := fun {a h'} ha hs b ob e => by
  obtain ⟨_, _, hfree⟩ := ha
  refine (I.hok b ob e).stay (fun c w' hc q => (hs.2 c ?_).trans q) (fun _ q => q) fun _ _ q => q
  rintro rfl
  rcases hc with rfl | hc
  ·rw [hfree] at e; cases e
  ·rw [hfree] at hc; cases hc
 rcases hx with hk | hk
 ·refine wpAny_storeName_local hk hn (fun h' hn' hs => ?_) hcls
  obtain ⟨oL, _, _, hoL, _⟩ := id hn
  refine h _ ⟨I.ok, I.os, I.bare, ⟨fun b o e n hb hx => ?_, fun b o e n hb hx => ?_, I.base.free, fun b o e hx => ?_, I.base.tups, I.base.frzs, I.base.tbls⟩, ⟨_, hn', fun j y v' e1 e2 e3 => ?_⟩, fun y c e => ?_, I.free, I.freeC, fun p hp => ?_, tracked ⟨oL, hoL, I.free⟩ hs, by simpa using I.len⟩ ⟨_, hs, .inl rfl⟩
  ·exact (hs.2 b (Nat.ne_of_lt (Nat.lt_of_lt_of_le (Heap.lt_size e) I.ok.above))).trans (I.base.keep b o e n hb hx)
  ·obtain ⟨sl, e1⟩ := I.base.slot b o e n hb hx
   exact ⟨sl, (hs.2 b (Nat.ne_of_lt (Nat.lt_of_lt_of_le (Heap.lt_size e) I.ok.above))).trans e1⟩
  ·obtain ⟨o', e1⟩ := I.base.there b o e hx
   exact ⟨o', (hs.2 b (Nat.ne_of_lt (Nat.lt_of_lt_of_le (Heap.lt_size e) I.ok.above))).trans e1⟩
  ·by_cases hj : j = i
   ·subst hj
    rw [hi] at e1; cases e1
    rw [List.getElem?_set_self hiσ] at e2
    cases e2
    exact ⟨u, r, .inl ⟨hk, by simp⟩⟩
   ·rw [List.getElem?_set_ne (Ne.symm hj)] at e2
    obtain ⟨u', r', q⟩ := hl j y v' e1 e2 e3
    refine ⟨u', r', ?_⟩
    rcases q with ⟨k, e⟩ | ⟨k, c, e, z⟩
    ·refine .inl ⟨k, ?_⟩
     have : y ≠ x := fun e => hj (nodup_ix hN e1 (e ▸ hi))
     simp [this, e]
    ·exact .inr ⟨k, c, e, z.sameBut hs (cne y c e)⟩
  ·obtain ⟨w', z⟩ := I.cell y c e
   exact ⟨w', z.sameBut hs (cne y c e)⟩
  ·obtain ⟨e, n, ne, nf, d⟩ := I.pin p hp
   exact ⟨(hs.2 p.1 ne).trans e, n, ne, nf, d⟩
 ·have hfn : X.fn x = true := by
   rcases hf with z | z
   ·exact z
   ·rw [z] at hk; cases hk
  obtain ⟨c, hc⟩ := I.ok.has x (.inl hk)
  obtain ⟨w', z⟩ := I.cell x c hc
  refine wpAny_storeName_cell I.ok.kind hk hc z (fun h' hc' hs => ?_)
  obtain ⟨oc, hoc, hocd⟩ := id z
  refine h { s with heap := h' } ⟨I.ok, I.os, I.bare, ⟨fun b o e n hb hx => ?_, fun b o e n hb hx => ?_, I.base.free, fun b o e hx => ?_, I.base.tups, I.base.frzs, I.base.tbls⟩, ⟨m, hn.sameBut hs (Ne.symm (cne x c hc)), fun j y v' e1 e2 e3 => ?_⟩, fun y c' e => ?_, I.free, I.freeC, fun p hp => ?_, tracked ⟨oc, hoc, I.freeC x c hc⟩ hs, by simpa using I.len⟩ ⟨c, hs, .inr hc⟩
  ·exact (hs.2 b (Nat.ne_of_lt (Nat.lt_of_lt_of_le (Heap.lt_size e) (I.ok.cab x c hfn hc)))).trans (I.base.keep b o e n hb hx)
  ·obtain ⟨sl, e1⟩ := I.base.slot b o e n hb hx
   exact ⟨sl, (hs.2 b (Nat.ne_of_lt (Nat.lt_of_lt_of_le (Heap.lt_size e) (I.ok.cab x c hfn hc)))).trans e1⟩
  ·obtain ⟨o', e1⟩ := I.base.there b o e hx
   exact ⟨o', (hs.2 b (Nat.ne_of_lt (Nat.lt_of_lt_of_le (Heap.lt_size e) (I.ok.cab x c hfn hc)))).trans e1⟩
  ·by_cases hj : j = i
   ·subst hj
    rw [hi] at e1; cases e1
    rw [List.getElem?_set_self hiσ] at e2
    cases e2
    exact ⟨u, r, .inr ⟨.inl hk, c, hc, hc'⟩⟩
   ·rw [List.getElem?_set_ne (Ne.symm hj)] at e2
    obtain ⟨u', r', q⟩ := hl j y v' e1 e2 e3
    refine ⟨u', r', ?_⟩
    rcases q with q | ⟨k, c', e, z'⟩
    ·exact .inl q
    ·refine .inr ⟨k, c', e, z'.sameBut hs ?_⟩
     rintro rfl
     exact hj (nodup_ix hN e1 (I.ok.inj _ _ _ e hc ▸ hi))
  ·by_cases hcc : c' = c
   ·subst hcc; exact ⟨_, hc'⟩
   ·obtain ⟨w2, z2⟩ := I.cell y c' e
    exact ⟨w2, z2.sameBut hs hcc⟩
  ·obtain ⟨e, n, ne, nf, d⟩ := I.pin p hp
   refine ⟨(hs.2 p.1 ?_).trans e, n, ne, nf, d⟩
   intro q
   rw [q, hoc] at e
   have q' : oc = p.2 := Option.some.inj e
   exact d w' (by rw [<- q']; exact hocd)
theorem store_ok {M : Model} {A : Around} {E : Value -> Shared -> Prop} {i : Nat} {x : Str} {v : V} {u : Value} {Q : Unit -> Shared -> Prop} (I : Inv X pins σ H s) (hN : X.N.Nodup) (hi : X.N[i]? = some x) (hx : Loc X.env.scope x) (r : RelV v u)
  (h : ∀ s', Inv X pins (σ.set i (some v)) H s' -> Q () s') (hf : X.fn x = true \/ X.env.scope.names.lookup x = some .local := by first | exact .inl rfl | exact .inr rfl | assumption) : wpAny M A (storeName X.env x u) Q E s :=
 store_ok2 I hN hi hx r (fun s' I' _ => h s' I') hf
theorem Inv.call' {s' : Shared} {ch : List Addr} (I : Inv X pins σ H s) (ho : s'.os = s.os) (u : Un (frs X.stack) ch H H' s.heap s'.heap) (hok : HOk X.prog X.w H' s'.heap) (hg : AllBare s'.gens)
  (hch : ∀ b ∈ ch, (b ∈ X.ex \/ X.s₀.heap.objs.size <= b) /\ b ≠ X.env.locals /\ (∀ x c, X.env.cells.lookup x = some c -> c ≠ b) /\ ∀ p ∈ X.pn ++ pins, p.1 ≠ b) : Inv X pins σ H' s' := by
 obtain ⟨h', g', d', t', o'⟩ := s'
 have e : o' = s.os := ho
 subst e
 exact I.call (g' := g') (t' := t') (d' := d') u hok hg hch
end
abbrev XK := Value -> Option Addr -> Hp -> Prop
abbrev St := List (Option V)
abbrev VK := V -> Hp -> Prop
abbrev TE := St -> Hp -> VK -> Prop
abbrev TT := St -> Hp -> (Bool -> Hp -> Prop) -> Prop
abbrev TA := St -> Hp -> (List V -> Hp -> Prop) -> Prop
structure Ends where
 nx : St -> Hp -> Prop
 rt : VK
 bk : St -> Hp -> Prop := fun _ _ => False
 ct : St -> Hp -> Prop := fun _ _ => False
abbrev TS := Ends -> St -> Hp -> Prop
def EP (X : Cx) (pins : List (Addr × Obj)) (σ : St) (Q : VK) (u : Value) (s' : Shared) : Prop := ∃ v H', Inv X pins σ H' s' /\ RelV v u /\ Q v H'
def TP (X : Cx) (pins : List (Addr × Obj)) (σ : St) (Q : Bool -> Hp -> Prop) (b : Bool) (s' : Shared) : Prop := ∃ H', Inv X pins σ H' s' /\ Q b H'
def AP (X : Cx) (pins : List (Addr × Obj)) (σ : St) (Q : List V -> Hp -> Prop) (us : List Value) (s' : Shared) : Prop := ∃ vs H', Inv X pins σ H' s' /\ Vals vs us /\ Q vs H'
def SP (X : Cx) (pins : List (Addr × Obj)) (D : Ends) (f : Flow) (s' : Shared) : Prop :=
 match f with
 | .next => ∃ σ' H', Inv X pins σ' H' s' /\ D.nx σ' H'
 | .brk => ∃ σ' H', Inv X pins σ' H' s' /\ D.bk σ' H'
 | .cont => ∃ σ' H', Inv X pins σ' H' s' /\ D.ct σ' H'
 | .ret u => ∃ v σ' H', Inv X pins σ' H' s' /\ RelV v u /\ D.rt v H'
def PE (X : Cx) (e : Expr) (t : TE) : Prop :=
 ∀ (pins : List (Addr × Obj)) (s : Shared) (σ : St) (H : Hp) (Q : VK), Inv X pins σ H s -> t σ H Q -> wpAny (model X.prog X.w) X.A (eval e X.env) (EP X pins σ Q) X.xe s
def PT (X : Cx) (e : Expr) (t : TT) : Prop :=
 ∀ (pins : List (Addr × Obj)) (s : Shared) (σ : St) (H : Hp) (Q : Bool -> Hp -> Prop), Inv X pins σ H s -> t σ H Q -> wpAny (model X.prog X.w) X.A (isTrue e X.env (eval e X.env)) (TP X pins σ Q) X.xe s
def PW (X : Cx) (e : Expr) (t : TT) : Prop :=
 ∀ (whole : Sem Value) (pins : List (Addr × Obj)) (s : Shared) (σ : St) (H : Hp) (Q : Bool -> Hp -> Prop), Inv X pins σ H s -> t σ H Q -> wpAny (model X.prog X.w) X.A (isTrue e X.env whole) (TP X pins σ Q) X.xe s
theorem PW.pt {X : Cx} {e : Expr} {t : TT} (h : PW X e t) : PT X e t := h _
def PA (X : Cx) (es : List Expr) (t : TA) : Prop :=
 ∀ (pos : Pos) (pins : List (Addr × Obj)) (s : Shared) (σ : St) (H : Hp) (Q : List V -> Hp -> Prop), Inv X pins σ H s -> t σ H Q -> wpAny (model X.prog X.w) X.A (spliced (backTo pos (starEach es X.env))) (AP X pins σ Q) X.xe s
def PS (X : Cx) (st : Stmt) (t : TS) : Prop :=
 ∀ (pins : List (Addr × Obj)) (s : Shared) (σ : St) (H : Hp) (D : Ends), Inv X pins σ H s -> t D σ H -> wpAny (model X.prog X.w) X.A (exec st X.env) (SP X pins D) X.xe s
def PSs (X : Cx) (st : List Stmt) (t : TS) : Prop :=
 ∀ (pins : List (Addr × Obj)) (s : Shared) (σ : St) (H : Hp) (D : Ends), Inv X pins σ H s -> t D σ H -> wpAny (model X.prog X.w) X.A (execs st X.env) (SP X pins D) X.xe s
theorem thn {α : Type} {t : Sem α} {Q Q' : α -> Shared -> Prop} {M : Model} {A : Around} {E : Value -> Shared -> Prop} {s : Shared} (h : wpAny M A t Q E s) (hQ : ∀ a s, Q a s -> Q' a s) : wpAny M A t Q' E s := wpAny_mono h hQ fun _ _ x => x
section
variable {X : Cx}
def tVar (i : Nat) : TE := fun σ H Q => ∃ v, σ[i]? = some (some v) /\ Q v H
def tC (v : V) : TE := fun _ H Q => Q v H
theorem pe_var {i : Nat} {x : Str} {pos : Pos} (hN : X.N[i]? = some x) (hv : Vis X.env.scope x) (hd : (x == ("__debug__" : Str)) = false := by decide) (hcd : (x == ("__classdict__" : Str)) = false := by decide) : PE X (.Name x pos) (tVar i) := by
 intro pins s σ H Q I h
 obtain ⟨v, e, h⟩ := h
 obtain ⟨m, hn, hl⟩ := I.loc
 obtain ⟨u, r, l⟩ := hl i x v hN e hv
 have fin : EP X pins σ Q u s := ⟨v, H, I, r, h⟩
 rcases l with ⟨hk, hm⟩ | ⟨hk, c, hc, hcell⟩
 ·exact wpAny_Name (wpAny_loadName_local I.ok.kind hk hn hm fin) hd
 ·rcases hk with hk | hk
  ·exact wpAny_Name (wpAny_loadName_cell I.ok.kind hk hc hcell fin) hd
  ·exact wpAny_Name (wpAny_loadName_free I.ok.kind hk hc hcell fin hcd) hd
theorem pe_int {i j pos} : PE X (.Constant (.int i) j pos) (tC (.int i)) := fun _ _ _ H _ I h => wpAny_Constant_int ⟨.int i, H, I.tok _, ⟨_, rfl⟩, h⟩
theorem pe_bl {b j pos} : PE X (.Constant (.bool b) j pos) (tC (.bl b)) := fun _ _ _ H _ I h => Constant_bool ⟨.bl b, H, I, rfl, h⟩
theorem pe_non {j pos} : PE X (.Constant .none j pos) (tC .non) := fun _ _ _ H _ I h => Constant_none ⟨.non, H, I, rfl, h⟩
def Gl (X : Cx) (x : Str) : Prop := X.env.kindOf x = some .globalImplicit
theorem ld_glob {E : Value -> Shared -> Prop} {pins : List (Addr × Obj)} {s : Shared} {σ : St} {H : Hp} {x : Str} {u : Value} {pos : Pos} {Q : Value -> Shared -> Prop} (I : Inv X pins σ H s) (hg : Gl X x) (hm : X.mg x = some u) (h : Q u s)
  (hd : (x == ("__debug__" : Str)) = false := by decide) : wpAny (model X.prog X.w) X.A (eval (.Name x pos) X.env) Q E s :=
 Calls.Name_function_global I.ok.kind hg (Calls.loadGlobal_global (by rw [I.ok.glob]; exact I.mod.glob.keeps I.bk) hm h) hd
theorem ld_blt {E : Value -> Shared -> Prop} {pins : List (Addr × Obj)} {s : Shared} {σ : St} {H : Hp} {x : Str} {u : Value} {pos : Pos} {Q : Value -> Shared -> Prop} (I : Inv X pins σ H s) (hg : Gl X x) (hm : X.mg x = none) (hv : bootBuiltins x = some u) (h : Q u s)
  (hn : x ≠ "__name__" := by decide) (hd : (x == ("__debug__" : Str)) = false := by decide) : wpAny (model X.prog X.w) X.A (eval (.Name x pos) X.env) Q E s := by
 obtain ⟨mb, h1, h2⟩ := I.mod.blt
 exact Calls.Name_function_global I.ok.kind hg (Calls.loadGlobal_builtin (by rw [I.ok.glob]; exact I.mod.glob.keeps I.bk) hm (by rw [I.ok.blt]; exact h1.keeps I.bk) ((h2 x hn).trans hv) h) hd
theorem pe_glob {x : Str} {v : V} {u : Value} {pos : Pos} (hg : Gl X x) (hm : X.mg x = some u) (r : RelV v u) (hd : (x == ("__debug__" : Str)) = false := by decide) : PE X (.Name x pos) (tC v) :=
 fun _ _ _ H _ I h => ld_glob I hg hm ⟨v, H, I, r, h⟩ hd
theorem pe_bltn {x : Str} {v : V} {u : Value} {pos : Pos} (hg : Gl X x) (hm : X.mg x = none) (hv : bootBuiltins x = some u) (r : RelV v u) (hn : x ≠ "__name__" := by decide) (hd : (x == ("__debug__" : Str)) = false := by decide) : PE X (.Name x pos) (tC v) :=
 fun _ _ _ H _ I h => ld_blt I hg hm hv ⟨v, H, I, r, h⟩ hn hd
variable {a b : Expr} {ta tb : TE} {pos : Pos}
def tB (t : TE) : TT := fun σ H Q => t σ H fun x H1 => ∃ c, x = .bl c /\ Q c H1
theorem pt_val {e : Expr} {t : TE} (h : PE X e t) (he : ∀ whole, isTrue e X.env whole = (do let v <- whole; standAt e.pos; holding [v] (truthy v)) := by intro _; rfl) : PT X e (tB t) := by
 intro pins s σ H Q I hw
 refine isTrue_plain (thn (h pins s σ H _ I hw) fun v s1 ⟨x, H1, I1, r1, q1⟩ => ?_) (he _)
 obtain ⟨d, rfl, q⟩ := q1
 cases r1
 exact wpAny_truthy_bool ⟨H1, I1, q⟩
variable {tA tB' : TT} {rest : List Expr}
def tAnd (t u : TT) : TT := fun σ H Q => t σ H fun c H1 => if c = true then u σ H1 Q else Q false H1
def tOr (t u : TT) : TT := fun σ H Q => t σ H fun c H1 => if c = true then Q true H1 else u σ H1 Q
def tNot (t : TT) : TT := fun σ H Q => t σ H fun c H1 => Q (!c) H1
theorem pw_and1 (ha : PT X a tA) : PW X (.BoolOp .And [a] pos) tA := by
 intro wh pins s σ H Q I h
 refine isTrue_and (thn (ha pins s σ H Q I h) fun c s1 e => ?_)
 cases c with
 | true => exact isTrue_and_nil e
 | false => exact e
theorem pw_or1 (ha : PT X a tA) : PW X (.BoolOp .Or [a] pos) tA := by
 intro wh pins s σ H Q I h
 refine isTrue_or (thn (ha pins s σ H Q I h) fun c s1 e => ?_)
 cases c with
 | false => exact isTrue_or_nil e
 | true => exact e
theorem pw_and (ha : PT X a tA) (hb : PW X (.BoolOp .And (b :: rest) pos) tB') : PW X (.BoolOp .And (a :: b :: rest) pos) (tAnd tA tB') := by
 intro wh pins s σ H Q I h
 refine isTrue_and (thn (ha pins s σ H _ I h) fun c s1 ⟨H1, I1, q1⟩ => ?_)
 cases c with
 | true => exact hb wh pins s1 σ H1 Q I1 q1
 | false => exact ⟨H1, I1, q1⟩
theorem pw_or (ha : PT X a tA) (hb : PW X (.BoolOp .Or (b :: rest) pos) tB') : PW X (.BoolOp .Or (a :: b :: rest) pos) (tOr tA tB') := by
 intro wh pins s σ H Q I h
 refine isTrue_or (thn (ha pins s σ H _ I h) fun c s1 ⟨H1, I1, q1⟩ => ?_)
 cases c with
 | true => exact ⟨H1, I1, q1⟩
 | false => exact hb wh pins s1 σ H1 Q I1 q1
theorem pt_not (ha : PT X a tA) : PT X (.UnaryOp .Not a pos) (tNot tA) := by
 intro pins s σ H Q I h
 exact isTrue_not (ha pins s σ H (fun c H1 => Q (!c) H1) I h)
def tIf (t : TT) (ta tb : TE) : TE := fun σ H Q => t σ H fun c H1 => if c = true then ta σ H1 Q else tb σ H1 Q
theorem pe_ifExp {c : Expr} (hc : PT X c tA) (ha : PE X a ta) (hb : PE X b tb) : PE X (.IfExp c a b pos) (tIf tA ta tb) := by
 intro pins s σ H Q I h
 refine wpAny_IfExp (thn (hc pins s σ H _ I h) fun d s1 ⟨H1, I1, q1⟩ => ?_)
 cases d with
 | true => exact ha pins s1 σ H1 Q I1 q1
 | false => exact hb pins s1 σ H1 Q I1 q1
end
def SqL (K : PySem.W.Frag) (H : Hp) (a : Addr) (xs : List V) : Prop :=
 Rd H a (.lst xs) \/
  ∃ (o : Obj) (its : Array Value) (n : Nat), K.lookup a = some o /\ o.cls = .type "list" /\ o.dict = none /\ o.data = .seq its n /\ its.size <= sizeLine /\ Vals xs its.toList
def SqT (K : PySem.W.Frag) (H : Hp) (a : Addr) (xs : List V) : Prop :=
 Rd H a (.tup xs) \/
  ∃ (o : Obj) (its : Array Value) (n : Nat), K.lookup a = some o /\ o.cls = .type "tuple" /\ o.data = .seq its n /\ its.size <= sizeLine /\ Vals xs its.toList
def absV : Value -> Option V
 | .none => some .non
 | .bool b => some (.bl b)
 | .int i _ => some (.int i)
 | .str x _ => some (.str x)
 | .bytes b _ => some (.byt b)
 | .float b _ => some (.flt b)
 | .ref a => some (.ref a)
 | .type n => some (.ty n)
 | _ => none
theorem RelV.abs {x : V} {u : Value} (r : RelV x u) : absV u = some x := by
 cases x with
 | non => cases r; rfl
 | bl _ => cases r; rfl
 | int _ => obtain ⟨t, rfl⟩ := r; rfl
 | str _ => obtain ⟨t, rfl⟩ := r; rfl
 | byt _ => obtain ⟨t, rfl⟩ := r; rfl
 | flt _ => obtain ⟨t, rfl⟩ := r; rfl
 | ref _ => cases r; rfl
 | ty _ => cases r; rfl
theorem RelV.inj {x y : V} {u : Value} (r : RelV x u) (q : RelV y u) : x = y := Option.some.inj (r.abs.symm.trans q.abs)
theorem Vals.inj : ∀ {xs ys : List V} {us : List Value}, Vals xs us -> Vals ys us -> xs = ys
 | _, _, _, .nil, .nil => rfl
 | _, _, _, .cons r t, .cons r' t' => by rw [r.inj r', Vals.inj t t']
section
variable {X : Cx} {pins : List (Addr × Obj)} {σ : St} {H : Hp} {s : Shared} {a : Addr} {xs ys : List V}
theorem SqL.of {K : PySem.W.Frag} (h : H a = some (.lst xs)) : SqL K H a xs := .inl (.inl h)
theorem SqT.of {K : PySem.W.Frag} (h : H a = some (.tup xs)) : SqT K H a xs := .inl (.inl h)
theorem Inv.list (I : Inv X pins σ H s) (h : SqL X.K H a xs) : ∃ its : List Value, Vals xs its /\ PlainL s.heap a its.toArray /\ xs.length <= sizeLine := by
 rcases h with h | ⟨o, its, n, hk, hc, hd, hs, hz, r⟩
 ·obtain ⟨z, its, n, r, e⟩ := h.ok I.hok
  exact ⟨its, r, ⟨_, n, e, rfl, rfl, rfl⟩, z⟩
 ·refine ⟨its.toList, r, ⟨o, n, I.kIn a o hk, hc, hd, by simpa using hs⟩, ?_⟩
  have e := r.length
  simp only [Array.length_toList] at e
  omega
theorem Inv.tuple (I : Inv X pins σ H s) (h : SqT X.K H a xs) : ∃ its : List Value, Vals xs its /\ IsTup s.heap a its.toArray /\ xs.length <= sizeLine := by
 rcases h with h | ⟨o, its, n, hk, hc, hs, hz, r⟩
 ·obtain ⟨z, its, r, p⟩ := h.ok I.hok
  exact ⟨its, r, p, z⟩
 ·refine ⟨its.toList, r, ⟨o, I.kIn a o hk, hc, n, by simpa using hs⟩, ?_⟩
  have e := r.length
  simp only [Array.length_toList] at e
  omega
theorem Inv.list_inj (I : Inv X pins σ H s) (h : SqL X.K H a xs) (h' : SqL X.K H a ys) : xs = ys := by
 obtain ⟨its, r, ⟨o, n, e, _, _, d⟩, _⟩ := I.list h
 obtain ⟨its', r', ⟨o', n', e', _, _, d'⟩, _⟩ := I.list h'
 rw [e] at e'; cases e'
 rw [d] at d'
 injection d' with d1 _
 have : its = its' := by simpa using congrArg Array.toList d1
 subst this
 exact r.inj r'
theorem Inv.tuple_inj (I : Inv X pins σ H s) (h : SqT X.K H a xs) (h' : SqT X.K H a ys) : xs = ys := by
 obtain ⟨its, r, ⟨o, e, _, n, d⟩, _⟩ := I.tuple h
 obtain ⟨its', r', ⟨o', e', _, n', d'⟩, _⟩ := I.tuple h'
 rw [e] at e'; cases e'
 rw [d] at d'
 injection d' with d1 _
 have : its = its' := by simpa using congrArg Array.toList d1
 subst this
 exact r.inj r'
end
abbrev Cx.wish (X : Cx) (E : Value -> Shared -> Prop) : Cx := { X with xe := E }
abbrev Cx.nox (X : Cx) : Cx := X.wish fun _ _ => False
theorem Cx.Ok.wish {X : Cx} (ok : X.Ok) (E : Value -> Shared -> Prop) : (X.wish E).Ok :=
 ⟨ok.mod, ok.kind, ok.glob, ok.blt, ok.above, ok.inj, ok.has, ok.cab, ok.hd, ok.frames, ok.stk, ok.exf, ok.bs, ok.bsz, ok.noex, ok.exfs, ok.funs, ok.frf⟩
theorem Cx.Ok.unwish {X : Cx} {E : Value -> Shared -> Prop} (ok : (X.wish E).Ok) : X.Ok :=
 ⟨ok.mod, ok.kind, ok.glob, ok.blt, ok.above, ok.inj, ok.has, ok.cab, ok.hd, ok.frames, ok.stk, ok.exf, ok.bs, ok.bsz, ok.noex, ok.exfs, ok.funs, ok.frf⟩
section
variable {X : Cx} {pins : List (Addr × Obj)} {σ : St} {H : Hp} {s : Shared} {E : Value -> Shared -> Prop}
theorem Inv.wish (I : Inv X pins σ H s) (E : Value -> Shared -> Prop) : Inv (X.wish E) pins σ H s := ⟨I.ok.wish E, I.os, I.bare, I.base, I.loc, I.cell, I.free, I.freeC, I.pin, I.hok, I.len⟩
theorem Inv.unwish (I : Inv (X.wish E) pins σ H s) : Inv X pins σ H s := ⟨I.ok.unwish, I.os, I.bare, I.base, I.loc, I.cell, I.free, I.freeC, I.pin, I.hok, I.len⟩
theorem SP.unwish {D : Ends} {f : Flow} {s' : Shared} (h : SP (X.wish E) pins D f s') : SP X pins D f s' := by
 cases f with
 | next => obtain ⟨σ', H', I, q⟩ := h; exact ⟨σ', H', I.unwish, q⟩
 | brk => obtain ⟨σ', H', I, q⟩ := h; exact ⟨σ', H', I.unwish, q⟩
 | cont => obtain ⟨σ', H', I, q⟩ := h; exact ⟨σ', H', I.unwish, q⟩
 | ret u => obtain ⟨v, σ', H', I, r, q⟩ := h; exact ⟨v, σ', H', I.unwish, r, q⟩
theorem PSs.nox {st : List Stmt} {t : TS} (h : PSs X.nox st t) : PSs X st t := fun pins s σ H D I hw =>
 wpAny_mono (h pins s σ H D (I.wish _) hw) (fun _ _ q => q.unwish) fun _ _ z => False.elim z
end
section
variable {X : Cx} {st : Stmt} {rest : List Stmt} {t u : TS} {e : Expr} {te : TE} {pos : Pos}
def tNext : TS := fun D σ H => D.nx σ H
def tSeq (t u : TS) : TS := fun D σ H => t { D with nx := u D } σ H
theorem pss_nil : PSs X [] tNext := fun _ _ σ H _ I h => wpAny_execs_nil ⟨σ, H, I, h⟩
theorem pss_cons (h1 : PS X st t) (h2 : PSs X rest u) : PSs X (st :: rest) (tSeq t u) := by
 intro pins s σ H D I h
 refine wpAny_execs_cons (thn (h1 pins s σ H { D with nx := u D } I h) fun f s1 q => ?_)
 cases f with
 | next =>
  obtain ⟨σ', H', I', q⟩ := q
  exact h2 pins s1 σ' H' D I' q
 | ret v => exact q
 | brk => exact q
 | cont => exact q
theorem pss_one (h1 : PS X st t) : PSs X [st] t := by
 intro pins s σ H D I h
 refine wpAny_execs_cons (thn (h1 pins s σ H D I h) fun f s1 q => ?_)
 cases f with
 | next => exact wpAny_execs_nil q
 | ret v => exact q
 | brk => exact q
 | cont => exact q
theorem Inv.quiet {pins : List (Addr × Obj)} {σ : St} {H : Hp} {s : Shared} (I : Inv X pins σ H s) : interactive X.env = false := by simp [interactive, I.ok.kind]
def tDrop (te : TE) : TS := fun D σ H => te σ H fun _ H1 => D.nx σ H1
theorem ps_expr (he : PE X e te) (hs : swapsWith e none pos.line X.env = pure false := by rfl) : PS X (.Expr e pos) (tDrop te) := by
 intro pins s σ H D I h
 exact wpAny_Expr_any (thn (he pins s σ H _ I h) fun v s1 ⟨x, H1, I1, r1, q1⟩ => ⟨σ, H1, I1, q1⟩) I.quiet hs
def tRet (te : TE) : TS := fun D σ H => te σ H D.rt
theorem ps_ret (he : PE X e te) : PS X (.Return (some e) pos) (tRet te) := by
 intro pins s σ H D I h
 exact wpAny_Return_some (thn (he pins s σ H _ I h) fun v s1 ⟨x, H1, I1, r1, q1⟩ => ⟨x, σ, H1, I1, r1, q1⟩)
def tIfS (c : TT) (t u : TS) : TS := fun D σ H => c σ H fun b H1 => if b = true then t D σ H1 else u D σ H1
theorem ps_if {c : Expr} {a b : List Stmt} {tc : TT} (hc : PT X c tc) (ha : PSs X a t) (hb : PSs X b u) : PS X (.If c a b pos) (tIfS tc t u) := by
 intro pins s σ H D I h
 refine wpAny_If (thn (hc pins s σ H _ I h) fun d s1 ⟨H1, I1, q1⟩ => ?_)
 cases d with
 | true => exact ha pins s1 σ H1 D I1 q1
 | false => exact hb pins s1 σ H1 D I1 q1
def tNever : TS := fun _ _ _ => False
theorem ps_never : PS X st tNever := fun _ _ _ _ _ _ h => h.elim
end
abbrev TG := V -> St -> Hp -> (St -> Hp -> Prop) -> Prop
abbrev TGs := List V -> St -> Hp -> (St -> Hp -> Prop) -> Prop
def PG (X : Cx) (target : Expr) (t : TG) : Prop :=
 ∀ (pins : List (Addr × Obj)) (s : Shared) (σ : St) (H : Hp) (v : V) (u : Value) (Q : St -> Hp -> Prop), Inv X pins σ H s -> RelV v u -> t v σ H Q ->
  wpAny (model X.prog X.w) X.A (assign target X.env u) (fun _ s' => ∃ σ' H', Inv X pins σ' H' s' /\ Q σ' H') X.xe s
def PGs (X : Cx) (ts : List Expr) (t : TGs) : Prop :=
 ∀ (pins : List (Addr × Obj)) (s : Shared) (σ : St) (H : Hp) (vs : List V) (us : List Value) (Q : St -> Hp -> Prop), Inv X pins σ H s -> Vals vs us -> t vs σ H Q ->
  wpAny (model X.prog X.w) X.A (assignInOrder ((assignEach ts X.env).map (·.2)) us) (fun _ s' => ∃ σ' H', Inv X pins σ' H' s' /\ Q σ' H') X.xe s
abbrev TSet := V -> V -> V -> Hp -> (Hp -> Prop) -> Prop
def PSet (X : Cx) (t : TSet) : Prop :=
 ∀ (pins : List (Addr × Obj)) (s : Shared) (σ : St) (H : Hp) (o i v : V) (ov iv u : Value) (Q : Hp -> Prop), Inv X pins σ H s -> RelV o ov -> RelV i iv -> RelV v u -> t o i v H Q ->
  wpAny (model X.prog X.w) X.A (setItem ov iv u) (fun _ s' => ∃ H', Inv X pins σ H' s' /\ Q H') X.xe s
abbrev TIp := V -> V -> Hp -> VK -> Prop
def PIp (X : Cx) (op : Operator) (t : TIp) : Prop :=
 ∀ (pins : List (Addr × Obj)) (s : Shared) (σ : St) (H : Hp) (x y : V) (v u : Value) (Q : VK), Inv X pins σ H s -> RelV x v -> RelV y u -> t x y H Q ->
  wpAny (model X.prog X.w) X.A (inplaceOp op v u) (EP X pins σ Q) X.xe s
section
variable {X : Cx} {pos : Pos}
def gName (i : Nat) : TG := fun v σ H Q => Q (σ.set i (some v)) H
theorem pg_name {i : Nat} {x : Str} (hN : X.N.Nodup) (hi : X.N[i]? = some x) (hx : Loc X.env.scope x) (hf : X.fn x = true \/ X.env.scope.names.lookup x = some .local := by first | exact .inl rfl | exact .inr rfl | assumption) : PG X (.Name x pos) (gName i) := by
 intro pins s σ H v u Q I r h
 exact wpAny_assign_Name (store_ok I hN hi hx r (fun s' I' => ⟨_, H, I', h⟩) hf)
def gNil : TGs := fun vs σ H Q => vs = [] /\ Q σ H
def gCons (t : TG) (u : TGs) : TGs := fun vs σ H Q => ∃ v r, vs = v :: r /\ t v σ H fun σ' H' => u r σ' H' Q
theorem pgs_nil : PGs X [] gNil := by
 intro pins s σ H vs us Q I r h
 obtain ⟨e, h⟩ := h
 subst e
 cases r
 exact assignInOrder_nil ⟨σ, H, I, h⟩
theorem pgs_cons {e : Expr} {es : List Expr} {t : TG} {u : TGs} (h1 : PG X e t) (h2 : PGs X es u)
  (hs : (assignEach (e :: es) X.env).map (·.2) = assign e X.env :: (assignEach es X.env).map (·.2) := by rfl) : PGs X (e :: es) (gCons t u) := by
 intro pins s σ H vs us Q I r h
 obtain ⟨v, vr, e1, h⟩ := h
 subst e1
 cases r with
 | cons r rr =>
  rw [hs]
  refine assignInOrder_cons (thn (h1 pins s σ H _ _ _ I r h) fun _ s1 ⟨σ1, H1, I1, q1⟩ => ?_)
  exact h2 pins s1 σ1 H1 _ _ Q I1 rr q1
def gTup (K : PySem.W.Frag) (n : Nat) (t : TGs) : TG := fun v σ H Q => ∃ a xs, v = .ref a /\ SqT K H a xs /\ xs.length = n /\ t xs σ H Q
theorem pg_tup {es : List Expr} {k : Nat} {t : TGs} {n : Nat} (hc : X.calm = true) (h : PGs X es t)
  (hn : (assignEach es X.env).length = n := by rfl) (hst : (assignEach es X.env).findIdx? (·.1) = none := by rfl) : PG X (.Tuple es k pos) (gTup X.K n t) := by
 intro pins s σ H v u Q I r hw
 obtain ⟨a, xs, e1, hq, hl, hw⟩ := hw
 subst e1
 cases r
 obtain ⟨its, rv, ht, hz⟩ := I.tuple hq
 refine assign_Tuple_tuple (I.ok.hd hc) ht (by simp [hn, <- hl, rv.length]) hst fun h' hx => ?_
 have I1 : Inv X pins σ H { s with heap := h' } := I.kept (t' := s.toks) fun b o e => hx b o (Nat.ne_of_lt (Heap.lt_size e)) e
 exact h pins _ σ H xs _ Q I1 (by simpa using rv) hw
def gSub (to ti : TE) (t : TSet) : TG := fun v σ H Q => to σ H fun o H1 => ti σ H1 fun i H2 => t o i v H2 fun H3 => Q σ H3
theorem pg_sub {o i : Expr} {to ti : TE} {t : TSet} (ho : PE X o to) (hi : PE X i ti) (hs : PSet X t)
  (ha : ∀ v, assign (.Subscript o i pos) X.env v = (do
   let ov <- holding [v] (eval o X.env)
   let iv <- holding [v, ov] (eval i X.env)
   standAt pos
   holding [v, ov, iv] (setItem ov iv v)
   release [v, ov, iv] []) := by intro _; rfl) : PG X (.Subscript o i pos) (gSub to ti t) := by
 intro pins s σ H v u Q I r h
 rw [ha]
 refine wpAny_bind (wpAny_holding (thn (ho pins s σ H _ I h) fun ov s1 ⟨x, H1, I1, r1, q1⟩ => ?_))
 refine wpAny_bind (wpAny_holding (thn (hi pins s1 σ H1 _ I1 q1) fun iv s2 ⟨y, H2, I2, r2, q2⟩ => ?_))
 refine wpAny_bind (wpAny_standAt (wpAny_bind (wpAny_holding (thn (hs pins s2 σ H2 x y v ov iv u _ I2 r1 r2 r q2) fun _ s3 ⟨H3, I3, q3⟩ => ?_))))
 exact wpAny_release ⟨σ, H3, I3, q3⟩
def tAsg (te : TE) (g : TG) : TS := fun D σ H => te σ H fun x H1 => g x σ H1 D.nx
theorem ps_asg {tg e : Expr} {te : TE} {g : TG} (he : PE X e te) (hg : PG X tg g) (hs : swapsWithSole [tg] e pos.line X.env = pure false := by rfl) (hw : swappedStores [tg] e X.env = pure none := by rfl)
  (h1 : (assignEach [tg] X.env).map (·.2) = [assign tg X.env] := by rfl) : PS X (.Assign [tg] e pos) (tAsg te g) := by
 intro pins s σ H D I h
 refine wpAny_Assign_stores (thn (he pins s σ H _ I h) fun v s1 ⟨x, H1, I1, r1, q1⟩ => ?_) hs hw
 rw [h1]
 exact thn (hg pins s1 σ H1 x v _ I1 r1 q1) fun _ s2 q => q
theorem ps_set {i : Nat} {x : Str} {e : Expr} {te : TE} {pos' : Pos} (hN : X.N.Nodup) (hi : X.N[i]? = some x) (hx : Loc X.env.scope x) (he : PE X e te) (hs : swapsWith e (some (.Name x pos')) pos.line X.env = pure false := by rfl) (hf : X.fn x = true \/ X.env.scope.names.lookup x = some .local := by first | exact .inl rfl | exact .inr rfl | assumption) :
  PS X (.Assign [.Name x pos'] e pos) (tAsg te (gName i)) := by
 intro pins s σ H D I h
 refine wpAny_Assign_Name (thn (he pins s σ H _ I h) fun v s1 ⟨y, H1, I1, r1, q1⟩ => ?_) hs
 exact store_ok I1 hN hi hx r1 (fun s2 I2 => ⟨_, H1, I2, q1⟩) hf
def tAugS (to ti te : TE) (tget : V -> V -> Hp -> VK -> Prop) (tip : TIp) (tset : TSet) : TS := fun D σ H => to σ H fun o H1 => ti σ H1 fun i H2 => tget o i H2 fun x H3 => te σ H3 fun y H4 => tip x y H4 fun z H5 => tset o i z H5 fun H6 => D.nx σ H6
def PGet (X : Cx) (t : V -> V -> Hp -> VK -> Prop) : Prop :=
 ∀ (pins : List (Addr × Obj)) (s : Shared) (σ : St) (H : Hp) (o i : V) (ov iv : Value) (Q : VK), Inv X pins σ H s -> RelV o ov -> RelV i iv -> t o i H Q ->
  wpAny (model X.prog X.w) X.A (getItem ov iv) (EP X pins σ Q) X.xe s
theorem ps_augS {o i e : Expr} {to ti te : TE} {tget : V -> V -> Hp -> VK -> Prop} {tip : TIp} {tset : TSet} {op : Operator} {tpos : Pos} (ho : PE X o to) (hi : PE X i ti) (hg : PGet X tget) (he : PE X e te) (hp : PIp X op tip) (hs : PSet X tset)
  (ha : ∀ ov iv new, augStore i ov iv new = (do holding [new, ov, iv] (setItem ov iv new); release [new, ov, iv] []; pure .next) := by intros; rfl) : PS X (.AugAssign (.Subscript o i tpos) op e pos) (tAugS to ti te tget tip tset) := by
 intro pins s σ H D I h
 refine wpAny_AugAssign_SubscriptAny (thn (ho pins s σ H _ I h) fun ov s1 ⟨x1, H1, I1, r1, q1⟩ => ?_) ha
 refine thn (hi pins s1 σ H1 _ I1 q1) fun iv s2 ⟨x2, H2, I2, r2, q2⟩ => ?_
 refine thn (hg pins s2 σ H2 x1 x2 ov iv _ I2 r1 r2 q2) fun old s3 ⟨x3, H3, I3, r3, q3⟩ => ?_
 refine thn (he pins s3 σ H3 _ I3 q3) fun v s4 ⟨x4, H4, I4, r4, q4⟩ => ?_
 refine thn (hp pins s4 σ H4 x3 x4 old v _ I4 r3 r4 q4) fun new s5 ⟨x5, H5, I5, r5, q5⟩ => ?_
 exact thn (hs pins s5 σ H5 x1 x2 x5 ov iv new _ I5 r1 r2 r5 q5) fun _ s6 ⟨H6, I6, q6⟩ => ⟨σ, H6, I6, q6⟩
def ipI (f : Int -> Int -> Int) : TIp := fun x y H Q => ∃ i j, x = .int i /\ y = .int j /\ Q (.int (f i j)) H
theorem ip_add : PIp X .Add (ipI fun i j => i + j) := by
 intro pins s σ H x y v u Q I r1 r2 h
 obtain ⟨i, j, e1, e2, q⟩ := h
 subst e1; subst e2
 obtain ⟨t, rfl⟩ := r1
 obtain ⟨t', rfl⟩ := r2
 exact iadd_int ⟨.int _, H, I.tok _, ⟨_, rfl⟩, q⟩
theorem ip_sub : PIp X .Sub (ipI fun i j => i - j) := by
 intro pins s σ H x y v u Q I r1 r2 h
 obtain ⟨i, j, e1, e2, q⟩ := h
 subst e1; subst e2
 obtain ⟨t, rfl⟩ := r1
 obtain ⟨t', rfl⟩ := r2
 exact isub_int ⟨.int _, H, I.tok _, ⟨_, rfl⟩, q⟩
def tWhile (c : TT) (tb : TS) : TS := fun D σ H => ∃ W : Nat -> St -> Hp -> Prop, (∃ m, W m σ H) /\ ∀ m σ H, W m σ H ->
 c σ H fun b H1 => if b = true then ∃ N : St -> Hp -> Prop, (∀ σ' H', N σ' H' -> ∃ m', m' < m /\ W m' σ' H') /\ tb { D with nx := N, ct := N, bk := D.nx } σ H1 else D.nx σ H1
theorem ps_while {c : Expr} {body : List Stmt} {tc : TT} {tb : TS} (hp : PassesOwn (model X.prog X.w) X.A X.env X.xe) (hc : PT X c tc) (hb : PSs X body tb) : PS X (.While c body [] pos) (tWhile tc tb) := by
 intro pins s σ H D I h
 obtain ⟨W, ⟨m0, w0⟩, turn⟩ := h
 refine wpAny_While (codeAny_whileLoop (fun n s' => ∃ σ' H', Inv X pins σ' H' s' /\ W n σ' H') ?_ m0 ⟨σ, H, I, w0⟩)
 rintro n s1 ⟨σ1, H1, I1, w1⟩
 refine wpAny_passesOwn hp (thn (hc pins s1 σ1 H1 _ I1 (turn n σ1 H1 w1)) fun b s2 ⟨H2, I2, q2⟩ => ?_)
 cases b with
 | true =>
  obtain ⟨N, hN, q2⟩ := q2
  rw [if_pos rfl]
  refine wpAny_passesOwn hp (thn (hb pins s2 σ1 H2 _ I2 q2) fun f s3 q3 => ?_)
  cases f with
  | next =>
   obtain ⟨σ3, H3, I3, n3⟩ := q3
   obtain ⟨m', hm, w3⟩ := hN σ3 H3 n3
   exact ⟨m', hm, σ3, H3, I3, w3⟩
  | cont =>
   obtain ⟨σ3, H3, I3, n3⟩ := q3
   obtain ⟨m', hm, w3⟩ := hN σ3 H3 n3
   exact ⟨m', hm, σ3, H3, I3, w3⟩
  | brk => exact q3
  | ret v => exact q3
 | false =>
  rw [if_neg Bool.false_ne_true]
  exact wpAny_execs_nil ⟨σ1, H2, I2, q2⟩
end
structure It where
 go : Nat -> Hp -> Prop
 yld : Nat -> Hp -> V -> Hp -> Prop
 stop : Nat -> Hp -> Prop
def FpOk (X : Cx) (pins : List (Addr × Obj)) (H : Hp) (b : Addr) : Prop :=
 H b = none /\ b ≠ X.env.locals /\ b ∉ X.fs /\ (b ∈ X.ex \/ X.s₀.heap.objs.size <= b) /\ (∀ x c, X.env.cells.lookup x = some c -> c ≠ b) /\ ∀ p ∈ X.pn ++ pins, p.1 ≠ b
theorem Inv.fpOk {X : Cx} {pins : List (Addr × Obj)} {σ : St} {H H' : Hp} {s : Shared} {b : Addr} (I : Inv X pins σ H s) (hb : s.heap.objs.size <= b) (hn : H' b = none) : FpOk X pins H' b := by
 refine ⟨hn, Nat.ne_of_gt (Nat.lt_of_lt_of_le I.lt hb), I.nofs hb, .inr (Nat.le_trans I.sz hb), fun x c e z => ?_, fun p hp z => ?_⟩
 ·obtain ⟨v, q⟩ := I.cell x c e
  exact absurd (Nat.lt_of_lt_of_le q.lt (by rw [z]; exact hb)) (Nat.lt_irrefl _)
 ·exact absurd (Nat.lt_of_lt_of_le (Heap.lt_size (I.pin p hp).1) (by rw [z]; exact hb)) (Nat.lt_irrefl _)
structure Turn (P : Program) (w : World) (K : PySem.W.Frag) (tg : Expr) (J : It) (fp : List Addr) (it : Addr) (tn : Nat -> Heap -> Prop) : Prop where
 mem : it ∈ fp
 obj : ∀ i h, tn i h -> ∀ b ∈ fp, ∃ o, h.get? b = some o /\ ∀ v, o.data ≠ .cell v
 keep : ∀ i h h', tn i h -> (∀ b ∈ fp, ∀ o, h.get? b = some o -> h'.get? b = some o) -> tn i h'
 item : ∀ (X : Cx), X.prog = P -> X.w = w -> X.K = K -> X.calm = true -> ∀ (i : Nat) (pins : List (Addr × Obj)) (s : Shared) (σ : St) (H : Hp) (E : Value -> Shared -> Prop), Inv X pins σ H s -> (∀ b ∈ fp, FpOk X pins H b) -> tn i s.heap -> J.go i H ->
  wpAny (model P w) X.A (pyNext (.ref it)) (fun r s1 => ∃ u, r = some u /\
   wpAny (model P w) X.A (letOwnedTupleGo tg (.ref it) u) (fun _ s2 => ∃ x H', Inv X pins σ H' s2 /\ RelV x u /\ J.yld i H x H' /\ tn (i + 1) s2.heap /\ ∀ b ∈ fp, H' b = none) E s1) E s
 done : ∀ (X : Cx), X.prog = P -> X.w = w -> X.K = K -> X.calm = true -> ∀ (i : Nat) (pins : List (Addr × Obj)) (s : Shared) (σ : St) (H : Hp) (E : Value -> Shared -> Prop), Inv X pins σ H s -> (∀ b ∈ fp, FpOk X pins H b) -> tn i s.heap -> J.stop i H ->
  wpAny (model P w) X.A (pyNext (.ref it)) (fun r s1 => r = none /\ Inv X pins σ H s1) E s
 self : ∀ (A : Around) (i : Nat) (s : Shared) (Q : Value -> Shared -> Prop) (E : Value -> Shared -> Prop), tn i s.heap -> Q (.ref it) s -> wpAny (model P w) A (pyIter (.ref it)) Q E s
abbrev TI := St -> Hp -> (It -> Hp -> Prop) -> Prop
def PIE (X : Cx) (pins : List (Addr × Obj)) (σ : St) (tg : Expr) (R : It -> Hp -> Prop) (itv : Value) (s2 : Shared) : Prop :=
 ∃ (it : Addr) (fp : List Addr) (tn : Nat -> Heap -> Prop) (J : It) (H' : Hp), itv = .ref it /\ Inv X pins σ H' s2 /\ Turn X.prog X.w X.K tg J fp it tn /\ tn 0 s2.heap /\ (∀ b ∈ fp, FpOk X pins H' b) /\ R J H'
def PI (X : Cx) (tg iter : Expr) (wi : TI) : Prop :=
 ∀ (pins : List (Addr × Obj)) (s : Shared) (σ : St) (H : Hp) (R : It -> Hp -> Prop), Inv X pins σ H s -> wi σ H R ->
  wpAny (model X.prog X.w) X.A (eval iter X.env) (fun v s1 => wpAny (model X.prog X.w) X.A (pyIter v) (PIE X pins σ tg R) X.xe s1) X.xe s
theorem go_of {M : Model} {A : Around} {E : Value -> Shared -> Prop} {s : Shared} {tg : Expr} {it : Addr} {u : Value} {o : Obj} {n : String} {vs : Array Value} {Q : Unit -> Shared -> Prop} (ho : s.heap.get? it = some o) (hc : o.cls = .type n) (hd : o.data = .fields vs)
  (hn : ["enumerate", "zip", "dict_itemiterator", "dict_reverseitemiterator", "odict_iterator", "itertools.zip_longest", "itertools.pairwise"].contains n = false) (hQ : Q () s) : wpAny M A (letOwnedTupleGo tg (.ref it) u) Q E s := by
 unfold letOwnedTupleGo
 cases tg <;> first
  | exact wpAny_pure hQ
  | (cases u <;> first
    | exact wpAny_pure hQ
    | (refine wpAny_bind (wpAny_load ho ?_)
       rw [hc, hd]
       show wpAny M A (if (["enumerate", "zip", "dict_itemiterator", "dict_reverseitemiterator", "odict_iterator", "itertools.zip_longest", "itertools.pairwise"].contains n && vs[0]? == some (rawInt _)) = true then _ else _) Q E s
       rw [if_neg (by intro h; rw [hn, Bool.false_and] at h; cases h)]
       exact wpAny_pure hQ))
def Itl (K : PySem.W.Frag) (a : Addr) : It :=
 ⟨fun i H => ∃ xs x, SqL K H a xs /\ xs[i]? = some x, fun i H x H' => H' = H /\ ∀ xs, SqL K H a xs -> xs[i]? = some x, fun i H => ∃ xs, SqL K H a xs /\ xs.length <= i⟩
def Itt (K : PySem.W.Frag) (a : Addr) : It :=
 ⟨fun i H => ∃ xs x, SqT K H a xs /\ xs[i]? = some x, fun i H x H' => H' = H /\ ∀ xs, SqT K H a xs -> xs[i]? = some x, fun i H => ∃ xs, SqT K H a xs /\ xs.length <= i⟩
def Itr (lo : Int) (n : Nat) : It := ⟨fun i _ => i < n, fun i H x H' => H' = H /\ x = .int (lo + i), fun i _ => n <= i⟩
theorem turn_list {P : Program} {w : World} {K : PySem.W.Frag} {tg : Expr} (a it : Addr) : Turn P w K tg (Itl K a) [it] it (fun i h => h.IsListIter it a i) where
 mem := by simp
 obj := fun i h st b hb => by
  have e : b = it := by simpa using hb
  subst e
  obtain ⟨o, e, c, d⟩ := st
  exact ⟨o, e, fun v z => by rw [d] at z; cases z⟩
 keep := fun i h h' st k => st.at fun o e => k it (by simp) o e
 item := by
  intro X hP hw hK hc i pins s σ H E I hf st hg
  subst hP hw hK
  obtain ⟨xs, x, hq, hx⟩ := hg
  obtain ⟨its, rv, p, hz⟩ := I.list hq
  obtain ⟨u, hu, ru⟩ := rv.get hx
  obtain ⟨f0, f1, f2, f3, f4, f5⟩ := hf it (by simp)
  refine wpAny_pyNext_list_item st p.isList (x := u) (by simpa using hu) fun h' st' sb => ?_
  have I1 : Inv X pins σ H { s with heap := h' } := I.turned (t' := s.toks) (fun b o hb e => (sb.2 b hb).trans e) f0 f1 f3 f4 f5
  obtain ⟨o, e, c, d⟩ := id st'
  exact ⟨u, rfl, go_of (s := { s with heap := h' }) e c d (by decide) ⟨x, H, I1, ru, ⟨rfl, fun ys hy => by rw [I.list_inj hy hq]; exact hx⟩, st', fun b hb => (hf b hb).1⟩⟩
 done := by
  intro X hP hw hK hc i pins s σ H E I hf st hg
  subst hP hw hK
  obtain ⟨xs, hq, hx⟩ := hg
  obtain ⟨its, rv, p, hz⟩ := I.list hq
  obtain ⟨f0, f1, f2, f3, f4, f5⟩ := hf it (by simp)
  have hl := rv.length
  exact wpAny_pyNext_list_end (I.ok.hd hc) st p.isList (by simp; omega) fun h' eb => ⟨rfl, I.turned (t' := s.toks) (fun b o hb e => eb b o hb e) f0 f1 f3 f4 f5⟩
 self := fun _ _ _ _ _ st h => wpAny_pyIter_listiter st h
theorem turn_tuple {P : Program} {w : World} {K : PySem.W.Frag} {tg : Expr} (a it : Addr) : Turn P w K tg (Itt K a) [it] it (fun i h => h.IsTupleIter it a i) where
 mem := by simp
 obj := fun i h st b hb => by
  have e : b = it := by simpa using hb
  subst e
  obtain ⟨o, e, c, d⟩ := st
  exact ⟨o, e, fun v z => by rw [d] at z; cases z⟩
 keep := fun i h h' st k => st.at fun o e => k it (by simp) o e
 item := by
  intro X hP hw hK hc i pins s σ H E I hf st hg
  subst hP hw hK
  obtain ⟨xs, x, hq, hx⟩ := hg
  obtain ⟨its, rv, p, hz⟩ := I.tuple hq
  obtain ⟨u, hu, ru⟩ := rv.get hx
  obtain ⟨f0, f1, f2, f3, f4, f5⟩ := hf it (by simp)
  refine wpAny_pyNext_tuple_item st (show s.heap.IsTuple a its.toArray from p) (x := u) (by simpa using hu) fun h' st' sb => ?_
  have I1 : Inv X pins σ H { s with heap := h' } := I.turned (t' := s.toks) (fun b o hb e => (sb.2 b hb).trans e) f0 f1 f3 f4 f5
  obtain ⟨o, e, c, d⟩ := id st'
  exact ⟨u, rfl, go_of (s := { s with heap := h' }) e c d (by decide) ⟨x, H, I1, ru, ⟨rfl, fun ys hy => by rw [I.tuple_inj hy hq]; exact hx⟩, st', fun b hb => (hf b hb).1⟩⟩
 done := by
  intro X hP hw hK hc i pins s σ H E I hf st hg
  subst hP hw hK
  obtain ⟨xs, hq, hx⟩ := hg
  obtain ⟨its, rv, p, hz⟩ := I.tuple hq
  obtain ⟨f0, f1, f2, f3, f4, f5⟩ := hf it (by simp)
  have hl := rv.length
  exact wpAny_pyNext_tuple_end (I.ok.hd hc) st (show s.heap.IsTuple a its.toArray from p) (by simp; omega) fun h' eb => ⟨rfl, I.turned (t' := s.toks) (fun b o hb e => eb b o hb e) f0 f1 f3 f4 f5⟩
 self := fun _ _ _ _ _ st h => wpAny_pyIter_tupleiter st h
theorem turn_range {P : Program} {w : World} {K : PySem.W.Frag} {tg : Expr} (it : Addr) (lo : Int) (n : Nat) : Turn P w K tg (Itr lo n) [it] it (fun i h => IsRangeIter h it (lo + (i : Nat) * 1) ((n : Int) - (i : Nat)) 1) where
 mem := by simp
 obj := fun i h st b hb => by
  have e : b = it := by simpa using hb
  subst e
  exact ⟨_, st, fun v z => by
   have z' : Data.fields _ = Data.cell v := z
   cases z'⟩
 keep := fun i h h' st k => k it (by simp) _ st
 item := by
  intro X hP hw hK hc i pins s σ H E I hf st hg
  subst hP hw hK
  obtain ⟨f0, f1, f2, f3, f4, f5⟩ := hf it (by simp)
  have W := Walks.range (prog := X.prog) (w := X.w) (I.ok.hd hc) it lo 1 n
  refine W.item i s _ _ hg st fun v h' tk hv st' kk => ?_
  obtain ⟨t, rfl⟩ := hv
  have I1 : Inv X pins σ H { s with heap := h', toks := tk } := I.turned (fun b o hb e => kk b o (by simpa using hb) e) f0 f1 f3 f4 f5
  refine ⟨_, rfl, go_of (s := { s with heap := h', toks := tk }) (n := "range_iterator") st' rfl rfl (by decide) ⟨.int (lo + i), H, I1, ⟨t, ?_⟩, ⟨rfl, rfl⟩, st', fun b hb => (hf b hb).1⟩⟩
  rw [Int.mul_one]
 done := by
  intro X hP hw hK hc i pins s σ H E I hf st hg
  subst hP hw hK
  obtain ⟨f0, f1, f2, f3, f4, f5⟩ := hf it (by simp)
  exact wpAny_pyNext_range_end (I.ok.hd hc) st (by have : n <= i := hg; omega) fun h' eb => ⟨rfl, I.turned (t' := s.toks) (fun b o hb e => eb b o hb e) f0 f1 f3 f4 f5⟩
 self := fun _ _ _ _ _ st h => wpAny_pyIter_rangeiter st h
section
variable {X : Cx} {tg : Expr}
def iList (K : PySem.W.Frag) (tl : TE) : TI := fun σ H R => tl σ H fun x H1 => ∃ a, x = .ref a /\ (∃ xs, SqL K H1 a xs) /\ R (Itl K a) H1
def iTup (K : PySem.W.Frag) (tl : TE) : TI := fun σ H R => tl σ H fun x H1 => ∃ a, x = .ref a /\ (∃ xs, SqT K H1 a xs) /\ R (Itt K a) H1
theorem pi_list {l : Expr} {tl : TE} (hl : PE X l tl) : PI X tg l (iList X.K tl) := by
 intro pins s σ H R I h
 refine thn (hl pins s σ H _ I h) fun v s1 ⟨x, H1, I1, r1, q1⟩ => ?_
 obtain ⟨a, e, ⟨xs, hq⟩, q⟩ := q1
 subst e
 cases r1
 obtain ⟨its, rv, p, hz⟩ := I1.list hq
 refine wpAny_pyIter_list p.isList ?_
 refine ⟨s1.heap.objs.size, [s1.heap.objs.size], _, _, H1, rfl, I1.kept (t' := s1.toks) fun b o e => Heap.get?_push_of_some _ e, turn_list a _, ⟨_, Heap.get?_push_size _ rfl, rfl, rfl⟩, fun b hb => ?_, q⟩
 have e : b = s1.heap.objs.size := by simpa using hb
 subst e
 exact I1.fpOk (Nat.le_refl _) (I1.hok.fresh (Nat.le_refl _))
theorem pi_tup {l : Expr} {tl : TE} (hl : PE X l tl) : PI X tg l (iTup X.K tl) := by
 intro pins s σ H R I h
 refine thn (hl pins s σ H _ I h) fun v s1 ⟨x, H1, I1, r1, q1⟩ => ?_
 obtain ⟨a, e, ⟨xs, hq⟩, q⟩ := q1
 subst e
 cases r1
 obtain ⟨its, rv, p, hz⟩ := I1.tuple hq
 refine wpAny_pyIter_tuple (show s1.heap.IsTuple a its.toArray from p) ?_
 refine ⟨s1.heap.objs.size, [s1.heap.objs.size], _, _, H1, rfl, I1.kept (t' := s1.toks) fun b o e => Heap.get?_push_of_some _ e, turn_tuple a _, ⟨_, Heap.get?_push_size _ rfl, rfl, rfl⟩, fun b hb => ?_, q⟩
 have e : b = s1.heap.objs.size := by simpa using hb
 subst e
 exact I1.fpOk (Nat.le_refl _) (I1.hok.fresh (Nat.le_refl _))
theorem range_it {pins : List (Addr × Obj)} {σ : St} {H : Hp} {s : Shared} {R : It -> Hp -> Prop} {E : Value -> Shared -> Prop} {lo hi : Int} {t u v : Tok} {tk : Nat} (I : Inv X pins σ H s) (h1 : -(2 ^ 62) <= lo) (h2 : lo < 2 ^ 62) (h3 : -(2 ^ 62) <= hi) (h4 : hi < 2 ^ 62)
  (q : R (Itr lo (hi - lo).toNat) H) : wpAny (model X.prog X.w) X.A (pyIter (.ref s.heap.objs.size)) (PIE X pins σ tg R) E { s with heap := s.heap.push { cls := .type "range", data := .fields #[.int lo t, .int hi u, .int 1 v] }, toks := tk } := by
 refine wpAny_pyIter_range (IsRange.new ..) (small_one h1 h2 h3 h4) ?_
 have I1 : Inv X pins σ H { s with heap := s.heap.push { cls := .type "range", data := .fields #[.int lo t, .int hi u, .int 1 v] }, toks := tk } := I.kept fun b o e => Heap.get?_push_of_some _ e
 refine ⟨(s.heap.push { cls := .type "range", data := .fields #[.int lo t, .int hi u, .int 1 v] }).objs.size, [(s.heap.push { cls := .type "range", data := .fields #[.int lo t, .int hi u, .int 1 v] }).objs.size], _, _, H, rfl,
  I1.kept (t' := tk) fun b o e => Heap.get?_push_of_some _ e, turn_range _ lo (hi - lo).toNat, ?_, fun b hb => ?_, q⟩
 ·have e1 : lo + ((0 : Nat) : Int) * 1 = lo := by simp
  have e2 : (((hi - lo).toNat : Nat) : Int) - ((0 : Nat) : Int) = Builtin.Range.rangeSize lo hi 1 := by rw [rangeSize_one]; split <;> omega
  show IsRangeIter _ _ (lo + ((0 : Nat) : Int) * 1) ((((hi - lo).toNat : Nat) : Int) - ((0 : Nat) : Int)) 1
  rw [e1, e2]
  exact Heap.get?_push_size _ rfl
 ·have e : b = (s.heap.push { cls := .type "range", data := .fields #[.int lo t, .int hi u, .int 1 v] }).objs.size := by simpa using hb
  subst e
  exact I1.fpOk (Nat.le_refl _) (I1.hok.fresh (Nat.le_refl _))
def iRng1 (ta : TA) : TI := fun σ H R => ta σ H fun vs H1 => ∃ j : Int, vs = [.int j] /\ -(2 ^ 62) <= j /\ j < 2 ^ 62 /\ R (Itr 0 j.toNat) H1
def iRng2 (ta : TA) : TI := fun σ H R => ta σ H fun vs H1 => ∃ i j : Int, vs = [.int i, .int j] /\ (-(2 ^ 62) <= i /\ i < 2 ^ 62 /\ -(2 ^ 62) <= j /\ j < 2 ^ 62) /\ R (Itr i (j - i).toNat) H1
theorem pi_range1 {a : Expr} {ta : TA} {p pos : Pos} (hg : Gl X "range") (hm : X.mg "range" = none) (ha : PA X [a] ta) (hs : starEach [a] X.env = [(false, eval a X.env)] := by rfl) : PI X tg (.Call (.Name "range" p) [a] [] pos) (iRng1 ta) := by
 intro pins s σ H R I h
 refine Call_ (ld_blt I hg hm boot_range (PyProof.Rows.callWith_type1 (thn (ha pos pins s σ H _ I h) fun us s1 ⟨vs, H1, I1, r1, q1⟩ => ?_) hs rfl))
 obtain ⟨j, e, q1, q2, q⟩ := q1
 subst e
 cases r1 with
 | cons r rr =>
  cases rr
  obtain ⟨t, rfl⟩ := r
  exact call_range_1 (range_it I1 (by omega) (by omega) q1 q2 (by simpa using q))
theorem pi_range2 {a b : Expr} {ta : TA} {p pos : Pos} (hg : Gl X "range") (hm : X.mg "range" = none) (ha : PA X [a, b] ta) (hs : starEach [a, b] X.env = [(false, eval a X.env), (false, eval b X.env)] := by rfl) (hs2 : starEach [b] X.env = [(false, eval b X.env)] := by rfl) :
  PI X tg (.Call (.Name "range" p) [a, b] [] pos) (iRng2 ta) := by
 intro pins s σ H R I h
 refine Call_ (ld_blt I hg hm boot_range (PyProof.Rows.callWith_type1 (thn (ha pos pins s σ H _ I h) fun us s1 ⟨vs, H1, I1, r1, q1⟩ => ?_) (by rw [hs, hs2]) (by rw [hs2]; rfl)))
 obtain ⟨i, j, e, ⟨q1, q2, q3, q4⟩, q⟩ := q1
 subst e
 cases r1 with
 | cons r rr =>
  cases rr with
  | cons r' rr =>
   cases rr
   obtain ⟨t, rfl⟩ := r
   obtain ⟨t', rfl⟩ := r'
   exact call_range_2 (range_it I1 q1 q2 q3 q4 q)
def tFor (wi : TI) (g : TG) (tb : TS) : TS := fun D σ H => wi σ H fun J H1 => ∃ W : Nat -> Nat -> St -> Hp -> Prop, (∃ m, W 0 m σ H1) /\ ∀ i m σ H, W i m σ H ->
 (J.stop i H /\ D.nx σ H) \/ (J.go i H /\ ∃ N : St -> Hp -> Prop, (∀ σ' H', N σ' H' -> ∃ m', m' < m /\ W (i + 1) m' σ' H') /\ ∀ x H', J.yld i H x H' -> g x σ H' fun σ2 H2 => tb { D with nx := N, ct := N, bk := D.nx } σ2 H2)
def pinsAt (fp : List Addr) (h : Heap) : List (Addr × Obj) := fp.filterMap fun b => (h.get? b).map fun o => (b, o)
theorem mem_pinsAt {fp : List Addr} {h : Heap} {b : Addr} {o : Obj} (hb : b ∈ fp) (e : h.get? b = some o) : (b, o) ∈ pinsAt fp h := List.mem_filterMap.mpr ⟨b, hb, by rw [e]; rfl⟩
theorem of_pinsAt {fp : List Addr} {h : Heap} {p : Addr × Obj} (hp : p ∈ pinsAt fp h) : p.1 ∈ fp /\ h.get? p.1 = some p.2 := by
 obtain ⟨b, hb, e⟩ := List.mem_filterMap.mp hp
 cases q : h.get? b with
 | none => rw [q] at e; cases e
 | some o =>
  rw [q] at e
  have e' : (b, o) = p := Option.some.inj e
  subst e'
  exact ⟨hb, q⟩
theorem Inv.pinned {pins : List (Addr × Obj)} {σ : St} {H : Hp} {s : Shared} {fp : List Addr} (I : Inv X pins σ H s) (hf : ∀ b ∈ fp, FpOk X pins H b) (ho : ∀ b ∈ fp, ∃ o, s.heap.get? b = some o /\ ∀ v, o.data ≠ .cell v) : Inv X (pins ++ pinsAt fp s.heap) σ H s :=
 I.pins_of fun p hp => (List.mem_append.mp hp).elim (fun z => I.pin p (List.mem_append_right _ z)) fun z => by
  obtain ⟨hb, e⟩ := of_pinsAt z
  obtain ⟨f0, f1, f2, _⟩ := hf p.1 hb
  obtain ⟨o, e', d⟩ := ho p.1 hb
  rw [e] at e'; cases e'
  exact ⟨e, f0, f1, f2, d⟩
theorem Inv.unpinned {pins pl : List (Addr × Obj)} {σ : St} {H : Hp} {s : Shared} (I : Inv X (pins ++ pl) σ H s) : Inv X pins σ H s := I.pins_of fun p hp => I.pin p (List.mem_append_right _ (List.mem_append_left _ hp))
theorem ps_for {iter : Expr} {body : List Stmt} {wi : TI} {g : TG} {tb : TS} {pos : Pos} (hp : PassesOwn (model X.prog X.w) X.A X.env X.xe) (hc : X.calm = true) (hi : PI X tg iter wi) (hg : PG X tg g) (hb : PSs X body tb)
  (hs : ∀ x, foldedSetIterable iter X.env x = pure x := by intro _; rfl) : PS X (.For tg iter body [] pos) (tFor wi g tb) := by
 intro pins s σ H D I h
 refine wpAny_For (thn (hi pins s σ H _ I h) fun v s1 h1 => thn h1 fun itv s2 h2 => ?_) hs
 obtain ⟨it, fp, tn, J, H2, e, I2, T, st2, f2, W, ⟨m0, w0⟩, turn⟩ := h2
 subst e
 have stat : ∀ {H' : Hp}, (∀ b ∈ fp, H' b = none) -> ∀ b ∈ fp, FpOk X pins H' b := fun hn b hb => ⟨hn b hb, (f2 b hb).2⟩
 refine codeAny_forLoop_any (fun n s' => ∃ i σ' H', Inv X pins σ' H' s' /\ tn i s'.heap /\ (∀ b ∈ fp, H' b = none) /\ W i n σ' H') ?_ m0 ⟨0, σ, H2, I2, st2, fun b hb => (f2 b hb).1, w0⟩
 rintro n s3 ⟨i, σ3, H3, I3, st3, fr3, w3⟩
 rcases turn i n σ3 H3 w3 with ⟨stop, qn⟩ | ⟨go, N, hN, step⟩
 ·refine wpAny_passesOwn hp (thn (T.done X rfl rfl rfl hc i pins s3 σ3 H3 X.xe I3 (stat fr3) st3 stop) fun r s4 ⟨hr, I4⟩ => ?_)
  subst hr
  exact wpAny_execs_nil ⟨σ3, H3, I4, qn⟩
 ·refine wpAny_passesOwn hp (thn (T.item X rfl rfl rfl hc i pins s3 σ3 H3 X.xe I3 (stat fr3) st3 go) fun r s4 ⟨u, hr, h4⟩ => ?_)
  subst hr
  refine wpAny_passesOwn hp (thn h4 fun _ s5 ⟨x, H5, I5, r5, y5, st5, fr5⟩ => ?_)
  have I5' := I5.pinned (stat fr5) (T.obj _ _ st5)
  refine wpAny_passesOwn hp (thn (hg _ s5 σ3 H5 x u _ I5' r5 (step x H5 y5)) fun _ s6 ⟨σ6, H6, I6, q6⟩ => ?_)
  refine wpAny_passesOwn hp (thn (hb _ s6 σ6 H6 _ I6 q6) fun f s7 q7 => ?_)
  have again : ∀ {σ7 : St} {H7 : Hp}, Inv X (pins ++ pinsAt fp s5.heap) σ7 H7 s7 -> N σ7 H7 -> ∃ m, m < n /\ ∃ i σ' H', Inv X pins σ' H' s7 /\ tn i s7.heap /\ (∀ b ∈ fp, H' b = none) /\ W i m σ' H' := fun {σ7 H7} I7 n7 => by
   obtain ⟨m', hm, w7⟩ := hN σ7 H7 n7
   refine ⟨m', hm, i + 1, σ7, H7, I7.unpinned, T.keep _ _ _ st5 fun b hb o e => (I7.pin (b, o) (List.mem_append_right _ (List.mem_append_right _ (mem_pinsAt hb e)))).1, fun b hb => ?_, w7⟩
   obtain ⟨o, e, d⟩ := T.obj _ _ st5 b hb
   exact (I7.pin (b, o) (List.mem_append_right _ (List.mem_append_right _ (mem_pinsAt hb e)))).2.1
  cases f with
  | next => obtain ⟨σ7, H7, I7, n7⟩ := q7; exact again I7 n7
  | cont => obtain ⟨σ7, H7, I7, n7⟩ := q7; exact again I7 n7
  | brk => obtain ⟨σ7, H7, I7, q7⟩ := q7; exact ⟨σ7, H7, I7.unpinned, q7⟩
  | ret v => obtain ⟨x7, σ7, H7, I7, r7, q7⟩ := q7; exact ⟨x7, σ7, H7, I7.unpinned, r7, q7⟩
end
theorem for_list {K : PySem.W.Frag} {a : Addr} {xs : List V} {g : TG} {tb : TS} {D : Ends} {σ : St} {H : Hp} (Pv : Nat -> St -> Hp -> Prop) (h0 : Pv 0 σ H) (hl : ∀ i σ H, i <= xs.length -> Pv i σ H -> SqL K H a xs)
  (hs : ∀ i x σ H, xs[i]? = some x -> Pv i σ H -> g x σ H fun σ2 H2 => tb { D with nx := Pv (i + 1), ct := Pv (i + 1), bk := D.nx } σ2 H2) (hd : ∀ σ H, Pv xs.length σ H -> D.nx σ H) :
  ∃ W : Nat -> Nat -> St -> Hp -> Prop, (∃ m, W 0 m σ H) /\ ∀ i m σ H, W i m σ H ->
   ((Itl K a).stop i H /\ D.nx σ H) \/ ((Itl K a).go i H /\ ∃ N : St -> Hp -> Prop, (∀ σ' H', N σ' H' -> ∃ m', m' < m /\ W (i + 1) m' σ' H') /\ ∀ x H', (Itl K a).yld i H x H' -> g x σ H' fun σ2 H2 => tb { D with nx := N, ct := N, bk := D.nx } σ2 H2) := by
 refine ⟨fun i m σ H => m = xs.length - i /\ i <= xs.length /\ Pv i σ H, ⟨xs.length, by simp, Nat.zero_le _, h0⟩, ?_⟩
 rintro i m σ H ⟨rfl, hi, p⟩
 have q := hl i σ H hi p
 by_cases hlt : i < xs.length
 ·refine .inr ⟨⟨xs, xs[i], q, by simp [hlt]⟩, Pv (i + 1), fun σ' H' p' => ⟨xs.length - (i + 1), by omega, rfl, hlt, p'⟩, fun x H' y => ?_⟩
  obtain ⟨e, y⟩ := y
  subst e
  exact hs i x σ _ (y xs q) p
 ·have e : i = xs.length := by omega
  subst e
  exact .inl ⟨⟨xs, q, Nat.le_refl _⟩, hd σ H p⟩
theorem for_tup {K : PySem.W.Frag} {a : Addr} {xs : List V} {g : TG} {tb : TS} {D : Ends} {σ : St} {H : Hp} (Pv : Nat -> St -> Hp -> Prop) (h0 : Pv 0 σ H) (hl : ∀ i σ H, i <= xs.length -> Pv i σ H -> SqT K H a xs)
  (hs : ∀ i x σ H, xs[i]? = some x -> Pv i σ H -> g x σ H fun σ2 H2 => tb { D with nx := Pv (i + 1), ct := Pv (i + 1), bk := D.nx } σ2 H2) (hd : ∀ σ H, Pv xs.length σ H -> D.nx σ H) :
  ∃ W : Nat -> Nat -> St -> Hp -> Prop, (∃ m, W 0 m σ H) /\ ∀ i m σ H, W i m σ H ->
   ((Itt K a).stop i H /\ D.nx σ H) \/ ((Itt K a).go i H /\ ∃ N : St -> Hp -> Prop, (∀ σ' H', N σ' H' -> ∃ m', m' < m /\ W (i + 1) m' σ' H') /\ ∀ x H', (Itt K a).yld i H x H' -> g x σ H' fun σ2 H2 => tb { D with nx := N, ct := N, bk := D.nx } σ2 H2) := by
 refine ⟨fun i m σ H => m = xs.length - i /\ i <= xs.length /\ Pv i σ H, ⟨xs.length, by simp, Nat.zero_le _, h0⟩, ?_⟩
 rintro i m σ H ⟨rfl, hi, p⟩
 have q := hl i σ H hi p
 by_cases hlt : i < xs.length
 ·refine .inr ⟨⟨xs, xs[i], q, by simp [hlt]⟩, Pv (i + 1), fun σ' H' p' => ⟨xs.length - (i + 1), by omega, rfl, hlt, p'⟩, fun x H' y => ?_⟩
  obtain ⟨e, y⟩ := y
  subst e
  exact hs i x σ _ (y xs q) p
 ·have e : i = xs.length := by omega
  subst e
  exact .inl ⟨⟨xs, q, Nat.le_refl _⟩, hd σ H p⟩
theorem for_range {lo : Int} {n : Nat} {g : TG} {tb : TS} {D : Ends} {σ : St} {H : Hp} (Pv : Nat -> St -> Hp -> Prop) (h0 : Pv 0 σ H)
  (hs : ∀ i σ H, i < n -> Pv i σ H -> g (.int (lo + i)) σ H fun σ2 H2 => tb { D with nx := Pv (i + 1), ct := Pv (i + 1), bk := D.nx } σ2 H2) (hd : ∀ σ H, Pv n σ H -> D.nx σ H) :
  ∃ W : Nat -> Nat -> St -> Hp -> Prop, (∃ m, W 0 m σ H) /\ ∀ i m σ H, W i m σ H ->
   ((Itr lo n).stop i H /\ D.nx σ H) \/ ((Itr lo n).go i H /\ ∃ N : St -> Hp -> Prop, (∀ σ' H', N σ' H' -> ∃ m', m' < m /\ W (i + 1) m' σ' H') /\ ∀ x H', (Itr lo n).yld i H x H' -> g x σ H' fun σ2 H2 => tb { D with nx := N, ct := N, bk := D.nx } σ2 H2) := by
 refine ⟨fun i m σ H => m = n - i /\ i <= n /\ Pv i σ H, ⟨n, by simp, Nat.zero_le _, h0⟩, ?_⟩
 rintro i m σ H ⟨rfl, hi, p⟩
 by_cases hlt : i < n
 ·refine .inr ⟨hlt, Pv (i + 1), fun σ' H' p' => ⟨n - (i + 1), by omega, rfl, hlt, p'⟩, fun x H' y => ?_⟩
  obtain ⟨e, y⟩ := y
  subst e y
  exact hs i σ _ hlt p
 ·have e : i = n := by omega
  subst e
  exact .inl ⟨Nat.le_refl _, hd σ H p⟩
abbrev R2 := V -> V -> Hp -> VK -> Prop
def OpR (X : Cx) (f : Value -> Value -> Sem Value) (r : R2) : Prop :=
 ∀ (pins : List (Addr × Obj)) (s : Shared) (σ : St) (H : Hp) (x y : V) (v u : Value) (Q : VK), Inv X pins σ H s -> RelV x v -> RelV y u -> r x y H Q ->
  wpAny (model X.prog X.w) X.A (f v u) (EP X pins σ Q) X.xe s
def UnR (X : Cx) (f : Value -> Sem Value) (r : V -> Hp -> VK -> Prop) : Prop :=
 ∀ (pins : List (Addr × Obj)) (s : Shared) (σ : St) (H : Hp) (x : V) (v : Value) (Q : VK), Inv X pins σ H s -> RelV x v -> r x H Q ->
  wpAny (model X.prog X.w) X.A (f v) (EP X pins σ Q) X.xe s
def CallR (X : Cx) (f : Value) (r : List V -> Hp -> VK -> Prop) : Prop :=
 ∀ (pins : List (Addr × Obj)) (s : Shared) (σ : St) (H : Hp) (xs : List V) (us : List Value) (Q : VK), Inv X pins σ H s -> Vals xs us -> r xs H Q ->
  wpAny (model X.prog X.w) X.A (call f us) (EP X pins σ Q) X.xe s
def tOp (r : R2) (ta tb : TE) : TE := fun σ H Q => ta σ H fun x H1 => tb σ H1 fun y H2 => r x y H2 Q
def tUn (r : V -> Hp -> VK -> Prop) (ta : TE) : TE := fun σ H Q => ta σ H fun x H1 => r x H1 Q
def rI (C : Int -> Int -> Prop) (g : Int -> Int -> V) : R2 := fun x y H Q => ∃ i j, x = .int i /\ y = .int j /\ C i j /\ Q (g i j) H
def rI0 (g : Int -> Int -> V) : R2 := fun x y H Q => ∃ i j, x = .int i /\ y = .int j /\ Q (g i j) H
def rU (g : Int -> V) : V -> Hp -> VK -> Prop := fun x H Q => ∃ i, x = .int i /\ Q (g i) H
section
variable {X : Cx} {a b c : Expr} {ta tb tc : TE} {pos : Pos}
theorem binT (ha : PE X a ta) (hb : PE X b tb) {pins : List (Addr × Obj)} {s : Shared} {σ : St} {H : Hp} {R : V -> V -> Hp -> Prop} (I : Inv X pins σ H s)
  (h : ta σ H fun x H1 => tb σ H1 fun y H2 => R x y H2) {Q : Value -> Shared -> Prop} {f : Value -> Value -> Sem Value}
  (hf : ∀ v u s2 x y H2, Inv X pins σ H2 s2 -> RelV x v -> RelV y u -> R x y H2 -> wpAny (model X.prog X.w) X.A (f v u) Q X.xe s2) :
  wpAny (model X.prog X.w) X.A (eval a X.env) (fun v s₁ => wpAny (model X.prog X.w) X.A (eval b X.env) (fun u s₂ => wpAny (model X.prog X.w) X.A (f v u) Q X.xe s₂) X.xe s₁) X.xe s := by
 refine thn (ha pins s σ H _ I h) fun v s1 ⟨x, H1, I1, r1, q1⟩ => ?_
 refine thn (hb pins s1 σ H1 _ I1 q1) fun u s2 ⟨y, H2, I2, r2, q2⟩ => ?_
 exact hf v u s2 x y H2 I2 r1 r2 q2
theorem pe_op {op : Operator} {r : R2} (ho : OpR X (binaryOp op) r) (ha : PE X a ta) (hb : PE X b tb) : PE X (.BinOp a op b pos) (tOp r ta tb) := by
 intro pins s σ H Q I h
 exact wpAny_BinOp (binT ha hb I h fun v u s2 x y H2 I2 rx ry q => ho pins s2 σ H2 x y v u Q I2 rx ry q)
theorem pe_un {op : UnaryOp} {r : V -> Hp -> VK -> Prop} (ho : UnR X (unaryOp op) r) (ha : PE X a ta) : PE X (.UnaryOp op a pos) (tUn r ta) := by
 intro pins s σ H Q I h
 exact UnaryOp_ (thn (ha pins s σ H _ I h) fun v s1 ⟨x, H1, I1, r1, q1⟩ => ho pins s1 σ H1 x v Q I1 r1 q1)
theorem opI {f : Value -> Value -> Sem Value} {C : Int -> Int -> Prop} {g : Int -> Int -> Int}
  (rule : ∀ (i j : Int) (t u : Tok) (s : Shared) (Q : Value -> Shared -> Prop) (E : Value -> Shared -> Prop), C i j -> Q (.int (g i j) s.toks) { s with toks := s.toks + 1 } -> wpAny (model X.prog X.w) X.A (f (.int i t) (.int j u)) Q E s) :
  OpR X f (rI C fun i j => .int (g i j)) := by
 intro pins s σ H x y v u Q I rx ry h
 obtain ⟨i, j, rfl, rfl, hc, q⟩ := h
 obtain ⟨t, rfl⟩ := rx
 obtain ⟨t', rfl⟩ := ry
 exact rule i j t t' s _ _ hc ⟨.int (g i j), H, I.tok _, ⟨_, rfl⟩, q⟩
theorem opI0 {f : Value -> Value -> Sem Value} {g : Int -> Int -> Int}
  (rule : ∀ (i j : Int) (t u : Tok) (s : Shared) (Q : Value -> Shared -> Prop) (E : Value -> Shared -> Prop), Q (.int (g i j) s.toks) { s with toks := s.toks + 1 } -> wpAny (model X.prog X.w) X.A (f (.int i t) (.int j u)) Q E s) :
  OpR X f (rI0 fun i j => .int (g i j)) := by
 intro pins s σ H x y v u Q I rx ry h
 obtain ⟨i, j, rfl, rfl, q⟩ := h
 obtain ⟨t, rfl⟩ := rx
 obtain ⟨t', rfl⟩ := ry
 exact rule i j t t' s _ _ ⟨.int (g i j), H, I.tok _, ⟨_, rfl⟩, q⟩
theorem opB0 {f : Value -> Value -> Sem Value} {g : Int -> Int -> Bool}
  (rule : ∀ (i j : Int) (t u : Tok) (s : Shared) (Q : Value -> Shared -> Prop) (E : Value -> Shared -> Prop), Q (.bool (g i j)) s -> wpAny (model X.prog X.w) X.A (f (.int i t) (.int j u)) Q E s) :
  OpR X f (rI0 fun i j => .bl (g i j)) := by
 intro pins s σ H x y v u Q I rx ry h
 obtain ⟨i, j, rfl, rfl, q⟩ := h
 obtain ⟨t, rfl⟩ := rx
 obtain ⟨t', rfl⟩ := ry
 exact rule i j t t' s _ _ ⟨.bl (g i j), H, I, rfl, q⟩
def CDiv (i j : Int) : Prop := 0 < j /\ j < 1073741824
def CPow (i j : Int) : Prop := 0 <= j /\ j <= 1000000 /\ i.natAbs < 2 ^ 64
def CMul (i j : Int) : Prop := (-(2 ^ 64) < i /\ i < 2 ^ 64) \/ (-(2 ^ 64) < j /\ j < 2 ^ 64)
theorem CMul.ok {i j : Int} (h : CMul i j) : IntMulOk i j := by
 rcases h with ⟨h1, h2⟩ | ⟨h1, h2⟩
 ·exact .of_left (intBits_le_64 h1 h2)
 ·exact .of_right (intBits_le_64 h1 h2)
theorem op_add : OpR X (binaryOp .Add) (rI0 fun i j => .int (i + j)) := opI0 fun _ _ _ _ _ _ _ q => add_int q
theorem op_sub : OpR X (binaryOp .Sub) (rI0 fun i j => .int (i - j)) := opI0 fun _ _ _ _ _ _ _ q => sub_int q
theorem op_mul : OpR X (binaryOp .Mult) (rI CMul fun i j => .int (i * j)) := opI fun _ _ _ _ _ _ _ hc q => mul_int q hc.ok
theorem op_fdiv : OpR X (binaryOp .FloorDiv) (rI CDiv fun i j => .int (i / j)) := opI fun i j _ _ _ _ _ hc q => by
 have h1 : (0 : Int) < j := hc.1
 have h2 : j < 1073741824 := hc.2
 exact floordiv_int (by omega) (by rw [Int.fdiv_eq_ediv_of_nonneg i (by omega)]; exact q) (.inl (PyProof.noPylong_small (by omega)))
theorem op_mod : OpR X (binaryOp .Mod) (rI (fun _ j => 0 < j) fun i j => .int (i % j)) := opI fun i j _ _ _ _ _ hc q => by
 have h1 : (0 : Int) < j := hc
 exact mod_int' (by omega) (by rw [Int.fmod_eq_emod_of_nonneg i (by omega)]; exact q)
theorem op_pow : OpR X (binaryOp .Pow) (rI CPow fun i j => .int (i ^ j.toNat)) := opI fun _ _ _ _ _ _ _ hc q => pow_int_small hc.1 hc.2.1 hc.2.2 q
theorem unI {f : Value -> Sem Value} {g : Int -> Int}
  (rule : ∀ (i : Int) (t : Tok) (s : Shared) (Q : Value -> Shared -> Prop) (E : Value -> Shared -> Prop), Q (.int (g i) s.toks) { s with toks := s.toks + 1 } -> wpAny (model X.prog X.w) X.A (f (.int i t)) Q E s) :
  UnR X f (rU fun i => .int (g i)) := by
 intro pins s σ H x v Q I rx h
 obtain ⟨i, rfl, q⟩ := h
 obtain ⟨t, rfl⟩ := rx
 exact rule i t s _ _ ⟨.int (g i), H, I.tok _, ⟨_, rfl⟩, q⟩
theorem un_neg : UnR X (unaryOp .USub) (rU fun i => .int (-i)) := unI fun _ _ _ _ _ q => neg_int q
end
def scal : V -> V -> Bool
 | .non, .non => true | .non, .int _ => true | .int _, .non => true | .non, .bl _ => true | .bl _, .non => true | .non, .str _ => true | .str _, .non => true
 | .int _, .int _ => true | .bl _, .bl _ => true | .str _, .str _ => true | .byt _, .byt _ => true
 | .int _, .str _ => true | .str _, .int _ => true | .bl _, .str _ => true | .str _, .bl _ => true
 | _, _ => false
def rEq : R2 := fun x y H Q => scal x y = true /\ Q (.bl (decide (x = y))) H
def rNe : R2 := fun x y H Q => scal x y = true /\ Q (.bl (!decide (x = y))) H
theorem dec_int {i j : Int} : decide (V.int i = V.int j) = (i == j) := by
 rw [Bool.eq_iff_iff]
 simp
theorem dec_bl {i j : Bool} : decide (V.bl i = V.bl j) = (i == j) := by
 rw [Bool.eq_iff_iff]
 simp
theorem dec_str {i j : Str} : decide (V.str i = V.str j) = (i == j) := by
 rw [Bool.eq_iff_iff]
 simp
theorem dec_byt {i j : Array UInt8} : decide (V.byt i = V.byt j) = (i.toList == j.toList) := by
 rw [Bool.eq_iff_iff]
 cases i
 cases j
 simp
section
variable {X : Cx} {a b c : Expr} {ta tb tc : TE} {pos : Pos}
theorem fin_bl {pins : List (Addr × Obj)} {σ : St} {H : Hp} {s : Shared} {Q : VK} {k k' : Bool} (I : Inv X pins σ H s) (q : Q (.bl k) H) (e : k = k') : EP X pins σ Q (.bool k') s := by
 subst e
 exact ⟨.bl k, H, I, rfl, q⟩
theorem op_eq : OpR X (compareOp .Eq) rEq := by
 intro pins s σ H x y v u Q I rx ry h
 obtain ⟨hs, q⟩ := h
 cases x with
 | non =>
  cases rx
  cases y with
  | non => cases ry; exact PySem.EqNone.eq_none_none (fin_bl I q (by simp))
  | bl j => cases ry; exact PySem.EqNone.eq_none_bool (fin_bl I q (by simp))
  | int j => obtain ⟨t', rfl⟩ := ry; exact PySem.EqNone.eq_none_int (fin_bl I q (by simp))
  | str j => obtain ⟨t', rfl⟩ := ry; exact PySem.EqNone.eq_none_str (fin_bl I q (by simp))
  | _ => exact absurd (show false = true from hs) Bool.false_ne_true
 | bl i =>
  cases rx
  cases y with
  | non => cases ry; exact PySem.EqNone.eq_bool_none (fin_bl I q (by simp))
  | bl j => cases ry; exact eq_bool (fin_bl I q dec_bl)
  | str j => obtain ⟨t', rfl⟩ := ry; exact PySem.EqMixed.eq_bool_str (fin_bl I q (by simp))
  | _ => exact absurd (show false = true from hs) Bool.false_ne_true
 | int i =>
  obtain ⟨t, rfl⟩ := rx
  cases y with
  | non => cases ry; exact PySem.EqNone.eq_int_none (fin_bl I q (by simp))
  | int j => obtain ⟨t', rfl⟩ := ry; exact eq_int (fin_bl I q dec_int)
  | str j => obtain ⟨t', rfl⟩ := ry; exact PySem.EqMixed.eq_int_str (fin_bl I q (by simp))
  | _ => exact absurd (show false = true from hs) Bool.false_ne_true
 | str i =>
  obtain ⟨t, rfl⟩ := rx
  cases y with
  | non => cases ry; exact PySem.EqNone.eq_str_none (fin_bl I q (by simp))
  | bl j => cases ry; exact PySem.EqMixed.eq_str_bool (fin_bl I q (by simp))
  | int j => obtain ⟨t', rfl⟩ := ry; exact PySem.EqMixed.eq_str_int (fin_bl I q (by simp))
  | str j => obtain ⟨t', rfl⟩ := ry; exact eq_str (fin_bl I q dec_str)
  | _ => exact absurd (show false = true from hs) Bool.false_ne_true
 | byt i =>
  obtain ⟨t, rfl⟩ := rx
  cases y with
  | byt j => obtain ⟨t', rfl⟩ := ry; exact PySem.W.eq_bytes (fin_bl I q dec_byt)
  | _ => exact absurd (show false = true from hs) Bool.false_ne_true
 | _ => cases y <;> exact absurd (show false = true from hs) Bool.false_ne_true
theorem op_ne : OpR X (compareOp .NotEq) rNe := by
 intro pins s σ H x y v u Q I rx ry h
 obtain ⟨hs, q⟩ := h
 cases x with
 | non =>
  cases rx
  cases y with
  | non => cases ry; exact PySem.EqNone.ne_none_none (fin_bl I q (by simp))
  | bl j => cases ry; exact PySem.EqNone.ne_none_bool (fin_bl I q (by simp))
  | int j => obtain ⟨t', rfl⟩ := ry; exact PySem.EqNone.ne_none_int (fin_bl I q (by simp))
  | str j => obtain ⟨t', rfl⟩ := ry; exact PySem.EqNone.ne_none_str (fin_bl I q (by simp))
  | _ => exact absurd (show false = true from hs) Bool.false_ne_true
 | bl i =>
  cases rx
  cases y with
  | non => cases ry; exact PySem.EqNone.ne_bool_none (fin_bl I q (by simp))
  | bl j => cases ry; exact ne_bool (fin_bl I q (congrArg not dec_bl))
  | str j => obtain ⟨t', rfl⟩ := ry; exact PySem.EqMixed.ne_bool_str (fin_bl I q (by simp))
  | _ => exact absurd (show false = true from hs) Bool.false_ne_true
 | int i =>
  obtain ⟨t, rfl⟩ := rx
  cases y with
  | non => cases ry; exact PySem.EqNone.ne_int_none (fin_bl I q (by simp))
  | int j => obtain ⟨t', rfl⟩ := ry; exact ne_int (fin_bl I q (congrArg not dec_int))
  | str j => obtain ⟨t', rfl⟩ := ry; exact PySem.EqMixed.ne_int_str (fin_bl I q (by simp))
  | _ => exact absurd (show false = true from hs) Bool.false_ne_true
 | str i =>
  obtain ⟨t, rfl⟩ := rx
  cases y with
  | non => cases ry; exact PySem.EqNone.ne_str_none (fin_bl I q (by simp))
  | bl j => cases ry; exact PySem.EqMixed.ne_str_bool (fin_bl I q (by simp))
  | int j => obtain ⟨t', rfl⟩ := ry; exact PySem.EqMixed.ne_str_int (fin_bl I q (by simp))
  | str j => obtain ⟨t', rfl⟩ := ry; exact ne_str (fin_bl I q (congrArg not dec_str))
  | _ => exact absurd (show false = true from hs) Bool.false_ne_true
 | byt i =>
  obtain ⟨t, rfl⟩ := rx
  cases y with
  | byt j => obtain ⟨t', rfl⟩ := ry; exact PySem.W.ne_bytes (fin_bl I q (congrArg not dec_byt))
  | _ => exact absurd (show false = true from hs) Bool.false_ne_true
 | _ => cases y <;> exact absurd (show false = true from hs) Bool.false_ne_true
theorem op_lt : OpR X (compareOp .Lt) (rI0 fun i j => .bl (decide (i < j))) := opB0 fun _ _ _ _ _ _ _ q => lt_int q
theorem op_le : OpR X (compareOp .LtE) (rI0 fun i j => .bl (decide (i <= j))) := opB0 fun _ _ _ _ _ _ _ q => le_int q
theorem op_gt : OpR X (compareOp .Gt) (rI0 fun i j => .bl (decide (j < i))) := opB0 fun _ _ _ _ _ _ _ q => gt_int q
theorem op_ge : OpR X (compareOp .GtE) (rI0 fun i j => .bl (decide (j <= i))) := opB0 fun _ _ _ _ _ _ _ q => ge_int q
theorem op_isN : OpR X (compareOp .Is) (fun x y H Q => y = .non /\ Q (.bl (decide (x = .non))) H) := by
 intro pins s σ H x y v u Q I rx ry h
 obtain ⟨rfl, q⟩ := h
 cases ry
 refine is_none_gen (fin_bl I q ?_)
 cases x <;> first
  | (cases rx; rfl)
  | (obtain ⟨t, rfl⟩ := rx; rfl)
theorem nomark (b : Expr) {op : CmpOp} (h : op ≠ .In := by decide) (h2 : op ≠ .NotIn := by decide) : behindInMarks op b = false := by
 have e1 : (op == CmpOp.In) = false := by cases op <;> first | rfl | exact absurd rfl h
 have e2 : (op == CmpOp.NotIn) = false := by cases op <;> first | rfl | exact absurd rfl h2
 cases b <;> simp [behindInMarks, e1, e2]
def tTest (t : TE) : TT := fun σ H Q => t σ H fun x H' => ∃ k, x = .bl k /\ Q k H'
theorem pt_cmpR {op : CmpOp} {r : R2} (ho : OpR X (compareOp op) r) (ha : PE X a ta) (hb : PE X b tb) (hm : behindInMarks op b = false) : PT X (.Compare a [op] [b] pos) (tTest (tOp r ta tb)) := by
 intro pins s σ H Q I h
 refine wpAny_isTrue_Compare1 (thn (ha pins s σ H _ I h) fun v s1 ⟨x, H1, I1, r1, q1⟩ => thn (hb pins s1 σ H1 _ I1 q1) fun u s2 ⟨y, H2, I2, r2, q2⟩ =>
  thn (ho pins s2 σ H2 x y v u _ I2 r1 r2 q2) fun c s3 ⟨z, H3, I3, r3, k, e, q3⟩ => ?_) hm
 subst e
 cases r3
 exact wpAny_truthy_bool ⟨H3, I3, q3⟩
def tChain (r r' : R2) (ta tb tc : TE) : TE := fun σ H Q => ta σ H fun x H1 => tb σ H1 fun y H2 => r x y H2 fun z H3 => ∃ k, z = .bl k /\
 (if k = true then tc σ H3 fun w' H4 => r' y w' H4 Q else Q (.bl false) H3)
theorem pe_chain {op op' : CmpOp} {r r' : R2} (ho : OpR X (compareOp op) r) (ho' : OpR X (compareOp op') r') (ha : PE X a ta) (hb : PE X b tb) (hc : PE X c tc)
  (hm : lastMarks [op, op'] [b, c] = false := by with_unfolding_all rfl) : PE X (.Compare a [op, op'] [b, c] pos) (tChain r r' ta tb tc) := by
 intro pins s σ H Q I h
 refine Compare_chain (thn (ha pins s σ H _ I h) fun v s1 ⟨x, H1, I1, r1, q1⟩ => chain_link (thn (hb pins s1 σ H1 _ I1 q1) fun u s2 ⟨y, H2, I2, r2, q2⟩ =>
  thn (ho pins s2 σ H2 x y v u _ I2 r1 r2 q2) fun d s3 ⟨z, H3, I3, r3, k, e, q3⟩ => ?_)) hm
 subst e
 cases r3
 refine wpAny_truthy_bool ?_
 cases k with
 | false => exact ite_ff ⟨.bl false, H3, I3, rfl, q3⟩
 | true => exact ite_tt (chain_last (thn (hc pins s3 σ H3 _ I3 q3) fun w' s4 ⟨z', H4, I4, r4, q4⟩ => ho' pins s4 σ H4 y z' u w' Q I4 r2 r4 q4))
theorem pt_chain {op op' : CmpOp} {r r' : R2} (ho : OpR X (compareOp op) r) (ho' : OpR X (compareOp op') r') (ha : PE X a ta) (hb : PE X b tb) (hc : PE X c tc)
  (hm : lastMarks [op, op'] [b, c] = false := by with_unfolding_all rfl) : PT X (.Compare a [op, op'] [b, c] pos) (tTest (tChain r r' ta tb tc)) := by
 intro pins s σ H Q I h
 refine isTrue_chain (thn (ha pins s σ H _ I h) fun v s1 ⟨x, H1, I1, r1, q1⟩ => test_link (thn (hb pins s1 σ H1 _ I1 q1) fun u s2 ⟨y, H2, I2, r2, q2⟩ =>
  thn (ho pins s2 σ H2 x y v u _ I2 r1 r2 q2) fun d s3 ⟨z, H3, I3, r3, k, e, q3⟩ => ?_)) hm
 subst e
 cases r3
 refine wpAny_truthy_bool ?_
 cases k with
 | false =>
  obtain ⟨k', e', q'⟩ := q3
  cases e'
  exact ite_ff ⟨H3, I3, q'⟩
 | true =>
  refine ite_tt (test_last (thn (hc pins s3 σ H3 _ I3 q3) fun w' s4 ⟨z', H4, I4, r4, q4⟩ => thn (ho' pins s4 σ H4 y z' u w' _ I4 r2 r4 q4) fun d' s5 ⟨z2, H5, I5, r5, k2, e2, q5⟩ => ?_))
  subst e2
  cases r5
  exact wpAny_truthy_bool ⟨H5, I5, q5⟩
theorem line63 : (sizeLine : Nat) < 2 ^ 63 := by rw [sizeLine_eq]; decide
theorem vals1 {x : V} {us : List Value} (r : Vals [x] us) : ∃ u, us = [u] /\ RelV x u := by
 cases r with
 | cons r1 r2 => cases r2; exact ⟨_, rfl, r1⟩
theorem vals2 {x y : V} {us : List Value} (r : Vals [x, y] us) : ∃ u w', us = [u, w'] /\ RelV x u /\ RelV y w' := by
 cases r with
 | cons r1 r2 =>
  cases r2 with
  | cons r3 r4 => cases r4; exact ⟨_, _, rfl, r1, r3⟩
theorem call_max2 (hc : X.calm = true) : CallR X (.builtin "max") (fun xs H Q => ∃ i j, xs = [.int i, .int j] /\ Q (.int (if j > i then j else i)) H) := by
 intro pins s σ H xs us Q I r h
 obtain ⟨i, j, rfl, q⟩ := h
 obtain ⟨u, w', rfl, ⟨t, rfl⟩, ⟨t', rfl⟩⟩ := vals2 r
 refine max_two_ints (I.ok.hd hc) fun h' tk k => ⟨_, H, I.kept k, ?_, q⟩
 by_cases hj : j > i
 ·rw [if_pos hj, if_pos hj]; exact ⟨_, rfl⟩
 ·rw [if_neg hj, if_neg hj]; exact ⟨_, rfl⟩
theorem call_min2 (hc : X.calm = true) : CallR X (.builtin "min") (fun xs H Q => ∃ i j, xs = [.int i, .int j] /\ Q (.int (if j < i then j else i)) H) := by
 intro pins s σ H xs us Q I r h
 obtain ⟨i, j, rfl, q⟩ := h
 obtain ⟨u, w', rfl, ⟨t, rfl⟩, ⟨t', rfl⟩⟩ := vals2 r
 refine min_two_ints (I.ok.hd hc) fun h' tk k => ⟨_, H, I.kept k, ?_, q⟩
 by_cases hj : j < i
 ·rw [if_pos hj, if_pos hj]; exact ⟨_, rfl⟩
 ·rw [if_neg hj, if_neg hj]; exact ⟨_, rfl⟩
end
structure ObjM (h : Heap) (x dx C : Addr) (mA : Str -> Option Value) : Prop where
 obj : h.get? x = some (PySem.W.instObj C dx)
 ns : h.Ns1 dx mA
 ne : dx ≠ x
theorem lookIn_ns {h : Heap} {dx : Addr} {mA : Str -> Option Value} (n : h.Ns1 dx mA) : ∃ od, h.get? dx = some od /\ ∀ name, PySem.W.lookIn name od = some (mA name) := by
 obtain ⟨o, es, ep, ho, hd, hk, _, hm⟩ := n
 refine ⟨o, ho, fun name => ?_⟩
 have e := hm name
 unfold nsFind findBy at e
 rw [<- Array.find?_toList] at e
 unfold PySem.W.lookIn
 rw [hd]
 dsimp only
 split
 ·rename_i y q
  rw [q] at e
  exact congrArg some e
 ·rename_i q
  rw [q] at e
  have a : es.toList.any (·.refKey) = false := by
   rw [List.any_eq_false]
   intro y hy
   obtain ⟨z, t, hkey⟩ := hk y (Array.mem_toList_iff.mp hy)
   simp [DictEntry.refKey, hkey]
  have a' : ¬ es.toList.any (·.refKey) = true := by rw [a]; exact Bool.false_ne_true
  rw [if_neg a']
  exact congrArg some e
theorem ObjM.look {h : Heap} {x dx C : Addr} {mA : Str -> Option Value} (I : ObjM h x dx C mA) : ∃ od, PySem.W.InstAt h x (PySem.W.instObj C dx) C (some od) /\ ∀ name, PySem.W.lookIn name od = some (mA name) :=
 let ⟨od, ho, hl⟩ := lookIn_ns I.ns
 ⟨od, ⟨I.obj, rfl, rfl, ho⟩, hl⟩
section
variable {prog : Program} {w : World} {A : Around} {E : Value -> Shared -> Prop} {s : Shared} {K : PySem.W.Frag} {x dx C f : Addr} {mA : Str -> Option Value} {name : Str} {v : Value}
theorem get_map {expr : Bool} {Q : Value -> Shared -> Prop} (X : K.In s.heap) (I : ObjM s.heap x dx C mA) (hg : PySem.W.plainGet K C name = true) (hh : PySem.W.hasDictIn K C = true)
  (ha : PySem.W.findIn K (.ref C) name = some none) (hv : mA name = some v) (hv' : PySem.W.handedIn v = true) (h : Q v { s with toks := s.toks + 1 }) :
  wpAny (model prog w) A (getAttr (.ref x) name expr) Q E s := by
 obtain ⟨od, J, hl⟩ := I.look
 exact PySem.W.get_value X J (PySem.W.plainGet_of hg).1 (PySem.W.findObj_own hh ha rfl (by rw [hl, hv])) hv' h
theorem set_map {ns : List Str} {Q : Unit -> Shared -> Prop} (X : K.In s.heap) (I : ObjM s.heap x dx C mA)
  (hs : PySem.W.findIn K (.ref C) "__setattr__" = some (some (.builtin "object.__setattr__"))) (hp : PySem.W.plainOver K C = true) (ht : PySem.W.takerIn K C name = some none) (hh : PySem.W.hasDictIn K C = true)
  (hw : PySem.Within mA ns) (hsz : ns.length <= sizeLine)
  (h : ∀ h', ObjM h' x dx C (fun y => if y = name then some v else mA y) -> Heap.SameBut dx s.heap h' -> Q () { s with heap := h', toks := s.toks + 2 }) :
  wpAny (model prog w) A (setAttr (.ref x) name v) Q E s := by
 obtain ⟨od, J, hl⟩ := I.look
 refine PySem.W.set_plain X J hs (PySem.W.osa_open (s := { s with toks := s.toks + 1 }) (r := none) X J hp ht fun b => ?_)
 obtain ⟨cd, hc, hd'⟩ := PySem.W.any_some hh
 have hx : s.heap.get? x = some ⟨.ref C, some dx, .plain, #[]⟩ := I.obj
 refine wpAny_bind (wpAny_pure (wpAny_bind (wpAny_bind (wpAny_loadPart hx (wpAny_bind (PySem.W.Looks.here (s := { s with toks := s.toks + 1 }) (PySem.W.looks_clsIn X hc) ?_))))))
 rw [hd']
 refine wpAny_pure (a := some dx) (wpAny_bind (wpAny_pure (wpAny_bind ?_)))
 refine wpAny_nsSet1 (s := { s with toks := s.toks + 1 }) I.ns fun h' hn2 hs2 => ?_
 obtain ⟨oD, esD, epD, hoD, hdD, hcD⟩ := hn2.count (PySem.Within.cons name v hw)
 refine wpAny_bind (wpAny_lookBehind hoD (by rw [hdD]; exact pastItsLine_dict (Nat.le_trans hcD (by rw [List.length_cons]; omega))) ?_)
 exact wpAny_pure (h _ ⟨(hs2.2 _ (Ne.symm I.ne)).trans I.obj, hn2, I.ne⟩ hs2)
theorem make_map {R : Result -> Shared -> Prop} {vs : List Value} {kw : List (Str × Value)} (X : K.In s.heap) (hm : PySem.W.makesIn K C = true)
  (hi : PySem.W.findIn K (.ref C) "__init__" = some (some (.ref f))) (hf : PySem.W.typeIn K (.ref f) = some (.type "function"))
  (h : codeAny (model prog w) (A.under (.builtin "type.__call__" ⟨.ref C :: vs, kw⟩)) (.call (.ref f) ⟨.ref (s.heap.objs.size + 1) :: vs, kw⟩) (PySem.W.InitBack (s.heap.objs.size + 1) R)
   { s with heap := (s.heap.push PySem.W.emptyDict).push (PySem.W.instObj C s.heap.objs.size) }) :
  codeAny (model prog w) A (.call (.ref C) ⟨vs, kw⟩) R s := by
 obtain ⟨hh, g, d, t, os⟩ := s
 exact PySem.W.make_core (PySem.W.makes_of X hm) (PySem.W.looks_findIn X hi) (fun self => PySem.W.bind_fn X self hf) (.inl rfl) h
end
def putF (f : Str) (v : V) : List (Str × V) -> List (Str × V)
 | [] => [(f, v)]
 | (g, x) :: r => if g = f then (g, v) :: r else (g, x) :: putF f v r
theorem lookup_putF (f g : Str) (v : V) : ∀ fs : List (Str × V), (putF f v fs).lookup g = if g = f then some v else fs.lookup g
 | [] => by
  show List.lookup g [(f, v)] = _
  by_cases h : g = f
  ·have hb : (g == f) = true := beq_iff_eq.mpr h
   simp only [List.lookup, hb, if_pos h]
  ·have hb : (g == f) = false := beq_eq_false_iff_ne.mpr h
   simp only [List.lookup, hb, if_neg h]
 | (k, x) :: r => by
  have ih := lookup_putF f g v r
  rw [show putF f v ((k, x) :: r) = (if k = f then (k, v) :: r else (k, x) :: putF f v r) from rfl]
  by_cases hk : k = f
  ·rw [if_pos hk]
   by_cases h : g = k
   ·have hb : (g == k) = true := beq_iff_eq.mpr h
    simp only [List.lookup, hb, if_pos (h.trans hk)]
   ·have hb : (g == k) = false := beq_eq_false_iff_ne.mpr h
    simp only [List.lookup, hb, if_neg (fun e : g = f => h (e.trans hk.symm))]
  ·rw [if_neg hk]
   by_cases h : g = k
   ·have hb : (g == k) = true := beq_iff_eq.mpr h
    simp only [List.lookup, hb, if_neg (fun e : g = f => hk (h.symm.trans e))]
   ·have hb : (g == k) = false := beq_eq_false_iff_ne.mpr h
    simp only [List.lookup, hb]
    exact ih
theorem keys_putF (f : Str) (v : V) : ∀ fs : List (Str × V), f ∈ (putF f v fs).map (·.1) /\ ∀ g, g ∈ fs.map (·.1) -> g ∈ (putF f v fs).map (·.1)
 | [] => ⟨by simp [putF], fun g h => by simp at h⟩
 | (k, x) :: r => by
  obtain ⟨i1, i2⟩ := keys_putF f v r
  rw [show putF f v ((k, x) :: r) = (if k = f then (k, v) :: r else (k, x) :: putF f v r) from rfl]
  by_cases hk : k = f
  ·rw [if_pos hk]
   subst hk
   exact ⟨by simp, fun g h => by simpa using h⟩
  ·rw [if_neg hk]
   refine ⟨?_, fun g h => ?_⟩
   ·rw [List.map_cons]
    exact List.mem_cons_of_mem _ i1
   ·rw [List.map_cons] at h ⊢
    rcases List.mem_cons.mp h with e | e
    ·exact List.mem_cons.mpr (.inl e)
    ·exact List.mem_cons_of_mem _ (i2 g e)
theorem length_putF (f : Str) (v : V) : ∀ fs : List (Str × V), (putF f v fs).length <= fs.length + 1
 | [] => by simp [putF]
 | (k, x) :: r => by
  have ih := length_putF f v r
  rw [show putF f v ((k, x) :: r) = (if k = f then (k, v) :: r else (k, x) :: putF f v r) from rfl]
  by_cases hk : k = f
  ·rw [if_pos hk, List.length_cons, List.length_cons]; omega
  ·rw [if_neg hk, List.length_cons, List.length_cons]; omega
theorem RelO.some_of {v : V} {o : Option Value} (r : RelO (some v) o) : ∃ u, o = some u /\ RelV v u := by
 cases o with
 | none => exact (show False from r).elim
 | some u => exact ⟨u, rfl, r⟩
theorem handed_of {v : V} {u : Value} (r : RelV v u) : PySem.W.handedIn u = true := by
 cases v with
 | non => cases (show u = Value.none from r); rfl
 | bl b => cases (show u = Value.bool b from r); rfl
 | int i => obtain ⟨t, e⟩ := (show ∃ t, u = Value.int i t from r); cases e; rfl
 | str x => obtain ⟨t, e⟩ := (show ∃ t, u = Value.str x t from r); cases e; rfl
 | byt b => obtain ⟨t, e⟩ := (show ∃ t, u = Value.bytes b t from r); cases e; rfl
 | flt b => obtain ⟨t, e⟩ := (show ∃ t, u = Value.float b t from r); cases e; rfl
 | ref a => cases (show u = Value.ref a from r); rfl
 | ty n => cases (show u = Value.type n from r); rfl
section
variable {P : Program} {w : World} {H H' : Hp} {h h' : Heap} {a C dx : Addr} {fs fs' : List (Str × V)}
theorem ins_get (hok : HOk P w H h) (e : H a = some (.ins C dx fs)) : ∃ mA, ObjM h a dx C mA /\ (∀ f, RelO (fs.lookup f) (mA f)) /\ PySem.Within mA (fs.map (·.1)) /\ fs.length <= 1000 /\ H dx = some (.own a) := by
 obtain ⟨d, z, ne, ob, mA, n, r, q⟩ := (show ObjOk P w H h a (.ins C dx fs) from hok a _ e)
 exact ⟨mA, ⟨ob, n, ne⟩, r, q, z, d⟩
end
structure Cls (K : PySem.W.Frag) (C : Addr) : Prop where
 pg : PySem.W.plainGet K C Str.empty = true
 hd : PySem.W.hasDictIn K C = true
 po : PySem.W.plainOver K C = true
 sa : PySem.W.findIn K (.ref C) "__setattr__" = some (some (.builtin "object.__setattr__"))
theorem Cls.get {K : PySem.W.Frag} {C : Addr} (c : Cls K C) (f : Str) : PySem.W.plainGet K C f = true := c.pg
def NoAttr (K : PySem.W.Frag) (C : Addr) (f : Str) : Prop := PySem.W.findIn K (.ref C) f = some none
theorem NoAttr.taker {K : PySem.W.Frag} {C : Addr} {f : Str} (n : NoAttr K C f) : PySem.W.takerIn K C f = some none := by
 unfold PySem.W.takerIn
 rw [show PySem.W.findIn K (.ref C) f = some none from n]
 rfl
structure Con (K : PySem.W.Frag) (C : Addr) (f : Str) (v : V) (u : Value) : Prop where
 at_ : PySem.W.findIn K (.ref C) f = some (some u)
 rel : RelV v u
 get : PySem.W.specialIn K u "__get__" = some none
 cp : PySem.W.copiedNames.contains f = false
structure Meth (K : PySem.W.Frag) (C : Addr) (m : Str) (f : Addr) : Prop where
 at_ : PySem.W.findIn K (.ref C) m = some (some (.ref f))
 fn : PySem.W.isFn K (.ref f) = true
 kp : PySem.W.keepIn K (.ref f) = true
section
variable {X : Cx} {pins : List (Addr × Obj)} {σ : St} {H : Hp} {s : Shared} {a C dx : Addr} {fs : List (Str × V)} {f : Str} {v : V} {A : Around} {E : Value -> Shared -> Prop}
theorem getattr_ok {b : Bool} {Q : Value -> Shared -> Prop} (I : Inv X pins σ H s) (e : H a = some (.ins C dx fs)) (c : Cls X.K C) (n : NoAttr X.K C f) (l : fs.lookup f = some v)
  (h : ∀ u s', Inv X pins σ H s' -> RelV v u -> Q u s') : wpAny (model X.prog X.w) A (getAttr (.ref a) f b) Q E s := by
 obtain ⟨mA, O, r, _, _, _⟩ := ins_get I.hok e
 obtain ⟨u, hu, ru⟩ := RelO.some_of (v := v) (o := mA f) (by rw [<- l]; exact r f)
 exact get_map I.kIn O (c.get f) c.hd n hu (handed_of ru) (h u _ (I.tok _) ru)
theorem setattr_ok {y : V} {u : Value} {Q : Unit -> Shared -> Prop} (I : Inv X pins σ H s) (e : H a = some (.ins C dx fs)) (c : Cls X.K C) (n : NoAttr X.K C f) (hl : fs.length < 1000) (ry : RelV y u)
  (h : ∀ s', Inv X pins σ (upd H a (.ins C dx (putF f y fs))) s' -> Q () s') : wpAny (model X.prog X.w) A (setAttr (.ref a) f u) Q E s := by
 obtain ⟨mA, O, r, wi, _, ho⟩ := ins_get I.hok e
 have hz : (fs.map (·.1)).length <= sizeLine := by rw [List.length_map, sizeLine_eq]; omega
 refine set_map I.kIn O c.sa c.po n.taker c.hd wi hz fun h' O' sb => h _ ?_
 have hd : ∃ o, h'.get? dx = some o := let ⟨o, _, _, e', _⟩ := O'.ns; ⟨o, e'⟩
 refine I.write (x := a) (e := dx) (by rw [e]; exact True.intro) (.inr ho) (fun b q hb z => (sb.2 b hb).trans z) hd ?_
 refine ⟨by rw [upd_ne O.ne]; exact ho, ?_, O.ne, O'.obj, _, O'.ns, fun g => ?_, fun g hg => ?_⟩
 ·have := length_putF f y fs; omega
 ·show RelO ((putF f y fs).lookup g) (if g = f then some u else mA g)
  rw [lookup_putF]
  by_cases q : g = f
  ·rw [if_pos q, if_pos q]; exact ry
  ·rw [if_neg q, if_neg q]; exact r g
 ·by_cases q : g = f
  ·rw [q]; exact (keys_putF f y fs).1
  ·refine (keys_putF f y fs).2 g (wi g fun z => hg ?_)
   show (if g = f then some u else mA g) = none
   rw [if_neg q]; exact z
theorem Inv.made (I : Inv X pins σ H s) : Inv X pins σ (upd (upd H s.heap.objs.size (.own (s.heap.objs.size + 1))) (s.heap.objs.size + 1) (.ins C s.heap.objs.size []))
  { s with heap := (s.heap.push PySem.W.emptyDict).push (PySem.W.instObj C s.heap.objs.size) } := by
 have e1 : (s.heap.push PySem.W.emptyDict).get? s.heap.objs.size = some PySem.W.emptyDict := Heap.get?_push_size s.heap rfl
 have e2 : ((s.heap.push PySem.W.emptyDict).push (PySem.W.instObj C s.heap.objs.size)).get? (s.heap.objs.size + 1) = some (PySem.W.instObj C s.heap.objs.size) := by
  have := Heap.get?_push_size (s.heap.push PySem.W.emptyDict) (o := PySem.W.instObj C s.heap.objs.size) rfl
  rwa [Heap.size_push] at this
 have e3 : (s.heap.push PySem.W.emptyDict).Ns s.heap.objs.size (fun _ => none) := ⟨PySem.W.emptyDict, #[], _, e1, rfl, (fun e he => absurd he (by simp)), fun _ => rfl⟩
 have I1 := I.laid (a := s.heap.objs.size) (o := .own (s.heap.objs.size + 1)) (h' := s.heap.push PySem.W.emptyDict) (t' := s.toks) (fun b u q => Heap.get?_push_of_some _ q) (Nat.le_refl _) ⟨_, e1⟩
 refine I1.laid (a := s.heap.objs.size + 1) (o := .ins C s.heap.objs.size []) (t' := s.toks) (fun b u q => Heap.get?_push_of_some _ q) (Nat.le_of_eq (Heap.size_push _ _)) ?_
 have ne : s.heap.objs.size ≠ s.heap.objs.size + 1 := Nat.ne_of_lt (Nat.lt_succ_self _)
 refine ⟨by rw [upd_ne ne, upd_same], Nat.zero_le _, ne, e2, fun _ => none, (Heap.Ns1.of_empty e3).at fun o q => Heap.get?_push_of_some _ q, fun _ => True.intro, fun y hy => absurd rfl hy⟩
theorem attr_of {prog : Program} {w : World} {env : Env} {e : Expr} {f : Str} {pos : Pos} {s : Shared} {Q : Value -> Shared -> Prop} (hb : attributeBase e f env (eval e env) = eval e env)
  (h : wpAny (model prog w) A (eval e env) (fun o s₁ => wpAny (model prog w) A (getAttr o f true) Q E s₁) E s) : wpAny (model prog w) A (eval (.Attribute e f pos) env) Q E s :=
 Attribute_any_ h (by rw [arm_eval_Attribute, hb])
end
def tFld (K : PySem.W.Frag) (ta : TE) (f : Str) : TE := fun σ H Q => ta σ H fun x H1 => ∃ a C dx fs v, x = .ref a /\ H1 a = some (.ins C dx fs) /\ Cls K C /\ NoAttr K C f /\ fs.lookup f = some v /\ Q v H1
def sFld (K : PySem.W.Frag) (ta tv : TE) (f : Str) : TS := fun D σ H => tv σ H fun y H1 => ta σ H1 fun x H2 => ∃ a C dx fs, x = .ref a /\ H2 a = some (.ins C dx fs) /\ Cls K C /\ NoAttr K C f /\ fs.length < 1000 /\
 D.nx σ (upd H2 a (.ins C dx (putF f y fs)))
section
variable {X : Cx} {o e value : Expr} {f : Str} {pos pos' tpos : Pos} {ta tv : TE}
theorem pe_fld (he : PE X e ta) (hb : attributeBase e f X.env (eval e X.env) = eval e X.env) : PE X (.Attribute e f pos) (tFld X.K ta f) := by
 intro pins s σ H Q I h
 refine attr_of hb (thn (he pins s σ H _ I h) fun u s1 ⟨x, H1, I1, rx, a, C, dx, fs, v, ex, ea, c, n, l, q⟩ => ?_)
 subst ex
 obtain rfl : u = Value.ref a := rx
 exact getattr_ok I1 ea c n l fun u' s2 I2 ru => ⟨v, H1, I2, ru, q⟩
theorem ps_fld (ha : PE X o ta) (hv : PE X value tv) (hs : swapsWith value (some (.Attribute o f pos')) pos.line X.env = pure false) : PS X (.Assign [.Attribute o f pos'] value pos) (sFld X.K ta tv f) := by
 intro pins s σ H D I h
 refine plainObj_wpAny_Assign_Attribute (thn (hv pins s σ H _ I h) fun u s1 ⟨y, H1, I1, ry, q⟩ => thn (ha pins s1 σ H1 _ I1 q) fun ov s2 ⟨x, H2, I2, rx, a, C, dx, fs, ex, ea, c, n, l, q2⟩ => ?_) hs
 subst ex
 obtain rfl : ov = Value.ref a := rx
 exact setattr_ok I2 ea c n l ry fun s3 I3 => ⟨σ, _, I3, q2⟩
end
section
variable {X : Cx} {pins : List (Addr × Obj)} {σ : St} {H : Hp} {s : Shared} {A : Around} {E : Value -> Shared -> Prop} {Q : Value -> Shared -> Prop} {c : Value} {b : Bool}
inductive TyOf (K : PySem.W.Frag) (H : Hp) : V -> Value -> Prop where
 | non : TyOf K H .non (.type "NoneType")
 | bl (x : Bool) : TyOf K H (.bl x) (.type "bool")
 | int (i : Int) : TyOf K H (.int i) (.type "int")
 | str (x : Str) : TyOf K H (.str x) (.type "str")
 | flt (x : UInt64) : TyOf K H (.flt x) (.type "float")
 | lst {a : Addr} {xs : List V} (e : H a = some (.lst xs)) : TyOf K H (.ref a) (.type "list")
 | frz {a : Addr} {o : Obj} {xs : List V} (e : H a = some (.frz o (.lst xs))) : TyOf K H (.ref a) (.type "list")
 | tup {a : Addr} {xs : List V} (e : H a = some (.tup xs)) : TyOf K H (.ref a) (.type "tuple")
 | dK {a : Addr} {kvs : List (Key × V)} (e : H a = some (.dK kvs)) : TyOf K H (.ref a) (.type "dict")
 | dT {a : Addr} {kvs : List (List Key × V)} (e : H a = some (.dT kvs)) : TyOf K H (.ref a) (.type "dict")
 | ins {a C dx : Addr} {fs : List (Str × V)} (e : H a = some (.ins C dx fs)) (cl : Cls K C) (ha : PySem.W.findIn K (.ref C) "__class__" = some (some (.builtin "object.__class__")))
   (hn : PySem.W.specialIn K (.builtin "object.__class__") "__get__" = some (some (.builtin "getset_descriptor.__get__"))) (htk : PySem.W.takesIn K (.builtin "object.__class__") = some true)
   (hm : PySem.W.mroIn K C (.type "object") = some true) : TyOf K H (.ref a) (.ref C)
theorem isinst_ok {x : V} {u t : Value} (I : Inv X pins σ H s) (rx : RelV x u) (ty : TyOf X.K H x t) (e : PySem.W.kitOne X.K t c = some b) (h : ∀ tk, Q (.bool b) { s with toks := tk }) :
  wpAny (model X.prog X.w) A (call (.builtin "isinstance") [u, c]) Q E s := by
 cases ty with
 | non => cases (show u = Value.none from rx); exact PySem.W.kia_one PySem.W.kitx_none I.kIn True.intro e (fun z => nomatch z) h
 | bl y => cases (show u = Value.bool y from rx); exact PySem.W.kia_one PySem.W.kitx_bool I.kIn True.intro e (fun z => nomatch z) h
 | int i => obtain ⟨t, q⟩ := (show ∃ t, u = Value.int i t from rx); cases q; exact PySem.W.kia_one PySem.W.kitx_int I.kIn True.intro e (fun z => nomatch z) h
 | str y => obtain ⟨t, q⟩ := (show ∃ t, u = Value.str y t from rx); cases q; exact PySem.W.kia_one PySem.W.kitx_str I.kIn True.intro e (fun z => nomatch z) h
 | flt y => obtain ⟨t, q⟩ := (show ∃ t, u = Value.float y t from rx); cases q; exact PySem.W.kia_one PySem.W.kitx_float I.kIn True.intro e (fun z => nomatch z) h
 | @lst a xs ea =>
  cases (show u = Value.ref a from rx)
  obtain ⟨_, _, n, _, h1⟩ := (show ObjOk X.prog X.w H s.heap a (.lst xs) from I.hok a _ ea)
  exact PySem.W.kia_one PySem.W.kitx_list I.kIn ⟨_, h1, rfl⟩ e (fun z => nomatch z) h
 | @frz a ob xs ea =>
  cases (show u = Value.ref a from rx)
  obtain ⟨_, _, _, n, _, h1⟩ := (show ObjOk X.prog X.w H s.heap a (.frz ob (.lst xs)) from I.hok a _ ea)
  exact PySem.W.kia_one PySem.W.kitx_list I.kIn ⟨_, h1, rfl⟩ e (fun z => nomatch z) h
 | @tup a xs ea =>
  cases (show u = Value.ref a from rx)
  obtain ⟨_, _, _, p⟩ := (show ObjOk X.prog X.w H s.heap a (.tup xs) from I.hok a _ ea)
  obtain ⟨o, h1, h2, _⟩ := p
  exact PySem.W.kia_one PySem.W.kitx_tuple I.kIn ⟨o, h1, h2⟩ e (fun z => nomatch z) h
 | @dK a kvs ea =>
  cases (show u = Value.ref a from rx)
  obtain ⟨_, _, vs, _, p⟩ := (show ObjOk X.prog X.w H s.heap a (.dK kvs) from I.hok a _ ea)
  obtain ⟨o, es, ep, h1, h2, _⟩ := p
  exact PySem.W.kia_one PySem.W.kitx_dict I.kIn ⟨o, h1, h2.1⟩ e (fun z => nomatch z) h
 | @dT a kvs ea =>
  cases (show u = Value.ref a from rx)
  obtain ⟨_, _, xs, _, o, es, ep, h1, h2, _⟩ := (show ObjOk X.prog X.w H s.heap a (.dT kvs) from I.hok a _ ea)
  exact PySem.W.kia_one PySem.W.kitx_dict I.kIn ⟨o, h1, h2.1⟩ e (fun z => nomatch z) h
 | @ins a C dx fs ea cl ha hn htk hm =>
  cases (show u = Value.ref a from rx)
  obtain ⟨mA, O, _⟩ := ins_get I.hok ea
  obtain ⟨od, J, _⟩ := O.look
  exact PySem.W.kia_one (PySem.W.kitx_own (cl.get _) cl.hd ha hn htk hm) I.kIn J e (fun z => nomatch z) h
end
structure Room (k : Nat) (A : Around) : Prop where
 hd : A.handled = none
 dp : A.depth + 3 * k + 5 < recursionLimit
 un : A.units + 16 * k + 200 < cLine
theorem Room.mono {j k : Nat} {A : Around} (r : Room k A) (h : j <= k) : Room j A := ⟨r.hd, by have := r.dp; omega, by have := r.un; omega⟩
theorem Room.deeper {k : Nat} {A : Around} (r : Room (k + 1) A) (env : Env) : Room k (A.deeper env) :=
 ⟨r.hd, by have := r.dp; show A.depth + 1 + 3 * k + 5 < _; omega, by have := r.un; show A.units + 3 + 16 * k + 200 < _; omega⟩
theorem Room.in1 {k : Nat} {A : Around} (r : Room (k + 1) A) : Room k A.in1 :=
 ⟨r.hd, by have := r.dp; show A.depth + 3 * k + 5 < _; omega, by have := r.un; show A.units + 1 + 16 * k + 200 < _; omega⟩
theorem make_depth {A : Around} {C : Addr} {us : List Value} {kw : List (Str × Value)} : (A.under (.builtin "type.__call__" ⟨.ref C :: us, kw⟩)).depth = A.depth + 1 := by
 first | rfl | simp [Around.under, Code.weight, Code.isCreation, Code.isGuard, Code.isCaller, Code.frames, Code.isFrame, guardIds]
theorem make_units {A : Around} {C : Addr} {us : List Value} {kw : List (Str × Value)} : (A.under (.builtin "type.__call__" ⟨.ref C :: us, kw⟩)).units = A.units + 1 := by
 first | rfl | simp [Around.under, Code.cUnits, Code.frames, Code.isFrame]
theorem Room.make {k : Nat} {A : Around} (r : Room (k + 1) A) (C : Addr) (us : List Value) (kw : List (Str × Value)) : Room k (A.under (.builtin "type.__call__" ⟨.ref C :: us, kw⟩)) :=
 ⟨r.hd, by have := r.dp; rw [make_depth]; omega, by have := r.un; rw [make_units]; omega⟩
theorem Room.depth {k : Nat} {A : Around} (r : Room k A) : A.depth < recursionLimit := by have := r.dp; omega
theorem Room.units {k : Nat} {A : Around} (r : Room k A) : A.units + 64 < cLine := by have := r.un; omega
def tNil : TA := fun _ H Q => Q [] H
def tCons (ta : TE) (tr : TA) : TA := fun σ H Q => ta σ H fun x H1 => tr σ H1 fun xs H2 => Q (x :: xs) H2
section
variable {X : Cx} {e : Expr} {es : List Expr} {te : TE} {t : TA} {pos : Pos}
theorem pa_nil : PA X [] tNil := fun _ _ _ _ H Q I h => Calls.spliced_nil ⟨[], H, I, .nil, h⟩
theorem pa_cons (ha : PE X e te) (hr : PA X es t) (hs : starEach (e :: es) X.env = (false, eval e X.env) :: starEach es X.env := by rfl) : PA X (e :: es) (tCons te t) := by
 intro pos pins s σ H Q I h
 rw [hs]
 show wpAny _ _ (spliced ((false, eval e X.env) :: backTo pos (starEach es X.env))) _ _ s
 refine Calls.spliced_cons (thn (ha pins s σ H _ I h) fun u s1 ⟨x, H1, I1, r1, q1⟩ => ?_)
 exact thn (hr pos pins s1 σ H1 _ I1 q1) fun us s2 ⟨xs, H2, I2, r2, q2⟩ => ⟨x :: xs, H2, I2, .cons r1 r2, q2⟩
def tTup (t : TA) : TE := fun σ H Q => t σ H fun xs H1 => xs.length <= sizeLine /\ ∀ p, H1 p = none -> Q (.ref p) (upd H1 p (.tup xs))
def tLst (t : TA) : TE := fun σ H Q => t σ H fun xs H1 => xs.length <= sizeLine /\ ∀ p, H1 p = none -> Q (.ref p) (upd H1 p (.lst xs))
theorem pe_tup {x1} (h : PA X es t) : PE X (.Tuple es x1 pos) (tTup t) := by
 intro pins s σ H Q I hq
 refine wpAny_Tuple_spliced (thn (h pos pins s σ H _ I hq) fun us s1 ⟨xs, H1, I1, r, z, q⟩ => ⟨by rw [<- r.length]; exact z, ?_⟩)
 have hf : H1 s1.heap.objs.size = none := I1.hok.fresh (Nat.le_refl _)
 refine ⟨.ref s1.heap.objs.size, upd H1 s1.heap.objs.size (.tup xs), I1.laid (t' := s1.toks) (fun b u e => Heap.get?_push_of_some _ e) (Nat.le_refl _) ?_, rfl, q _ hf⟩
 exact ⟨z, us, r, ⟨_, Heap.get?_push_size _ rfl, rfl, _, rfl⟩⟩
theorem pe_lst (h : PA X es t) : PE X (.List es pos) (tLst t) := by
 intro pins s σ H Q I hq
 refine wpAny_List_spliced (thn (h pos pins s σ H _ I hq) fun us s1 ⟨xs, H1, I1, r, z, q⟩ => ⟨by rw [<- r.length]; exact z, ?_⟩)
 have hf : H1 s1.heap.objs.size = none := I1.hok.fresh (Nat.le_refl _)
 refine ⟨.ref s1.heap.objs.size, upd H1 s1.heap.objs.size (.lst xs), I1.laid (t' := s1.toks) (fun b u e => Heap.get?_push_of_some _ e) (Nat.le_refl _) ?_, rfl, q _ hf⟩
 exact ⟨z, us, 0, r, Heap.get?_push_size _ rfl⟩
end
abbrev Sp := List V -> Hp -> VK -> XK -> Prop
abbrev CXT := List Env -> Hp -> Shared -> XK -> Value -> Shared -> Prop
structure Env0 (P : Program) (w : World) (K : PySem.W.Frag) (mg : Str -> Option Value) (base : Heap) (A : Around) (outer : List Env) (s : Shared) (H : Hp) : Prop where
 frames : A.frames = some outer
 mod : Mod K mg base
 bs : ∀ b o, base.get? b = some o -> s.heap.get? b = some o /\ H b = none
 bsz : base.objs.size <= s.heap.objs.size
 funs : s.heap.FunFrames base outer
 frf : ∀ b ∈ frs outer, H b = none
 hok : HOk P w H s.heap
 bare : AllBare s.gens
def CE (outer : List Env) (P : Program) (w : World) (H : Hp) (s : Shared) (Q : VK) (u : Value) (s' : Shared) : Prop :=
 ∃ v H', s'.os = s.os /\ AllBare s'.gens /\ Un (frs outer) [] H H' s.heap s'.heap /\ HOk P w H' s'.heap /\ RelV v u /\ Q v H'
def CR (CX : CXT) (outer : List Env) (P : Program) (w : World) (H : Hp) (s : Shared) (Q : VK) (E : XK) (r : Result) (s' : Shared) : Prop :=
 match r with
 | .ok (.ret u) => CE outer P w H s Q u s'
 | .ok _ => False
 | .error e => CX outer H s E e s'
structure FnOk (P : Program) (w : World) (K : PySem.W.Frag) (mg : Str -> Option Value) (base : Heap) (CX : CXT) (k : Nat) (f : Addr) (fd : FuncData) (ps : List Str) (sp : Sp) : Prop where
 len : ∀ vs H Q E, sp vs H Q E -> vs.length = ps.length
 run : ∀ (A : Around) (outer : List Env) (s : Shared) (H : Hp) (args : Args) (us : List Value) (vs : List V) (Q : VK) (E : XK), Room k A -> Env0 P w K mg base A outer s H -> BindsTo s fd args (ps.zip us) -> Vals vs us -> sp vs H Q E ->
  codeAny (model P w) A (.call (.ref f) args) (CR CX outer P w H s Q E) s
theorem Env0.make {P : Program} {w : World} {K : PySem.W.Frag} {mg : Str -> Option Value} {base : Heap} {A : Around} {outer : List Env} {s : Shared} {H : Hp} (e : Env0 P w K mg base A outer s H) (C : Addr) (us : List Value) (kw : List (Str × Value)) :
  Env0 P w K mg base (A.under (.builtin "type.__call__" ⟨.ref C :: us, kw⟩)) outer s H := ⟨by first | exact e.frames | (simpa [Around.under, Code.envs, Code.isFrame, pushEnvs] using e.frames), e.mod, e.bs, e.bsz, e.funs, e.frf, e.hok, e.bare⟩
theorem Env0.in1 {P : Program} {w : World} {K : PySem.W.Frag} {mg : Str -> Option Value} {base : Heap} {A : Around} {outer : List Env} {s : Shared} {H : Hp} (e : Env0 P w K mg base A outer s H) :
  Env0 P w K mg base A.in1 outer s H := ⟨e.frames, e.mod, e.bs, e.bsz, e.funs, e.frf, e.hok, e.bare⟩
section
variable {X : Cx} {pins : List (Addr × Obj)} {σ : St} {H : Hp} {s s' : Shared}
theorem Inv.env0 (I : Inv X pins σ H s) : Env0 X.prog X.w X.K X.mg X.base X.A X.stack s H :=
 ⟨I.ok.frames, I.ok.mod, I.bs, Nat.le_trans I.ok.bsz I.sz, I.stack, I.stkFree, I.hok, I.bare⟩
theorem Inv.after {Q : VK} {u : Value} (I : Inv X pins σ H s) (h : CE X.stack X.prog X.w H s Q u s') : EP X pins σ Q u s' := by
 obtain ⟨v, H', os, bare, un, hok, r, q⟩ := h
 obtain ⟨hh, g, d, t, os'⟩ := s'
 obtain rfl : os' = s.os := os
 exact ⟨v, H', I.call (h' := hh) (g' := g) (d' := d) (t' := t) (ch := []) un hok bare (fun b z => absurd z (by simp)), r, q⟩
end
def tCall (sp : Sp) (dvs : List V) (E : XK) (t : TA) : TE := fun σ H Q => t σ H fun vs H1 => sp (vs ++ dvs) H1 Q E
def tMake (C : Addr) (sp : Sp) (dvs : List V) (E : XK) (t : TA) : TE := fun σ H Q => t σ H fun vs H1 => ∀ x dx, H1 x = none -> H1 dx = none -> dx ≠ x ->
 sp (.ref x :: (vs ++ dvs)) (upd (upd H1 dx (.own x)) x (.ins C dx [])) (fun v H2 => v = .non /\ Q (.ref x) H2) E
def Binds (K : PySem.W.Frag) (fd : FuncData) (ps : List Str) (ds : List Value) : Prop :=
 ∀ (s : Shared) (us : List Value), K.In s.heap -> (us ++ ds).length = ps.length -> BindsTo s fd ⟨us, []⟩ (ps.zip (us ++ ds))
theorem Binds.all {K : PySem.W.Frag} {fd : FuncData} {ps : List Str} (h : ∀ us : List Value, us.length = ps.length -> bindArgs fd ⟨us, []⟩ = pure (ps.zip us)) : Binds K fd ps [] := fun s us _ hl => by
 rw [List.append_nil] at hl ⊢
 exact .of_eq (h us hl)
def Passes (CX : CXT) (X : Cx) (E : XK) : Prop := ∀ (pins : List (Addr × Obj)) (σ : St) (H : Hp) (s : Shared) (e : Value) (s' : Shared), Inv X pins σ H s -> CX X.stack H s E e s' -> X.xe e s'
section
variable {X : Cx} {CX : CXT} {k : Nat} {f C : Addr} {fd : FuncData} {ps : List Str} {sp : Sp} {dvs : List V} {ds : List Value} {E : XK} {x m : Str} {p pos apos : Pos} {e o : Expr} {es : List Expr} {ta : TE} {t : TA}
theorem run_fn {pins : List (Addr × Obj)} {σ : St} {H : Hp} {s : Shared} {Q : VK} {us : List Value} {vs : List V} (F : FnOk X.prog X.w X.K X.mg X.base CX k f fd ps sp) (hr : Room k X.A) (hb : Binds X.K fd ps ds) (hd : Vals dvs ds) (hx : Passes CX X E)
  (I : Inv X pins σ H s) (r : Vals vs us) (h : sp (vs ++ dvs) H Q E) : wpAny (model X.prog X.w) X.A (call (.ref f) us) (EP X pins σ Q) X.xe s := by
 have r2 : Vals (vs ++ dvs) (us ++ ds) := r.append hd
 have hl : (us ++ ds).length = ps.length := by rw [<- r2.length]; exact F.len _ _ _ _ h
 refine wpAny_call (codeAny_mono (F.run X.A X.stack s H ⟨us, []⟩ (us ++ ds) (vs ++ dvs) Q E hr I.env0 (hb s us I.kIn hl) r2 h) fun r s' hq => ?_)
 cases r with
 | error e => exact hx pins σ H s e s' I hq
 | ok fl =>
  cases fl with
  | ret u => exact I.after hq
  | next => exact False.elim hq
  | brk => exact False.elim hq
  | cont => exact False.elim hq
theorem pe_call (F : FnOk X.prog X.w X.K X.mg X.base CX k f fd ps sp) (hr : Room k X.A) (hg : Gl X x) (hm : X.mg x = some (.ref f)) (hk : PySem.W.keepIn X.K (.ref f) = true) (hb : Binds X.K fd ps ds) (hd : Vals dvs ds) (hx : Passes CX X E)
  (ha : PA X (e :: es) t) (hdb : (x == ("__debug__" : Str)) = false := by decide) (he : starEach (e :: es) X.env = (false, eval e X.env) :: starEach es X.env := by rfl) (hpl : (backTo pos (starEach es X.env)).any (·.1) = false := by rfl) :
  PE X (.Call (.Name x p) (e :: es) [] pos) (tCall sp dvs E t) := by
 intro pins s σ H Q I h
 refine wpAny_Call_Name_kw (ld_glob I hg hm ?_ hdb)
 refine PySem.W.callWith_K (h₀ := X.base) I.ok.mod.kin hk (thn (ha pos pins s σ H _ I h) fun us s1 ⟨vs, H1, I1, r, q⟩ => ⟨I1.kIn, ?_⟩) he hpl
 exact run_fn F hr hb hd hx I1 r q
structure Mk (K : PySem.W.Frag) (C f : Addr) : Prop where
 makes : PySem.W.makesIn K C = true
 init : PySem.W.findIn K (.ref C) "__init__" = some (some (.ref f))
 fn : PySem.W.isFn K (.ref f) = true
 kp : PySem.W.keepIn K (.ref C) = true
theorem run_make {pins : List (Addr × Obj)} {σ : St} {H : Hp} {s : Shared} {Q : VK} {us : List Value} {vs : List V} (M : Mk X.K C f) (F : FnOk X.prog X.w X.K X.mg X.base CX k f fd ps sp) (hr : Room (k + 1) X.A) (hb : Binds X.K fd ps ds) (hd : Vals dvs ds)
  (hx : Passes CX X E) (I : Inv X pins σ H s) (r : Vals vs us)
  (h : ∀ x dx, H x = none -> H dx = none -> dx ≠ x -> sp (.ref x :: (vs ++ dvs)) (upd (upd H dx (.own x)) x (.ins C dx [])) (fun v H2 => v = .non /\ Q (.ref x) H2) E) :
  wpAny (model X.prog X.w) X.A (call (.ref C) us) (EP X pins σ Q) X.xe s := by
 have hq := h (s.heap.objs.size + 1) s.heap.objs.size (I.hok.fresh (Nat.le_succ _)) (I.hok.fresh (Nat.le_refl _)) (Nat.ne_of_lt (Nat.lt_succ_self _))
 have I2 := Inv.made (C := C) I
 have r2 : Vals (V.ref (s.heap.objs.size + 1) :: (vs ++ dvs)) (Value.ref (s.heap.objs.size + 1) :: (us ++ ds)) := .cons rfl (r.append hd)
 have hl : (Value.ref (s.heap.objs.size + 1) :: us ++ ds).length = ps.length := by
  have e := r2.length
  rw [F.len _ _ _ _ hq] at e
  exact e.symm
 refine wpAny_call (make_map (f := f) I.kIn M.makes M.init (beq_iff_eq.mp M.fn) (codeAny_mono (F.run _ X.stack _ _ ⟨Value.ref (s.heap.objs.size + 1) :: us, []⟩ (Value.ref (s.heap.objs.size + 1) :: (us ++ ds)) _ _ E (hr.make C us [])
  (I2.env0.make C us []) (hb _ (Value.ref (s.heap.objs.size + 1) :: us) I2.kIn hl) r2 hq) fun r s' hq' => ?_))
 cases r with
 | error e => exact hx pins σ _ _ e s' I2 hq'
 | ok fl =>
  cases fl with
  | ret u =>
   obtain ⟨v, H', I3, rv, ev, q3⟩ := I2.after hq'
   subst ev
   exact ⟨rv, ⟨V.ref (s.heap.objs.size + 1), H', I3, rfl, q3⟩⟩
  | next => exact False.elim hq'
  | brk => exact False.elim hq'
  | cont => exact False.elim hq'
theorem pe_make (M : Mk X.K C f) (F : FnOk X.prog X.w X.K X.mg X.base CX k f fd ps sp) (hr : Room (k + 1) X.A) (hg : Gl X x) (hm : X.mg x = some (.ref C)) (hb : Binds X.K fd ps ds) (hd : Vals dvs ds) (hx : Passes CX X E)
  (ha : PA X (e :: es) t) (hdb : (x == ("__debug__" : Str)) = false := by decide) (he : starEach (e :: es) X.env = (false, eval e X.env) :: starEach es X.env := by rfl) (hpl : (backTo pos (starEach es X.env)).any (·.1) = false := by rfl) :
  PE X (.Call (.Name x p) (e :: es) [] pos) (tMake C sp dvs E t) := by
 intro pins s σ H Q I h
 refine wpAny_Call_Name_kw (ld_glob I hg hm ?_ hdb)
 refine PySem.W.callWith_K (h₀ := X.base) I.ok.mod.kin M.kp (thn (ha pos pins s σ H _ I h) fun us s1 ⟨vs, H1, I1, r, q⟩ => ⟨I1.kIn, ?_⟩) he hpl
 exact run_make M F hr hb hd hx I1 r q
end
section
variable {X : Cx} {CX : CXT} {k : Nat} {f C : Addr} {fd : FuncData} {ps ks : List Str} {sp : Sp} {E : XK} {x m : Str} {p pos apos kpos : Pos} {e o : Expr} {es : List Expr} {kws : List Keyword} {te ta : TE} {t tk : TA} {nm : Option Str}
structure KBinds (K : PySem.W.Frag) (fd : FuncData) (ps ks : List Str) (g : List Value -> List Value -> List Value) (gV : List V -> List V -> List V) : Prop where
 to : ∀ (s : Shared) (us ws : List Value), K.In s.heap -> (g us ws).length = ps.length -> BindsTo s fd ⟨us, ks.zip ws⟩ (ps.zip (g us ws))
 rel : ∀ {vs : List V} {us : List Value} {zs : List V} {ws : List Value}, Vals vs us -> Vals zs ws -> Vals (gV vs zs) (g us ws)
variable {g : List Value -> List Value -> List Value} {gV : List V -> List V -> List V}
end
structure FnScope (N P : List Str) (sc : Scope) : Prop where
 kind : sc.kind = .function
 co : sc.isCoroutine = false
 gen : sc.isGenerator = false
 nd : N.Nodup
 pre : N.take P.length = P
 par : ∀ x ∈ P, sc.names.lookup x = some .local \/ sc.names.lookup x = some .cell
 nofree : ∀ y ∈ sc.names, y.2 ≠ .free
theorem bindL_out {kindOf : Str -> Option NameKind} {x : Str} : ∀ {binds : List (Str × Value)} {m : Str -> Option Value}, (∀ v, (x, v) ∉ binds) -> bindL kindOf binds m x = m x
 | [], _, _ => rfl
 | (n, v) :: r, m, h => by
  unfold bindL
  rw [bindL_out fun w hw => h w (List.mem_cons_of_mem _ hw)]
  split
  ·have : x ≠ n := by rintro rfl; exact h v List.mem_cons_self
   simp [this]
  ·rfl
theorem bindC_out {kindOf : Str -> Option NameKind} {x : Str} : ∀ {binds : List (Str × Value)} {m : Str -> Option Value}, (∀ v, (x, v) ∉ binds) -> bindC kindOf binds m x = m x
 | [], _, _ => rfl
 | (n, v) :: r, m, h => by
  unfold bindC
  rw [bindC_out fun w hw => h w (List.mem_cons_of_mem _ hw)]
  split
  ·rfl
  ·have : x ≠ n := by rintro rfl; exact h v List.mem_cons_self
   simp [this]
theorem bindL_get {kindOf : Str -> Option NameKind} {x : Str} {v : Value} : ∀ {P : List Str} {vs : List Value} {i : Nat} {m : Str -> Option Value}, P.Nodup -> P[i]? = some x -> vs[i]? = some v -> kindOf x = some .local ->
  bindL kindOf (P.zip vs) m x = some v
 | [], _, _, _, _, h, _, _ => by simp at h
 | _ :: _, [], _, _, _, _, h, _ => by simp at h
 | p :: P, w :: vs, 0, m, nd, h1, h2, hk => by
  simp at h1 h2; subst h1; subst h2
  show bindL kindOf ((p, w) :: P.zip vs) m p = _
  unfold bindL
  rw [bindL_out fun v hv => (List.nodup_cons.mp nd).1 (List.of_mem_zip hv).1, if_pos hk]
  simp
 | p :: P, w :: vs, i + 1, m, nd, h1, h2, hk => by
  show bindL kindOf ((p, w) :: P.zip vs) m x = _
  unfold bindL
  exact bindL_get (i := i) (List.nodup_cons.mp nd).2 (by simpa using h1) (by simpa using h2) hk
theorem bindC_get {kindOf : Str -> Option NameKind} {x : Str} {v : Value} : ∀ {P : List Str} {vs : List Value} {i : Nat} {m : Str -> Option Value}, P.Nodup -> P[i]? = some x -> vs[i]? = some v -> kindOf x ≠ some .local ->
  bindC kindOf (P.zip vs) m x = some v
 | [], _, _, _, _, h, _, _ => by simp at h
 | _ :: _, [], _, _, _, _, h, _ => by simp at h
 | p :: P, w :: vs, 0, m, nd, h1, h2, hk => by
  simp at h1 h2; subst h1; subst h2
  show bindC kindOf ((p, w) :: P.zip vs) m p = _
  unfold bindC
  rw [bindC_out fun v hv => (List.nodup_cons.mp nd).1 (List.of_mem_zip hv).1, if_neg hk]
  simp
 | p :: P, w :: vs, i + 1, m, nd, h1, h2, hk => by
  show bindC kindOf ((p, w) :: P.zip vs) m x = _
  unfold bindC
  exact bindC_get (i := i) (List.nodup_cons.mp nd).2 (by simpa using h1) (by simpa using h2) hk
def start (N : List Str) (vs : List V) : St := vs.map some ++ List.replicate (N.length - vs.length) none
def cxOf (CX : CXT) (P : Program) (w : World) (K : PySem.W.Frag) (mg : Str -> Option Value) (base : Heap) (N : List Str) (qual : Str) (scope : Scope) (f : Addr) (cd : Value) (A : Around) (outer : List Env) (s : Shared) (H : Hp) (E : XK) : Cx where
 prog := P
 w := w
 K := K
 mg := mg
 base := base
 A := A.deeper (envOfC qual scope s.heap.objs.size f cd)
 N := N
 s₀ := s
 H₀ := H
 env := envOfC qual scope s.heap.objs.size f cd
 outer := outer
 stack := envOfC qual scope s.heap.objs.size f cd :: outer
 ex := []
 calm := true
 fn := fun _ => true
 pn := []
 xe := fun e s' => wpAny (model P w) (A.deeper (envOfC qual scope s.heap.objs.size f cd)) (leaving (envOfC qual scope s.heap.objs.size f cd) e) (fun _ s'' => CX outer H s E e s'') (fun e' s'' => CX outer H s E e' s'') s'
theorem cell_has {sc : Scope} {n : Nat} {x : Str} (h : sc.names.lookup x = some .cell) : ∃ c, (cellsFrom n sc.names []).lookup x = some c := by
 have q := PySem.W.cellsFrom_some sc.names n [] (.inl h)
 exact Option.isSome_iff_exists.mp q
theorem inv_start {CX : CXT} {P : Program} {w : World} {K : PySem.W.Frag} {mg : Str -> Option Value} {base : Heap} {N ps : List Str} {qual : Str} {scope : Scope} {f : Addr} {cd : Value} {A : Around} {outer : List Env} {s s1 : Shared} {H : Hp} {E : XK} {us : List Value} {vs : List V}
  (S : FnScope N ps scope) (hd : A.handled = none) (e0 : Env0 P w K mg base A outer s H) (hl : vs.length = ps.length) (r : Vals vs us)
  (x : InCallC s s.heap.objs.size (bindL (envOfC qual scope s.heap.objs.size f cd).kindOf (ps.zip us) fun _ => none) (cellsFrom (s.heap.objs.size + 1) scope.names []) (bindC (envOfC qual scope s.heap.objs.size f cd).kindOf (ps.zip us) fun _ => none) s1) :
  Inv (cxOf CX P w K mg base N qual scope f cd A outer s H E) [] (start N vs) H s1 := by
 have hpl : ps.length <= N.length := by have := congrArg List.length S.pre; rw [List.length_take] at this; omega
 obtain ⟨h1, tk, rfl, hk⟩ := x.done
 have noA : ∀ b : Addr, b ∉ (cxOf CX P w K mg base N qual scope f cd A outer s H E).ex := fun b z => absurd (show b ∈ ([] : List Addr) from z) (by simp)
 refine ⟨⟨e0.mod, S.kind, rfl, rfl, Nat.le_refl _, fun y z c h1 h2 => ?_, fun y hy => ?_, fun y c _ h => ?_, fun _ => hd, Around.frames_deeper e0.frames, .inr ⟨rfl, rfl⟩, fun b z => absurd z (noA b), e0.bs, e0.bsz, fun b _ _ => noA b, fun b z => absurd z (noA b), e0.funs, e0.frf⟩,
  rfl, e0.bare, Un.kept hk, ⟨_, x.toInCall.ns, fun i y v h1 h2 h3 => ?_⟩, fun y c h => ⟨_, x.cell y c h⟩, e0.hok.fresh (Nat.le_refl _), fun y c h => ?_, fun p hp => absurd (show p ∈ ([] : List (Addr × Obj)) from hp) (by simp), e0.hok.kept hk, ?_⟩
 ·exact name_of_addr x.apart (PySem.mem_of_lookup h1) (PySem.mem_of_lookup h2)
 ·have hy : scope.names.lookup y = some .cell \/ scope.names.lookup y = some .free := hy
  rcases hy with hy | hy
  ·exact cell_has hy
  ·exact absurd rfl (S.nofree _ (PySem.mem_of_lookup hy))
 ·exact Nat.le_of_lt (x.above y c (PySem.mem_of_lookup h))
 ·have hi : i < vs.length := by
   unfold start at h2
   by_cases hi : i < vs.length
   ·exact hi
   ·rw [List.getElem?_append_right (by simpa using hi)] at h2
    rw [List.getElem?_replicate] at h2
    split at h2 <;> cases h2
  have ha : vs[i]? = some v := by
   unfold start at h2
   rw [List.getElem?_append_left (by simpa using hi), List.getElem?_map] at h2
   cases e : vs[i]? with
   | none => rw [e] at h2; cases h2
   | some a => rw [e] at h2; cases h2; rfl
  obtain ⟨u, hu, rv⟩ := r.get ha
  have hp : ps[i]? = some y := by
   rw [<- S.pre, List.getElem?_take_of_lt (by omega)]; exact h1
  have ndP : ps.Nodup := by rw [<- S.pre]; exact S.nd.sublist (List.take_sublist _ _)
  refine ⟨u, rv, ?_⟩
  rcases S.par y (List.mem_of_getElem? hp) with k | k
  ·exact .inl ⟨k, bindL_get ndP hp hu k⟩
  ·obtain ⟨c, e⟩ := cell_has (n := s.heap.objs.size + 1) k
   refine .inr ⟨.inl k, c, e, ?_⟩
   have q := x.cell y c e
   rw [bindC_get ndP hp hu (by show scope.names.lookup y ≠ _; rw [k]; decide)] at q
   exact q
 ·exact e0.hok.fresh (Nat.le_of_lt (x.above y c (PySem.mem_of_lookup h)))
 ·unfold start
  show _ = N.length
  rw [List.length_append, List.length_map, List.length_replicate]
  omega
theorem fn_of {CX : CXT} {P : Program} {w : World} {K : PySem.W.Frag} {mg : Str -> Option Value} {base : Heap} {k : Nat} {f : Addr} {name qual : Str} {params : Arguments} {body : List Stmt} {scope : Scope} {dV kV doc pm cdv ct oc : Value} {an od : Option Addr}
  {osl : Array (Option Value)} {N ps : List Str} {sp : Sp} (lk : K.lookup f = some ⟨oc, od, .func (PySem.W.fnOf name qual params body scope dV kV doc pm an cdv ct), osl⟩) (hcd : PySem.W.codeIn K cdv qual = true) (S : FnScope N ps scope)
  (len : ∀ vs H Q E, sp vs H Q E -> vs.length = ps.length)
  (hbody : ∀ (A : Around) (outer : List Env) (s : Shared) (H : Hp) (vs : List V) (Q : VK) (E : XK), Room k (A.deeper (envOfC qual scope s.heap.objs.size f cdv)) -> sp vs H Q E ->
   ∃ t, PSs (cxOf CX P w K mg base N qual scope f cdv A outer s H E) body t /\ t { nx := fun _ H' => Q .non H', rt := Q } (start N vs) H) :
  FnOk P w K mg base CX (k + 1) f (PySem.W.fnOf name qual params body scope dV kV doc pm an cdv ct) ps sp := by
 refine ⟨len, fun A outer s H args us vs Q E hr e0 hb r hsp => ?_⟩
 have hl := len _ _ _ _ hsp
 have KX : K.In s.heap := e0.mod.kin.keeps fun b o e => (e0.bs b o e).1
 have lim : s.heap.NoLimit := e0.mod.nolimit.keeps fun b o e => (e0.bs b o e).1
 have hkind : ∀ y ∈ ps.zip us, scope.names.lookup y.1 = some .local \/ (scope.names.lookup y.1 = some .cell /\ ((cellsFrom (s.heap.objs.size + 1) scope.names []).lookup y.1).isSome = true) := fun ⟨n, v⟩ hy => by
  rcases S.par n (List.of_mem_zip hy).1 with q | q
  ·exact .inl q
  ·exact .inr ⟨q, PySem.W.cellsFrom_some _ _ _ (.inl q)⟩
 refine codeAny_call_function hr.depth (KX _ _ lk) rfl S.co S.gen rfl (PySem.W.codeRec_of KX hcd) (hb _ _ _ _ ?_)
 refine wpAny_newFunctionEnv_cells S.kind hkind fun env he s1 x => ?_
 subst he
 refine ⟨lim.keeps x.toInCall.keep, codeAny_func ?_⟩
 obtain ⟨t, ht, hq⟩ := hbody A outer s H vs Q E (hr.deeper _) hsp
 have I : Inv (cxOf CX P w K mg base N qual scope f cdv A outer s H E) [] (start N vs) H s1 := inv_start S hr.hd e0 hl r x
 refine wpAny_mono (ht [] s1 (start N vs) H _ I hq) (fun fl s' hs => ?_) fun e s' hs => hs
 have fin : ∀ {σ' : St} {H' : Hp} {v : V} {u : Value}, Inv (cxOf CX P w K mg base N qual scope f cdv A outer s H E) [] σ' H' s' -> RelV v u -> Q v H' -> CE outer P w H s Q u s' :=
  fun {σ' H' v u} J rv q => ⟨v, H', J.os, J.bare, J.base, J.hok, rv, q⟩
 cases fl with
 | ret u =>
  obtain ⟨v, σ', H', J, rv, q⟩ := hs
  exact fin J rv q
 | next =>
  obtain ⟨σ', H', J, q⟩ := hs
  exact fin (v := V.non) (u := Value.none) J rfl q
 | brk =>
  obtain ⟨_, _, _, q⟩ := hs
  exact False.elim q
 | cont =>
  obtain ⟨_, _, _, q⟩ := hs
  exact False.elim q
section
variable {X : Cx} {x : Str} {p pos : Pos} {e : Expr} {es : List Expr} {t : TA} {id T : String} {r : List V -> Hp -> VK -> Prop}
def tCB (r : List V -> Hp -> VK -> Prop) (t : TA) : TE := fun σ H Q => t σ H fun vs H1 => r vs H1 Q
theorem pe_callB (hc : CallR X (.builtin id) r) (hg : Gl X x) (hm : X.mg x = none) (hv : bootBuiltins x = some (.builtin id)) (ha : PA X (e :: es) t) (hn : x ≠ "__name__" := by decide) (hdb : (x == ("__debug__" : Str)) = false := by decide)
  (he : starEach (e :: es) X.env = (false, eval e X.env) :: starEach es X.env := by rfl) (hpl : (backTo pos (starEach es X.env)).any (·.1) = false := by rfl) : PE X (.Call (.Name x p) (e :: es) [] pos) (tCB r t) := by
 intro pins s σ H Q I h
 refine wpAny_Call_Name_kw (ld_blt I hg hm hv ?_ hn hdb)
 exact PyProof.Rows.callWith_builtin1 (thn (ha pos pins s σ H _ I h) fun us s1 ⟨vs, H1, I1, r1, q1⟩ => hc pins s1 σ H1 vs us Q I1 r1 q1) he hpl
theorem pe_callTy (hc : CallR X (.type T) r) (hg : Gl X x) (hm : X.mg x = none) (hv : bootBuiltins x = some (.type T)) (ha : PA X (e :: es) t) (hn : x ≠ "__name__" := by decide) (hdb : (x == ("__debug__" : Str)) = false := by decide)
  (he : starEach (e :: es) X.env = (false, eval e X.env) :: starEach es X.env := by rfl) (hpl : (backTo pos (starEach es X.env)).any (·.1) = false := by rfl) : PE X (.Call (.Name x p) (e :: es) [] pos) (tCB r t) := by
 intro pins s σ H Q I h
 refine wpAny_Call_Name_kw (ld_blt I hg hm hv ?_ hn hdb)
 exact PyProof.Rows.callWith_type1 (thn (ha pos pins s σ H _ I h) fun us s1 ⟨vs, H1, I1, r1, q1⟩ => hc pins s1 σ H1 vs us Q I1 r1 q1) he hpl
end
end L2
namespace HT
open PySem PyProof.Rows
def lexLt : List Int -> List Int -> Bool
 | [], [] => false
 | [], _ :: _ => true
 | _ :: _, [] => false
 | x :: xs, y :: ys => if x = y then lexLt xs ys else decide (x < y)
theorem lexLt_cons (x y : Int) (xs ys : List Int) : lexLt (x :: xs) (y :: ys) = if x = y then lexLt xs ys else decide (x < y) := rfl
theorem lexLt_nil_nil : lexLt [] [] = false := rfl
theorem lexLt_nil_cons (y : Int) (ys : List Int) : lexLt [] (y :: ys) = true := rfl
theorem lexLt_cons_nil (x : Int) (xs : List Int) : lexLt (x :: xs) [] = false := rfl
theorem eqAt_int (A : Around) (s : Shared) (a : Int) (t : Tok) (c : Int) (u : Tok) : ∃ e, SeqAt.EqAt A s (.int a t) (.int c u) e /\ (e = true ↔ a = c) :=
 ⟨(a == c), SeqAt.EqAt.int_int a t c u, by simp⟩
theorem rcLt_int (A : Around) (s : Shared) (a : Int) (t : Tok) (c : Int) (u : Tok) (prog : Program) (w : World) (E : Value -> Shared -> Prop) (Q : Value -> Shared -> Prop) (h : Q (.bool (decide (a < c))) s) :
  wpAny (model prog w) A (richCompare .Lt (.int a t) (.int c u)) Q E s :=
 (PyProof.Rows.lt_int h : wpAny (model prog w) A (compareOp .Lt (.int a t) (.int c u)) Q E s)
section
open PySem.SeqAt
open PySem.AutoSeq1 (wpAny_loadPart')
open PySem.MeetsSeq PySem.MeetsSeq2 PySem.MeetsSeq3
theorem tuple_lt_ints (l b : Addr) (items items2 : Array Value) (n n2 : Nat) (dd dd2 : Option Addr) (sl sl2 : Array (Option Value)) (ns ms : List Int) (hi : IntsAre items.toList ns) (hj : IntsAre items2.toList ms) :
  Meets (Builtin.«tuple.__lt__» ⟨[.ref l, .ref b], []⟩)
   (fun _ R s => s.heap.get? l = some { cls := .type "tuple", dict := dd, data := .seq items n, slots := sl } /\ s.heap.get? b = some { cls := .type "tuple", dict := dd2, data := .seq items2 n2, slots := sl2 } /\
    R (.ok (.ret (.bool (lexLt ns ms)))) s) :=
 .of_wp fun prog w A R s h => by
  obtain ⟨hp, g, d, tk, os⟩ := s; obtain ⟨hl, hb, h⟩ := h
  have f2 := AutoSeq1.sub_tuple_tuple
  have z1 : items.size = ns.length := by rw [<- hi.length]; simp
  have z2 : items2.size = ms.length := by rw [<- hj.length]; simp
  wp_walk using wpAny_loadPart' hl, wpAny_loadPart' hb, wpAny_forIn_list _ (fun rest b s' => b.1 = none /\ s' = ⟨hp, g, d, tk, os⟩ /\ ∃ (vs ws : List Value) (ns' ms' : List Int), rest = vs.zip ws /\
   IntsAre vs ns' /\ IntsAre ws ms' /\ ns'.length + items2.size = ms'.length + items.size /\ R (.ok (.ret (.bool (lexLt ns' ms')))) ⟨hp, g, d, tk, os⟩) _
  case turn =>
   rintro ⟨y, x⟩ rest b s' ⟨hb', rfl, vs, ws, ns', ms', hz, hvi, hwi, hlen, hR⟩
   cases hvi with
   | nil => rw [List.zip_nil_left] at hz; cases hz
   | cons a t hvi' =>
    cases hwi with
    | nil => rw [List.zip_nil_right] at hz; cases hz
    | cons c u hwi' =>
     rw [List.zip_cons_cons] at hz
     injection hz with hyx hrest
     injection hyx with hy hx
     subst hy hx
     rw [lexLt_cons] at hR
     simp only [List.length_cons] at hlen
     obtain ⟨e, he, hiff⟩ := eqAt_int A.in1 ⟨hp, g, d, tk, os⟩ a t c u
     refine wpAny_bind (he prog w _ _ ?_)
     cases e with
     | true =>
      rw [if_pos (hiff.mp rfl)] at hR
      wp_walk
      exact ⟨rfl, rfl, _, _, _, _, hrest, hvi', hwi', by omega, hR⟩
     | false =>
      rw [if_neg (fun q => absurd (hiff.mpr q) Bool.false_ne_true)] at hR
      have hri := rcLt_int A.in1 ⟨hp, g, d, tk, os⟩ a t c u prog w
      wp_walk using hri
      exact ⟨_, rfl, by simpa using hR⟩
  case fin =>
   rintro ⟨b1, b2⟩ s' ⟨hb', rfl, vs, ws, ns', ms', hz, hvi, hwi, hlen, hR⟩
   simp only at hb'
   subst hb'
   have hv : lexLt ns' ms' = decide (items.size < items2.size) := by
    cases hvi with
    | nil =>
     cases hwi with
     | nil =>
      simp only [List.length_nil] at hlen
      rw [lexLt_nil_nil]
      exact (decide_eq_false (by omega)).symm
     | cons c u hw =>
      simp only [List.length_nil, List.length_cons] at hlen
      rw [lexLt_nil_cons]
      exact (decide_eq_true (by omega)).symm
    | cons a t hv =>
     cases hwi with
     | nil =>
      simp only [List.length_nil, List.length_cons] at hlen
      rw [lexLt_cons_nil]
      exact (decide_eq_false (by omega)).symm
     | cons c u hw =>
      rw [List.zip_cons_cons] at hz
      cases hz
   rw [hv] at hR
   wp_walk
   exact ⟨_, rfl, by simpa [Builtin.Tuple.tupleCompareSizes] using hR⟩
  case h =>
   exact ⟨rfl, rfl, items.toList, items2.toList, ns, ms, rfl, hi, hj, by omega, h⟩
end
section
variable {prog : Program} {w : World} {A : Around} {E : Value -> Shared -> Prop} {s : Shared}
theorem lt_tupInts {l b : Addr} {items items2 : Array Value} {ns ms : List Int} {Q : Value -> Shared -> Prop} (hl : IsTup s.heap l items) (hb : IsTup s.heap b items2) (hi : IntsAre items.toList ns) (hj : IntsAre items2.toList ms)
  (hu : A.units < cLine) (h : Q (.bool (lexLt ns ms)) s) : wpAny (model prog w) A (compareOp .Lt (.ref l) (.ref b)) Q E s := by
 obtain ⟨⟨cls, dd, data, sl⟩, ho, hc, n, hd⟩ := id hl
 obtain ⟨⟨cls2, dd2, data2, sl2⟩, ho2, hc2, n2, hd2⟩ := id hb
 simp only at hc hd hc2 hd2
 subst hc hd hc2 hd2
 exact richCompare_meets_room (op := .Lt) ⟨_, ho, rfl⟩ ⟨_, ho2, rfl⟩ PySem.F.slot_tuple_lt PySem.F.entry_tuple_lt (PySem.F.args_tuple_lt_2 _ _) (tuple_lt_ints l b items items2 n n2 dd dd2 sl sl2 ns ms hi hj)
  ⟨ho, ho2, show Value.bool (lexLt ns ms) ≠ Value.notImplemented /\ Q (.bool (lexLt ns ms)) s from ⟨(fun x => nomatch x), h⟩⟩ hu
theorem cat_tup {t b : Addr} {vs ws : List Value} {Q : Value -> Shared -> Prop} (ht : IsTup s.heap t vs.toArray) (hb : IsTup s.heap b ws.toArray) (hv : vs ≠ [])
  (h1 : ws = [] -> Q (.ref t) s) (h2 : ws ≠ [] -> Q (.ref s.heap.objs.size) { s with heap := s.heap.push { cls := .type "tuple", data := .seq (vs ++ ws).toArray } })
  (hsz : vs.length + ws.length <= sizeLine) : wpAny (model prog w) A (binaryOp .Add (.ref t) (.ref b)) Q E s := by
 obtain ⟨⟨cls, dd, data, sl⟩, ho, hc, n, hd⟩ := id ht
 obtain ⟨⟨cls2, dd2, data2, sl2⟩, ho2, hc2, n2, hd2⟩ := id hb
 simp only at hc hd hc2 hd2
 subst hc hd hc2 hd2
 have e : vs.toArray ++ ws.toArray = (vs ++ ws).toArray := by simp
 by_cases hw : ws = []
 ·exact concat_meets ⟨_, ho, rfl⟩ ⟨_, ho2, rfl⟩ noFill_tuple_add seq_tuple_add PySem.F.slot_tuple_add PySem.F.entry_tuple_add (PySem.F.args_tuple_add_2 _ _)
   (tuple_addW1 t b vs.toArray ws.toArray n n2 dd dd2 sl sl2 (by simpa using hv) (by simp [hw])) ⟨ho, ho2, h1 hw⟩
 ·refine concat_meets ⟨_, ho, rfl⟩ ⟨_, ho2, rfl⟩ noFill_tuple_add seq_tuple_add PySem.F.slot_tuple_add PySem.F.entry_tuple_add (PySem.F.args_tuple_add_2 _ _)
   (tuple_addW2 t b vs.toArray ws.toArray n n2 dd dd2 sl sl2 (by simpa using hv) (by simpa using hw) (by rw [List.size_toArray, List.size_toArray]; exact hsz)) ⟨ho, ho2, ?_⟩
  rw [e]
  exact h2 hw
def sIx (n d : Nat) : Option Int -> Nat
 | none => d
 | some v => if v < 0 then (v + (n : Int)).toNat else min v.toNat n
theorem sIx_none (n d : Nat) : sIx n d none = d := rfl
end
end HT
namespace L2
open PySem PySem.Spec PyProof.Rows
abbrev TO := St -> Hp -> (Option Int -> Hp -> Prop) -> Prop
def PO (X : Cx) (e : Option Expr) (t : TO) : Prop :=
 ∀ (pins : List (Addr × Obj)) (s : Shared) (σ : St) (H : Hp) (Q : Option Int -> Hp -> Prop), Inv X pins σ H s -> t σ H Q ->
  wpAny (model X.prog X.w) X.A (evalPart e X.env) (fun u s' => ∃ o H', Inv X pins σ H' s' /\ IsPart u o /\ Q o H') X.xe s
def tNoPart : TO := fun _ H Q => Q none H
def tPart (t : TE) : TO := fun σ H Q => t σ H fun x H1 => ∃ i, x = .int i /\ Q (some i) H1
section
variable {X : Cx} {e : Expr} {te : TE} {lo hi : Option Expr} {tl th : TO} {pos p2 : Pos}
theorem po_none : PO X none tNoPart := by
 intro pins s σ H Q I h
 rw [evalPart_none]
 exact wpAny_pure ⟨none, H, I, .none, h⟩
theorem po_some (h : PE X e te) : PO X (some e) (tPart te) := by
 intro pins s σ H Q I hw
 rw [evalPart_some]
 refine thn (h pins s σ H _ I hw) fun u s1 ⟨x, H1, I1, r1, q1⟩ => ?_
 obtain ⟨i, rfl, q⟩ := q1
 obtain ⟨t, rfl⟩ := r1
 exact ⟨some i, H1, I1, .int i t, q⟩
def SlR (X : Cx) (r : V -> Option Int -> Option Int -> Hp -> VK -> Prop) : Prop :=
 ∀ (pins : List (Addr × Obj)) (s : Shared) (σ : St) (H : Hp) (x : V) (v vl vu : Value) (lo hi : Option Int) (sl : Addr) (Q : VK), Inv X pins σ H s -> RelV x v -> s.heap.IsSliceOf sl vl vu .none -> IsPart vl lo -> IsPart vu hi -> r x lo hi H Q ->
  ∃ T id, typeLookup (.type T) "__getitem__" = pure (some (.builtin id)) /\ s.TypeIs v T /\ wpAny (model X.prog X.w) X.A (getItem v (.ref sl)) (EP X pins σ Q) X.xe s
def tSl (r : V -> Option Int -> Option Int -> Hp -> VK -> Prop) (te : TE) (tl th : TO) : TE := fun σ H Q => te σ H fun x H1 => tl σ H1 fun l H2 => th σ H2 fun u H3 => r x l u H3 Q
theorem pe_slice {r : V -> Option Int -> Option Int -> Hp -> VK -> Prop} (hr : SlR X r) (he : PE X e te) (hl : PO X lo tl) (hu : PO X hi th) : PE X (.Subscript e (.Slice lo hi none p2) pos) (tSl r te tl th) := by
 intro pins s σ H Q I h
 refine Subscript_ (thn (he pins s σ H _ I h) fun v s1 ⟨x, H1, I1, r1, q1⟩ => ?_)
 refine wpAny_Slice (thn (hl pins s1 σ H1 _ I1 q1) fun vl s2 ⟨l, H2, I2, pl, q2⟩ => thn (hu pins s2 σ H2 _ I2 q2) fun vu s3 ⟨u, H3, I3, pu, q3⟩ => ?_)
 rw [evalPart_none]
 refine wpAny_pure ?_
 have I4 : Inv X pins σ H3 { s3 with heap := s3.heap.push { cls := .type "slice", data := .fields #[vl, vu, .none] } } := I3.kept (t' := s3.toks) fun b ob q => Heap.get?_push_of_some _ q
 obtain ⟨T, id, hT, ht, hg⟩ := hr pins { s3 with heap := s3.heap.push { cls := .type "slice", data := .fields #[vl, vu, .none] } } σ H3 x v vl vu l u s3.heap.objs.size Q I4 r1 (Heap.IsSliceOf.new ..) pl pu q3
 show wpAny (model X.prog X.w) X.A (subscriptTail e (.Slice lo hi none p2) v (.ref s3.heap.objs.size)) (EP X pins σ Q) X.xe { s3 with heap := s3.heap.push { cls := .type "slice", data := .fields #[vl, vu, .none] } }
 exact tail_any (ops := [.ref s3.heap.objs.size, v]) ht hT hg (by with_unfolding_all rfl)
def cutV (xs : List V) (lo hi : Option Int) : List V := (xs.drop (HT.sIx xs.length 0 lo)).take (HT.sIx xs.length xs.length hi - HT.sIx xs.length 0 lo)
theorem cutV_length (xs : List V) (lo hi : Option Int) : (cutV xs lo hi).length <= xs.length := by
 unfold cutV
 rw [List.length_take, List.length_drop]
 omega
def rCatT (K : PySem.W.Frag) : R2 := fun x y H Q => ∃ a b xs ys, x = .ref a /\ y = .ref b /\ SqT K H a xs /\ SqT K H b ys /\ xs ≠ [] /\ xs.length + ys.length <= sizeLine /\
 (ys = [] -> Q (.ref a) H) /\ (ys ≠ [] -> ∀ p, H p = none -> Q (.ref p) (upd H p (.tup (xs ++ ys))))
theorem Vals.nil_iff {xs : List V} {us : List Value} (r : Vals xs us) : us = [] ↔ xs = [] := by
 cases r with
 | nil => simp
 | cons _ _ => simp
theorem op_catT : OpR X (binaryOp .Add) (rCatT X.K) := by
 intro pins s σ H x y v u Q I rx ry h
 obtain ⟨a, b, xs, ys, rfl, rfl, ha, hb, hx, hz, q1, q2⟩ := h
 cases rx
 cases ry
 obtain ⟨its, r1, p1, _⟩ := I.tuple ha
 obtain ⟨its2, r2, p2, _⟩ := I.tuple hb
 refine HT.cat_tup p1 p2 (fun z => hx (r1.nil_iff.mp z)) (fun z => ⟨.ref a, H, I, rfl, q1 (r2.nil_iff.mp z)⟩) (fun z => ?_) (by rw [<- r1.length, <- r2.length]; exact hz)
 refine ⟨.ref s.heap.objs.size, _, I.laid (t' := s.toks) (o := .tup (xs ++ ys)) (fun b ob q => Heap.get?_push_of_some _ q) (Nat.le_refl _) ?_, rfl, q2 (fun w => z (r2.nil_iff.mpr w)) _ (I.hok.fresh (Nat.le_refl _))⟩
 exact ⟨by rw [List.length_append]; exact hz, _, r1.append r2, IsTup.new _ _⟩
end
def ixN (n : Nat) (i : Int) : Option Nat := if 0 <= i then (if i < n then some i.toNat else none) else if -(n : Int) <= i then some (i + n).toNat else none
def atI {α : Type} (xs : List α) (i : Int) : Option α := (ixN xs.length i).bind fun j => xs[j]?
theorem ixN_seq {n : Nat} {i : Int} {j : Nat} (h : ixN n i = some j) : seqIndex? i n = some j /\ j < n /\ -(n : Int) <= i /\ i < n := by
 unfold ixN at h
 by_cases h0 : 0 <= i
 ·rw [if_pos h0] at h
  by_cases h1 : i < n
  ·rw [if_pos h1] at h
   have e : i.toNat = j := Option.some.inj h
   exact ⟨by rw [seqIndex_of h0 h1, e], by omega, by omega, h1⟩
  ·rw [if_neg h1] at h; cases h
 ·rw [if_neg h0] at h
  by_cases h1 : -(n : Int) <= i
  ·rw [if_pos h1] at h
   have e : (i + n).toNat = j := Option.some.inj h
   exact ⟨by rw [seqIndex_neg (by omega) h1, e], by omega, h1, by omega⟩
  ·rw [if_neg h1] at h; cases h
theorem atI_get {α : Type} {xs : List α} {i : Int} {v : α} (h : atI xs i = some v) : ∃ j, seqIndex? i xs.length = some j /\ xs[j]? = some v /\ j < xs.length /\ -(xs.length : Int) <= i /\ i < xs.length := by
 unfold atI at h
 cases e : ixN xs.length i with
 | none => rw [e] at h; cases h
 | some j =>
  rw [e] at h
  obtain ⟨h1, h2, h3, h4⟩ := ixN_seq e
  exact ⟨j, h1, h, h2, h3, h4⟩
def PlainIx (b : Expr) : Prop := ∀ o i, subscripted b false o i = operate [o, i] (getItem o i)
def IxR (X : Cx) (r : R2) : Prop :=
 ∀ (value slice : Expr) (pins : List (Addr × Obj)) (s : Shared) (σ : St) (H : Hp) (x y : V) (v u : Value) (Q : VK), Inv X pins σ H s -> RelV x v -> RelV y u -> r x y H Q ->
  subscripted slice false v u = operate [v, u] (getItem v u) -> wpAny (model X.prog X.w) X.A (subscriptTail value slice v u) (EP X pins σ Q) X.xe s
def MtR (X : Cx) (id : String) (r : V -> List V -> Hp -> VK -> Prop) : Prop :=
 ∀ (pins : List (Addr × Obj)) (s : Shared) (σ : St) (H : Hp) (x : V) (xs : List V) (v : Value) (us : List Value) (Q : VK), Inv X pins σ H s -> RelV x v -> Vals xs us -> r x xs H Q ->
  wpAny (model X.prog X.w) X.A (call (.builtin id) (v :: us)) (EP X pins σ Q) X.xe s
section
variable {X : Cx} {a b : Expr} {ta tb : TE} {pos : Pos}
theorem pe_ix {r : R2} (hr : IxR X r) (ha : PE X a ta) (hb : PE X b tb) (hs : PlainIx b) : PE X (.Subscript a b pos) (tOp r ta tb) := by
 intro pins s σ H Q I h
 exact Subscript_ (binT ha hb I h fun v u s2 x y H2 I2 rx ry q => hr a b pins s2 σ H2 x y v u Q I2 rx ry q (hs _ _))
def rIxL (K : PySem.W.Frag) : R2 := fun x y H Q => ∃ p xs i v, x = .ref p /\ y = .int i /\ SqL K H p xs /\ atI xs i = some v /\ Q v H
def rIxT (K : PySem.W.Frag) : R2 := fun x y H Q => ∃ p xs i v, x = .ref p /\ y = .int i /\ SqT K H p xs /\ atI xs i = some v /\ Q v H
theorem ix_list : IxR X (rIxL X.K) := by
 intro value slice pins s σ H x y v u Q I rx ry h hs
 obtain ⟨p, xs, i, z, rfl, rfl, hq, he, q⟩ := h
 cases rx
 obtain ⟨t, rfl⟩ := ry
 obtain ⟨its, r, pl, hz⟩ := I.list hq
 obtain ⟨j, h1, h2, h3, h4, h5⟩ := atI_get he
 obtain ⟨w, ew, rw'⟩ := r.get h2
 have hl := r.length
 have hn := line63
 have fin : EP X pins σ Q w s := ⟨z, H, I, rw', q⟩
 by_cases h0 : 0 <= i
 ·have hj : i.toNat = j := by
   rw [seqIndex_of h0 h5] at h1
   exact Option.some.inj h1
  exact item_listR pl.isList h0 (by omega) (by rw [hj]; simpa using ew) fin hs
 ·have hj : (i + (its.toArray.size : Int)).toNat = j := by
   rw [seqIndex_neg (by omega) h4] at h1
   rw [List.size_toArray, <- hl]
   exact Option.some.inj h1
  exact subscriptTail_builtinR (x := w) pl.isList.typeIs slot_list_getitem.lookup
   (wpAny_getItem_list_neg (Q := fun r s' => r = w /\ EP X pins σ Q r s') pl.isList (by omega) (by rw [List.size_toArray] <;> omega) (by omega) (by rw [hj]; simpa using ew) ⟨rfl, fin⟩) hs
theorem ix_tup : IxR X (rIxT X.K) := by
 intro value slice pins s σ H x y v u Q I rx ry h hs
 obtain ⟨p, xs, i, z, rfl, rfl, hq, he, q⟩ := h
 cases rx
 obtain ⟨t, rfl⟩ := ry
 obtain ⟨its, r, pl, hz⟩ := I.tuple hq
 obtain ⟨j, h1, h2, h3, h4, h5⟩ := atI_get he
 obtain ⟨w, ew, rw'⟩ := r.get h2
 have hl := r.length
 have hn := line63
 have fin : EP X pins σ Q w s := ⟨z, H, I, rw', q⟩
 exact subscriptTail_builtinR (x := w) pl.typeIs slot_tuple_getitem.lookup
  (getItem_tuple (j := j) (Q := fun r s' => r = w /\ EP X pins σ Q r s') pl (by omega) (by omega) (by rw [List.size_toArray, <- hl]; exact h1) (by simpa using ew) ⟨rfl, fin⟩) hs
theorem mapSeq_set (its : List Value) (n j : Nat) (u : Value) : Obj.mapSeq (·.setIfInBounds j u) { cls := .type "list", data := .seq its.toArray n } = { cls := .type "list", data := .seq (its.set j u).toArray n } := by
 simp [Obj.mapSeq]
theorem Inv.lst {pins : List (Addr × Obj)} {σ : St} {H : Hp} {s : Shared} {p : Addr} {xs : List V} (I : Inv X pins σ H s) (h : H p = some (.lst xs)) :
  ∃ (its : List Value) (n : Nat), Vals xs its /\ s.heap.get? p = some { cls := .type "list", data := .seq its.toArray n } /\ xs.length <= sizeLine := by
 obtain ⟨z, its, n, r, e⟩ := I.hok p _ h
 exact ⟨its, n, r, e, z⟩
theorem Inv.lstUpd {pins : List (Addr × Obj)} {σ : St} {H : Hp} {s : Shared} {p : Addr} {xs ys : List V} {its its' : List Value} {n n' : Nat} {f : Obj -> Obj} (I : Inv X pins σ H s) (h : H p = some (.lst xs))
  (ho : s.heap.get? p = some { cls := .type "list", data := .seq its.toArray n }) (hf : f { cls := .type "list", data := .seq its.toArray n } = { cls := .type "list", data := .seq its'.toArray n' }) (r : Vals ys its') (hz : ys.length <= sizeLine) (t : Nat) :
  Inv X pins σ (upd H p (.lst ys)) { s with heap := s.heap.update p f, toks := t } := by
 have e : (s.heap.update p f).get? p = some { cls := .type "list", data := .seq its'.toArray n' } := by
  rw [Heap.get?_update_self f ho (by rw [hf] <;> rfl), hf]
 refine I.write (x := p) (e := p) (by rw [h]; trivial) (.inl rfl) (fun b u hb q => (Heap.get?_update_other _ _ (Ne.symm hb)).trans q) ⟨_, e⟩ ?_
 exact ⟨hz, its', n', r, e⟩
def rSetL : V -> V -> V -> Hp -> (Hp -> Prop) -> Prop := fun o i v H Q => ∃ p xs k j, o = .ref p /\ i = .int k /\ H p = some (.lst xs) /\ ixN xs.length k = some j /\ Q (upd H p (.lst (xs.set j v)))
theorem set_list : PSet X rSetL := by
 intro pins s σ H o i v ov iv u Q I ro ri rv h
 obtain ⟨p, xs, k, j, rfl, rfl, hp, hj, q⟩ := h
 cases ro
 obtain ⟨t, rfl⟩ := ri
 obtain ⟨its, n, r, ho, hz⟩ := I.lst hp
 obtain ⟨h1, h2, h3, h4⟩ := ixN_seq hj
 have hl := r.length
 have hn := line63
 have I' : Inv X pins σ (upd H p (.lst (xs.set j v))) { s with heap := s.heap.update p (Obj.mapSeq (·.setIfInBounds j u)) } :=
  I.lstUpd hp ho (mapSeq_set its n j u) (r.set rv j) (by rw [List.length_set]; exact hz) s.toks
 by_cases h0 : 0 <= k
 ·have hk : k.toNat = j := by
   rw [seqIndex_of h0 h4] at h1
   exact Option.some.inj h1
  exact PySem.W.ki_setAt ho h0 (by omega) (by rw [List.size_toArray, <- hl]; exact h4) (by rw [hk]; exact ⟨_, I', q⟩)
 ·have hk : (k + (its.toArray.size : Int)).toNat = j := by
   rw [seqIndex_neg (by omega) h3] at h1
   rw [List.size_toArray, <- hl]
   exact Option.some.inj h1
  exact PySem.W.ki_setBack ho (by omega) (by rw [List.size_toArray, <- hl]; exact h3) (by omega) (by rw [hk]; exact ⟨_, I', q⟩)
theorem slice_bounds (lo hi : Option Int) (n : Nat) : (sliceBounds lo hi none n).1 = ((HT.sIx n 0 lo : Nat) : Int) /\ (sliceBounds lo hi none n).2.1 = ((HT.sIx n n hi : Nat) : Int) /\ (sliceBounds lo hi none n).2.2 = 1 := by
 refine ⟨?_, ?_, rfl⟩
 ·cases lo with
  | none => simp [sliceBounds, HT.sIx]
  | some i =>
   simp only [sliceBounds, HT.sIx, Option.getD_none, show (1 : Int) > 0 by decide, if_true]
   by_cases h : i < 0
   ·simp only [h, if_true] <;> omega
   ·simp only [h, if_false] <;> omega
 ·cases hi with
  | none => simp [sliceBounds, HT.sIx]
  | some i =>
   simp only [sliceBounds, HT.sIx, Option.getD_none, show (1 : Int) > 0 by decide, if_true]
   by_cases h : i < 0
   ·simp only [h, if_true] <;> omega
   ·simp only [h, if_false] <;> omega
theorem slicePick_cut (its : List Value) (lo hi : Option Int) : slicePick its.toArray lo hi none = ((its.drop (HT.sIx its.length 0 lo)).take (HT.sIx its.length its.length hi - HT.sIx its.length 0 lo)).toArray := by
 obtain ⟨h1, h2, h3⟩ := slice_bounds lo hi its.toArray.size
 unfold slicePick
 rw [h1, h2, h3]
 simp only [sliceRange_one, pick_run, List.size_toArray] <;> rfl
def rSlL (K : PySem.W.Frag) : V -> Option Int -> Option Int -> Hp -> VK -> Prop := fun x lo hi H Q => ∃ a xs, x = .ref a /\ SqL K H a xs /\ ∀ p, H p = none -> Q (.ref p) (upd H p (.lst (cutV xs lo hi)))
theorem sl_list : SlR X (rSlL X.K) := by
 intro pins s σ H x v vl vu lo hi sl Q I rx hs pl pu h
 obtain ⟨a, xs, rfl, hx, q⟩ := h
 cases rx
 obtain ⟨its, r, ht, hz⟩ := I.list hx
 have hlen := r.length
 refine ⟨"list", _, slot_list_getitem.lookup, ht.isList.typeIs, ?_⟩
 refine wpAny_getItem_list_slice ht.isList hs pl pu .none (by simp) ?_ (by rw [List.size_toArray] <;> omega)
 rw [slicePick_cut, <- hlen]
 refine ⟨.ref s.heap.objs.size, _, I.laid (t' := s.toks) (o := .lst (cutV xs lo hi)) (fun b ob q => Heap.get?_push_of_some _ q) (Nat.le_refl _) ?_, rfl, q _ (I.hok.fresh (Nat.le_refl _))⟩
 exact ⟨Nat.le_trans (cutV_length xs lo hi) hz, _, 0, (r.drop (HT.sIx xs.length 0 lo)).take (HT.sIx xs.length xs.length hi - HT.sIx xs.length 0 lo), Heap.get?_push_size _ rfl⟩
def flatV : V -> Bool
 | .non => true
 | .bl _ => true
 | .int _ => true
 | .str _ => true
 | _ => false
def eqV : V -> V -> Bool
 | .non, .non => true
 | .bl a, .bl b => a == b
 | .bl a, .int b => (if a then 1 else 0) == b
 | .int a, .bl b => a == (if b then 1 else 0)
 | .int a, .int b => a == b
 | .str a, .str b => a == b
 | _, _ => false
theorem eqAt_V {A : Around} {s : Shared} {y x : V} {u v : Value} (ry : RelV y u) (rx : RelV x v) (fy : flatV y = true) (fx : flatV x = true) : SeqAt.EqAt A s u v (eqV y x) := by
 cases y with
 | non =>
  cases ry
  cases x with
  | non => cases rx; exact SeqAt.EqAt.same _
  | bl b => cases rx; exact SeqAt.EqAt.none_bool b
  | int b => obtain ⟨t, rfl⟩ := rx; exact SeqAt.EqAt.none_int b t
  | str b => obtain ⟨t, rfl⟩ := rx; exact SeqAt.EqAt.none_str b t
  | _ => exact absurd (show false = true from fx) Bool.false_ne_true
 | bl a =>
  cases ry
  cases x with
  | non => cases rx; exact SeqAt.EqAt.bool_none a
  | bl b => cases rx; exact SeqAt.EqAt.bool_bool a b
  | int b => obtain ⟨t, rfl⟩ := rx; exact SeqAt.EqAt.bool_int a b t
  | str b => obtain ⟨t, rfl⟩ := rx; exact SeqAt.EqAt.bool_str a b t
  | _ => exact absurd (show false = true from fx) Bool.false_ne_true
 | int a =>
  obtain ⟨t', rfl⟩ := ry
  cases x with
  | non => cases rx; exact SeqAt.EqAt.int_none a t'
  | bl b => cases rx; exact SeqAt.EqAt.int_bool a t' b
  | int b => obtain ⟨t, rfl⟩ := rx; exact SeqAt.EqAt.int_int a t' b t
  | str b => obtain ⟨t, rfl⟩ := rx; exact SeqAt.EqAt.int_str a t' b t
  | _ => exact absurd (show false = true from fx) Bool.false_ne_true
 | str a =>
  obtain ⟨t', rfl⟩ := ry
  cases x with
  | non => cases rx; exact SeqAt.EqAt.str_none a t'
  | bl b => cases rx; exact SeqAt.EqAt.str_bool a t' b
  | int b => obtain ⟨t, rfl⟩ := rx; exact SeqAt.EqAt.str_int a t' b t
  | str b => obtain ⟨t, rfl⟩ := rx; exact SeqAt.EqAt.str_str a t' b t
  | _ => exact absurd (show false = true from fx) Bool.false_ne_true
 | _ => exact absurd (show false = true from fy) Bool.false_ne_true
def eqU (x : V) (u : Value) : Bool := match u with
 | .none => eqV .non x
 | .bool b => eqV (.bl b) x
 | .int i _ => eqV (.int i) x
 | .str z _ => eqV (.str z) x
 | _ => false
theorem eqU_of {x y : V} {u : Value} (r : RelV y u) (f : flatV y = true) : eqU x u = eqV y x := by
 cases y with
 | non => cases r; rfl
 | bl b => cases r; rfl
 | int i => obtain ⟨t, rfl⟩ := r; rfl
 | str z => obtain ⟨t, rfl⟩ := r; rfl
 | _ => exact absurd (show false = true from f) Bool.false_ne_true
theorem any_eqU {x : V} : ∀ {xs : List V} {us : List Value}, Vals xs us -> xs.all flatV = true -> us.any (eqU x) = xs.any fun y => eqV y x
 | _, _, .nil, _ => rfl
 | y :: xs, u :: us, .cons r t, f => by
  rw [List.all_cons, Bool.and_eq_true] at f
  rw [List.any_cons, List.any_cons, eqU_of r f.1, any_eqU t f.2]
theorem mem_eqAt {A : Around} {s : Shared} {x : V} {v : Value} (rx : RelV x v) (fx : flatV x = true) : ∀ {xs : List V} {us : List Value}, Vals xs us -> xs.all flatV = true -> ∀ u ∈ us, SeqAt.EqAt A s u v (eqU x u)
 | _, _, .nil, _ => fun u hu => by cases hu
 | y :: xs, u :: us, .cons r t, f => fun u' hu => by
  rw [List.all_cons, Bool.and_eq_true] at f
  rcases List.mem_cons.mp hu with rfl | hu
  ·rw [eqU_of r f.1]; exact eqAt_V r rx f.1 fx
  ·exact mem_eqAt rx fx t f.2 u' hu
def inV (x : V) (xs : List V) : Bool := xs.any fun y => eqV y x
def rIn (K : PySem.W.Frag) (neg : Bool) : R2 := fun x y H Q => ∃ p xs, y = .ref p /\ (SqL K H p xs \/ SqT K H p xs) /\ flatV x = true /\ xs.all flatV = true /\ Q (.bl (if neg then !inV x xs else inV x xs)) H
theorem op_in_seq : OpR X (compareOp .In) (rIn X.K false) := by
 intro pins s σ H x y v u Q I rx ry h
 obtain ⟨p, xs, rfl, hq, fx, fs, q⟩ := h
 cases ry
 rcases hq with hq | hq
 ·obtain ⟨its, r, pl, hz⟩ := I.list hq
  refine SeqAt.in_listAt (eqU x) pl.isList (fun w hw => mem_eqAt rx fx r fs w (by simpa using hw)) ⟨.bl _, H, I, rfl, ?_⟩
  rw [show its.toArray.any (eqU x) = its.any (eqU x) by simp, any_eqU r fs]
  exact q
 ·obtain ⟨its, r, pl, hz⟩ := I.tuple hq
  refine SeqAt.in_tupleAt (eqU x) pl (fun w hw => mem_eqAt rx fx r fs w (by simpa using hw)) ⟨.bl _, H, I, rfl, ?_⟩
  rw [show its.toArray.any (eqU x) = its.any (eqU x) by simp, any_eqU r fs]
  exact q
theorem op_notIn_seq : OpR X (compareOp .NotIn) (rIn X.K true) := by
 intro pins s σ H x y v u Q I rx ry h
 obtain ⟨p, xs, rfl, hq, fx, fs, q⟩ := h
 cases ry
 rcases hq with hq | hq
 ·obtain ⟨its, r, pl, hz⟩ := I.list hq
  refine SeqAt.notIn_listAt (eqU x) pl.isList (fun w hw => mem_eqAt rx fx r fs w (by simpa using hw)) ⟨.bl _, H, I, rfl, ?_⟩
  rw [show its.toArray.any (eqU x) = its.any (eqU x) by simp, any_eqU r fs]
  exact q
 ·obtain ⟨its, r, pl, hz⟩ := I.tuple hq
  refine SeqAt.notIn_tupleAt (eqU x) pl (fun w hw => mem_eqAt rx fx r fs w (by simpa using hw)) ⟨.bl _, H, I, rfl, ?_⟩
  rw [show its.toArray.any (eqU x) = its.any (eqU x) by simp, any_eqU r fs]
  exact q
theorem call_len_seq : CallR X (.builtin "len") (fun xs H Q => ∃ p ys, xs = [.ref p] /\ (SqL X.K H p ys \/ SqT X.K H p ys) /\ Q (.int ys.length) H) := by
 intro pins s σ H xs us Q I r h
 obtain ⟨p, ys, rfl, hq, q⟩ := h
 obtain ⟨u, rfl, rx⟩ := vals1 r
 cases rx
 have hn := line63
 rcases hq with hq | hq
 ·obtain ⟨its, r', pl, hz⟩ := I.list hq
  have hlen := r'.length
  exact Calls.call_len_list pl.isList (by simp only [List.size_toArray] <;> omega) ⟨.int ys.length, H, I.tok _, ⟨s.toks + 1, by rw [List.size_toArray, hlen]⟩, q⟩
 ·obtain ⟨its, r', pl, hz⟩ := I.tuple hq
  have hlen := r'.length
  exact len_tuple pl (by simp only [List.size_toArray] <;> omega) ⟨.int ys.length, H, I.tok _, ⟨s.toks + 1, by rw [List.size_toArray, hlen]⟩, q⟩
theorem call_list_of : CallR X (.type "list") (fun xs H Q => ∃ p ys, xs = [.ref p] /\ (SqL X.K H p ys \/ SqT X.K H p ys) /\ ∀ l, H l = none -> Q (.ref l) (upd H l (.lst ys))) := by
 intro pins s σ H xs us Q I r h
 obtain ⟨p, ys, rfl, hq, q⟩ := h
 obtain ⟨u, rfl, rx⟩ := vals1 r
 cases rx
 have fin : ∀ (its : List Value), Vals ys its -> ys.length <= sizeLine -> ∀ (h' : Heap) (c' : Nat), (∀ b o', s.heap.get? b = some o' -> h'.get? b = some o') ->
   h'.get? s.heap.objs.size = some { cls := .type "list", dict := none, data := .seq its.toArray c', slots := #[] } -> EP X pins σ Q (.ref s.heap.objs.size) { s with heap := h' } := fun its r' hz h' c' kp e =>
  ⟨.ref s.heap.objs.size, _, I.laid (t' := s.toks) kp (Nat.le_refl _) (show ObjOk X.prog X.w _ h' _ (.lst ys) from ⟨hz, its, c', r', e⟩), rfl, q _ (I.hok.fresh (Nat.le_refl _))⟩
 rcases hq with hq | hq
 ·obtain ⟨its, r', pl, hz⟩ := I.list hq
  have hlen := r'.length
  obtain ⟨o, ho, hc, n, hd⟩ := pl.isList
  exact call_list_seq p (.inl rfl) ho hc hd (fun h' c' kp e => fin its r' hz h' c' kp e) (by simp only [List.size_toArray] <;> omega)
 ·obtain ⟨its, r', pl, hz⟩ := I.tuple hq
  have hlen := r'.length
  obtain ⟨o, ho, hc, n, hd⟩ := pl
  exact call_list_seq p (.inr rfl) ho hc hd (fun h' c' kp e => fin its r' hz h' c' kp e) (by simp only [List.size_toArray] <;> omega)
theorem call_tuple_of : CallR X (.type "tuple") (fun xs H Q => ∃ p ys, xs = [.ref p] /\ ((SqL X.K H p ys /\ ∀ l, H l = none -> Q (.ref l) (upd H l (.tup ys))) \/ (SqT X.K H p ys /\ Q (.ref p) H))) := by
 intro pins s σ H xs us Q I r h
 obtain ⟨p, ys, rfl, h⟩ := h
 obtain ⟨u, rfl, rx⟩ := vals1 r
 cases rx
 rcases h with ⟨hq, q⟩ | ⟨hq, q⟩
 ·obtain ⟨its, r', pl, hz⟩ := I.list hq
  have hlen := r'.length
  refine call_tuple_list pl.isList (fun h' kp => ?_) (by simp only [List.size_toArray] <;> omega)
  have I1 : Inv X pins σ H { s with heap := h' } := I.kept (t' := s.toks) kp
  have I2 : Inv X pins σ (upd H h'.objs.size (.tup ys)) { s with heap := h'.push { cls := .type "tuple", data := .seq its.toArray } } :=
   I1.laid (t' := s.toks) (fun b o e => Heap.get?_push_of_some _ e) (Nat.le_refl _) (show ObjOk X.prog X.w _ _ _ (.tup ys) from ⟨hz, its, r', IsTup.new _ _⟩)
  exact ⟨.ref h'.objs.size, _, I2, rfl, q _ (I1.hok.fresh (Nat.le_refl _))⟩
 ·obtain ⟨its, r', pl, hz⟩ := I.tuple hq
  exact call_tuple_same pl ⟨.ref p, H, I, rfl, q⟩
def tyV (K : PySem.W.Frag) (T : String) (x : V) (H : Hp) : Prop := match x with
 | .str _ => T = "str"
 | .int _ => T = "int"
 | .ref p => (T = "list" /\ ∃ xs, SqL K H p xs) \/ (T = "tuple" /\ ∃ o, K.lookup p = some o /\ o.cls = .type "tuple" /\ o.dict = none) \/
   (T = "dict" /\ ((∃ kvs, H p = some (.dK kvs)) \/ ∃ kvs, H p = some (.dT kvs))) \/ (T = "set" /\ ∃ S n, H p = some (.set S n))
 | _ => False
theorem tyV_is {pins : List (Addr × Obj)} {σ : St} {H : Hp} {s : Shared} {T : String} {x : V} {v : Value} (I : Inv X pins σ H s) (r : RelV x v) (ty : tyV X.K T x H) :
  s.TypeIs v T /\ ∀ a, v = .ref a -> ∃ ob, s.heap.get? a = some ob /\ ob.dict = none := by
 cases x with
 | str z =>
  obtain ⟨t, rfl⟩ := r
  cases (show T = "str" from ty)
  exact ⟨typeIs_str s z t, fun _ e => nomatch e⟩
 | int i =>
  obtain ⟨t, rfl⟩ := r
  cases (show T = "int" from ty)
  exact ⟨typeIs_int s i t, fun _ e => nomatch e⟩
 | ref p =>
  cases r
  rcases ty with ⟨rfl, xs, hq⟩ | ⟨rfl, o, hk, hc, hd⟩ | ⟨rfl, hk⟩ | ⟨rfl, S, n, hk⟩
  ·obtain ⟨its, _, pl, _⟩ := I.list hq
   refine ⟨pl.isList.typeIs, fun a e => ?_⟩
   cases e
   obtain ⟨o, n, e, c, hd, _⟩ := pl
   exact ⟨o, e, hd⟩
  ·refine ⟨⟨o, I.kIn p o hk, hc⟩, fun a e => ?_⟩
   cases e
   exact ⟨o, I.kIn _ o hk, hd⟩
  ·have z : ∃ o, s.heap.get? p = some o /\ o.ExactDict := by
    rcases hk with ⟨kvs, hk⟩ | ⟨kvs, hk⟩
    ·obtain ⟨_, _, _, _, o, _, _, e, ex, _⟩ := I.hok p _ hk
     exact ⟨o, e, ex⟩
    ·obtain ⟨_, _, _, _, o, _, _, e, ex, _⟩ := I.hok p _ hk
     exact ⟨o, e, ex⟩
   obtain ⟨o, e, ex⟩ := z
   refine ⟨⟨o, e, ex.1⟩, fun a e2 => ?_⟩
   cases e2
   exact ⟨o, e, ex.2.1⟩
  ·obtain ⟨o, _, _, _, e, ex, _⟩ := I.hok p _ hk
   refine ⟨⟨o, e, ex.1⟩, fun a e2 => ?_⟩
   cases e2
   exact ⟨o, e, ex.2.1⟩
 | _ => exact False.elim ty
def tBM (K : PySem.W.Frag) (T : String) (r : V -> List V -> Hp -> VK -> Prop) (to : TE) (t : TA) : TE := fun σ H Q => to σ H fun x H1 => tyV K T x H1 /\ t σ H1 fun xs H2 => r x xs H2 Q
variable {o e : Expr} {es : List Expr} {to : TE} {t : TA} {name : Str} {apos cpos : Pos} {T id : String} {r : V -> List V -> Hp -> VK -> Prop}
theorem pe_bm (pa : PlainAttrs T) (slot : Slot T name id) (hty : typeOf (.builtin id) = pure (.type "method_descriptor")) (hm : MtR X id r) (ho : PE X o to) (ha : PA X (e :: es) t)
  (hbase : attributeBase o name X.env (eval o X.env) = eval o X.env := by rfl)
  (hfew : ((backTo cpos (starEach (e :: es) X.env)).all (fun x => !x.1) && (backToKw cpos (keywordEach [] X.env)).all (fun x => x.1.isSome)
   && decide ((e :: es).length + ([] : List Keyword).length + (if ([] : List Keyword).isEmpty then 0 else 1) < 30)) = true := by rfl)
  (hline : (apos.endLine == cpos.line) = true := by rfl) (hs : starEach (e :: es) X.env = (false, eval e X.env) :: starEach es X.env := by rfl) (hplain : (backTo cpos (starEach es X.env)).any (·.1) = false := by rfl) :
  PE X (.Call (.Attribute o name apos) (e :: es) [] cpos) (tBM X.K T r to t) := by
 intro pins s σ H Q I h
 refine wpAny_Call_method_late hbase hfew hline rfl (thn (ho pins s σ H _ I h) fun v s1 ⟨x, H1, I1, r1, ty, q1⟩ => ?_)
 obtain ⟨h1, h2⟩ := tyV_is I1 r1 ty
 refine ⟨T, id, pa, slot, hty, h1, h2, ?_⟩
 have hA := ha cpos pins s1 σ H1 _ I1 q1
 rw [hs] at hA ⊢
 refine Calls.callWith_builtin (by show (false || (backTo cpos (starEach es X.env)).any (·.1)) = false; rw [hplain] <;> rfl) (Calls.evalArgs_plain ?_)
 exact thn hA fun us s2 ⟨vs, H2, I2, r2, q2⟩ => hm pins s2 σ H2 x vs v us Q I2 r1 r2 q2
end
def MtM (X : Cx) (id : String) (r : V -> List V -> Hp -> VK -> Prop) : Prop :=
 ∀ (pins : List (Addr × Obj)) (s : Shared) (σ : St) (H : Hp) (x : V) (xs : List V) (v : Value) (us : List Value) (Q : VK), Inv X pins σ H s -> RelV x v -> Vals xs us -> r x xs H Q ->
  wpAny (model X.prog X.w) X.A (call (.builtin id) (v :: us)) (EP X pins σ Q) X.xe s
theorem Vals.one : ∀ {x : V} {us : List Value}, Vals [x] us -> ∃ u, us = [u] /\ RelV x u
 | _, _, .cons r .nil => ⟨_, rfl, r⟩
theorem Vals.eraseIdx : ∀ {xs : List V} {us : List Value} (i : Nat), Vals xs us -> Vals (xs.eraseIdx i) (us.eraseIdx i)
 | _, _, _, .nil => .nil
 | _, _, 0, .cons _ t => t
 | _, _, i + 1, .cons r t => .cons r (Vals.eraseIdx i t)
theorem Vals.rep {xs : List V} {us : List Value} (h : Vals xs us) : ∀ k : Nat, Vals (List.replicate k xs).flatten (List.replicate k us).flatten
 | 0 => .nil
 | k + 1 => by
  rw [List.replicate_succ, List.replicate_succ, List.flatten_cons, List.flatten_cons]
  exact Vals.append h (Vals.rep h k)
theorem len_erase {α : Type} : ∀ (l : List α) (i : Nat), (l.eraseIdx i).length <= l.length
 | [], _ => Nat.le_refl _
 | _ :: _, 0 => Nat.le_succ _
 | _ :: r, i + 1 => Nat.succ_le_succ (len_erase r i)
theorem foldl_rep (its : List Value) : ∀ (k : Nat) (acc : List Value),
  List.foldl (fun x1 x2 => x1 ++ x2) acc.toArray (List.replicate k its.toArray) = (acc ++ (List.replicate k its).flatten).toArray
 | 0, acc => by simp
 | k + 1, acc => by
  have e : acc.toArray ++ its.toArray = (acc ++ its).toArray := by simp
  have e2 : (acc ++ its) ++ (List.replicate k its).flatten = acc ++ (List.replicate (k + 1) its).flatten := by
   rw [List.replicate_succ, List.flatten_cons, List.append_assoc]
  rw [<- e2, <- foldl_rep its k (acc ++ its), <- e, List.replicate_succ, List.foldl_cons]
section
variable {X : Cx} {pins : List (Addr × Obj)} {σ : St} {H : Hp} {s : Shared} {l b : Addr} {xs ys zs : List V}
theorem Inv.lset {its its' : List Value} {n : Nat} {f : Array Value -> Array Value} {t' : Nat} (I : Inv X pins σ H s) (hH : H l = some (.lst xs))
  (e : s.heap.get? l = some { cls := .type "list", data := .seq its.toArray n }) (hf : f its.toArray = its'.toArray) (hv : Vals ys its') (hz : ys.length <= sizeLine) :
  Inv X pins σ (upd H l (.lst ys)) { s with heap := s.heap.update l (Obj.mapSeq f), toks := t' } := by
 have q := PySem.IsL.update e f
 rw [hf] at q
 refine I.write (x := l) (e := l) (by rw [hH]; exact trivial) (.inl rfl) (fun b' u hb hu => (Heap.get?_update_other s.heap (Obj.mapSeq f) (Ne.symm hb)).trans hu) ⟨_, q⟩ ?_
 exact ⟨hz, its', _, hv, q⟩
theorem Inv.lnew {its : List Value} {t' : Nat} (I : Inv X pins σ H s) (hv : Vals ys its) (hz : ys.length <= sizeLine) :
  Inv X pins σ (upd H s.heap.objs.size (.lst ys)) { s with heap := s.heap.push { cls := .type "list", data := .seq its.toArray }, toks := t' } :=
 I.laid (fun _ _ q => Heap.get?_push_of_some _ q) (Nat.le_refl _) ⟨hz, its, 0, hv, Heap.get?_push_size _ rfl⟩
theorem Inv.fresh (I : Inv X pins σ H s) : H s.heap.objs.size = none := I.hok.fresh (Nat.le_refl _)
theorem Inv.lstM (I : Inv X pins σ H s) (hH : H l = some (.lst xs)) : xs.length <= sizeLine /\ ∃ (its : List Value) (n : Nat), Vals xs its /\ xs.length = its.length /\ s.heap.get? l = some { cls := .type "list", data := .seq its.toArray n } := by
 obtain ⟨z, its, n, r, e⟩ := I.hok l _ hH
 exact ⟨z, its, n, r, r.length, e⟩
theorem notLongL {n : Nat} (h : n <= sizeLine) : Builtin.List.listTooLong n = false := by
 unfold Builtin.List.listTooLong
 exact decide_eq_false (by omega)
end
section
variable {X : Cx}
def rAppend : V -> List V -> Hp -> VK -> Prop := fun x vs H Q => ∃ l xs y, x = .ref l /\ vs = [y] /\ H l = some (.lst xs) /\ xs.length < sizeLine /\ Q .non (upd H l (.lst (xs ++ [y])))
theorem mt_append : MtM X "list.append" rAppend := by
 intro pins s σ H x vs v us Q I rx rv h
 obtain ⟨l, xs, y, rfl, rfl, hH, hz, q⟩ := h
 cases rx
 obtain ⟨u, rfl, ru⟩ := rv.one
 obtain ⟨z, its, n, r, hl, e⟩ := I.lstM hH
 refine call_meets F.slot_list_append ⟨_, e, rfl⟩ F.entry_list_append (F.args_list_append_2 _ _) (PySem.list_append l its.toArray n u (by rw [List.size_toArray]; omega)) ⟨e, ?_⟩
 refine ⟨.non, _, I.lset (its' := its ++ [u]) hH e (by simp) (r.append (.cons ru .nil)) ?_, rfl, q⟩
 rw [List.length_append, List.length_singleton]
 omega
def rExtend : V -> List V -> Hp -> VK -> Prop := fun x vs H Q => ∃ l b xs zs, x = .ref l /\ vs = [.ref b] /\ H l = some (.lst xs) /\ H b = some (.lst zs) /\ xs.length + zs.length <= sizeLine /\ Q .non (upd H l (.lst (xs ++ zs)))
theorem mt_extend : MtM X "list.extend" rExtend := by
 intro pins s σ H x vs v us Q I rx rv h
 obtain ⟨l, b, xs, zs, rfl, rfl, hH, hB, hz, q⟩ := h
 cases rx
 obtain ⟨u, rfl, ru⟩ := rv.one
 cases ru
 obtain ⟨z, its, n, r, hl, e⟩ := I.lstM hH
 obtain ⟨z2, its2, n2, r2, hl2, e2⟩ := I.lstM hB
 have hsz : its.toArray.size + its2.toArray.size <= sizeLine := by rw [List.size_toArray, List.size_toArray]; omega
 have hlong : ¬ (!its.toArray.isEmpty && Builtin.List.listTooLong (its.toArray.size + its2.toArray.size)) = true := by
  rw [notLongL hsz, Bool.and_false]
  exact Bool.false_ne_true
 refine call_meets F.slot_list_extend ⟨_, e, rfl⟩ F.entry_list_extend (F.args_list_extend_2 _ _)
  (AutoSeq1.list_extend_list_list_0 l its.toArray n b its2.toArray n2 hlong (by rw [List.size_toArray]; omega) (by omega)) ⟨e, e2, ?_⟩
 refine ⟨.non, _, I.lset (its' := its ++ its2) hH e (by simp) (r.append r2) ?_, rfl, q⟩
 rw [List.length_append]
 omega
def rPopAt : V -> List V -> Hp -> VK -> Prop := fun x vs H Q => ∃ l xs i k y, x = .ref l /\ vs = [.int i] /\ H l = some (.lst xs) /\ -(2 ^ 63) <= i /\ i < 2 ^ 63 /\ seqIndex? i xs.length = some k /\ xs[k]? = some y /\ Q y (upd H l (.lst (xs.eraseIdx k)))
theorem mt_popAt : MtM X "list.pop" rPopAt := by
 intro pins s σ H x vs v us Q I rx rv h
 obtain ⟨l, xs, i, k, y, rfl, rfl, hH, h1, h2, hk, hy, q⟩ := h
 cases rx
 obtain ⟨u, rfl, ru⟩ := rv.one
 obtain ⟨t, rfl⟩ := ru
 obtain ⟨z, its, n, r, hl, e⟩ := I.lstM hH
 obtain ⟨w, hw, rw'⟩ := r.get hy
 refine call_meets F.slot_list_pop ⟨_, e, rfl⟩ F.entry_list_pop (F.args_list_pop_2 _ _)
  (MeetsSeq.list_pop_at l its.toArray n i t k w (fitsIndex_both h1 h2) (by rw [List.size_toArray, <- hl]; exact hk) (by rw [<- Array.getElem?_toList]; exact hw) (by rw [List.size_toArray]; omega)) ⟨e, ?_⟩
 refine ⟨y, _, I.lset (its' := its.eraseIdx k) hH e ?_ (r.eraseIdx k) ?_, rw', q⟩
 ·show its.toArray.eraseIdxIfInBounds k = (its.eraseIdx k).toArray
  rw [List.eraseIdxIfInBounds_toArray]
 ·have := len_erase xs k
  omega
def rCat : R2 := fun x y H Q => ∃ l b xs zs, x = .ref l /\ y = .ref b /\ H l = some (.lst xs) /\ H b = some (.lst zs) /\ xs.length + zs.length <= sizeLine /\ ∀ p, H p = none -> Q (.ref p) (upd H p (.lst (xs ++ zs)))
theorem op_cat : OpR X (binaryOp .Add) rCat := by
 intro pins s σ H x y v u Q I rx ry h
 obtain ⟨l, b, xs, zs, rfl, rfl, hH, hB, hz, q⟩ := h
 cases rx
 cases ry
 obtain ⟨z, its, n, r, hl, e⟩ := I.lstM hH
 obtain ⟨z2, its2, n2, r2, hl2, e2⟩ := I.lstM hB
 refine PySem.P.add_list e e2 ?_ (by rw [List.size_toArray, List.size_toArray]; omega)
 have ea : its.toArray ++ its2.toArray = (its ++ its2).toArray := by simp
 rw [ea]
 exact ⟨.ref _, _, I.lnew (t' := s.toks) (r.append r2) (by rw [List.length_append]; omega), rfl, q _ I.fresh⟩
def rRep : R2 := fun x y H Q => ∃ l k xs, x = .ref l /\ y = .int k /\ H l = some (.lst xs) /\ -(2 ^ 63) <= k /\ k < 2 ^ 63 /\ xs.length * k.toNat <= sizeLine /\
 ∀ p, H p = none -> Q (.ref p) (upd H p (.lst (List.replicate k.toNat xs).flatten))
theorem len_rep {α : Type} (xs : List α) (k : Nat) : (List.replicate k xs).flatten.length = k * xs.length := by
 induction k with
 | zero => simp
 | succ k ih => rw [List.replicate_succ, List.flatten_cons, List.length_append, ih, Nat.succ_mul, Nat.add_comm]
theorem op_rep : OpR X (binaryOp .Mult) rRep := by
 intro pins s σ H x y v u Q I rx ry h
 obtain ⟨l, k, xs, rfl, rfl, hH, h1, h2, hz, q⟩ := h
 cases rx
 obtain ⟨t, rfl⟩ := ry
 obtain ⟨z, its, n, r, hl, e⟩ := I.lstM hH
 have hlen : its.toArray.size * k.toNat <= sizeLine := by rw [List.size_toArray, <- hl]; exact hz
 have hcap : ¬ its.toArray.size * k.toNat > (2 ^ 63 - 1) / 8 := by
  have : (sizeLine : Nat) <= (2 ^ 63 - 1) / 8 := by decide
  omega
 have hfit : ¬ (!Builtin.List.listFitsIndex k) = true := by
  rw [fitsIndex_both h1 h2]
  exact Bool.false_ne_true
 have hlong : ¬ Builtin.List.listTooLong (its.toArray.size * k.toNat) = true := by
  rw [notLongL hlen]
  exact Bool.false_ne_true
 have hnew : List.foldl (fun x1 x2 => x1 ++ x2) #[] (List.replicate (if its.toArray.isEmpty = true then 0 else k.toNat) its.toArray) = (List.replicate k.toNat its).flatten.toArray := by
  have f0 : ∀ m : Nat, List.foldl (fun x1 x2 => x1 ++ x2) #[] (List.replicate m its.toArray) = (List.replicate m its).flatten.toArray := fun m => by
   have := foldl_rep its m []
   rw [List.nil_append] at this
   exact this
  rw [f0]
  cases its with
  | nil => simp
  | cons a r' => rw [if_neg (by simp)]
 refine wpAny_binaryOp_repeat_ref (T := "list") (U := "int") (by decide) ⟨_, e, rfl⟩ (fun s' => typeIs_int s' k t) noFill_list_mul F.fills_int_mul F.slot_int_rmul repeat_list F.slot_int_index.lookup
  (call_meets F.slot_int_rmul (typeIs_int s k t) F.entry_int_rmul (F.args_int_rmul_2 _ _) (int___rmul___int_list k t l its.toArray n)
   ⟨e, rfl, ⟨_, e, rfl⟩, call_meets F.slot_list_mul ⟨_, e, rfl⟩ F.entry_list_mul (F.args_list_mul_2 _ _) (AutoListH.list___mul___list_int_3 l its.toArray n k t hfit hcap hlong) ⟨e, ?_⟩⟩)
 rw [hnew]
 exact ⟨.ref _, _, I.lnew (t' := s.toks) (r.rep k.toNat) (by rw [len_rep, Nat.mul_comm]; exact hz), rfl, q _ I.fresh⟩
end
section
variable {prog : Program} {w : World} {A : Around} {E : Value -> Shared -> Prop} {s : Shared}
end
section
variable {X : Cx}
end
section
variable {κ : Type} [DecidableEq κ]
end
section
variable {P : Program} {w : World} {H : Hp} {h : Heap} {a : Addr}
end
section
variable {X : Cx} {pins : List (Addr × Obj)} {σ : St} {H : Hp} {s : Shared} {a : Addr} {y v : V} {u r : Value} {o : Option V} {A : Around} {E : Value -> Shared -> Prop}
end
section
variable {X : Cx} {pins : List (Addr × Obj)} {σ : St} {H : Hp} {s : Shared} {a : Addr} {kvs : List (Key × V)} {k : Key} {u : Value} {A : Around} {E : Value -> Shared -> Prop}
end
section
variable {X : Cx} {o i e value : Expr} {pos pos' tpos : Pos} {td ty tv : TE}
end
section
variable {X : Cx} {pos : Pos}
end
structure M1 (X : Cx) (o : Expr) (m : Str) (apos : Pos) (e : Expr) (cpos : Pos) : Prop where
 base : attributeBase o m X.env (eval o X.env) = eval o X.env
 few : ((backTo cpos (starEach [e] X.env)).all (fun x => !x.1) && (backToKw cpos (keywordEach [] X.env)).all (fun x => x.1.isSome)
  && decide (([e] : List Expr).length + ([] : List Keyword).length + (if ([] : List Keyword).isEmpty then 0 else 1) < 30)) = true
 line : (apos.endLine == cpos.line) = true
 trees : backTo cpos (starEach [e] X.env) = [(false, eval e X.env)]
structure M2 (X : Cx) (o : Expr) (m : Str) (apos : Pos) (e f : Expr) (cpos : Pos) : Prop where
 base : attributeBase o m X.env (eval o X.env) = eval o X.env
 few : ((backTo cpos (starEach [e, f] X.env)).all (fun x => !x.1) && (backToKw cpos (keywordEach [] X.env)).all (fun x => x.1.isSome)
  && decide (([e, f] : List Expr).length + ([] : List Keyword).length + (if ([] : List Keyword).isEmpty then 0 else 1) < 30)) = true
 line : (apos.endLine == cpos.line) = true
 trees : backTo cpos (starEach [e, f] X.env) = [(false, eval e X.env), (false, eval f X.env)]
section
variable {X : Cx} {pins : List (Addr × Obj)} {σ : St} {H : Hp} {s : Shared} {a : Addr} {y d : V} {u r : Value} {o : Option V} {A : Around} {E : Value -> Shared -> Prop}
end
section
variable {X : Cx} {o e f : Expr} {apos cpos : Pos} {td ty tx : TE}
end
section
variable {X : Cx} {pins : List (Addr × Obj)} {σ : St} {H : Hp} {s : Shared} {a : Addr} {kvs : List (Key × V)} {A : Around} {E : Value -> Shared -> Prop}
end
section
variable {X : Cx} {pins : List (Addr × Obj)} {σ : St} {H : Hp} {s : Shared} {a : Addr} {y : V} {u : Value} {A : Around} {E : Value -> Shared -> Prop}
end
end L2
namespace Att
open PySem PySem.W PySem.Calls PyProof.Rows
theorem ints_of_wellAll {P : Params} {h : Heap} : ∀ (ns : List Int) (vs : List Value), WellAll P h vs (ns.map WData.int) -> IntsAre vs ns := by
 intro ns
 induction ns with
 | nil =>
  intro vs w
  rw [List.map_nil] at w
  cases w
  exact .nil
 | cons n ns ih =>
  intro vs w
  rw [List.map_cons] at w
  cases w with
  | cons a b =>
   cases a
   exact .cons _ _ (ih _ b)
theorem script_of {l : OpenLaw} {n : Nat} (hn : l.most = some n) {P : Params} {h : Heap} {args : List WData} {vals : List Value}
  (hpre : l.row.toRowW.claim.pre args = true) (hwl : WellAll P h vals args) :
  ∃ a vs ns, vals = [Value.ref a] /\ args = [WData.list (ns.map WData.int)] /\ h.get? a = some { cls := .type "list", data := .seq vs.toArray } /\ IntsAre vs ns /\ ns.length <= n := by
 have hsh : WShape.hasAll [] args [.list .int] = true := (pre_splitW hpre).1
 have hc : l.pre.holds [] { args := args } = true := (pre_splitW hpre).2
 obtain ⟨d, r, rfl, h1, h2⟩ := hasAllW_cons hsh
 obtain rfl := hasAllW_nil h2
 obtain ⟨xs, rfl, h3⟩ := hasW_list h1
 obtain ⟨ns, rfl⟩ := items_int h3
 have hlen : ns.length <= n := by
  unfold OpenLaw.pre at hc
  have h4 : (WTm.not (.lt (.lit (.int (n : Int))) (.len (.arg 0)))).holds [] { args := [.list (ns.map .int)] } = true := by
   have h4 := (holds_andW hc).1
   rw [hn] at h4
   exact h4
  have h5 := condW_of h4 (w_not (w_lt w_lit (w_len_list (w_arg rfl))))
  rw [List.length_map] at h5
  refine Nat.le_of_not_lt fun q => ?_
  have q' : (n : Int) < ((ns.length : Nat) : Int) := by omega
  first
   | (rw [decide_eq_true q'] at h5; exact absurd h5 (by decide))
   | (simp at h5; omega)
 cases hwl with
 | cons w1 w2 =>
  cases w2
  cases w1 with
  | list ho hall => exact ⟨_, _, ns, rfl, rfl, ho, ints_of_wellAll ns _ hall, hlen⟩
theorem post_true (l : OpenLaw) (args : List WData) : l.row.toRowW.claim.post args (.bool true) args = true :=
 postW_of (r := l.row.toRowW) (X := (true == true))
  (show WShape.has [] (.bool true) .bool = true by first | rfl | decide | simp [WShape.has, WShape.arms, WShape.armsAll])
  (show (WTm.eq .res (.lit (.bool true))).value [] { args := args, res := some (.bool true), after := args } = some (.bool (true == true)) from w_eq_bool (w_res rfl) w_lit) rfl
theorem attach_call {l : OpenLaw} {n : Nat} {q : Program} {loose : List Str} {XP : (Str -> Option Value) -> Heap -> Prop} {YP : World -> Heap -> Prop} {d : DefRec}
  (hn : l.most = some n) (hdf : d.params.defaults = [])
  (call : ∀ (w : World) (s₀ s₁ : Shared) (mg mb : Str -> Option Value) (fa : Addr) (o : Obj) (pm cd doc : Value) (a : Addr) (vs : List Value) (ns : List Int),
   Ground q loose [] XP w s₀ mg mb s₁.heap -> YP w s₁.heap ->
   s₁.heap.get? fa = some o -> o.data = .func (docDef d.name d.params d.body d.scope pm cd doc) -> s₁.heap.CodeRec cd d.name -> mg d.name = some (.ref fa) ->
   s₁.heap.get? a = some { cls := .type "list", data := .seq vs.toArray } -> IntsAre vs ns -> ns.length <= n -> s₁.gens = #[] ->
   codeAny (model l.prog w) callerA (.call (.ref fa) ⟨[.ref a], []⟩) (fun r s' => r = .ok (.ret (.bool true)) /\ OldK s₁.heap s'.heap /\ s'.os = s₁.os /\ AllBare s'.gens) s₁) :
  WalkO q loose XP YP l.row.toRowW d [] (fun f vs => PySem.call f vs) := by
 intro w s₀ s₁ mg mb G Y fa o pm cd doc dV kV ho hd hcd hD hmg hg args vals as hpre hlay hrd hwl hlo
 obtain rfl : dV = .none := Dflts.none hD hdf
 obtain rfl : kV = .none := Dflts.noKw hD
 obtain ⟨a, vs, ns, rfl, rfl, hobj, hints, hlen⟩ := script_of hn hpre hwl
 refine enter_call (codeAny_mono (call w s₀ s₁ mg mb fa o pm cd doc a vs ns G Y ho (fd_plain hd) hcd hmg hobj hints hlen hg) fun r s' hq => ?_)
 obtain ⟨rfl, h2, h3, h4⟩ := hq
 exact ⟨.inl ⟨.bool true, .bool true, [], rfl, fun _ => rfl, .bool true, post_true l _, fun _ => ⟨List.Pairwise.nil, fun _ hm => (nomatch hm)⟩⟩, h2, h3, h4⟩
section
variable {prog : Program} {w : World} {A : Around} {E : Value -> Shared -> Prop} {s : Shared} {K : Frag}
def ledger (h : Heap) (L d : Addr) : List (Addr × Obj) := (List.range h.objs.size).filterMap fun a => if a = L \/ a = d then none else (h.get? a).map fun o => (a, o)
end
end Att
namespace L2
open PySem PySem.Spec PyProof.Rows
theorem vals_ints : ∀ {vs : List Value} {ns : List Int}, IntsAre vs ns -> Vals (ns.map V.int) vs
 | _, _, .nil => .nil
 | _, _, .cons n t h => .cons ⟨t, rfl⟩ (vals_ints h)
abbrev KOf {K : PySem.W.Frag} {h : Heap} (_ : K.In h) : PySem.W.Frag := K
def inClass (s : Stmt) (j : Nat) : Stmt := match s with
 | .ClassDef _ _ _ body _ _ _ _ _ _ _ => body.getD j (.Pass ⟨0, 0, 0, 0⟩)
 | _ => .Pass ⟨0, 0, 0, 0⟩
def defArgs (s : Stmt) : Arguments := match s with
 | .FunctionDef _ a _ _ _ _ _ _ _ _ => a
 | _ => { posonlyargs := [], args := [], vararg := none, kwonlyargs := [], kw_defaults := [], kwarg := none, defaults := [] }
def defBody (s : Stmt) : List Stmt := match s with
 | .FunctionDef _ _ b _ _ _ _ _ _ _ => b
 | _ => []
def defScope (s : Stmt) : Scope := match s with
 | .FunctionDef _ _ _ _ _ _ sc _ _ _ => sc
 | _ => { kind := .function, names := [], isGenerator := false, isCoroutine := false }
abbrev CX0 : CXT := fun _ _ _ _ _ _ => False
abbrev E0 : XK := fun _ _ _ => False
theorem pass0 {X : Cx} : Passes CX0 X E0 := fun _ _ _ _ _ _ _ h => h.elim
structure Fun (K : PySem.W.Frag) (x qual : Str) (st : Stmt) (f : Addr) (fd : FuncData) : Prop where
 ex : ∃ (oc : Value) (od : Option Addr) (kV doc pm : Value) (an : Option Addr) (cdv ct : Value) (osl : Array (Option Value)),
  fd = PySem.W.fnOf x qual (defArgs st) (defBody st) (defScope st) .none kV doc pm an cdv ct /\ K.lookup f = some ⟨oc, od, .func fd, osl⟩ /\ PySem.W.codeIn K cdv qual = true
 kp : PySem.W.keepIn K (.ref f) = true
section
variable {P : Program} {w : World} {K : PySem.W.Frag} {mg : Str -> Option Value} {base : Heap}
theorem Fun.ok {x qual : Str} {st : Stmt} {f : Addr} {fd : FuncData} {N ps : List Str} {k : Nat} {sp : Sp} (F : Fun K x qual st f fd) (S : FnScope N ps (defScope st)) (len : ∀ vs H Q E, sp vs H Q E -> vs.length = ps.length)
  (hbody : ∀ (cdv : Value) (A : Around) (outer : List Env) (s : Shared) (H : Hp) (vs : List V) (Q : VK) (E : XK), Room k (A.deeper (envOfC qual (defScope st) s.heap.objs.size f cdv)) -> sp vs H Q E ->
   ∃ t, PSs (cxOf CX0 P w K mg base N qual (defScope st) f cdv A outer s H E).nox (defBody st) t /\ t { nx := fun _ H' => Q .non H', rt := Q } (start N vs) H) : FnOk P w K mg base CX0 (k + 1) f fd ps sp := by
 obtain ⟨oc, od, kV, doc, pm, an, cdv, ct, osl, rfl, lk, hcd⟩ := F.ex
 refine fn_of lk hcd S len fun A outer s H vs Q E hr hsp => ?_
 obtain ⟨t, h, q⟩ := hbody cdv A outer s H vs Q E hr hsp
 exact ⟨t, h.nox, q⟩
theorem Fun.binds {x qual : Str} {st : Stmt} {f : Addr} {fd : FuncData} {ps : List Str} (F : Fun K x qual st f fd)
  (h : ∀ (kV doc pm : Value) (an : Option Addr) (cdv ct : Value) (us : List Value), us.length = ps.length -> bindArgs (PySem.W.fnOf x qual (defArgs st) (defBody st) (defScope st) .none kV doc pm an cdv ct) ⟨us, []⟩ = pure (ps.zip us)) : Binds K fd ps [] := by
 obtain ⟨oc, od, kV, doc, pm, an, cdv, ct, osl, rfl, lk, hcd⟩ := F.ex
 exact .all (h kV doc pm an cdv ct)
theorem fun_mk {x qual : Str} {st : Stmt} {f : Addr} {oc : Value} {od an : Option Addr} {osl : Array (Option Value)} {kV doc pm cdv ct : Value} (l : K.lookup f = some ⟨oc, od, .func (PySem.W.fnOf x qual (defArgs st) (defBody st) (defScope st) .none kV doc pm an cdv ct), osl⟩)
  (c : PySem.W.codeIn K cdv qual = true) (k : PySem.W.keepIn K (.ref f) = true) : Fun K x qual st f (PySem.W.fnOf x qual (defArgs st) (defBody st) (defScope st) .none kV doc pm an cdv ct) := ⟨⟨oc, od, kV, doc, pm, an, cdv, ct, osl, rfl, l, c⟩, k⟩
end
section
variable {X : Cx}
theorem pv (i : Nat) {x : Str} {pos : Pos} (hN : X.N[i]? = some x := by rfl) (hv : Vis X.env.scope x := by first | exact Or.inl rfl | exact Or.inr (Or.inl rfl) | exact Or.inr (Or.inr rfl)) (hd : (x == ("__debug__" : Str)) = false := by decide)
  (hcd : (x == ("__classdict__" : Str)) = false := by decide) : PE X (.Name x pos) (tVar i) := pe_var hN hv hd hcd
end
theorem iteF {A B : Prop} (h : B) : if false = true then A else B := by
 rw [if_neg Bool.false_ne_true]
 exact h
theorem iteT {A B : Prop} (h : A) : if true = true then A else B := by
 rw [if_pos rfl]
 exact h
theorem ite2 {c A B : Prop} [Decidable c] (h1 : c -> A) (h2 : ¬ c -> B) : if c then A else B := by
 by_cases h : c
 ·rw [if_pos h]
  exact h1 h
 ·rw [if_neg h]
  exact h2 h
def Same (H H' : Hp) : Prop := ∀ b o, H b = some o -> H' b = some o
theorem Same.refl (H : Hp) : Same H H := fun _ _ h => h
theorem Same.trans {H H1 H2 : Hp} (a : Same H H1) (b : Same H1 H2) : Same H H2 := fun c o h => b c o (a c o h)
theorem Same.free {H H' : Hp} (e : Same H H') {l : Addr} (h : H' l = Option.none) : H l = Option.none := by
 cases q : H l with
 | none => rfl
 | some o =>
  rw [e l o q] at h
  cases h
theorem Same.seq {K : PySem.W.Frag} {H H' : Hp} {a : Addr} {xs : List V} (e : Same H H') (h : SqL K H a xs) : SqL K H' a xs := by
 rcases h with (h | ⟨o, h⟩) | h
 ·exact .inl (.inl (e _ _ h))
 ·exact .inl (.inr ⟨o, e _ _ h⟩)
 ·exact .inr h
def PTs (X : Cx) (ifs : List Expr) (t : TT) : Prop :=
 ∀ (pins : List (Addr × Obj)) (s : Shared) (σ : St) (H : Hp) (Q : Bool -> Hp -> Prop), Inv X pins σ H s -> t σ H Q ->
  wpAny (model X.prog X.w) X.A (forIn ifs true fun c r => if r = true then do let ok <- isTrue c X.env (eval c X.env); pure (ForInStep.yield ok) else pure (ForInStep.yield r)) (TP X pins σ Q) X.xe s
def tYes : TT := fun _ H Q => Q true H
theorem pts_nil {X : Cx} : PTs X [] tYes := fun _ _ _ H _ I h => wpAny_tests_nil ⟨H, I, h⟩
theorem pts_one {X : Cx} {c : Expr} {t : TT} (hc : PT X c t) : PTs X [c] t := fun pins s σ H Q I h => wpAny_tests_one (hc pins s σ H Q I h)
theorem compLoop_any {prog : Program} {w : World} {A : Around} {s : Shared} {R : Result -> Shared -> Prop} {elt target iter : Expr} {ifs : List Expr} {scope : Scope} {pos : Pos} {it acc : Value} {env : Env} (J : Nat -> Shared -> Prop)
  (turn : ∀ n s, J n s -> wpAny (model prog w) A (pyNext it) (fun r s1 => match r with
   | none => R (.ok .next) s1
   | some v => wpAny (model prog w) A (letOwnedTupleGo target it v) (fun _ s2 => wpAny (model prog w) A (assign target env v) (fun _ s3 =>
     wpAny (model prog w) A (forIn ifs true fun c r => if r = true then do let ok <- isTrue c env (eval c env); pure (ForInStep.yield ok) else pure (ForInStep.yield r)) (fun ok s4 =>
      if ok = true then wpAny (model prog w) A (eval elt env) (fun x s5 =>
       wpAny (model prog w) A (call (.builtin "list.append") [acc, x]) (fun _ s6 => ∃ m, m < n /\ J m s6) (fun _ _ => False) s5) (fun _ _ => False) s4
      else ∃ m, m < n /\ J m s4) (fun _ _ => False) s3) (fun _ _ => False) s2) (fun _ _ => False) s1) (fun _ _ => False) s)
  (n : Nat) (h : J n s) : codeAny (model prog w) A (.compLoop (.ListComp elt [⟨target, iter, ifs, 0⟩] scope pos) 0 it acc env) R s := by
 refine codeAny_loop rfl J (fun n s hI => ?_) n h
 show wpAny _ A ((compTurn (.ListComp elt [⟨target, iter, ifs, 0⟩] scope pos) 0 it acc env).onRaise (fun x => do noteFrame x env; theTreesLotGoes x)) _ _ s
 refine wpAny_noted ?_
 rw [compTurn_list]
 refine wpAny_bind (wpAny_standAt (wpAny_bind (wpAny_mono (turn n s hI) (fun r s1 h1 => ?_) fun _ _ z => z.elim)))
 cases r with
 | none => exact wpAny_pure h1
 | some v =>
  refine wpAny_bind (wpAny_mono h1 (fun _ s2 h2 => ?_) fun _ _ z => z.elim)
  refine wpAny_bind (wpAny_mono h2 (fun _ s3 h3 => wpAny_bind (wpAny_mono h3 (fun ok s4 h4 => ?_) fun _ _ z => z.elim)) fun _ _ z => z.elim)
  cases ok with
  | false => exact wpAny_pure ⟨rfl, h4⟩
  | true =>
   exact wpAny_bind (wpAny_bind (wpAny_mono h4 (fun x s5 h5 => wpAny_bind (wpAny_mono h5 (fun _ s6 h6 => wpAny_pure (wpAny_pure ⟨rfl, h6⟩)) fun _ _ z => z.elim)) fun _ _ z => z.elim))
def closL (cells : List (Str × Addr)) : List (Str × NameKind) -> List (Str × Addr) -> List (Str × Addr)
 | [], acc => acc
 | (n, k) :: r, acc => if k == .free then closL cells r ((n, (cells.lookup n).getD 0) :: acc) else closL cells r acc
theorem closure_go {env : Env} : ∀ (names : List (Str × NameKind)) (acc : List (Str × Addr)), (∀ y ∈ names, y.2 = .free -> ∃ c, env.cells.lookup y.1 = some c) ->
  (forIn names acc fun (x : Str × NameKind) (cs : List (Str × Addr)) => (if (x.2 == .free) = true then do let a <- cellOf env x.1; pure (ForInStep.yield ((x.1, a) :: cs)) else pure (ForInStep.yield cs) : Sem (ForInStep (List (Str × Addr))))) = pure (closL env.cells names acc)
 | [], acc, _ => rfl
 | (n, k) :: r, acc, h => by
  have ih := fun acc => closure_go r acc fun y hy => h y (List.mem_cons_of_mem _ hy)
  rw [List.forIn_cons]
  unfold closL
  by_cases hk : (k == NameKind.free) = true
  ·obtain ⟨c, hc⟩ := h (n, k) List.mem_cons_self (by simpa using hk)
   have e : cellOf env n = pure c := by
    unfold cellOf
    rw [show env.cells.lookup n = some c from hc]
   simp only [hk, if_true, e, pure_bind]
   rw [ih, show env.cells.lookup n = some c from hc]
   rfl
  ·simp only [hk, Bool.false_eq_true, if_false, pure_bind]
   exact ih acc
theorem closure_of {env : Env} {scope : Scope} (h : ∀ y ∈ scope.names, y.2 = .free -> ∃ c, env.cells.lookup y.1 = some c) : closureFor scope env = pure (closL env.cells scope.names []) := by
 have e := closure_go scope.names [] h
 unfold closureFor
 simp only [bind_pure] at e ⊢
 exact e
theorem closL_sub {env : Env} : ∀ (names : List (Str × NameKind)) (acc : List (Str × Addr)), (∀ y ∈ names, y.2 = .free -> ∃ c, env.cells.lookup y.1 = some c) -> (∀ x c, acc.lookup x = some c -> env.cells.lookup x = some c) ->
  ∀ x c, (closL env.cells names acc).lookup x = some c -> env.cells.lookup x = some c
 | [], acc, _, ha, x, c, e => ha x c e
 | (n, k) :: r, acc, h, ha, x, c, e => by
  unfold closL at e
  by_cases hk : (k == NameKind.free) = true
  ·rw [if_pos hk] at e
   obtain ⟨d, hd⟩ := h (n, k) List.mem_cons_self (by simpa using hk)
   refine closL_sub r _ (fun y hy => h y (List.mem_cons_of_mem _ hy)) (fun y b q => ?_) x c e
   rw [List.lookup_cons] at q
   by_cases hy : (y == n) = true
   ·rw [hy] at q
    have hy' : y = n := by simpa using hy
    have hd' : env.cells.lookup n = some d := hd
    rw [hd'] at q
    have q' : d = b := Option.some.inj q
    rw [hy', hd', q']
   ·have hy' : (y == n) = false := by simpa using hy
    rw [hy'] at q
    exact ha y b q
  ·rw [if_neg hk] at e
   exact closL_sub r acc (fun y hy => h y (List.mem_cons_of_mem _ hy)) ha x c e
theorem closL_acc {cells : List (Str × Addr)} : ∀ (names : List (Str × NameKind)) (acc : List (Str × Addr)) (x : Str), (acc.lookup x).isSome = true -> ((closL cells names acc).lookup x).isSome = true
 | [], _, _, h => h
 | (n, k) :: r, acc, x, h => by
  unfold closL
  by_cases hk : (k == NameKind.free) = true
  ·rw [if_pos hk]
   refine closL_acc r _ x ?_
   rw [List.lookup_cons]
   by_cases hx : (x == n) = true
   ·rw [hx]; rfl
   ·have hx' : (x == n) = false := by simpa using hx
    rw [hx']; exact h
  ·rw [if_neg hk]
   exact closL_acc r acc x h
theorem closL_has {cells : List (Str × Addr)} : ∀ (names : List (Str × NameKind)) (acc : List (Str × Addr)) (x : Str), (x, NameKind.free) ∈ names -> ((closL cells names acc).lookup x).isSome = true
 | [], _, _, h => nomatch h
 | (n, k) :: r, acc, x, h => by
  unfold closL
  rcases List.mem_cons.mp h with e | h
  ·cases e
   rw [if_pos (by rfl)]
   refine closL_acc r _ _ ?_
   rw [List.lookup_cons]
   simp
  ·by_cases hk : (k == NameKind.free) = true
   ·rw [if_pos hk]; exact closL_has r _ x h
   ·rw [if_neg hk]; exact closL_has r _ x h
theorem lookup_relabel {env : Env} : ∀ {names : List (Str × NameKind)} {x : Str} {k : NameKind}, (names.map fun (n, k) => if (k == NameKind.free && env.scope.kind == .function && env.kindOf n == some .cell) then (n, NameKind.cell) else (n, k)).lookup x = some k ->
  (k = .cell \/ k = .free) -> (x, NameKind.free) ∈ names \/ (x, NameKind.cell) ∈ names
 | [], _, _, h, _ => by simp at h
 | (n, q) :: r, x, k, h, hk => by
  have h' : List.lookup x ((if (q == NameKind.free && env.scope.kind == .function && env.kindOf n == some .cell) = true then (n, NameKind.cell) else (n, q)) :: r.map fun (n, k) => if (k == NameKind.free && env.scope.kind == .function && env.kindOf n == some .cell) then (n, NameKind.cell) else (n, k)) = some k := h
  by_cases hc : (q == NameKind.free && env.scope.kind == .function && env.kindOf n == some .cell) = true
  ·rw [if_pos hc, List.lookup_cons] at h'
   have hq : q = .free := by
    simp only [Bool.and_eq_true, beq_iff_eq] at hc
    exact hc.1.1
   by_cases hx : (x == n) = true
   ·have hx' : x = n := by simpa using hx
    subst hx'; subst hq
    exact .inl List.mem_cons_self
   ·have hx' : (x == n) = false := by simpa using hx
    rw [hx'] at h'
    rcases lookup_relabel (env := env) h' hk with z | z
    ·exact .inl (List.mem_cons_of_mem _ z)
    ·exact .inr (List.mem_cons_of_mem _ z)
  ·rw [if_neg hc, List.lookup_cons] at h'
   by_cases hx : (x == n) = true
   ·rw [hx] at h'
    have hx' : x = n := by simpa using hx
    subst hx'
    have e : q = k := Option.some.inj h'
    subst e
    rcases hk with rfl | rfl
    ·exact .inr List.mem_cons_self
    ·exact .inl List.mem_cons_self
   ·have hx' : (x == n) = false := by simpa using hx
    rw [hx'] at h'
    rcases lookup_relabel (env := env) h' hk with z | z
    ·exact .inl (List.mem_cons_of_mem _ z)
    ·exact .inr (List.mem_cons_of_mem _ z)
theorem relabel_free {env : Env} : ∀ {names : List (Str × NameKind)} {x : Str}, names.lookup x = some .free ->
  (names.map fun (n, k) => if (k == NameKind.free && env.scope.kind == .function && env.kindOf n == some .cell) then (n, NameKind.cell) else (n, k)).lookup x = some .cell \/
  (names.map fun (n, k) => if (k == NameKind.free && env.scope.kind == .function && env.kindOf n == some .cell) then (n, NameKind.cell) else (n, k)).lookup x = some .free
 | [], _, h => by simp at h
 | (n, q) :: r, x, h => by
  show List.lookup x ((if (q == NameKind.free && env.scope.kind == .function && env.kindOf n == some .cell) = true then (n, NameKind.cell) else (n, q)) :: _) = _ \/ List.lookup x ((if (q == NameKind.free && env.scope.kind == .function && env.kindOf n == some .cell) = true then (n, NameKind.cell) else (n, q)) :: _) = _
  rw [List.lookup_cons] at h
  by_cases hc : (q == NameKind.free && env.scope.kind == .function && env.kindOf n == some .cell) = true
  ·rw [if_pos hc, List.lookup_cons]
   by_cases hx : (x == n) = true
   ·rw [hx]; exact .inl rfl
   ·have hx' : (x == n) = false := by simpa using hx
    rw [hx'] at h ⊢
    exact relabel_free h
  ·rw [if_neg hc, List.lookup_cons]
   by_cases hx : (x == n) = true
   ·rw [hx] at h ⊢; exact .inr h
   ·have hx' : (x == n) = false := by simpa using hx
    rw [hx'] at h ⊢
    exact relabel_free h
def cxC (X : Cx) (N' : List Str) (scope : Scope) (C : Addr) (s : Shared) (H : Hp) (fp : List Addr) : Cx where
 prog := X.prog
 w := X.w
 K := X.K
 mg := X.mg
 base := X.base
 A := X.A
 N := N'
 s₀ := s
 H₀ := H
 env := compEnvC scope (closL X.env.cells scope.names []) C X.env
 outer := X.stack
 stack := X.stack
 ex := fp
 fn := fun _ => false
 calm := X.calm
 pn := []
 xe := fun _ _ => False
def σC (o : Nat) (fr : List Nat) (σ : St) : St := List.replicate o none ++ fr.map fun j => (σ[j]?).join
structure CompScope (sc0 : Scope) (N N' : List Str) (o : Nat) (fr : List Nat) (scope : Scope) : Prop where
 kind : scope.kind = .function
 nocell : (scope.names.all fun y => y.2 != .cell) = true
 loc : (scope.names.all fun y => y.2 != .local || scope.names.lookup y.1 == some .local) = true
 free : (scope.names.all fun y => y.2 != .free || sc0.names.lookup y.1 == some .cell || sc0.names.lookup y.1 == some .free) = true
 len : N'.length = o + fr.length
 sees : ((List.range fr.length).all fun j => match fr[j]? with
  | none => false
  | some y => match N[y]? with
   | none => false
   | some x => N'[o + j]? == some x && scope.names.lookup x == some .free) = true
def LcR (J : It) (g : TG) (tt : TT) (te : TE) (o : Nat) (fr : List Nat) (σ : St) (H1 : Hp) (Q : VK) : Prop := ∃ W : Nat -> Nat -> List V -> Hp -> Prop, (∃ m, W 0 m [] H1) /\ ∀ i m ys H, W i m ys H ->
 (J.stop i H /\ ys.length <= sizeLine /\ ∀ p, H p = none -> Q (.ref p) (upd H p (.lst ys))) \/
 (J.go i H /\ ys.length < sizeLine /\ ∀ x H', J.yld i H x H' -> g x (σC o fr σ) H' fun σ2 H2 => tt σ2 H2 fun b H3 => if b = true then te σ2 H3 fun y H4 => ∃ m', m' < m /\ W (i + 1) m' (ys ++ [y]) H4 else ∃ m', m' < m /\ W (i + 1) m' ys H3)
def tLc (wi : TI) (g : TG) (tt : TT) (te : TE) (o : Nat) (fr : List Nat) : TE := fun σ H Q => wi σ H fun J H1 => LcR J g tt te o fr σ H1 Q
def OwnG (o : Nat) (g : TG) : Prop := ∀ (x : V) (ow fr : St) (H : Hp) (Q : St -> Hp -> Prop), ow.length = o -> g x (ow ++ fr) H Q -> g x (ow ++ fr) H fun σ2 H2 => (∃ ow', ow'.length = o /\ σ2 = ow' ++ fr) /\ Q σ2 H2
theorem own_name {o i : Nat} (h : i < o) : OwnG o (gName i) := fun x ow fr H Q hl q => ⟨⟨ow.set i (some x), by rw [List.length_set]; exact hl, by rw [List.set_append_left _ _ (by omega)]⟩, q⟩
def OwnGs (o : Nat) (g : TGs) : Prop := ∀ (xs : List V) (ow fr : St) (H : Hp) (Q : St -> Hp -> Prop), ow.length = o -> g xs (ow ++ fr) H Q -> g xs (ow ++ fr) H fun σ2 H2 => (∃ ow', ow'.length = o /\ σ2 = ow' ++ fr) /\ Q σ2 H2
theorem own_nil {o : Nat} : OwnGs o gNil := fun _ ow _ _ _ hl ⟨e, q⟩ => ⟨e, ⟨ow, hl, rfl⟩, q⟩
theorem own_cons {o i : Nat} {u : TGs} (h : i < o) (h2 : OwnGs o u) : OwnGs o (gCons (gName i) u) := by
 rintro xs ow fr H Q hl ⟨v, r, rfl, q⟩
 refine ⟨v, r, rfl, ?_⟩
 have q' : u r ((ow ++ fr).set i (some v)) H Q := q
 show u r ((ow ++ fr).set i (some v)) H _
 rw [List.set_append_left _ _ (by omega)] at q' ⊢
 exact h2 r (ow.set i (some v)) fr H Q (by rw [List.length_set]; exact hl) q'
theorem own_tup {K : PySem.W.Frag} {o n : Nat} {u : TGs} (h : OwnGs o u) : OwnG o (gTup K n u) := by
 rintro x ow fr H Q hl ⟨a, xs, rfl, hs, hn, q⟩
 exact ⟨a, xs, rfl, hs, hn, h xs ow fr H Q hl q⟩
section
variable {X : Cx} {pins : List (Addr × Obj)} {σ : St} {H : Hp} {s : Shared} {N' : List Str} {o : Nat} {fr : List Nat} {scope : Scope} {fp : List Addr}
abbrev accObj (us : List Value) : Obj := { cls := .type "list", data := .seq us.toArray us.length }
theorem CompScope.nocell' {sc0 : Scope} {N : List Str} (S : CompScope sc0 N N' o fr scope) : ∀ y ∈ scope.names, y.2 ≠ .cell := fun y hy e => by
 have q := List.all_eq_true.mp S.nocell y hy
 rw [e] at q
 exact absurd q (by decide)
theorem CompScope.loc' {sc0 : Scope} {N : List Str} (S : CompScope sc0 N N' o fr scope) : ∀ y ∈ scope.names, y.2 = .local -> scope.names.lookup y.1 = some .local := fun y hy e => by
 have q := List.all_eq_true.mp S.loc y hy
 rw [e] at q
 simpa using q
theorem CompScope.free' {sc0 : Scope} {N : List Str} (S : CompScope sc0 N N' o fr scope) (hs : X.env.scope = sc0) : ∀ y ∈ scope.names, y.2 = .free -> X.env.kindOf y.1 = some .cell \/ X.env.kindOf y.1 = some .free := fun y hy e => by
 have q := List.all_eq_true.mp S.free y hy
 rw [e] at q
 show X.env.scope.names.lookup y.1 = _ \/ X.env.scope.names.lookup y.1 = _
 rw [hs]
 simpa using q
theorem CompScope.sees' {sc0 : Scope} {N : List Str} (S : CompScope sc0 N N' o fr scope) : ∀ j y, fr[j]? = some y -> ∃ x, N[y]? = some x /\ N'[o + j]? = some x /\ scope.names.lookup x = some .free := fun j y e => by
 have hj : j < fr.length := (List.getElem?_eq_some_iff.mp e).1
 have q := List.all_eq_true.mp S.sees j (List.mem_range.mpr hj)
 rw [e] at q
 dsimp only at q
 cases ex : N[y]? with
 | none => rw [ex] at q; cases q
 | some x =>
  rw [ex] at q
  dsimp only at q
  rw [Bool.and_eq_true, beq_iff_eq, beq_iff_eq] at q
  exact ⟨x, rfl, q.1, q.2⟩
theorem CompScope.cells {sc0 : Scope} {N0 : List Str} (S : CompScope sc0 N0 N' o fr scope) (hs : X.env.scope = sc0) (I : Inv X pins σ H s) : ∀ y ∈ scope.names, y.2 = .free -> ∃ c, X.env.cells.lookup y.1 = some c := fun y hy e => I.ok.has y.1 (S.free' hs y hy e)
theorem CompScope.sub {sc0 : Scope} {N0 : List Str} (S : CompScope sc0 N0 N' o fr scope) (hs : X.env.scope = sc0) (I : Inv X pins σ H s) : ∀ x c, (closL X.env.cells scope.names []).lookup x = some c -> X.env.cells.lookup x = some c :=
 closL_sub (env := X.env) scope.names [] (S.cells hs I) (fun _ _ z => nomatch z)
theorem Inv.block {sc0 : Scope} {N0 : List Str} (S : CompScope sc0 N0 N' o fr scope) (hs : X.env.scope = sc0) (hN : X.N = N0) (I : Inv X pins σ H s) (hf : ∀ b ∈ fp, FpOk X pins H b) (hfl : ∀ b ∈ fp, b < s.heap.objs.size) {h1 : Heap} {C D : Addr} {m : Str -> Option Value} {us : List Value} {t : Nat}
  (hC : s.heap.objs.size <= C) (hD : s.heap.objs.size <= D) (hDC : D ≠ C)
  (old : ∀ b ob, s.heap.get? b = some ob -> h1.get? b = some ob) (hn : h1.Ns C m) (ha : h1.get? D = some (accObj us)) : Inv (cxC X N' scope C s H fp) [(D, accObj us)] (σC o fr σ) H { s with heap := h1, toks := t } := by
 have sub := S.sub hs I
 have frC : ∀ b ∈ frs X.stack, b < s.heap.objs.size := fun b hb => by
  obtain ⟨_, ob, ho, _⟩ := I.stack.mem hb
  exact Heap.lt_size ho
 refine ⟨⟨I.ok.mod, S.kind, I.ok.glob, I.ok.blt, hC, fun x y c h1 h2 => I.ok.inj x y c (sub x c h1) (sub y c h2), fun x hx => ?_, fun x c hfx _ => (nomatch hfx), I.ok.hd, I.ok.frames, .inl rfl, fun b hb => ?_, I.bs, Nat.le_trans I.ok.bsz I.sz, fun b ob e hb => ?_, fun b hb hb' => ?_, I.stack, I.stkFree⟩,
  rfl, I.bare, Un.kept old, ⟨m, hn, fun i x v e1 e2 e3 => ?_⟩, fun x c e => ?_, I.hok.fresh hC, fun x c e => I.freeC x c (sub x c e), fun p hp => ?_, I.hok.kept old, ?_⟩
 ·have hx' : (relabel scope X.env).names.lookup x = some .cell \/ (relabel scope X.env).names.lookup x = some .free := hx
  have key : (x, NameKind.free) ∈ scope.names := by
   rcases hx' with z | z
   ·rcases lookup_relabel (env := X.env) z (.inl rfl) with q | q
    ·exact q
    ·exact absurd rfl (S.nocell' _ q)
   ·rcases lookup_relabel (env := X.env) z (.inr rfl) with q | q
    ·exact q
    ·exact absurd rfl (S.nocell' _ q)
  exact Option.isSome_iff_exists.mp (closL_has (cells := X.env.cells) scope.names [] x key)
 ·obtain ⟨f0, f1, f2, f3, f4, f5⟩ := hf b hb
  exact ⟨Nat.ne_of_lt (Nat.lt_of_lt_of_le (hfl b hb) hC), fun x c e => f4 x c (sub x c e)⟩
 ·obtain ⟨f0, f1, f2, f3, f4, f5⟩ := hf b hb
  rcases f3 with z | z
  ·exact I.ok.noex b ob e z
  ·exact absurd (Nat.lt_of_lt_of_le (Heap.lt_size e) (Nat.le_trans I.ok.bsz z)) (Nat.lt_irrefl _)
 ·obtain ⟨f0, f1, f2, f3, f4, f5⟩ := hf b hb
  rcases List.mem_cons.mp (I.stkSub b hb') with z | z
  ·exact f1 z
  ·exact f2 z
 ·unfold σC at e2
  by_cases hi : i < o
  ·rw [List.getElem?_append_left (by rw [List.length_replicate]; exact hi), List.getElem?_replicate, if_pos hi] at e2
   cases e2
  ·rw [List.getElem?_append_right (by rw [List.length_replicate]; exact Nat.not_lt.mp hi), List.length_replicate, List.getElem?_map] at e2
   cases hy : fr[i - o]? with
   | none => rw [hy] at e2; cases e2
   | some y =>
    rw [hy] at e2
    have e2' : (σ[y]?).join = some v := Option.some.inj e2
    have e3' : σ[y]? = some (some v) := by
     cases q : σ[y]? with
     | none => rw [q] at e2'; cases e2'
     | some z => rw [q] at e2'; exact congrArg some e2'
    obtain ⟨x', s2, s1, s3⟩ := S.sees' (i - o) y hy
    rw [<- hN] at s2
    rw [show o + (i - o) = i by omega] at s1
    have ex : x = x' := by
     have e1' : N'[i]? = some x := e1
     rw [e1'] at s1
     exact Option.some.inj s1
    subst ex
    have hmem := PySem.mem_of_lookup s3
    obtain ⟨m0, _, hl⟩ := I.loc
    have hk := S.free' hs (x, .free) hmem rfl
    obtain ⟨u, ru, lk⟩ := hl y x v s2 e3' (by rcases hk with z | z; exact .inr (.inl z); exact .inr (.inr z))
    refine ⟨u, ru, .inr ⟨relabel_free (env := X.env) s3, ?_⟩⟩
    obtain ⟨c', hc'⟩ := Option.isSome_iff_exists.mp (closL_has (cells := X.env.cells) scope.names [] x hmem)
    refine ⟨c', hc', ?_⟩
    rcases lk with ⟨z, _⟩ | ⟨_, c, e, ob, ho, hd⟩
    ·rcases hk with z' | z'
     ·rw [z] at z'; cases z'
     ·rw [z] at z'; cases z'
    ·have ec : c = c' := by
      have := sub x c' hc'
      rw [e] at this
      exact Option.some.inj this
     subst ec
     exact ⟨ob, old _ _ ho, hd⟩
 ·obtain ⟨v, ob, ho, hd⟩ := I.cell x c (sub x c e)
  exact ⟨v, ob, old _ _ ho, hd⟩
 ·have e : p = (D, accObj us) := by simpa using (show p ∈ ([] : List (Addr × Obj)) ++ [(D, accObj us)] from hp)
  subst e
  refine ⟨ha, I.hok.fresh hD, hDC, fun z => absurd (Nat.lt_of_lt_of_le (frC D z) hD) (Nat.lt_irrefl _), fun v z => nomatch z⟩
 ·show (σC o fr σ).length = N'.length
  unfold σC
  rw [List.length_append, List.length_replicate, List.length_map, S.len]
theorem Inv.unblock (I : Inv X pins σ H s) (hf : ∀ b ∈ fp, FpOk X pins H b) {C D : Addr} {us : List Value} {ys : List V} {σ' : St} {H' : Hp} {s' : Shared} (hC : s.heap.objs.size <= C) (hD : s.heap.objs.size <= D) (hDC : D ≠ C)
  (I' : Inv (cxC X N' scope C s H fp) [(D, accObj us)] σ' H' s') (r : Vals ys us) (hz : ys.length <= sizeLine) : ∃ oC m, s'.heap.get? C = some oC /\ s'.heap.Ns C m /\ Inv X (pins ++ [(C, oC)]) σ (upd H' D (.lst ys)) s' := by
 obtain ⟨aD, nD, _, _, _⟩ := I'.pin (D, accObj us) (by simp)
 have aD : s'.heap.get? D = some (accObj us) := aD
 have nD : H' D = none := nD
 have un : Un (frs X.stack) fp H H' s.heap s'.heap := I'.base
 have lt : ∀ b u, H b = some u -> b ≠ D := fun b u e => Nat.ne_of_lt (Nat.lt_of_lt_of_le (I.hok.lt e) hD)
 have un2 : Un (frs X.stack) fp H (upd H' D (.lst ys)) s.heap s'.heap := by
  refine ⟨un.keep, un.slot, fun b ob e n hx => ?_, un.there, fun b xs e => ?_, fun b ob u e => ?_, fun b ps e => ?_⟩
  ·rw [upd_ne (Nat.ne_of_lt (Nat.lt_of_lt_of_le (Heap.lt_size e) hD))]
   exact un.free b ob e n hx
  ·rw [upd_ne (lt b _ e)]; exact un.tups b xs e
  ·rw [upd_ne (lt b _ e)]; exact un.frzs b ob u e
  ·obtain ⟨more, q⟩ := un.tbls b ps e
   exact ⟨more, by rw [upd_ne (lt b _ e)]; exact q⟩
 have hok : HOk X.prog X.w (upd H' D (.lst ys)) s'.heap := fun b u e => by
  by_cases hb : b = D
  ·subst hb
   rw [upd_same] at e
   cases e
   exact ⟨hz, us, us.length, r, aD⟩
  ·rw [upd_ne hb] at e
   exact (I'.hok b u e).stay (fun c v _ q => q) (fun c q => by rw [upd_ne (ne_of_none q nD)]; exact q) fun c xs q => by rw [upd_ne (ne_of_none q nD)]; exact q
 have os : s'.os = s.os := I'.os
 have J : Inv X pins σ (upd H' D (.lst ys)) s' := I.call' (ch := fp) os un2 hok I'.bare fun b hb => by
  obtain ⟨f0, f1, f2, f3, f4, f5⟩ := hf b hb
  exact ⟨f3, f1, f4, f5⟩
 obtain ⟨m, hn, _⟩ := I'.loc
 have hn : s'.heap.Ns C m := hn
 obtain ⟨oC, es, ep, hoC, hdC, _⟩ := id hn
 refine ⟨oC, m, hoC, hn, J.pins_of fun p hp => ?_⟩
 rcases List.mem_append.mp hp with z | z
 ·exact J.pin p (List.mem_append_right _ z)
 ·have e : p = (C, oC) := by simpa using z
  subst e
  have nC : H' C = none := I'.free
  refine ⟨hoC, by rw [upd_ne (Ne.symm hDC)]; exact nC, Nat.ne_of_gt (Nat.lt_of_lt_of_le I.lt hC), I.nofs hC, fun v z => ?_⟩
  have z' : oC.data = .cell v := z
  rw [hdC] at z'
  cases z'
end
section
variable {X : Cx} {N' : List Str} {o : Nat} {fr : List Nat} {scope : Scope} {elt tg iter : Expr} {ifs : List Expr} {pos : Pos} {wi : TI} {g : TG} {tt : TT} {te : TE}
theorem lc_run (hc : X.calm = true) {sc0 : Scope} {N0 : List Str} (S : CompScope sc0 N0 N' o fr scope) (hi : PI X tg iter wi) (ho : OwnG o g)
  (hg : ∀ (C : Addr) (s : Shared) (H : Hp) (fp : List Addr), PG (cxC X N' scope C s H fp) tg g)
  (ht : ∀ (C : Addr) (s : Shared) (H : Hp) (fp : List Addr), PTs (cxC X N' scope C s H fp) ifs tt)
  (he : ∀ (C : Addr) (s : Shared) (H : Hp) (fp : List Addr), PE (cxC X N' scope C s H fp) elt te)
  (hs : ∀ x, foldedSetIterable iter X.env x = pure x) (hsc : X.env.scope = sc0) (hN0 : X.N = N0) {pins : List (Addr × Obj)} {s : Shared} {σ : St} {H : Hp} {Qv : VK} (I : Inv X pins σ H s) (h : tLc wi g tt te o fr σ H Qv)
  {use : Option (Value -> Sem Unit)} {Q : Value -> Shared -> Prop} {E : Value -> Shared -> Prop}
  (hE : ∀ e s', X.xe e s' -> E e s')
  (fin : ∀ (C oC D : _) (m : Str -> Option Value) (H' : Hp) (ys : List V) (s' : Shared), Inv X (pins ++ [(C, oC)]) σ (upd H' D (.lst ys)) s' -> Qv (.ref D) (upd H' D (.lst ys)) -> s'.heap.Ns C m -> H' C = none -> C ≠ D ->
   C ≠ X.env.locals -> X.s₀.heap.objs.size <= C -> (∀ x c, X.env.cells.lookup x = some c -> c ≠ C) -> (∀ p ∈ X.pn ++ pins, p.1 ≠ C) -> compPost (model X.prog X.w) X.A E use Q (.ref D) C (.ok .next) s') :
  wpAny (model X.prog X.w) X.A (comprehension (.ListComp elt [⟨tg, iter, ifs, 0⟩] scope pos) scope X.env (firstIterPos [⟨tg, iter, ifs, 0⟩] pos) (newList []) false (eval iter X.env) use) Q E s := by
 refine wpAny_comprehension_free (use := use) rfl hs (closure_of (S.cells hsc I)) S.kind S.loc' (wpAny_mono (hi pins s σ H _ I h) (fun xv s1 h1 => wpAny_mono h1 (fun itv s2 h2 => ?_) hE) hE)
 obtain ⟨it, fp, tn, J, H2, rfl, I2, T, st2, f2, W, ⟨m0, w0⟩, turn⟩ := h2
 have hfl : ∀ b ∈ fp, b < s2.heap.objs.size := fun b hb => by
  obtain ⟨ob, e, _⟩ := T.obj 0 _ st2 b hb
  exact Heap.lt_size e
 refine wpAny_newObj_type (wpAny_newFunctionEnv S.nocell' (by intro y hy; simp at hy) (fun h1 hns1 hsb1 => ?_) S.kind)
 dsimp only at hns1 hsb1 ⊢
 generalize hH2 : s2.heap.push { cls := .type "list", dict := none, data := .seq ([] : List Value).toArray } = G at hns1 hsb1 ⊢
 have hCe : G.objs.size = s2.heap.objs.size + 1 := by rw [<- hH2, Heap.size_push]
 have hC : s2.heap.objs.size <= G.objs.size := by rw [hCe]; exact Nat.le_succ _
 have hDC : s2.heap.objs.size ≠ G.objs.size := by rw [hCe]; exact Nat.ne_of_lt (Nat.lt_succ_self _)
 have old : ∀ b ob, s2.heap.get? b = some ob -> h1.get? b = some ob := fun b ob e =>
  hsb1.extBut b ob (Nat.ne_of_lt (Nat.lt_of_lt_of_le (Heap.lt_size e) hC)) (Heap.get?_push_of_some _ (hH2 ▸ Heap.get?_push_of_some _ e))
 have hacc : h1.get? s2.heap.objs.size = some (accObj []) := hsb1.extBut _ _ hDC (Heap.get?_push_of_some _ (hH2 ▸ Heap.get?_push_size _ rfl))
 have st1 : tn 0 h1 := T.keep _ _ _ st2 fun b _ ob e => old b ob e
 have fpC : ∀ {us : List Value} {H' : Hp}, (∀ b ∈ fp, H' b = none) -> ∀ b ∈ fp, FpOk (cxC X N' scope G.objs.size s2 H2 fp) [(s2.heap.objs.size, accObj us)] H' b := fun {us H'} hn b hb => by
  obtain ⟨f0, f1, f3, f4, f5, f6⟩ := f2 b hb
  refine ⟨hn b hb, Nat.ne_of_lt (Nat.lt_of_lt_of_le (hfl b hb) hC), fun z => ?_, .inl hb, fun x c e => f5 x c (S.sub hsc I2 x c e), fun p hp => ?_⟩
  ·rcases List.mem_cons.mp (I2.stkSub b z) with q | q
   ·exact f1 q
   ·exact f3 q
  ·have e : p = (s2.heap.objs.size, accObj us) := by simpa using (show p ∈ ([] : List (Addr × Obj)) ++ [(s2.heap.objs.size, accObj us)] from hp)
   subst e
   exact Nat.ne_of_gt (hfl b hb)
 have loop : ∀ s3 : Shared, s3 = { s2 with heap := h1, toks := s2.toks + ([] : List (Str × Value)).length } ->
   codeAny (model X.prog X.w) X.A (.compLoop (.ListComp elt [⟨tg, iter, ifs, 0⟩] scope pos) 0 (.ref it) (.ref s2.heap.objs.size) (compEnvC scope (closL X.env.cells scope.names []) G.objs.size X.env))
    (compPost (model X.prog X.w) X.A E use Q (.ref s2.heap.objs.size) G.objs.size) s3 := by
  rintro s3 rfl
  refine compLoop_any (fun n s' => ∃ i σ' H' ys us, Inv (cxC X N' scope G.objs.size s2 H2 fp) [(s2.heap.objs.size, accObj us)] σ' H' s' /\ σ' = σC o fr σ /\ Vals ys us /\ tn i s'.heap /\ (∀ b ∈ fp, H' b = none) /\ W i n ys H') ?_ m0
   ⟨0, _, H2, [], [], I2.block S hsc hN0 f2 hfl hC (Nat.le_refl _) hDC old hns1 hacc, rfl, .nil, st1, fun b hb => (f2 b hb).1, w0⟩
  rintro n s' ⟨i, σ', H', ys, us, I', rfl, rv, st', fr', w'⟩
  rcases turn i n ys H' w' with ⟨stop, hz, q⟩ | ⟨go, hz, step⟩
  ·refine thn (T.done (cxC X N' scope G.objs.size s2 H2 fp) rfl rfl rfl hc i _ s' _ H' _ I' (fpC fr') st' stop) fun r s4 ⟨hr, I4⟩ => ?_
   subst hr
   obtain ⟨oC, m, hoC, hn, J4⟩ := I2.unblock f2 hC (Nat.le_refl _) hDC I4 rv hz
   exact fin _ oC _ m H' ys s4 J4 (q _ (I4.pin (s2.heap.objs.size, accObj us) (by simp)).2.1) hn I4.free (Ne.symm hDC) (Nat.ne_of_gt (Nat.lt_of_lt_of_le I2.lt hC)) (Nat.le_trans I2.sz hC)
    (fun x c e => by obtain ⟨v, z⟩ := I2.cell x c e; exact Nat.ne_of_lt (Nat.lt_of_lt_of_le z.lt hC)) fun p hp => Nat.ne_of_lt (Nat.lt_of_lt_of_le (Heap.lt_size (I2.pin p hp).1) hC)
  ·refine thn (T.item (cxC X N' scope G.objs.size s2 H2 fp) rfl rfl rfl hc i _ s' _ H' _ I' (fpC fr') st' go) fun r s4 ⟨u, hr, h4⟩ => ?_
   subst hr
   refine thn h4 fun _ s5 ⟨x, H5, I5, r5, y5, st5, fr5⟩ => ?_
   have hst := step x H5 y5
   have hst' := ho x (List.replicate o none) (fr.map fun j => (σ[j]?).join) H5 _ (List.length_replicate ..) hst
   have I5' := I5.pinned (fpC (us := us) fr5) (T.obj _ _ st5)
   refine thn (hg _ _ _ _ _ s5 _ H5 x u _ I5' r5 hst') fun _ s6 ⟨σ6, H6, I6, ⟨ow, hol, e6⟩, q6⟩ => ?_
   subst e6
   refine thn (ht _ _ _ _ _ s6 _ H6 _ I6 q6) fun b s7 ⟨H7, I7, q7⟩ => ?_
   have back : ∀ {us' : List Value} {σ8 : St} {H8 : Hp} {s8 : Shared}, Inv (cxC X N' scope G.objs.size s2 H2 fp) ([(s2.heap.objs.size, accObj us')] ++ pinsAt fp s5.heap) (ow ++ fr.map fun j => (σ[j]?).join) H8 s8 ->
     Inv (cxC X N' scope G.objs.size s2 H2 fp) [(s2.heap.objs.size, accObj us')] (σC o fr σ) H8 s8 /\ tn (i + 1) s8.heap /\ ∀ b ∈ fp, H8 b = none := fun {us' σ8 H8 s8} I8 => by
    refine ⟨I8.unpinned.weak ?_ fun j v e => ?_, T.keep _ _ _ st5 fun b hb ob e => (I8.pin (b, ob) (List.mem_append_right _ (List.mem_append_right _ (mem_pinsAt hb e)))).1, fun b hb => ?_⟩
    ·unfold σC
     rw [List.length_append, List.length_append, List.length_replicate, hol]
    ·unfold σC at e
     by_cases hj : j < o
     ·rw [List.getElem?_append_left (by rw [List.length_replicate]; exact hj), List.getElem?_replicate, if_pos hj] at e
      cases e
     ·rw [List.getElem?_append_right (by rw [List.length_replicate]; exact Nat.not_lt.mp hj), List.length_replicate] at e
      rw [List.getElem?_append_right (by rw [hol]; exact Nat.not_lt.mp hj), hol]
      exact e
    ·obtain ⟨ob, e, _⟩ := T.obj _ _ st5 b hb
     exact (I8.pin (b, ob) (List.mem_append_right _ (List.mem_append_right _ (mem_pinsAt hb e)))).2.1
   cases b with
   | false =>
    rw [if_neg Bool.false_ne_true] at q7 ⊢
    obtain ⟨m', hm, w7⟩ := q7
    obtain ⟨I8, st8, fr8⟩ := back (us' := us) (σ8 := []) I7
    exact ⟨m', hm, i + 1, _, H7, ys, us, I8, rfl, rv, st8, fr8, w7⟩
   | true =>
    rw [if_pos rfl] at q7 ⊢
    refine thn (he _ _ _ _ _ s7 _ H7 _ I7 q7) fun y s8 ⟨yv, H8, I8, r8, m', hm, w8⟩ => ?_
    obtain ⟨aD, nD, _, _, _⟩ := I8.pin (s2.heap.objs.size, accObj us) (by simp)
    have aD : s8.heap.get? s2.heap.objs.size = some (accObj us) := aD
    have nD : H8 s2.heap.objs.size = none := nD
    have hul : us.length <= sizeLine := by rw [<- rv.length]; exact Nat.le_of_lt hz
    refine append_at (hsz := by show us.toArray.size <= sizeLine; rw [List.size_toArray]; exact hul) aD fun h9 hs9 hD9 => ?_
    have hD9' : h9.get? s2.heap.objs.size = some (accObj (us ++ [y])) := by
     rw [hD9]
     show some ({ cls := .type "list", data := .seq (us.toArray.push y) (us.length + 1) } : Obj) = some { cls := .type "list", data := .seq (us ++ [y]).toArray (us ++ [y]).length }
     rw [List.length_append, List.length_singleton, List.push_toArray]
    have I9 : Inv (cxC X N' scope G.objs.size s2 H2 fp) (pinsAt fp s5.heap) (ow ++ fr.map fun j => (σ[j]?).join) H8 { s8 with heap := h9 } :=
     (I8.pins_of (pins' := pinsAt fp s5.heap) fun p hp => I8.pin p (List.mem_append_right _ (List.mem_append_right _ hp))).turned (t' := s8.toks) (it := s2.heap.objs.size) (fun b ob hb e => hs9.extBut b ob hb e) nD hDC (.inr (Nat.le_refl _))
      (fun x c e => by
       obtain ⟨v, z⟩ := I2.cell x c (S.sub hsc I2 x c e)
       exact Nat.ne_of_lt z.lt)
      fun p hp => by
       obtain ⟨hb, _⟩ := of_pinsAt (show p ∈ pinsAt fp s5.heap from by simpa [cxC] using hp)
       exact Nat.ne_of_lt (hfl p.1 hb)
    have I9' : Inv (cxC X N' scope G.objs.size s2 H2 fp) ([(s2.heap.objs.size, accObj (us ++ [y]))] ++ pinsAt fp s5.heap) (ow ++ fr.map fun j => (σ[j]?).join) H8 { s8 with heap := h9 } :=
     I9.pins_of fun p hp => by
      rcases List.mem_append.mp hp with z | z
      ·have e : p = (s2.heap.objs.size, accObj (us ++ [y])) := by simpa using z
       subst e
       refine ⟨hD9', nD, hDC, fun z => ?_, fun v z => nomatch z⟩
       obtain ⟨_, ob, hob, _⟩ := I2.stack.mem z
       exact Nat.lt_irrefl _ (Heap.lt_size hob)
      ·exact I9.pin p (List.mem_append_right _ z)
    obtain ⟨I10, st10, fr10⟩ := back (us' := us ++ [y]) (σ8 := []) I9'
    exact ⟨m', hm, i + 1, _, H8, ys ++ [yv], us ++ [y], I10, rfl, Vals.append rv (.cons r8 .nil), st10, fr10, w8⟩
 exact codeAny_compStart_list (loop _ rfl) (T.self _ 0 _ _ _ st1 (loop _ rfl))
theorem pe_lc (hc : X.calm = true) {sc0 : Scope} {N0 : List Str} (S : CompScope sc0 N0 N' o fr scope) (hi : PI X tg iter wi) (ho : OwnG o g)
  (hg : ∀ (C : Addr) (s : Shared) (H : Hp) (fp : List Addr), PG (cxC X N' scope C s H fp) tg g)
  (ht : ∀ (C : Addr) (s : Shared) (H : Hp) (fp : List Addr), PTs (cxC X N' scope C s H fp) ifs tt)
  (he : ∀ (C : Addr) (s : Shared) (H : Hp) (fp : List Addr), PE (cxC X N' scope C s H fp) elt te)
  (hs : ∀ x, foldedSetIterable iter X.env x = pure x := by intro _; rfl) (hsc : X.env.scope = sc0 := by rfl) (hN0 : X.N = N0 := by rfl) : PE X (.ListComp elt [⟨tg, iter, ifs, 0⟩] scope pos) (tLc wi g tt te o fr) := by
 intro pins s σ H Q I h
 rw [eval_ListComp]
 refine lc_run hc S hi ho hg ht he hs hsc hN0 I h (use := none) (fun _ _ z => z) fun C oC D m H' ys s' J q hn nC hCD hCL hCs hCc hCp => ?_
 refine ⟨m, hn, fun h' hs' => ⟨.ref D, upd H' D (.lst ys), ?_, rfl, q⟩⟩
 refine J.unpinned.turned (t' := s'.toks) (it := C) (fun b ob hb e => hs'.extBut b ob hb e) (by rw [upd_ne hCD]; exact nC) hCL (.inr hCs) hCc hCp
theorem ps_lc {i : Nat} {x : Str} {px : Pos} {spos : Pos} (hc : X.calm = true) (hN : X.N.Nodup) (hx : X.N[i]? = some x) (hl : X.env.kindOf x = some .local) {sc0 : Scope} {N0 : List Str} (S : CompScope sc0 N0 N' o fr scope) (hi : PI X tg iter wi) (ho : OwnG o g)
  (hg : ∀ (C : Addr) (s : Shared) (H : Hp) (fp : List Addr), PG (cxC X N' scope C s H fp) tg g)
  (ht : ∀ (C : Addr) (s : Shared) (H : Hp) (fp : List Addr), PTs (cxC X N' scope C s H fp) ifs tt)
  (he : ∀ (C : Addr) (s : Shared) (H : Hp) (fp : List Addr), PE (cxC X N' scope C s H fp) elt te)
  (hs : ∀ x, foldedSetIterable iter X.env x = pure x := by intro _; rfl) (hsc : X.env.scope = sc0 := by rfl) (hN0 : X.N = N0 := by rfl)
  (hsw : swapsWith (.ListComp elt [⟨tg, iter, ifs, 0⟩] scope pos) (some (.Name x px)) spos.line X.env = pure true := by rfl) :
  PS X (.Assign [.Name x px] (.ListComp elt [⟨tg, iter, ifs, 0⟩] scope pos) spos) (tAsg (tLc wi g tt te o fr) (gName i)) := by
 intro pins s σ H D I h
 rw [exec_Assign_Name_used _ _ _ _ hsw]
 refine wpAny_bind (wpAny_standAt (wpAny_bind ?_))
 show wpAny _ X.A (do let _ <- comprehension (.ListComp elt [⟨tg, iter, ifs, 0⟩] scope pos) scope X.env (firstIterPos [⟨tg, iter, ifs, 0⟩] pos) (newList []) false (eval iter X.env) (some (assign (.Name x px) X.env))) _ _ s
 refine wpAny_bind (wpAny_mono (lc_run (Q := fun _ s' => SP X pins D .next s') hc S hi ho hg ht he hs hsc hN0 I h (use := some (assign (.Name x px) X.env)) (fun _ _ z => z) fun C oC Dd m H' ys s' J q hn nC hCD hCL hCs hCc hCp => ?_) (fun _ s' hq => wpAny_pure (wpAny_pure hq)) fun _ _ e => e)
 show wpAny _ X.A (assign (.Name x px) X.env (.ref Dd)) _ _ _
 refine wpAny_assign_Name (store_ok J hN hx (.inl hl) (v := .ref Dd) rfl (fun s2 I2 => ?_) (.inr hl))
 have g1 := (I2.pin (C, oC) (by simp)).1
 have g1 : s2.heap.get? C = some oC := g1
 have n2 : s2.heap.Ns C m := by
  obtain ⟨oc, es, ep, e, r⟩ := hn
  have e0 := (J.pin (C, oC) (by simp)).1
  have e0 : s'.heap.get? C = some oC := e0
  rw [e] at e0
  cases e0
  exact ⟨_, es, ep, g1, r⟩
 refine ⟨m, n2, fun h' hs' => ⟨_, upd H' Dd (.lst ys), ?_, q⟩⟩
 exact I2.unpinned.turned (t' := s2.toks) (it := C) (fun b ob hb e => hs'.extBut b ob hb e) (by rw [upd_ne hCD]; exact nC) hCL (.inr hCs) hCc hCp
end
section
variable {X : Cx}
theorem vals_two : ∀ {x y : V} {us : List Value}, Vals [x, y] us -> ∃ u v, us = [u, v] /\ RelV x u /\ RelV y v
 | _, _, _, .cons r (.cons r' .nil) => ⟨_, _, rfl, r, r'⟩
theorem ints_of_vals : ∀ {ns : List Int} {us : List Value}, Vals (ns.map V.int) us -> IntsAre us ns
 | [], _, .nil => .nil
 | n :: ns, _, .cons r t => by
  obtain ⟨tk, rfl⟩ := r
  exact .cons n tk (ints_of_vals t)
theorem call_rng1 : CallR X (.type "range") (fun xs H Q => ∃ j : Int, xs = [.int j] /\ ∀ p, H p = none -> Q (.ref p) (upd H p (.rng 0 j))) := by
 intro pins s σ H xs us Q I r h
 obtain ⟨j, rfl, q⟩ := h
 obtain ⟨u, rfl, t, rfl⟩ := vals1 r
 refine call_range_1 ?_
 exact ⟨.ref s.heap.objs.size, _, I.laid (o := .rng 0 j) (fun b u e => Heap.get?_push_of_some _ e) (Nat.le_refl _) ⟨_, _, _, Heap.get?_push_size _ rfl⟩, rfl, q _ (I.hok.fresh (Nat.le_refl _))⟩
def rngI (lo hi : Int) : List Int := (List.range (hi - lo).toNat).map fun (i : Nat) => lo + (i : Int)
theorem rngI_length (lo hi : Int) : (rngI lo hi).length = (hi - lo).toNat := by unfold rngI; rw [List.length_map, List.length_range]
theorem vals_rng {lo : Int} {n : Nat} : ∀ {us : List Value}, us.length = n -> (∀ (j : Nat) (v : Value), us[j]? = some v -> ∃ t, v = Value.int (lo + (j : Int)) t) -> Vals (((List.range n).map fun (i : Nat) => lo + (i : Int)).map V.int) us := by
 induction n generalizing lo with
 | zero =>
  intro us h _
  rw [List.length_eq_zero_iff.mp h]
  exact .nil
 | succ n ih =>
  intro us h hv
  cases us with
  | nil => cases h
  | cons u us =>
   rw [List.range_succ_eq_map, List.map_cons, List.map_cons]
   refine .cons ?_ ?_
   ·obtain ⟨t, e⟩ := hv 0 u rfl
    exact ⟨t, e⟩
   ·have q := ih (lo := lo + 1) (us := us) (Nat.succ.inj h) fun j v e => by
     obtain ⟨t, e'⟩ := hv (j + 1) v (by simpa using e)
     refine ⟨t, ?_⟩
     rw [e']
     congr 1
     omega
    have e : (List.range n).map (fun (i : Nat) => lo + 1 + (i : Int)) = ((List.range n).map Nat.succ).map (fun (i : Nat) => lo + (i : Int)) := by
     rw [List.map_map]
     refine List.map_congr_left fun i _ => ?_
     show lo + 1 + (i : Int) = lo + ((i + 1 : Nat) : Int)
     omega
    rw [e] at q
    exact q
theorem call_list_rng (hc : X.calm = true) : CallR X (.type "list") (fun xs H Q => ∃ p lo hi, xs = [.ref p] /\ H p = some (.rng lo hi) /\ (-(2 ^ 62) <= lo /\ lo < 2 ^ 62 /\ -(2 ^ 62) <= hi /\ hi < 2 ^ 62) /\ (hi - lo).toNat <= 16777216 /\
  ∀ l, H l = none -> Q (.ref l) (upd H l (.lst ((rngI lo hi).map V.int)))) := by
 intro pins s σ H xs us Q I r h
 obtain ⟨p, lo, hi, rfl, hp, ⟨b1, b2, b3, b4⟩, hz, q⟩ := h
 obtain ⟨u, rfl, ru⟩ := vals1 r
 obtain rfl : u = Value.ref p := ru
 obtain ⟨t, u, v, e⟩ := (show ObjOk X.prog X.w H s.heap p (.rng lo hi) from I.hok p _ hp)
 have hn : Builtin.Range.rangeSize lo hi 1 = (((hi - lo).toNat : Nat) : Int) := by rw [rangeSize_one]; split <;> omega
 refine call_list_range (I.ok.hd hc) (t := t) (u := u) (v := v) e (small_one b1 b2 b3 b4) hn hz fun h' tk acc c' hk hS ha => ?_
 have hl : acc.toList.length = (hi - lo).toNat := by rw [Array.length_toList]; exact ha.1
 have rv : Vals ((rngI lo hi).map V.int) acc.toList := vals_rng (lo := lo) hl fun j w ew => by
  obtain ⟨t, e⟩ := ha.2 j w (by simpa using ew)
  exact ⟨t, by rw [e, Int.mul_one]⟩
 refine ⟨.ref s.heap.objs.size, _, I.laid (o := .lst ((rngI lo hi).map V.int)) hk (Nat.le_refl _) ⟨?_, acc.toList, c', rv, ?_⟩, rfl, q _ (I.hok.fresh (Nat.le_refl _))⟩
 ·rw [List.length_map, rngI_length]
  have : sizeLine = 16777216 := sizeLine_eq
  omega
 ·rw [hS]
theorem call_sum_ints (hc : X.calm = true) : CallR X (.builtin "sum") (fun xs H Q => ∃ (p : Addr) (ns : List Int), xs = [.ref p] /\ SqL X.K H p (ns.map V.int) /\ Q (.int ns.sum) H) := by
 intro pins s σ H xs us Q I r h
 obtain ⟨p, ns, rfl, hq, q⟩ := h
 obtain ⟨u, rfl, ru⟩ := vals1 r
 obtain rfl : u = Value.ref p := ru
 obtain ⟨its, rv, pl, hz⟩ := I.list hq
 have hi := ints_of_vals rv
 have hall := hi.allInts
 obtain ⟨xs, ex⟩ := hall.items
 have hl := pl.isList
 rw [ex] at hl
 refine sum_intListG (I.ok.hd hc) hl fun h' tk t' hk => ?_
 have e1 : preSum (numAt xs) xs.size = ns.sum := by
  have e2 := hi.numsOf
  rw [show its = its.toArray.toList from rfl, ex, nums_intItems] at e2
  rw [preSum_eq, List.take_of_length_le (by simp), <- e2]
 exact ⟨.int ns.sum, H, I.kept hk, ⟨t', by rw [e1]⟩, q⟩
def seen (ns : List Int) : List Int := firstMet (fun i => ns.getD i 0) ns.length
theorem call_isi {T : String} : CallR X (.builtin "isinstance") (fun xs H Q => ∃ x t b, xs = [x, .ty T] /\ TyOf X.K H x t /\ PySem.W.kitOne X.K t (.type T) = some b /\ Q (.bl b) H) := by
 intro pins s σ H xs us Q I r h
 obtain ⟨x, t, b, rfl, ty, e, q⟩ := h
 obtain ⟨u, v, rfl, ru, rv⟩ := vals_two r
 obtain rfl : v = Value.type T := rv
 exact isinst_ok I ru ty e fun tk => ⟨.bl b, H, I.tok tk, rfl, q⟩
def Ite (K : PySem.W.Frag) (a : Addr) : It :=
 ⟨fun i H => ∃ xs x, SqL K H a xs /\ xs[i]? = some x, fun i H v H' => ∃ T x, H T = none /\ v = .ref T /\ H' = upd H T (.tup [.int i, x]) /\ ∀ xs, SqL K H a xs -> xs[i]? = some x, fun i H => ∃ xs, SqL K H a xs /\ xs.length <= i⟩
def iEnum (K : PySem.W.Frag) (ta : TA) : TI := fun σ H R => ta σ H fun vs H1 => ∃ a, vs = [.ref a] /\ (∃ xs, SqL K H1 a xs) /\ R (Ite K a) H1
theorem turn_enum {P : Program} {w : World} {K : PySem.W.Frag} {elts : List Expr} {x1 : Nat} {pos : Pos} (a e it : Addr) (hne : e ≠ it) : Turn P w K (.Tuple elts x1 pos) (Ite K a) [e, it] e (fun i h => (∃ old, IsEnum h e it i old) /\ h.IsListIter it a i) where
 mem := by simp
 obj := fun i h st b hb => by
  obtain ⟨⟨old, he⟩, o, eo, c, d⟩ := st
  rcases List.mem_cons.mp hb with z | hb
  ·subst z
   exact ⟨_, he, fun v z => by
    have z' : Data.fields _ = Data.cell v := z
    cases z'⟩
  ·have z : b = it := by simpa using hb
   subst z
   exact ⟨o, eo, fun v z => by rw [d] at z; cases z⟩
 keep := fun i h h' st k => by
  obtain ⟨⟨old, he⟩, hit⟩ := st
  exact ⟨⟨old, k e (by simp) _ he⟩, hit.at fun o x => k it (by simp) o x⟩
 item := by
  intro X hP hw hK hc i pins s σ H E I hf st hg
  subst hP hw hK
  obtain ⟨xs, x, hq, hx⟩ := hg
  obtain ⟨⟨old, he⟩, hit⟩ := st
  obtain ⟨its, rv, p, hz⟩ := I.list hq
  obtain ⟨u, hu, ru⟩ := rv.get hx
  obtain ⟨f0, f1, f2, f3, f4, f5⟩ := hf e (by simp)
  obtain ⟨g0, g1, g2, g3, g4, g5⟩ := hf it (by simp)
  have hT0 : H s.heap.objs.size = none := I.hok.fresh (Nat.le_refl _)
  refine wpAny_pyNext_enum_item he hit p.isList (x := u) (by simpa using hu) hne fun h' ho hit' hT hsz hk => ?_
  have ltT : ∀ b ob, s.heap.get? b = some ob -> b ≠ s.heap.objs.size := fun b ob z => Nat.ne_of_lt (Heap.lt_size z)
  have ltH : ∀ b ob, H b = some ob -> b ≠ s.heap.objs.size := fun b ob z => Nat.ne_of_lt (I.hok.lt z)
  have nof : ∀ b ob, H b = some ob -> b ≠ e /\ b ≠ it := fun b ob z => ⟨fun q => (by rw [q, f0] at z; cases z), fun q => (by rw [q, g0] at z; cases z)⟩
  have I1 : Inv X pins σ (upd H s.heap.objs.size (.tup [.int i, x])) { s with heap := h', toks := s.toks + 1 } := by
   refine I.step (g' := s.gens) (d' := s.drawn) (ch := [e, it]) (fun b hb => ?_) (fun b o _ _ hcx z _ => hk b o (fun q => hcx (by simp [q])) (fun q => hcx (by simp [q])) z) (fun b o _ _ hcx z _ => ⟨o.slots, hk b o (fun q => hcx (by simp [q])) (fun q => hcx (by simp [q])) z⟩)
    (fun b o _ z n => by rw [upd_ne (ltT b o z)]; exact n) (fun b o hcx z => ⟨o, hk b o (fun q => hcx (by simp [q])) (fun q => hcx (by simp [q])) z⟩) (fun b ys z => by rw [upd_ne (ltH b _ z)]; exact z) (fun b o v z => by rw [upd_ne (ltH b _ z)]; exact z)
    (fun b ps z => ⟨#[], by rw [upd_ne (ltH b _ z), z]; simp⟩) (fun m hm => ?_) (fun b v z => ?_) I.bare
   ·rcases List.mem_cons.mp hb with q | hb
    ·rw [q]; exact ⟨f3, f1, f4, f5⟩
    ·have q : b = it := by simpa using hb
     rw [q]; exact ⟨g3, g1, g4, g5⟩
   ·obtain ⟨o, es, ep, ho', r⟩ := hm
    exact ⟨o, es, ep, hk _ o (Ne.symm f1) (Ne.symm g1) ho', r⟩
   ·by_cases hb : b = s.heap.objs.size
    ·subst hb
     rw [upd_same] at z
     cases z
     exact ⟨by show 2 <= sizeLine; decide, [.int i s.toks, u], .cons ⟨_, rfl⟩ (.cons ru .nil), ⟨_, hT, rfl, _, rfl⟩⟩
    ·rw [upd_ne hb] at z
     refine (I.hok b v z).stay (fun c w' hc' q => ?_) (fun c q => by rw [upd_ne (ltH c _ q)]; exact q) fun c ys q => by rw [upd_ne (ltH c _ q)]; exact q
     rcases hc' with rfl | hc'
     ·exact hk c w' (nof c _ z).1 (nof c _ z).2 q
     ·exact hk c w' (nof c _ hc').1 (nof c _ hc').2 q
  refine ⟨_, rfl, wpAny_letOwnedTupleGo_enum ho fun h2 he2 hs2 => ?_⟩
  have fT : e ≠ s.heap.objs.size := ltT e _ he
  have I2 : Inv X pins σ (upd H s.heap.objs.size (.tup [.int i, x])) { s with heap := h2, toks := s.toks + 1 } := Inv.turned (s := { s with heap := h', toks := s.toks + 1 }) (h' := h2) (t' := s.toks + 1) (it := e) I1 (fun b o hb z => hs2.extBut b o hb z) (by rw [upd_ne fT]; exact f0) f1 f3 f4 f5
  refine ⟨.ref s.heap.objs.size, _, I2, rfl, ⟨_, x, hT0, rfl, rfl, fun ys hy => by rw [I.list_inj hy hq]; exact hx⟩, ⟨⟨u, by simpa using he2⟩, hit'.at fun o z => hs2.extBut it o (Ne.symm hne) z⟩, fun b hb => ?_⟩
  rcases List.mem_cons.mp hb with q | hb
  ·rw [q, upd_ne fT]; exact f0
  ·have q : b = it := by simpa using hb
   obtain ⟨o, eo, _⟩ := hit
   rw [q, upd_ne (ltT it o eo)]; exact g0
 done := by
  intro X hP hw hK hc i pins s σ H E I hf st hg
  subst hP hw hK
  obtain ⟨xs, hq, hx⟩ := hg
  obtain ⟨⟨old, he⟩, hit⟩ := st
  obtain ⟨its, rv, p, hz⟩ := I.list hq
  obtain ⟨g0, g1, g2, g3, g4, g5⟩ := hf it (by simp)
  have hl := rv.length
  exact wpAny_pyNext_enum_end (I.ok.hd hc) he hit p.isList (by simp; omega) fun h' eb => ⟨rfl, I.turned (t' := s.toks) (it := it) (fun b o hb z => eb b o hb z) g0 g1 g3 g4 g5⟩
 self := fun _ _ _ _ _ st h => let ⟨⟨_, he⟩, _⟩ := st; wpAny_pyIter_enum he h
theorem pi_enum {elts : List Expr} {x1 : Nat} {tpos : Pos} {a : Expr} {ta : TA} {p pos : Pos} (hg : Gl X "enumerate") (hm : X.mg "enumerate" = none) (ha : PA X [a] ta) (hs : starEach [a] X.env = [(false, eval a X.env)] := by rfl) :
  PI X (.Tuple elts x1 tpos) (.Call (.Name "enumerate" p) [a] [] pos) (iEnum X.K ta) := by
 intro pins s σ H R I h
 refine Call_ (ld_blt I hg hm Boot.«enumerate» (PyProof.Rows.callWith_type1 (thn (ha pos pins s σ H _ I h) fun us s1 ⟨vs, H1, I1, r1, q1⟩ => ?_) hs rfl))
 obtain ⟨b, e, ⟨xs, hq⟩, q⟩ := q1
 subst e
 obtain ⟨u, rfl, ru⟩ := vals1 r1
 obtain rfl : u = Value.ref b := ru
 obtain ⟨its, rv, pl, hz⟩ := I1.list hq
 refine call_enumerate_list pl.isList fun h' he hit hsz hk => ?_
 have I2 : Inv X pins σ H1 { s1 with heap := h' } := I1.kept (t' := s1.toks) hk
 refine wpAny_pyIter_enum he ?_
 have nn : ∀ k, s1.heap.objs.size <= k -> H1 k = none := fun k hk => I1.hok.fresh hk
 refine ⟨s1.heap.objs.size + 1, [s1.heap.objs.size + 1, s1.heap.objs.size], _, _, H1, rfl, I2, turn_enum b _ _ (Nat.succ_ne_self _), ⟨⟨_, he⟩, hit⟩, fun c hc => ?_, q⟩
 have hle : s1.heap.objs.size <= c := by
  rcases List.mem_cons.mp hc with q | hc
  ·rw [q]; exact Nat.le_succ _
  ·have q : c = s1.heap.objs.size := by simpa using hc
   rw [q]; exact Nat.le_refl _
 exact I1.fpOk hle (nn c hle)
end
section
variable {X : Cx}
end
inductive EqD (K : PySem.W.Frag) (H : Hp) : Nat -> V -> V -> Bool -> Prop
 | flat {n : Nat} {x y : V} (fx : flatV x = true) (fy : flatV y = true) : EqD K H n x y (eqV x y)
 | lsts {n : Nat} {a b : Addr} {xs ys : List V} {e : Nat -> Bool} (ha : SqL K H a xs) (hb : SqL K H b ys) (hl : xs.length = ys.length) (h : ∀ i x y, xs[i]? = some x -> ys[i]? = some y -> EqD K H n x y (e i)) : EqD K H (n + 1) (.ref a) (.ref b) ((List.range xs.length).all e)
 | lens {n : Nat} {a b : Addr} {xs ys : List V} (ha : SqL K H a xs) (hb : SqL K H b ys) (hl : xs.length ≠ ys.length) : EqD K H (n + 1) (.ref a) (.ref b) false
 | tups {n : Nat} {a b : Addr} {xs ys : List V} {e : Nat -> Bool} (ha : SqT K H a xs) (hb : SqT K H b ys) (h : ∀ i x y, xs[i]? = some x -> ys[i]? = some y -> EqD K H n x y (e i)) :
   EqD K H (n + 1) (.ref a) (.ref b) ((List.range (min xs.length ys.length)).all e && xs.length == ys.length)
theorem eqV_self {x : V} (h : flatV x = true) : eqV x x = true := by
 cases x <;> first | rfl | (simp [eqV]; done) | exact absurd (show false = true from h) Bool.false_ne_true
section
variable {X : Cx} {pins : List (Addr × Obj)} {σ : St} {H : Hp} {s : Shared}
theorem Vals.at {xs : List V} {us : List Value} {j : Nat} (r : Vals xs us) (h : j < us.length) : ∃ x, xs[j]? = some x /\ RelV x us[j] := by
 have hl := r.length
 have hx : xs[j]? = some (xs[j]'(by omega)) := List.getElem?_eq_getElem (by omega)
 obtain ⟨u, e, ru⟩ := r.get hx
 rw [List.getElem?_eq_getElem h] at e
 cases e
 exact ⟨_, hx, ru⟩
theorem EqD.self {n : Nat} {x y : V} {b : Bool} (q : EqD X.K H n x y b) (I : Inv X pins σ H s) : x = y -> b = true := by
 induction q with
 | flat fx fy => intro e; subst e; exact eqV_self fx
 | @lsts n a b xs ys e ha hb hl h ih =>
  intro z
  cases z
  have e1 : xs = ys := I.list_inj ha hb
  subst e1
  rw [List.all_eq_true]
  intro i hi
  have hx : xs[i]? = some (xs[i]'(List.mem_range.mp hi)) := List.getElem?_eq_getElem _
  exact ih i _ _ hx hx rfl
 | @lens n a b xs ys ha hb hl =>
  intro z
  cases z
  exact absurd (congrArg List.length (I.list_inj ha hb)) hl
 | @tups n a b xs ys e ha hb h ih =>
  intro z
  cases z
  have e1 : xs = ys := I.tuple_inj ha hb
  subst e1
  rw [Nat.min_self, Bool.and_eq_true, List.all_eq_true]
  refine ⟨fun i hi => ?_, by simp⟩
  have hx : xs[i]? = some (xs[i]'(List.mem_range.mp hi)) := List.getElem?_eq_getElem _
  exact ih i _ _ hx hx rfl
theorem EqD.at {n : Nat} {x y : V} {b : Bool} (q : EqD X.K H n x y b) (I : Inv X pins σ H s) : ∀ {A : Around} {u v : Value}, A.units + n < cLine -> RelV x u -> RelV y v -> SeqAt.EqAt A s u v b := by
 induction q with
 | flat fx fy => intro A u v _ ru rv; exact eqAt_V ru rv fx fy
 | @lsts n a b xs ys e ha hb hl h ih =>
  intro A u v hu ru rv
  obtain rfl : u = Value.ref a := ru
  obtain rfl : v = Value.ref b := rv
  by_cases hab : a = b
  ·have z := EqD.self (EqD.lsts ha hb hl h) I (congrArg V.ref hab)
   rw [z, hab]
   exact SeqAt.EqAt.same _
  obtain ⟨us, rx, px, _⟩ := I.list ha
  obtain ⟨vs, ry, py, _⟩ := I.list hb
  have l1 := rx.length
  have l2 := ry.length
  have z := SeqAt.RcAt.lists (A := A) (s := s) (e := e) px.isList py.isList (by rw [List.size_toArray, List.size_toArray]; omega) (by omega) fun j h1 h2 => by
   obtain ⟨x, ex, rx'⟩ := rx.at (j := j) (by simpa using h1)
   obtain ⟨y, ey, ry'⟩ := ry.at (j := j) (by simpa using h2)
   exact ih j x y ex ey (A := A.in1) (by show A.units + 1 + n < cLine; omega) (by simpa using rx') (by simpa using ry')
  rw [List.size_toArray, <- l1] at z
  exact SeqAt.EqAt.of_refs hab z
 | @lens n a b xs ys ha hb hl =>
  intro A u v hu ru rv
  obtain rfl : u = Value.ref a := ru
  obtain rfl : v = Value.ref b := rv
  obtain ⟨us, rx, px, _⟩ := I.list ha
  obtain ⟨vs, ry, py, _⟩ := I.list hb
  have l1 := rx.length
  have l2 := ry.length
  have hab : a ≠ b := fun z => by
   subst z
   exact hl (congrArg List.length (I.list_inj ha hb))
  exact SeqAt.EqAt.of_refs hab (SeqAt.RcAt.lists_lengths px.isList py.isList (by rw [List.size_toArray, List.size_toArray]; simp; omega) (by omega))
 | @tups n a b xs ys e ha hb h ih =>
  intro A u v hu ru rv
  obtain rfl : u = Value.ref a := ru
  obtain rfl : v = Value.ref b := rv
  by_cases hab : a = b
  ·have z := EqD.self (EqD.tups ha hb h) I (congrArg V.ref hab)
   rw [z, hab]
   exact SeqAt.EqAt.same _
  obtain ⟨us, rx, px, _⟩ := I.tuple ha
  obtain ⟨vs, ry, py, _⟩ := I.tuple hb
  have l1 := rx.length
  have l2 := ry.length
  have z := SeqAt.RcAt.tuples (A := A) (s := s) (e := e) (show s.heap.IsTuple a us.toArray from px) (show s.heap.IsTuple b vs.toArray from py) (by omega) fun j h1 h2 => by
   obtain ⟨x, ex, rx'⟩ := rx.at (j := j) (by simpa using h1)
   obtain ⟨y, ey, ry'⟩ := ry.at (j := j) (by simpa using h2)
   exact ih j x y ex ey (A := A.in1) (by show A.units + 1 + n < cLine; omega) (by simpa using rx') (by simpa using ry')
  rw [List.size_toArray, List.size_toArray, <- l1, <- l2] at z
  exact SeqAt.EqAt.of_refs hab z
end
section
variable {X : Cx}
def rEqD (K : PySem.W.Frag) (neg : Bool) : R2 := fun x y H Q => ∃ n b p q, x = .ref p /\ y = .ref q /\ n <= 6 /\ EqD K H n x y b /\ Q (.bl (if neg then !b else b)) H
theorem op_neD (hu : X.A.units + 8 < cLine) : OpR X (compareOp .NotEq) (rEqD X.K true) := by
 intro pins s σ H x y u v Q I ru rv h
 obtain ⟨n, b, p, q, rfl, rfl, hn, d, hq⟩ := h
 obtain rfl : u = Value.ref p := ru
 obtain rfl : v = Value.ref q := rv
 have fin : EP X pins σ Q (.bool (!b)) s := ⟨.bl (!b), H, I, rfl, hq⟩
 cases d with
 | flat fx fy => exact absurd (show false = true from fx) Bool.false_ne_true
 | @lsts n _ _ xs ys e ha hb hl h =>
  obtain ⟨us, rx, px, _⟩ := I.list ha
  obtain ⟨vs, ry, py, _⟩ := I.list hb
  have l1 := rx.length
  have l2 := ry.length
  refine SeqAt.RcNeAt.lists (e := e) px.isList py.isList (by rw [List.size_toArray, List.size_toArray]; omega) (by omega) (fun j h1 h2 => ?_) _ _ _ _ (by rw [List.size_toArray, <- l1]; exact fin)
  obtain ⟨x, ex, rx'⟩ := rx.at (j := j) (by simpa using h1)
  obtain ⟨y, ey, ry'⟩ := ry.at (j := j) (by simpa using h2)
  exact (h j x y ex ey).at I (A := X.A.in1) (by show X.A.units + 1 + n < cLine; omega) (by simpa using rx') (by simpa using ry')
 | @lens n _ _ xs ys ha hb hl =>
  obtain ⟨us, rx, px, _⟩ := I.list ha
  obtain ⟨vs, ry, py, _⟩ := I.list hb
  have l1 := rx.length
  have l2 := ry.length
  exact SeqAt.RcNeAt.lists_lengths px.isList py.isList (by rw [List.size_toArray, List.size_toArray]; simp; omega) (by omega) _ _ _ _ fin
 | @tups n _ _ xs ys e ha hb h =>
  obtain ⟨us, rx, px, _⟩ := I.tuple ha
  obtain ⟨vs, ry, py, _⟩ := I.tuple hb
  have l1 := rx.length
  have l2 := ry.length
  refine SeqAt.RcNeAt.tuples (e := e) (show s.heap.IsTuple p us.toArray from px) (show s.heap.IsTuple q vs.toArray from py) (by omega) (fun j h1 h2 => ?_) _ _ _ _ (by rw [List.size_toArray, List.size_toArray, <- l1, <- l2]; exact fin)
  obtain ⟨x, ex, rx'⟩ := rx.at (j := j) (by simpa using h1)
  obtain ⟨y, ey, ry'⟩ := ry.at (j := j) (by simpa using h2)
  exact (h j x y ex ey).at I (A := X.A.in1) (by show X.A.units + 1 + n < cLine; omega) (by simpa using rx') (by simpa using ry')
end
end L2
namespace My
open PySem L2
abbrev IL (ns : List Int) : List V := ns.map V.int
theorem il_length (ns : List Int) : (IL ns).length = ns.length := List.length_map ..
theorem il_append (a b : List Int) : IL (a ++ b) = IL a ++ IL b := List.map_append ..
theorem il_snoc (a : List Int) (r : Int) : IL (a ++ [r]) = IL a ++ [.int r] := List.map_append ..
theorem il_take (a : List Int) (n : Nat) : IL (a.take n) = (IL a).take n := List.map_take ..
theorem il_at {ns : List Int} {i : Nat} {z : Int} (h : ns[i]? = some z) : (IL ns)[i]? = some (.int z) := by rw [List.getElem?_map, h]; rfl
theorem il_get {ns : List Int} {i : Nat} {x : V} (h : (IL ns)[i]? = some x) : ∃ z, x = .int z /\ ns[i]? = some z := by
 rw [List.getElem?_map] at h
 cases e : ns[i]? with
 | none => rw [e] at h; cases h
 | some z => rw [e] at h; exact ⟨z, (Option.some.inj h).symm, rfl⟩
theorem same_upd {H H2 : Hp} {a : Addr} {o : HO} (hn : H a = none) (s : Same H H2) : Same H (upd H2 a o) := fun b u e => by rw [upd_ne (ne_of_none e hn)]; exact s b u e
theorem same_new {H H2 : Hp} {p : Addr} {o : HO} (s : Same H H2) (hp : H2 p = none) : Same H (upd H2 p o) := same_upd (s.free hp) s
theorem same_at {H : Hp} {p : Addr} {o : HO} (hp : H p = none) : Same H (upd H p o) := same_new (Same.refl H) hp
theorem sqT_same {K : PySem.W.Frag} {H H' : Hp} {a : Addr} {xs : List V} (e : Same H H') (h : SqT K H a xs) : SqT K H' a xs := by
 rcases h with (h | ⟨o, h⟩) | h
 ·exact .inl (.inl (e _ _ h))
 ·exact .inl (.inr ⟨o, e _ _ h⟩)
 ·exact .inr h
theorem small60 {n : Nat} (h : n <= 1000000) : n <= sizeLine := Nat.le_trans h (by decide)
theorem small60' {n : Nat} (h : n <= 1000000) : n < sizeLine := Nat.lt_of_le_of_lt h (by decide)
theorem hu8 {A : Around} {k : Nat} (hr : Room k A) : A.units + 8 < cLine := Nat.lt_of_le_of_lt (Nat.add_le_add_left (by decide : 8 <= 64) _) hr.units
theorem atI_of {α : Type} {xs : List α} {i : Int} {n : Nat} {x : α} (hi : i = (n : Int)) (h : xs[n]? = some x) : atI xs i = some x := by
 subst hi
 have hn : n < xs.length := (List.getElem?_eq_some_iff.mp h).1
 unfold atI ixN
 rw [if_pos (Int.natCast_nonneg n), if_pos (by omega)]
 simpa using h
theorem itd {c A B : Prop} [Decidable c] (hc : c) (h : A) : if decide c = true then A else B := by rw [if_pos (decide_eq_true hc)]; exact h
theorem itdn {c A B : Prop} [Decidable c] (hc : ¬ c) (h : B) : if decide c = true then A else B := by rw [if_neg (by simp [hc])]; exact h
theorem itn {c A B : Prop} [Decidable c] (hc : c) (h : B) : if (!decide c) = true then A else B := by rw [if_neg (by simp [hc])]; exact h
theorem itnn {c A B : Prop} [Decidable c] (hc : ¬ c) (h : A) : if (!decide c) = true then A else B := by rw [if_pos (by simp [hc])]; exact h
theorem itd2 {c A B : Prop} [Decidable c] (h1 : c -> A) (h2 : ¬ c -> B) : if decide c = true then A else B := by
 by_cases h : c
 ·exact itd h (h1 h)
 ·exact itdn h (h2 h)
theorem itn2 {c A B : Prop} [Decidable c] (h1 : c -> B) (h2 : ¬ c -> A) : if (!decide c) = true then A else B := by
 by_cases h : c
 ·exact itn h (h1 h)
 ·exact itnn h (h2 h)
theorem itb {b : Bool} {A B : Prop} (h1 : b = true -> A) (h2 : b = false -> B) : if b = true then A else B := by
 cases b with
 | true => exact iteT (h1 rfl)
 | false => exact iteF (h2 rfl)
theorem itnb {b : Bool} {A B : Prop} (h1 : b = true -> B) (h2 : b = false -> A) : if (!b) = true then A else B := by
 cases b with
 | true => exact iteF (h1 rfl)
 | false => exact iteT (h2 rfl)
def SqK (k : Bool) (K : PySem.W.Frag) (H : Hp) (a : Addr) (xs : List V) : Prop := match k with
 | false => SqL K H a xs
 | true => SqT K H a xs
theorem SqK.same {k : Bool} {K : PySem.W.Frag} {H H' : Hp} {a : Addr} {xs : List V} (e : Same H H') (h : SqK k K H a xs) : SqK k K H' a xs := by
 cases k with
 | false => exact e.seq h
 | true => exact sqT_same e h
theorem SqK.or {k : Bool} {K : PySem.W.Frag} {H : Hp} {a : Addr} {xs : List V} (h : SqK k K H a xs) : SqL K H a xs \/ SqT K H a xs := by
 cases k with
 | false => exact .inl h
 | true => exact .inr h
def iSeq (K : PySem.W.Frag) (tl : TE) : TI := fun σ H R => tl σ H fun x H1 => ∃ a, x = .ref a /\ (((∃ xs, SqL K H1 a xs) /\ R (Itl K a) H1) \/ ((∃ xs, SqT K H1 a xs) /\ R (Itt K a) H1))
theorem pi_seq {X : Cx} {tg : Expr} {l : Expr} {tl : TE} (hl : PE X l tl) : PI X tg l (iSeq X.K tl) := by
 intro pins s σ H R I h
 refine thn (hl pins s σ H _ I h) fun v s1 ⟨x, H1, I1, r1, q1⟩ => ?_
 obtain ⟨a, e, q⟩ := q1
 subst e
 cases r1
 rcases q with ⟨⟨xs, hq⟩, q⟩ | ⟨⟨xs, hq⟩, q⟩
 ·obtain ⟨its, rv, p, hz⟩ := I1.list hq
  refine wpAny_pyIter_list p.isList ?_
  refine ⟨s1.heap.objs.size, [s1.heap.objs.size], _, _, H1, rfl, I1.kept (t' := s1.toks) fun b o e => Heap.get?_push_of_some _ e, turn_list a _, ⟨_, Heap.get?_push_size _ rfl, rfl, rfl⟩, fun b hb => ?_, q⟩
  have e : b = s1.heap.objs.size := by simpa using hb
  subst e
  exact I1.fpOk (Nat.le_refl _) (I1.hok.fresh (Nat.le_refl _))
 ·obtain ⟨its, rv, p, hz⟩ := I1.tuple hq
  refine wpAny_pyIter_tuple (show s1.heap.IsTuple a its.toArray from p) ?_
  refine ⟨s1.heap.objs.size, [s1.heap.objs.size], _, _, H1, rfl, I1.kept (t' := s1.toks) fun b o e => Heap.get?_push_of_some _ e, turn_tuple a _, ⟨_, Heap.get?_push_size _ rfl, rfl, rfl⟩, fun b hb => ?_, q⟩
  have e : b = s1.heap.objs.size := by simpa using hb
  subst e
  exact I1.fpOk (Nat.le_refl _) (I1.hok.fresh (Nat.le_refl _))
theorem for_seq {K : PySem.W.Frag} {k : Bool} {a : Addr} {xs : List V} {g : TG} {tb : TS} {D : Ends} {σ : St} {H : Hp} (Pv : Nat -> St -> Hp -> Prop) (h0 : Pv 0 σ H) (hl : ∀ i σ H, i <= xs.length -> Pv i σ H -> SqK k K H a xs)
  (hs : ∀ i x σ H, xs[i]? = some x -> Pv i σ H -> g x σ H fun σ2 H2 => tb { D with nx := Pv (i + 1), ct := Pv (i + 1), bk := D.nx } σ2 H2) (hd : ∀ σ H, Pv xs.length σ H -> D.nx σ H) :
  (((∃ xs, SqL K H a xs) /\ ∃ W : Nat -> Nat -> St -> Hp -> Prop, (∃ m, W 0 m σ H) /\ ∀ i m σ H, W i m σ H ->
   ((Itl K a).stop i H /\ D.nx σ H) \/ ((Itl K a).go i H /\ ∃ N : St -> Hp -> Prop, (∀ σ' H', N σ' H' -> ∃ m', m' < m /\ W (i + 1) m' σ' H') /\ ∀ x H', (Itl K a).yld i H x H' -> g x σ H' fun σ2 H2 => tb { D with nx := N, ct := N, bk := D.nx } σ2 H2)) \/
  ((∃ xs, SqT K H a xs) /\ ∃ W : Nat -> Nat -> St -> Hp -> Prop, (∃ m, W 0 m σ H) /\ ∀ i m σ H, W i m σ H ->
   ((Itt K a).stop i H /\ D.nx σ H) \/ ((Itt K a).go i H /\ ∃ N : St -> Hp -> Prop, (∀ σ' H', N σ' H' -> ∃ m', m' < m /\ W (i + 1) m' σ' H') /\ ∀ x H', (Itt K a).yld i H x H' -> g x σ H' fun σ2 H2 => tb { D with nx := N, ct := N, bk := D.nx } σ2 H2))) := by
 cases k with
 | false => exact .inl ⟨⟨xs, hl 0 σ H (Nat.zero_le _) h0⟩, for_list (K := K) (a := a) (xs := xs) Pv h0 hl hs hd⟩
 | true => exact .inr ⟨⟨xs, hl 0 σ H (Nat.zero_le _) h0⟩, for_tup (K := K) (a := a) (xs := xs) Pv h0 hl hs hd⟩
def PairV (H : Hp) (v : V) (p : Int × Int) : Prop := ∃ t, v = .ref t /\ H t = some (.tup [.int p.1, .int p.2])
def PairsV (H : Hp) (xs : List V) (ps : List (Int × Int)) : Prop := xs.length = ps.length /\ ∀ (i : Nat) (p : Int × Int), ps[i]? = some p -> ∃ v, xs[i]? = some v /\ PairV H v p
theorem PairV.same {H H' : Hp} {v : V} {p : Int × Int} (s : Same H H') (h : PairV H v p) : PairV H' v p := let ⟨t, e, q⟩ := h; ⟨t, e, s _ _ q⟩
theorem PairsV.same {H H' : Hp} {xs : List V} {ps : List (Int × Int)} (s : Same H H') (h : PairsV H xs ps) : PairsV H' xs ps := ⟨h.1, fun i p e => let ⟨v, e1, q⟩ := h.2 i p e; ⟨v, e1, q.same s⟩⟩
theorem PairsV.at {H : Hp} {xs : List V} {ps : List (Int × Int)} (h : PairsV H xs ps) {i : Nat} {v : V} (e : xs[i]? = some v) : ∃ p, ps[i]? = some p /\ PairV H v p := by
 have hi : i < xs.length := (List.getElem?_eq_some_iff.mp e).1
 have hp : i < ps.length := by rw [<- h.1]; exact hi
 obtain ⟨v', e1, q⟩ := h.2 i ps[i] (List.getElem?_eq_getElem hp)
 rw [e] at e1
 cases e1
 exact ⟨_, List.getElem?_eq_getElem hp, q⟩
theorem PairsV.nil {H : Hp} : PairsV H [] [] := ⟨rfl, fun i p e => by simp at e⟩
theorem PairsV.snoc {H : Hp} {xs : List V} {ps : List (Int × Int)} {v : V} {p : Int × Int} (h : PairsV H xs ps) (q : PairV H v p) : PairsV H (xs ++ [v]) (ps ++ [p]) := by
 refine ⟨by rw [List.length_append, List.length_append, h.1]; rfl, fun i p' e => ?_⟩
 by_cases hi : i < ps.length
 ·rw [List.getElem?_append_left hi] at e
  rw [List.getElem?_append_left (by rw [h.1]; exact hi)]
  exact h.2 i p' e
 ·have hl : i = ps.length := by
   have := (List.getElem?_eq_some_iff.mp e).1
   rw [List.length_append, List.length_singleton] at this
   omega
  subst hl
  rw [List.getElem?_append_right (Nat.le_refl _), Nat.sub_self] at e
  rw [List.getElem?_append_right (by rw [h.1]; exact Nat.le_refl _), h.1, Nat.sub_self]
  have e' : p = p' := Option.some.inj e
  subst e'
  exact ⟨v, rfl, q⟩
theorem pt_ne : ¬ (("places" : Str) = "ties") := by decide +kernel
def wf (n : Int) (tl : Addr) : List (Str × V) := putF "ties" (.ref tl) (putF "places" (.int n) [])
theorem wf_places (n : Int) (tl : Addr) : (wf n tl).lookup ("places" : Str) = some (.int n) := by
 unfold wf
 rw [lookup_putF, if_neg pt_ne, lookup_putF, if_pos rfl]
theorem wf_ties (n : Int) (tl : Addr) : (wf n tl).lookup ("ties" : Str) = some (.ref tl) := by
 unfold wf
 rw [lookup_putF, if_pos rfl]
def WebAt (C : Addr) (H : Hp) (w : Addr) (n : Int) (ps : List (Int × Int)) : Prop := ∃ dx tl xs, H w = some (.ins C dx (wf n tl)) /\ H tl = some (.lst xs) /\ PairsV H xs ps
theorem WebAt.same {C : Addr} {H H' : Hp} {w : Addr} {n : Int} {ps : List (Int × Int)} (s : Same H H') (h : WebAt C H w n ps) : WebAt C H' w n ps := let ⟨dx, tl, xs, a, b, c⟩ := h; ⟨dx, tl, xs, s _ _ a, s _ _ b, c.same s⟩
def GoodW (n : Int) (ps : List (Int × Int)) : Prop := 1 <= n /\ n <= 14 /\ ps.length <= 30 /\ ∀ p ∈ ps, 0 <= p.1 /\ p.1 < n /\ 0 <= p.2 /\ p.2 < n
def FX (K : PySem.W.Frag) (mg : Str -> Option Value) (x qual : Str) (st : Stmt) : Prop := ∃ (f : Addr) (fd : FuncData), mg x = some (.ref f) /\ Fun K x qual st f fd
theorem fx_mk {K : PySem.W.Frag} {h : Heap} {mg : Str -> Option Value} {x : Str} {st : Stmt} {f : Addr} {oc : Value} {od an : Option Addr} {osl : Array (Option Value)} {kV doc pm cdv ct : Value} (X : K.In h) (G : h.Ns mainGlobals mg)
  (a : PySem.W.nsIn K mainGlobals x = some (some (.ref f))) (l : K.lookup f = some ⟨oc, od, .func (PySem.W.fnOf x x (defArgs st) (defBody st) (defScope st) .none kV doc pm an cdv ct), osl⟩) (c : PySem.W.codeIn K cdv x = true) (k : PySem.W.keepIn K (.ref f) = true) : FX K mg x x st :=
 ⟨f, _, PySem.W.mg_of X G a, fun_mk l c k⟩
def CXF (K : PySem.W.Frag) (mg : Str -> Option Value) (x qual : Str) (st : Stmt) (fs : List Str) : Prop := ∃ (C f : Addr) (fd : FuncData), mg x = some (.ref C) /\ Fun K "__init__" qual st f fd /\ Cls K C /\ Mk K C f /\ ∀ a ∈ fs, NoAttr K C a
theorem cx_mk {K : PySem.W.Frag} {h : Heap} {mg : Str -> Option Value} {x qual : Str} {fs : List Str} {st : Stmt} {C f : Addr} {oc : Value} {od an : Option Addr} {osl : Array (Option Value)} {kV doc pm cdv ct : Value} (X : K.In h) (G : h.Ns mainGlobals mg)
  (aC : PySem.W.nsIn K mainGlobals x = some (some (.ref C))) (a : PySem.W.findIn K (.ref C) "__init__" = some (some (.ref f))) (i : PySem.W.isFn K (.ref f) = true)
  (l : K.lookup f = some ⟨oc, od, .func (PySem.W.fnOf "__init__" qual (defArgs st) (defBody st) (defScope st) .none kV doc pm an cdv ct), osl⟩) (c : PySem.W.codeIn K cdv qual = true) (k : PySem.W.keepIn K (.ref f) = true)
  (pg : PySem.W.plainGet K C Str.empty = true) (hd : PySem.W.hasDictIn K C = true) (po : PySem.W.plainOver K C = true) (sa : PySem.W.findIn K (.ref C) "__setattr__" = some (some (.builtin "object.__setattr__"))) (mk : PySem.W.makesIn K C = true) (kc : PySem.W.keepIn K (.ref C) = true)
  (na : ∀ a ∈ fs, PySem.W.findIn K (.ref C) a = some none) : CXF K mg x qual st fs :=
 ⟨C, f, _, PySem.W.mg_of X G aC, fun_mk l c k, ⟨pg, hd, po, sa⟩, ⟨mk, a, i, kc⟩, na⟩
theorem const_mk {K : PySem.W.Frag} {h : Heap} {mg : Str -> Option Value} {x : Str} {z : Int} {v : Value} (X : K.In h) (G : h.Ns mainGlobals mg) (a : PySem.W.nsIn K mainGlobals x = some (some v)) (e : ∃ tk, v = .int z tk) : ∃ tk, mg x = some (.int z tk) := by
 obtain ⟨tk, rfl⟩ := e
 exact ⟨tk, PySem.W.mg_of X G a⟩
theorem nmY {i : Nat} {x : V} {σ : St} {H : Hp} {A B : St -> Hp -> Prop} (h : A (σ.set i (some x)) H) : gName i x σ H fun σ2 H2 => tYes σ2 H2 fun b H3 => if b = true then A σ2 H3 else B σ2 H3 :=
 (show if true = true then A (σ.set i (some x)) H else B (σ.set i (some x)) H from iteT h)
theorem nm {i : Nat} {x : V} {σ : St} {H : Hp} {Q : St -> Hp -> Prop} (h : Q (σ.set i (some x)) H) : gName i x σ H Q := h
section
variable {K : PySem.W.Frag} {a : Addr} {xs : List V} {g : TG} {tt : TT} {te : TE} {o : Nat} {fr : List Nat} {σ : St} {H : Hp} {Q : VK}
abbrev LcTurn (Pv : Nat -> List V -> Hp -> Prop) (g : TG) (tt : TT) (te : TE) (o : Nat) (fr : List Nat) (σ : St) (i : Nat) (x : V) (ys : List V) (H : Hp) : Prop :=
 ∀ S : Nat -> List V -> Hp -> Prop, (∀ ys H, Pv (i + 1) ys H -> S (i + 1) ys H) -> g x (σC o fr σ) H fun σ2 H2 => tt σ2 H2 fun b H3 => if b = true then te σ2 H3 fun y H4 => S (i + 1) (ys ++ [y]) H4 else S (i + 1) ys H3
theorem lc_list (Pv : Nat -> List V -> Hp -> Prop) (h0 : Pv 0 [] H) (hz : xs.length < sizeLine) (hl : ∀ i ys H, i <= xs.length -> Pv i ys H -> SqL K H a xs /\ ys.length <= i)
  (hs : ∀ i x ys H, xs[i]? = some x -> Pv i ys H -> LcTurn Pv g tt te o fr σ i x ys H) (hd : ∀ ys H, Pv xs.length ys H -> ∀ p, H p = none -> Q (.ref p) (upd H p (.lst ys))) : LcR (Itl K a) g tt te o fr σ H Q := by
 refine ⟨fun i m ys H => m = xs.length - i /\ i <= xs.length /\ Pv i ys H, ⟨xs.length, by simp, Nat.zero_le _, h0⟩, ?_⟩
 rintro i m ys H ⟨rfl, hi, p⟩
 obtain ⟨q, hy⟩ := hl i ys H hi p
 by_cases hlt : i < xs.length
 ·refine .inr ⟨⟨xs, xs[i], q, by simp [hlt]⟩, by omega, fun x H' ⟨e, y⟩ => ?_⟩
  subst e
  have hx := y xs q
  exact hs i x ys _ hx p (fun j ys H => ∃ m', m' < xs.length - i /\ m' = xs.length - j /\ j <= xs.length /\ Pv j ys H) fun ys H p' => ⟨xs.length - (i + 1), by omega, rfl, hlt, p'⟩
 ·have e : i = xs.length := by omega
  subst e
  exact .inl ⟨⟨xs, q, Nat.le_refl _⟩, by omega, hd ys H p⟩
theorem lc_tup (Pv : Nat -> List V -> Hp -> Prop) (h0 : Pv 0 [] H) (hz : xs.length < sizeLine) (hl : ∀ i ys H, i <= xs.length -> Pv i ys H -> SqT K H a xs /\ ys.length <= i)
  (hs : ∀ i x ys H, xs[i]? = some x -> Pv i ys H -> LcTurn Pv g tt te o fr σ i x ys H) (hd : ∀ ys H, Pv xs.length ys H -> ∀ p, H p = none -> Q (.ref p) (upd H p (.lst ys))) : LcR (Itt K a) g tt te o fr σ H Q := by
 refine ⟨fun i m ys H => m = xs.length - i /\ i <= xs.length /\ Pv i ys H, ⟨xs.length, by simp, Nat.zero_le _, h0⟩, ?_⟩
 rintro i m ys H ⟨rfl, hi, p⟩
 obtain ⟨q, hy⟩ := hl i ys H hi p
 by_cases hlt : i < xs.length
 ·refine .inr ⟨⟨xs, xs[i], q, by simp [hlt]⟩, by omega, fun x H' ⟨e, y⟩ => ?_⟩
  subst e
  have hx := y xs q
  exact hs i x ys _ hx p (fun j ys H => ∃ m', m' < xs.length - i /\ m' = xs.length - j /\ j <= xs.length /\ Pv j ys H) fun ys H p' => ⟨xs.length - (i + 1), by omega, rfl, hlt, p'⟩
 ·have e : i = xs.length := by omega
  subst e
  exact .inl ⟨⟨xs, q, Nat.le_refl _⟩, by omega, hd ys H p⟩
theorem lc_seq {k : Bool} (Pv : Nat -> List V -> Hp -> Prop) (h0 : Pv 0 [] H) (hz : xs.length < sizeLine) (hl : ∀ i ys H, i <= xs.length -> Pv i ys H -> SqK k K H a xs /\ ys.length <= i)
  (hs : ∀ i x ys H, xs[i]? = some x -> Pv i ys H -> LcTurn Pv g tt te o fr σ i x ys H) (hd : ∀ ys H, Pv xs.length ys H -> ∀ p, H p = none -> Q (.ref p) (upd H p (.lst ys))) :
  ((∃ xs, SqL K H a xs) /\ LcR (Itl K a) g tt te o fr σ H Q) \/ ((∃ xs, SqT K H a xs) /\ LcR (Itt K a) g tt te o fr σ H Q) := by
 cases k with
 | false => exact .inl ⟨⟨xs, (hl 0 [] H (Nat.zero_le _) h0).1⟩, lc_list Pv h0 hz hl hs hd⟩
 | true => exact .inr ⟨⟨xs, (hl 0 [] H (Nat.zero_le _) h0).1⟩, lc_tup Pv h0 hz hl hs hd⟩
theorem lc_range {lo : Int} {n : Nat} (Pv : Nat -> List V -> Hp -> Prop) (h0 : Pv 0 [] H) (hz : n < sizeLine) (hl : ∀ i ys H, i <= n -> Pv i ys H -> ys.length <= i)
  (hs : ∀ i ys H, i < n -> Pv i ys H -> LcTurn Pv g tt te o fr σ i (.int (lo + i)) ys H) (hd : ∀ ys H, Pv n ys H -> ∀ p, H p = none -> Q (.ref p) (upd H p (.lst ys))) : LcR (Itr lo n) g tt te o fr σ H Q := by
 refine ⟨fun i m ys H => m = n - i /\ i <= n /\ Pv i ys H, ⟨n, by simp, Nat.zero_le _, h0⟩, ?_⟩
 rintro i m ys H ⟨rfl, hi, p⟩
 have hy := hl i ys H hi p
 by_cases hlt : i < n
 ·refine .inr ⟨hlt, by omega, fun x H' ⟨e, y⟩ => ?_⟩
  subst e
  subst y
  exact hs i ys _ hlt p (fun j ys H => ∃ m', m' < n - i /\ m' = n - j /\ j <= n /\ Pv j ys H) fun ys H p' => ⟨n - (i + 1), by omega, rfl, hlt, p'⟩
 ·have e : i = n := by omega
  subst e
  exact .inl ⟨Nat.le_refl _, by omega, hd ys H p⟩
end
theorem nodup_get {α : Type} {l : List α} (h : l.Nodup) {i j : Nat} {x : α} (a : l[i]? = some x) (b : l[j]? = some x) : i = j := by
 obtain ⟨h1, e1⟩ := List.getElem?_eq_some_iff.mp a
 obtain ⟨h2, e2⟩ := List.getElem?_eq_some_iff.mp b
 exact (List.getElem_inj h).mp (e1.trans e2.symm)
theorem getD_of {α : Type} {l : List α} {i : Nat} {x d : α} (h : l[i]? = some x) : l.getD i d = x := by rw [List.getD_eq_getElem?_getD, h]; rfl
theorem nd_snoc {α : Type} {l : List α} {x : α} (h : l.Nodup) (hx : x ∉ l) : (l ++ [x]).Nodup := by
 rw [List.nodup_append]
 refine ⟨h, by simp, fun a ha b hb => ?_⟩
 rw [List.mem_singleton] at hb
 subst hb
 rintro rfl
 exact hx ha
theorem for_enum {K : PySem.W.Frag} {a : Addr} {xs : List V} {g : TG} {tb : TS} {D : Ends} {σ : St} {H : Hp} (Pv : Nat -> St -> Hp -> Prop) (h0 : Pv 0 σ H) (hl : ∀ i σ H, i <= xs.length -> Pv i σ H -> SqL K H a xs)
  (hs : ∀ (i : Nat) x σ H (p : Addr), H p = none -> xs[i]? = some x -> Pv i σ H -> g (.ref p) σ (upd H p (.tup [.int i, x])) fun σ2 H2 => tb { D with nx := Pv (i + 1), ct := Pv (i + 1), bk := D.nx } σ2 H2) (hd : ∀ σ H, Pv xs.length σ H -> D.nx σ H) :
  ∃ W : Nat -> Nat -> St -> Hp -> Prop, (∃ m, W 0 m σ H) /\ ∀ i m σ H, W i m σ H ->
   ((Ite K a).stop i H /\ D.nx σ H) \/ ((Ite K a).go i H /\ ∃ N : St -> Hp -> Prop, (∀ σ' H', N σ' H' -> ∃ m', m' < m /\ W (i + 1) m' σ' H') /\ ∀ x H', (Ite K a).yld i H x H' -> g x σ H' fun σ2 H2 => tb { D with nx := N, ct := N, bk := D.nx } σ2 H2) := by
 refine ⟨fun i m σ H => m = xs.length - i /\ i <= xs.length /\ Pv i σ H, ⟨xs.length, by simp, Nat.zero_le _, h0⟩, ?_⟩
 rintro i m σ H ⟨rfl, hi, p⟩
 have q := hl i σ H hi p
 by_cases hlt : i < xs.length
 ·refine .inr ⟨⟨xs, xs[i], q, by simp [hlt]⟩, Pv (i + 1), fun σ' H' p' => ⟨xs.length - (i + 1), by omega, rfl, hlt, p'⟩, fun x H' ⟨T, y, hT, ex, eH, hy⟩ => ?_⟩
  subst ex eH
  exact hs i y σ H T hT (hy xs q) p
 ·have e : i = xs.length := by omega
  subst e
  exact .inl ⟨⟨xs, q, Nat.le_refl _⟩, hd σ H p⟩
end My
namespace L2
open PySem PySem.Spec PyProof.Rows
section
variable {X : Cx} {a b o e : Expr} {es : List Expr} {ta tb te to : TE} {t : TA} {pos : Pos}
theorem ix_listK (K : PySem.W.Frag) (h : X.K = K := by rfl) : IxR X (rIxL K) := h ▸ ix_list
theorem ix_tupK (K : PySem.W.Frag) (h : X.K = K := by rfl) : IxR X (rIxT K) := h ▸ ix_tup
theorem sl_listK (K : PySem.W.Frag) (h : X.K = K := by rfl) : SlR X (rSlL K) := h ▸ sl_list
theorem op_inK (K : PySem.W.Frag) (h : X.K = K := by rfl) : OpR X (compareOp .In) (fun x y H Q => ∃ p xs, y = .ref p /\ (SqL K H p xs \/ SqT K H p xs) /\ flatV x = true /\ xs.all flatV = true /\ Q (.bl (inV x xs)) H) := h ▸ op_in_seq
theorem op_notInK (K : PySem.W.Frag) (h : X.K = K := by rfl) : OpR X (compareOp .NotIn) (fun x y H Q => ∃ p xs, y = .ref p /\ (SqL K H p xs \/ SqT K H p xs) /\ flatV x = true /\ xs.all flatV = true /\ Q (.bl (!inV x xs)) H) := h ▸ op_notIn_seq
theorem op_neDK (K : PySem.W.Frag) (hu : X.A.units + 8 < cLine) (h : X.K = K := by rfl) : OpR X (compareOp .NotEq) (rEqD K true) := h ▸ op_neD hu
theorem op_catTK (K : PySem.W.Frag) (h : X.K = K := by rfl) : OpR X (binaryOp .Add) (rCatT K) := h ▸ op_catT
theorem pe_fldK (K : PySem.W.Frag) {f : Str} (he : PE X e ta) (hb : attributeBase e f X.env (eval e X.env) = eval e X.env) (h : X.K = K := by rfl) : PE X (.Attribute e f pos) (tFld K ta f) := h ▸ pe_fld he hb
theorem call_lenK (K : PySem.W.Frag) (h : X.K = K := by rfl) : CallR X (.builtin "len") (fun xs H Q => ∃ p ys, xs = [.ref p] /\ (SqL K H p ys \/ SqT K H p ys) /\ Q (.int ys.length) H) := h ▸ call_len_seq
theorem call_listK (K : PySem.W.Frag) (h : X.K = K := by rfl) : CallR X (.type "list") (fun xs H Q => ∃ p ys, xs = [.ref p] /\ (SqL K H p ys \/ SqT K H p ys) /\ ∀ l, H l = none -> Q (.ref l) (upd H l (.lst ys))) := h ▸ call_list_of
theorem call_tupleK (K : PySem.W.Frag) (h : X.K = K := by rfl) : CallR X (.type "tuple") (fun xs H Q => ∃ p ys, xs = [.ref p] /\ ((SqL K H p ys /\ ∀ l, H l = none -> Q (.ref l) (upd H l (.tup ys))) \/ (SqT K H p ys /\ Q (.ref p) H))) := h ▸ call_tuple_of
theorem call_sumK (K : PySem.W.Frag) (hc : X.calm = true) (h : X.K = K := by rfl) : CallR X (.builtin "sum") (fun xs H Q => ∃ (p : Addr) (ns : List Int), xs = [.ref p] /\ SqL K H p (ns.map V.int) /\ Q (.int ns.sum) H) := h ▸ call_sum_ints hc
theorem call_isiK (K : PySem.W.Frag) {T : String} (h : X.K = K := by rfl) : CallR X (.builtin "isinstance") (fun xs H Q => ∃ x t b, xs = [x, .ty T] /\ TyOf K H x t /\ PySem.W.kitOne K t (.type T) = some b /\ Q (.bl b) H) := h ▸ call_isi
theorem pi_listK (K : PySem.W.Frag) {tg : Expr} {l : Expr} {tl : TE} (hl : PE X l tl) (h : X.K = K := by rfl) : PI X tg l (iList K tl) := h ▸ pi_list hl
theorem pi_tupK (K : PySem.W.Frag) {tg : Expr} {l : Expr} {tl : TE} (hl : PE X l tl) (h : X.K = K := by rfl) : PI X tg l (iTup K tl) := h ▸ pi_tup hl
theorem pi_seqK (K : PySem.W.Frag) {tg : Expr} {l : Expr} {tl : TE} (hl : PE X l tl) (h : X.K = K := by rfl) : PI X tg l (My.iSeq K tl) := h ▸ My.pi_seq hl
theorem pi_enumK (K : PySem.W.Frag) {elts : List Expr} {x1 : Nat} {tpos : Pos} {a : Expr} {ta : TA} {p pos : Pos} (hg : Gl X "enumerate") (hm : X.mg "enumerate" = none) (ha : PA X [a] ta) (hs : starEach [a] X.env = [(false, eval a X.env)] := by rfl) (h : X.K = K := by rfl) :
  PI X (.Tuple elts x1 tpos) (.Call (.Name "enumerate" p) [a] [] pos) (iEnum K ta) := h ▸ pi_enum hg hm ha hs
theorem pg_tupK (K : PySem.W.Frag) {es : List Expr} {k : Nat} {t : TGs} {n : Nat} (hc : X.calm = true) (ht : PGs X es t)
  (hn : (assignEach es X.env).length = n := by rfl) (hst : (assignEach es X.env).findIdx? (·.1) = none := by rfl) (h : X.K = K := by rfl) : PG X (.Tuple es k pos) (gTup K n t) := h ▸ pg_tup hc ht hn hst
theorem pe_bmK (K : PySem.W.Frag) {name : Str} {apos cpos : Pos} {T id : String} {r : V -> List V -> Hp -> VK -> Prop} (pa : PlainAttrs T) (slot : Slot T name id) (hty : typeOf (.builtin id) = pure (.type "method_descriptor")) (hm : MtR X id r) (ho : PE X o to) (ha : PA X (e :: es) t)
  (hbase : attributeBase o name X.env (eval o X.env) = eval o X.env := by rfl)
  (hfew : ((backTo cpos (starEach (e :: es) X.env)).all (fun x => !x.1) && (backToKw cpos (keywordEach [] X.env)).all (fun x => x.1.isSome)
   && decide ((e :: es).length + ([] : List Keyword).length + (if ([] : List Keyword).isEmpty then 0 else 1) < 30)) = true := by rfl)
  (hline : (apos.endLine == cpos.line) = true := by rfl) (hs : starEach (e :: es) X.env = (false, eval e X.env) :: starEach es X.env := by rfl) (hplain : (backTo cpos (starEach es X.env)).any (·.1) = false := by rfl) (h : X.K = K := by rfl) :
  PE X (.Call (.Attribute o name apos) (e :: es) [] cpos) (tBM K T r to t) := h ▸ pe_bm pa slot hty hm ho ha hbase hfew hline hs hplain
end
end L2
namespace My
abbrev mk (m : List Int) (i : Nat) : Int := m.getD i 0
def pm (m : List Int) (a b : Nat) : List Int :=
 if min (mk m a) (mk m b) < max (mk m a) (mk m b) then m.map (fun k => if k = max (mk m a) (mk m b) then min (mk m a) (mk m b) else k) else m
def lm (m : List Int) (a b : Nat) : List Int :=
 if mk m a ≠ mk m b then m.map (fun k => if k = mk m b then mk m a else k) else m
def SameP (m l : List Int) : Prop := m.length = l.length /\ ∀ i j, i < m.length -> j < m.length -> (mk m i = mk m j ↔ mk l i = mk l j)
theorem mk_map (m : List Int) (f : Int -> Int) {i : Nat} (h : i < m.length) : mk (m.map f) i = f (mk m i) := by
 simp [mk, List.getD_eq_getElem?_getD, List.getElem?_map, List.getElem?_eq_getElem h]
theorem pm_length (m : List Int) (a b : Nat) : (pm m a b).length = m.length := by unfold pm; split <;> simp
theorem lm_length (m : List Int) (a b : Nat) : (lm m a b).length = m.length := by unfold lm; split <;> simp
def Mrg (m : List Int) (a b i j : Nat) : Prop := mk m i = mk m j \/ ((mk m i = mk m a \/ mk m i = mk m b) /\ (mk m j = mk m a \/ mk m j = mk m b))
theorem pm_iff {m : List Int} {a b i j : Nat} (hi : i < m.length) (hj : j < m.length) : mk (pm m a b) i = mk (pm m a b) j ↔ Mrg m a b i j := by
 unfold pm Mrg
 split
 ·rename_i h
  rw [mk_map _ _ hi, mk_map _ _ hj]
  generalize mk m i = x at *
  generalize mk m j = y at *
  generalize mk m a = p at *
  generalize mk m b = q at *
  by_cases hpq : p < q
  ·rw [Int.min_eq_left (by omega), Int.max_eq_right (by omega)]
   split <;> split <;> omega
  ·rw [Int.min_eq_right (by omega), Int.max_eq_left (by omega)] at *
   split <;> split <;> omega
 ·rename_i h
  generalize mk m i = x at *
  generalize mk m j = y at *
  generalize mk m a = p at *
  generalize mk m b = q at *
  omega
theorem lm_iff {m : List Int} {a b i j : Nat} (hi : i < m.length) (hj : j < m.length) : mk (lm m a b) i = mk (lm m a b) j ↔ Mrg m a b i j := by
 unfold lm Mrg
 split
 ·rename_i h
  rw [mk_map _ _ hi, mk_map _ _ hj]
  generalize mk m i = x at *
  generalize mk m j = y at *
  generalize mk m a = p at *
  generalize mk m b = q at *
  split <;> split <;> omega
 ·rename_i h
  generalize mk m i = x at *
  generalize mk m j = y at *
  generalize mk m a = p at *
  generalize mk m b = q at *
  omega
theorem SameP.step {m l : List Int} (s : SameP m l) {a b : Nat} (ha : a < m.length) (hb : b < m.length) : SameP (pm m a b) (lm l a b) := by
 obtain ⟨hl, h⟩ := s
 refine ⟨by rw [pm_length, lm_length, hl], fun i j hi hj => ?_⟩
 rw [pm_length] at hi hj
 rw [pm_iff hi hj, lm_iff (by omega) (by omega)]
 unfold Mrg
 rw [h i j hi hj, h i a hi ha, h i b hi hb, h j a hj ha, h j b hj hb]
def pms (n : Nat) (es : List (Nat × Nat)) : List Int := es.foldl (fun m e => pm m e.1 e.2) ((List.range n).map fun (i : Nat) => (i : Int))
def lms (n : Nat) (es : List (Nat × Nat)) : List Int := es.foldl (fun m e => lm m e.1 e.2) ((List.range n).map fun (i : Nat) => (i : Int))
theorem pms_length (n : Nat) (es : List (Nat × Nat)) : (pms n es).length = n := by
 have : ∀ (es : List (Nat × Nat)) (m : List Int), (es.foldl (fun m e => pm m e.1 e.2) m).length = m.length := by
  intro es
  induction es with
  | nil => intro m; rfl
  | cons e es ih => intro m; rw [List.foldl_cons, ih, pm_length]
 unfold pms; rw [this]; simp
theorem lms_length (n : Nat) (es : List (Nat × Nat)) : (lms n es).length = n := by
 have : ∀ (es : List (Nat × Nat)) (m : List Int), (es.foldl (fun m e => lm m e.1 e.2) m).length = m.length := by
  intro es
  induction es with
  | nil => intro m; rfl
  | cons e es ih => intro m; rw [List.foldl_cons, ih, lm_length]
 unfold lms; rw [this]; simp
theorem pms_snoc (n : Nat) (es : List (Nat × Nat)) (e : Nat × Nat) : pms n (es ++ [e]) = pm (pms n es) e.1 e.2 := by unfold pms; rw [List.foldl_append]; rfl
theorem lms_snoc (n : Nat) (es : List (Nat × Nat)) (e : Nat × Nat) : lms n (es ++ [e]) = lm (lms n es) e.1 e.2 := by unfold lms; rw [List.foldl_append]; rfl
theorem same_pms {n : Nat} : ∀ {es : List (Nat × Nat)}, (∀ e ∈ es, e.1 < n /\ e.2 < n) -> SameP (pms n es) (lms n es) := by
 intro es
 have key : ∀ (es : List (Nat × Nat)) (m l : List Int), SameP m l -> m.length = n -> (∀ e ∈ es, e.1 < n /\ e.2 < n) -> SameP (es.foldl (fun m e => pm m e.1 e.2) m) (es.foldl (fun m e => lm m e.1 e.2) l) := by
  intro es
  induction es with
  | nil => intro m l s _ _; exact s
  | cons e es ih =>
   intro m l s hm he
   have h1 := he e List.mem_cons_self
   exact ih _ _ (s.step (by omega) (by omega)) (by rw [pm_length]; exact hm) fun x hx => he x (List.mem_cons_of_mem _ hx)
 exact key es _ _ ⟨rfl, fun i j _ _ => Iff.rfl⟩ (by simp)
def gstep (g : List (Int × List Int)) (place k : Int) : List (Int × List Int) :=
 if k ∈ g.map (·.1) then g.map (fun kv => if kv.1 = k then (kv.1, kv.2 ++ [place]) else kv) else g ++ [(k, [place])]
def grpA (M : List Int) : Nat -> List (Int × List Int)
 | 0 => []
 | i + 1 => gstep (grpA M i) (i : Int) (mk M i)
def grp (M : List Int) : List (Int × List Int) := grpA M M.length
theorem gstep_keys (g : List (Int × List Int)) (p k : Int) : (gstep g p k).map (·.1) = if k ∈ g.map (·.1) then g.map (·.1) else g.map (·.1) ++ [k] := by
 unfold gstep
 split
 ·rw [List.map_map]
  refine List.map_congr_left fun kv _ => ?_
  show (if kv.1 = k then (kv.1, kv.2 ++ [p]) else kv).1 = kv.1
  split <;> rfl
 ·simp
theorem gstep_nodup {g : List (Int × List Int)} {p k : Int} (h : (g.map (·.1)).Nodup) : ((gstep g p k).map (·.1)).Nodup := by
 rw [gstep_keys]
 split
 ·exact h
 ·rename_i hk
  rw [List.nodup_append]
  refine ⟨h, by simp, fun a ha b hb => ?_⟩
  rw [List.mem_singleton] at hb
  subst hb
  rintro rfl
  exact hk ha
theorem grpA_nodup (M : List Int) : ∀ i, ((grpA M i).map (·.1)).Nodup
 | 0 => by simp [grpA]
 | i + 1 => gstep_nodup (grpA_nodup M i)
theorem grpA_mem (M : List Int) : ∀ i kv, kv ∈ grpA M i -> ∀ z : Int, z ∈ kv.2 ↔ (0 <= z /\ z < (i : Int) /\ mk M z.toNat = kv.1)
 | 0, kv, h, z => by simp [grpA] at h
 | i + 1, kv, h, z => by
  unfold grpA gstep at h
  split at h
  ·rename_i hk
   obtain ⟨kv0, h0, e⟩ := List.mem_map.mp h
   have ih := grpA_mem M i kv0 h0 z
   by_cases hc : kv0.1 = mk M i
   ·rw [if_pos hc] at e
    subst e
    rw [List.mem_append, ih, List.mem_singleton]
    constructor
    ·rintro (⟨a, b, c⟩ | rfl)
     ·exact ⟨a, by omega, c⟩
     ·exact ⟨by omega, by omega, by simpa using hc.symm⟩
    ·rintro ⟨a, b, c⟩
     by_cases hz : z < (i : Int)
     ·exact .inl ⟨a, hz, c⟩
     ·exact .inr (by omega)
   ·rw [if_neg hc] at e
    subst e
    rw [ih]
    constructor
    ·rintro ⟨a, b, c⟩; exact ⟨a, by omega, c⟩
    ·rintro ⟨a, b, c⟩
     refine ⟨a, ?_, c⟩
     by_cases hz : z < (i : Int)
     ·exact hz
     ·have e : z.toNat = i := by omega
      rw [e] at c
      exact absurd c.symm hc
  ·rename_i hk
   rcases List.mem_append.mp h with h0 | h0
   ·have ih := grpA_mem M i kv h0 z
    rw [ih]
    constructor
    ·rintro ⟨a, b, c⟩; exact ⟨a, by omega, c⟩
    ·rintro ⟨a, b, c⟩
     refine ⟨a, ?_, c⟩
     by_cases hz : z < (i : Int)
     ·exact hz
     ·have e : z.toNat = i := by omega
      rw [e] at c
      exact absurd (List.mem_map.mpr ⟨kv, h0, c.symm⟩) hk
   ·rw [List.mem_singleton] at h0
    subst h0
    simp only [List.mem_singleton]
    constructor
    ·rintro rfl; exact ⟨by omega, by omega, by simp⟩
    ·rintro ⟨a, b, c⟩
     by_cases hz : z < (i : Int)
     ·exfalso
      have key := grpA_key M i z.toNat (by omega)
      rw [c] at key
      exact hk key
     ·omega
where
 grpA_key (M : List Int) : ∀ i j, j < i -> mk M j ∈ (grpA M i).map (·.1)
  | 0, j, h => absurd h (Nat.not_lt_zero j)
  | i + 1, j, h => by
   show mk M j ∈ (gstep (grpA M i) (i : Int) (mk M i)).map (·.1)
   rw [gstep_keys]
   by_cases hj : j < i
   ·have := grpA_key M i j hj
    split
    ·exact this
    ·exact List.mem_append_left _ this
   ·have e : j = i := by omega
    subst e
    split
    ·assumption
    ·simp
theorem grpA_key {M : List Int} {i j : Nat} (h : j < i) : mk M j ∈ (grpA M i).map (·.1) := grpA_mem.grpA_key M i j h
theorem grpA_of_key (M : List Int) : ∀ i k, k ∈ (grpA M i).map (·.1) -> ∃ j, j < i /\ mk M j = k
 | 0, k, h => by simp [grpA] at h
 | i + 1, k, h => by
  have h : k ∈ (gstep (grpA M i) (i : Int) (mk M i)).map (·.1) := h
  rw [gstep_keys] at h
  have old : k ∈ (grpA M i).map (·.1) -> ∃ j, j < i + 1 /\ mk M j = k := fun q => by
   obtain ⟨j, hj, e⟩ := grpA_of_key M i k q
   exact ⟨j, by omega, e⟩
  split at h
  ·exact old h
  ·rcases List.mem_append.mp h with q | q
   ·exact old q
   ·rw [List.mem_singleton] at q
    exact ⟨i, by omega, q.symm⟩
theorem grp_one {M : List Int} (hM : 1 <= M.length) : (grp M).length = 1 ↔ ∀ i j, i < M.length -> j < M.length -> mk M i = mk M j := by
 unfold grp
 constructor
 ·intro h i j hi hj
  obtain ⟨kv, e⟩ := List.length_eq_one_iff.mp h
  have h1 := grpA_key (M := M) hi
  have h2 := grpA_key (M := M) hj
  rw [e] at h1 h2
  rw [List.map_singleton, List.mem_singleton] at h1 h2
  rw [h1, h2]
 ·intro h
  have nd := grpA_nodup M M.length
  have h0 := grpA_key (M := M) (i := M.length) (j := 0) (by omega)
  generalize hg : (grpA M M.length) = g at *
  match g, hg with
  | [], _ => simp at h0
  | [kv], _ => rfl
  | a :: b :: r, hg =>
   exfalso
   obtain ⟨i, hi, e1⟩ := grpA_of_key M M.length a.1 (by rw [hg]; simp)
   obtain ⟨j, hj, e2⟩ := grpA_of_key M M.length b.1 (by rw [hg]; simp)
   have e3 := h i j hi hj
   have : a.1 = b.1 := by rw [<- e1, <- e2, e3]
   simp [this] at nd
end My
namespace My
open PySem L2 PyProof.Rows
theorem inV_ints (z : Int) (l : List Int) : inV (.int z) (IL l) = decide (z ∈ l) := by
 unfold inV
 rw [List.any_map]
 rw [Bool.eq_iff_iff, List.any_eq_true, decide_eq_true_iff]
 constructor
 ·rintro ⟨y, hy, e⟩
  have e' : y = z := by simpa [eqV] using e
  rw [<- e']; exact hy
 ·intro h; exact ⟨z, h, by simp [eqV]⟩
theorem flat_ints (l : List Int) : (IL l).all flatV = true := by
 rw [List.all_map, List.all_eq_true]
 intro x _
 rfl
theorem kit_same {K : PySem.W.Frag} {t : Value} : PySem.W.kitOne K t t = some true := by
 unfold PySem.W.kitOne
 rw [if_pos (beq_self_eq_true t)]
theorem dec_int {a b : Int} : decide (V.int a = V.int b) = decide (a = b) := by
 by_cases h : a = b
 ·subst h; simp
 ·have h' : ¬ V.int a = V.int b := fun z => h (V.int.inj z)
  rw [decide_eq_false h, decide_eq_false h']
end My
namespace My
open PySem L2
def IsSet (m : Nat) (ns : List Int) : Prop := ∀ i z, ns[i]? = some z -> 0 <= z /\ z < (m : Int) /\ ∀ y, i ≠ 0 -> ns[i - 1]? = some y -> y < z
def endsOf (ps : List (Int × Int)) (ns : List Int) : List (Nat × Nat) := ns.map fun z => ((ps.getD z.toNat (0, 0)).1.toNat, (ps.getD z.toNat (0, 0)).2.toNat)
theorem endsOf_snoc {ps : List (Int × Int)} {ns : List Int} {i : Nat} {z : Int} (h : ns[i]? = some z) : endsOf ps (ns.take (i + 1)) = endsOf ps (ns.take i) ++ [((ps.getD z.toNat (0, 0)).1.toNat, (ps.getD z.toNat (0, 0)).2.toNat)] := by
 unfold endsOf
 rw [List.take_succ, h]
 simp
theorem mk_some {m : List Int} {i : Nat} (h : i < m.length) : m[i]? = some (mk m i) := by
 rw [List.getElem?_eq_getElem h]
 simp [mk, List.getD_eq_getElem?_getD, List.getElem?_eq_getElem h]
theorem rngI_zero (n : Int) : rngI 0 n = (List.range n.toNat).map fun (i : Nat) => (i : Int) := by
 unfold rngI
 rw [Int.sub_zero]
 refine List.map_congr_left fun i _ => ?_
 omega
structure GrpAt (H0 H : Hp) (g : List (Int × List Int)) (as : List Addr) : Prop where
 len : as.length = g.length
 nd : as.Nodup
 at_ : ∀ (i : Nat) (kv : Int × List Int) (a : Addr), g[i]? = some kv -> as[i]? = some a -> H a = some (.lst (IL kv.2))
 new : ∀ a ∈ as, H0 a = none
theorem IsSet.all {m : Nat} {ns : List Int} (h : IsSet m ns) : ∀ z ∈ ns, 0 <= z /\ z < (m : Int) := fun z hz => by
 obtain ⟨i, hi, e⟩ := List.getElem_of_mem hz
 obtain ⟨a, b, _⟩ := h i z (by rw [List.getElem?_eq_getElem hi, e])
 exact ⟨a, b⟩
theorem IsSet.nil (m : Nat) : IsSet m [] := fun i z e => by simp at e
theorem IsSet.up {m : Nat} {ns : List Int} (h : IsSet m ns) : IsSet (m + 1) ns := fun i z e => by
 obtain ⟨a, b, c⟩ := h i z e
 exact ⟨a, by omega, c⟩
theorem IsSet.snoc {m : Nat} {ns : List Int} (h : IsSet m ns) : IsSet (m + 1) (ns ++ [(m : Int)]) := fun i z e => by
 by_cases hi : i < ns.length
 ·rw [List.getElem?_append_left hi] at e
  obtain ⟨a, b, c⟩ := h i z e
  refine ⟨a, by omega, fun y h0 ey => ?_⟩
  rw [List.getElem?_append_left (by omega)] at ey
  exact c y h0 ey
 ·have hl : i = ns.length := by
   have := (List.getElem?_eq_some_iff.mp e).1
   rw [List.length_append, List.length_singleton] at this
   omega
  subst hl
  rw [List.getElem?_append_right (Nat.le_refl _), Nat.sub_self] at e
  have e : (m : Int) = z := Option.some.inj e
  subst e
  refine ⟨by omega, by omega, fun y h0 ey => ?_⟩
  rw [List.getElem?_append_left (by omega)] at ey
  exact (h _ y ey).2.1
theorem IsSet.len {m : Nat} : ∀ {ns : List Int}, IsSet m ns -> ns.length <= m := fun {ns} h => by
 have key : ∀ (i : Nat) (z : Int), ns[i]? = some z -> (i : Int) <= z := by
  intro i
  induction i with
  | zero => intro z e; exact (h 0 z e).1
  | succ i ih =>
   intro z e
   have hi : i < ns.length := by have := (List.getElem?_eq_some_iff.mp e).1; omega
   have e2 : ns[i]? = some ns[i] := List.getElem?_eq_getElem hi
   have := ih _ e2
   have := (h (i + 1) z e).2.2 ns[i] (by omega) (by rw [Nat.add_sub_cancel]; exact e2)
   omega
 by_cases h0 : ns.length = 0
 ·omega
 ·have e : ns[ns.length - 1]? = some (ns[ns.length - 1]'(by omega)) := List.getElem?_eq_getElem _
  have a := key _ _ e
  have b := (h _ _ e).2.1
  omega
end My
namespace L2
open PySem PySem.Spec PyProof.Rows
section
variable {X : Cx}
end
end L2
namespace My
open PySem L2
section
variable {K : PySem.W.Frag} {H : Hp} {α : Type} [DecidableEq α]
def Bears (R : V -> α -> Prop) (xs : List V) (l : List α) : Prop := xs.length = l.length /\ ∀ (i : Nat) (a : α), l[i]? = some a -> ∃ x, xs[i]? = some x /\ R x a
theorem Bears.at {R : V -> α -> Prop} {xs : List V} {l : List α} (h : Bears R xs l) {i : Nat} {x : V} (e : xs[i]? = some x) : ∃ a, l[i]? = some a /\ R x a := by
 have hi : i < xs.length := (List.getElem?_eq_some_iff.mp e).1
 have hl : i < l.length := by rw [<- h.1]; exact hi
 obtain ⟨x', e1, q⟩ := h.2 i l[i] (List.getElem?_eq_getElem hl)
 rw [e] at e1
 cases e1
 exact ⟨_, List.getElem?_eq_getElem hl, q⟩
theorem all_dec {l m : List α} (h : l.length = m.length) : (List.range l.length).all (fun i => decide (l[i]? = m[i]?)) = decide (l = m) := by
 rw [Bool.eq_iff_iff, List.all_eq_true, decide_eq_true_iff]
 constructor
 ·intro q
  refine List.ext_getElem? fun i => ?_
  by_cases hi : i < l.length
  ·exact of_decide_eq_true (q i (List.mem_range.mpr hi))
  ·rw [List.getElem?_eq_none (by omega), List.getElem?_eq_none (by omega)]
 ·rintro rfl i _
  simp
theorem eqd_lists {R : V -> α -> Prop} {n : Nat} {p q : Addr} {xs ys : List V} {l m : List α} (hp : SqL K H p xs) (hq : SqL K H q ys) (h1 : Bears R xs l) (h2 : Bears R ys m) (hR : ∀ x y a b, R x a -> R y b -> EqD K H n x y (decide (a = b))) : EqD K H (n + 1) (.ref p) (.ref q) (decide (l = m)) := by
 by_cases hl : xs.length = ys.length
 ·have e := all_dec (l := l) (m := m) (by rw [<- h1.1, <- h2.1, hl])
  rw [<- e, <- h1.1]
  refine EqD.lsts hp hq hl fun i x y ex ey => ?_
  obtain ⟨a, ea, ra⟩ := h1.at ex
  obtain ⟨b, eb, rb⟩ := h2.at ey
  rw [ea, eb, show decide (some a = some b) = decide (a = b) by simp]
  exact hR x y a b ra rb
 ·have e : decide (l = m) = false := decide_eq_false fun z => hl (by rw [h1.1, h2.1, z])
  rw [e]
  exact EqD.lens hp hq hl
theorem eqd_tups {R : V -> α -> Prop} {n : Nat} {p q : Addr} {xs ys : List V} {l m : List α} (hp : SqT K H p xs) (hq : SqT K H q ys) (h1 : Bears R xs l) (h2 : Bears R ys m) (hR : ∀ x y a b, R x a -> R y b -> EqD K H n x y (decide (a = b))) : EqD K H (n + 1) (.ref p) (.ref q) (decide (l = m)) := by
 have key := EqD.tups (e := fun i => decide (l[i]? = m[i]?)) hp hq fun i x y ex ey => by
  obtain ⟨a, ea, ra⟩ := h1.at ex
  obtain ⟨b, eb, rb⟩ := h2.at ey
  rw [ea, eb, show decide (some a = some b) = decide (a = b) by simp]
  exact hR x y a b ra rb
 by_cases hl : xs.length = ys.length
 ·have e := all_dec (l := l) (m := m) (by rw [<- h1.1, <- h2.1, hl])
  rw [<- hl, Nat.min_self, h1.1, e, show (l.length == l.length) = true by simp, Bool.and_true] at key
  exact key
 ·have e : decide (l = m) = false := decide_eq_false fun z => hl (by rw [h1.1, h2.1, z])
  rw [show (xs.length == ys.length) = false by simpa using hl, Bool.and_false] at key
  rw [e]
  exact key
theorem bears_ints (ns : List Int) : Bears (fun x (z : Int) => x = .int z) (IL ns) ns := ⟨il_length ns, fun i z e => ⟨_, il_at e, rfl⟩⟩
theorem eqd_int {n : Nat} {x y : V} {a b : Int} (hx : x = .int a) (hy : y = .int b) : EqD K H n x y (decide (a = b)) := by
 subst hx hy
 have e : decide (a = b) = eqV (.int a) (.int b) := by
  show decide (a = b) = (a == b)
  rw [Bool.beq_eq_decide_eq]
 rw [e]
 exact EqD.flat rfl rfl
theorem eqd_ints {p q : Addr} {ns ms : List Int} (hp : SqL K H p (IL ns)) (hq : SqL K H q (IL ms)) : EqD K H 1 (.ref p) (.ref q) (decide (ns = ms)) :=
 eqd_lists hp hq (bears_ints ns) (bears_ints ms) fun _ _ _ _ => eqd_int
theorem eqd_tints {p q : Addr} {ns ms : List Int} (hp : SqT K H p (IL ns)) (hq : SqT K H q (IL ms)) : EqD K H 1 (.ref p) (.ref q) (decide (ns = ms)) :=
 eqd_tups hp hq (bears_ints ns) (bears_ints ms) fun _ _ _ _ => eqd_int
def ListV (H : Hp) (v : V) (l : List Int) : Prop := ∃ a, v = .ref a /\ H a = some (.lst (IL l))
end
end My
namespace My
def fstB (M : List Int) (p : Nat) : Bool := (List.range p).all fun i => decide (mk M i ≠ mk M p)
def posA (M : List Int) (k : Int) (i : Nat) : List Int := ((List.range i).filter fun j => decide (mk M j = k)).map fun (j : Nat) => (j : Int)
def fstA (M : List Int) (i : Nat) : List Nat := (List.range i).filter (fstB M)
theorem fstB_iff {M : List Int} {p : Nat} : fstB M p = true ↔ ∀ i, i < p -> mk M i ≠ mk M p := by
 unfold fstB
 rw [List.all_eq_true]
 constructor
 ·intro h i hi; exact of_decide_eq_true (h i (List.mem_range.mpr hi))
 ·intro h i hi; exact decide_eq_true (h i (List.mem_range.mp hi))
theorem posA_succ (M : List Int) (k : Int) (i : Nat) : posA M k (i + 1) = posA M k i ++ (if mk M i = k then [(i : Int)] else []) := by
 unfold posA
 rw [List.range_succ, List.filter_append, List.map_append]
 congr 1
 by_cases h : mk M i = k
 ·rw [if_pos h, List.filter_cons, if_pos (by simpa using h)]; rfl
 ·rw [if_neg h, List.filter_cons, if_neg (by simpa using h)]; rfl
theorem fstA_succ (M : List Int) (i : Nat) : fstA M (i + 1) = fstA M i ++ (if fstB M i = true then [i] else []) := by
 unfold fstA
 rw [List.range_succ, List.filter_append]
 congr 1
 by_cases h : fstB M i = true
 ·rw [if_pos h, List.filter_cons, if_pos h]; rfl
 ·rw [if_neg h, List.filter_cons, if_neg h]; rfl
theorem grpA_eq (M : List Int) : ∀ i, grpA M i = (fstA M i).map fun p => (mk M p, posA M (mk M p) i)
 | 0 => rfl
 | i + 1 => by
  have ih := grpA_eq M i
  show gstep (grpA M i) (i : Int) (mk M i) = _
  have hk : (mk M i ∈ (grpA M i).map (·.1)) ↔ fstB M i ≠ true := by
   constructor
   ·intro h q
    obtain ⟨j, hj, e⟩ := grpA_of_key M i _ h
    exact fstB_iff.mp q j hj e
   ·intro h
    by_cases q : ∃ j, j < i /\ mk M j = mk M i
    ·obtain ⟨j, hj, e⟩ := q
     rw [<- e]
     exact grpA_key hj
    ·exact absurd (fstB_iff.mpr fun j hj e => q ⟨j, hj, e⟩) h
  unfold gstep
  by_cases h : mk M i ∈ (grpA M i).map (·.1)
  ·have hf := hk.mp h
   rw [if_pos h, fstA_succ, if_neg hf, List.append_nil, ih, List.map_map]
   refine List.map_congr_left fun p _ => ?_
   show (if mk M p = mk M i then (mk M p, posA M (mk M p) i ++ [(i : Int)]) else (mk M p, posA M (mk M p) i)) = (mk M p, posA M (mk M p) (i + 1))
   rw [posA_succ]
   by_cases e : mk M p = mk M i
   ·rw [if_pos e, if_pos e.symm]
   ·rw [if_neg e, if_neg (fun z => e z.symm), List.append_nil]
  ·have hf : fstB M i = true := by
    cases q : fstB M i with
    | true => rfl
    | false => exact absurd (hk.mpr (by rw [q]; exact Bool.false_ne_true)) h
   rw [if_neg h, fstA_succ, if_pos hf, List.map_append, ih]
   congr 1
   ·refine List.map_congr_left fun p hp => ?_
    have hpi : p < i := List.mem_range.mp (List.mem_filter.mp hp).1
    rw [posA_succ, if_neg (fun z => fstB_iff.mp hf p hpi z.symm), List.append_nil]
   ·show [(mk M i, [(i : Int)])] = [(mk M i, posA M (mk M i) (i + 1))]
    rw [posA_succ, if_pos rfl]
    have e0 : posA M (mk M i) i = [] := by
     unfold posA
     rw [List.filter_eq_nil_iff.mpr fun j hj => by simpa using fstB_iff.mp hf j (List.mem_range.mp hj)]
     rfl
    rw [e0]
    rfl
end My
namespace My
open PySem L2
theorem Bears.snoc {α : Type} [DecidableEq α] {R : V -> α -> Prop} {xs : List V} {l : List α} {x : V} {a : α} (h : Bears R xs l) (hx : R x a) : Bears R (xs ++ [x]) (l ++ [a]) := by
 refine ⟨by rw [List.length_append, List.length_append, h.1]; rfl, fun i b e => ?_⟩
 by_cases hi : i < l.length
 ·rw [List.getElem?_append_left hi] at e
  rw [List.getElem?_append_left (by rw [h.1]; exact hi)]
  exact h.2 i b e
 ·have hl : i = l.length := by
   have := (List.getElem?_eq_some_iff.mp e).1
   rw [List.length_append, List.length_singleton] at this
   omega
  subst hl
  rw [List.getElem?_append_right (Nat.le_refl _), Nat.sub_self] at e
  rw [List.getElem?_append_right (by rw [h.1]; exact Nat.le_refl _), h.1, Nat.sub_self]
  have e' : a = b := Option.some.inj e
  subst e'
  exact ⟨x, rfl, hx⟩
theorem Bears.imp {α : Type} [DecidableEq α] {R R' : V -> α -> Prop} {xs : List V} {l : List α} (h : Bears R xs l) (f : ∀ x a, R x a -> R' x a) : Bears R' xs l := ⟨h.1, fun i a e => let ⟨x, e1, r⟩ := h.2 i a e; ⟨x, e1, f x a r⟩⟩
end My
namespace L2
open PySem PySem.Spec PyProof.Rows
structure Fly (h0 : Heap) (H : Hp) (e C : Addr) (h : Heap) : Prop where
 ex : ∃ oe vs T oT ts a0, h.get? e = some oe /\ oe.cls = .ref C /\ oe.data = .fields vs /\ vs[0]? = some a0 /\ vs[1]? = some (.ref T) /\ T ≠ e /\ h.get? T = some oT /\ oT.data = .fields ts /\ ts[3]? = some .none /\ h0.get? T = none /\ H T = none
 new : h0.get? e = none
 free : H e = none
section
variable {X : Cx} {pins : List (Addr × Obj)} {σ : St} {H : Hp} {s : Shared} {e C : Addr}
end
section
variable {P : Program} {w : World} {K : PySem.W.Frag} {mg : Str -> Option Value} {base : Heap}
end
structure XCls (K : PySem.W.Frag) (C : Addr) : Prop where
 ex : PySem.W.excIn K C [.type "ValueError", .type "Exception", .type "BaseException", .type "object"] "ValueError.__new__" = true
 ga : PySem.W.findIn K (.ref C) "__getattribute__" = some (some (.builtin "BaseException.__getattribute__"))
 gh : PySem.W.findIn K (.ref C) "__getattr__" = some none
 cl : PySem.W.findIn K (.ref C) "__class__" = some (some (.builtin "object.__class__"))
 ob : PySem.W.mroIn K C (.type "object") = some true
 bx : PySem.W.mroIn K C (.type "BaseException") = some true
section
variable {X : Cx} {pins : List (Addr × Obj)} {σ : St} {H : Hp} {s : Shared} {e C : Addr}
end
section
variable {X : Cx} {pins pins' : List (Addr × Obj)} {σ : St} {H : Hp} {s : Shared} {R : St -> XK} {e C : Addr} {oe : Obj}
end
section
variable {X : Cx} {CX : CXT} {k : Nat} {f C : Addr} {fd : FuncData} {ps : List Str} {sp : Sp} {dvs : List V} {ds : List Value} {R : St -> XK} {x m : Str} {p pos apos : Pos} {e o : Expr} {es : List Expr} {ta : TE} {t : TA}
end
end L2
namespace L2
open PySem PySem.Spec PyProof.Rows PySem.W PySem.Calls Builtin Builtin.ObjectAttr Builtin.Getset_descriptor
section
variable {prog : Program} {w : World} {A : Around} {E : Value -> Shared -> Prop} {K : PySem.W.Frag} {x C : Addr} {ox : Obj}
end
section
variable {X : Cx}
end
end L2
namespace L2
open PySem PySem.Spec PyProof.Rows
section
variable {X : Cx} {es : List Expr} {e : Expr} {te : TE} {t : St -> Hp -> (Hp -> Prop) -> Prop} {pos : Pos}
end
end L2
namespace My
open PySem L2
end My
namespace L2
open PySem PySem.Spec PyProof.Rows
theorem vals_of_ints : ∀ {us : List Value} {ns : List Int}, IntsAre us ns -> Vals (ns.map V.int) us
 | [], [], _ => .nil
 | _ :: _, [], h => by cases h
 | [], _ :: _, h => by cases h
 | u :: us, n :: ns, h => by
  cases h with
  | cons _ _ t => exact .cons ⟨_, rfl⟩ (vals_of_ints t)
section
variable {X : Cx}
theorem call_sortedK (K : PySem.W.Frag) (hk : X.K = K := by rfl) : CallR X (.builtin "sorted") (fun xs H Q => ∃ (p : Addr) (ns : List Int), xs = [.ref p] /\ SqL K H p (ns.map V.int) /\ ns.length < 64 /\
  ∀ ms : List Int, ms.Perm ns -> ms.Pairwise (· <= ·) -> ∀ l, H l = none -> Q (.ref l) (upd H l (.lst (ms.map V.int)))) := by
 subst hk
 intro pins s σ H xs us Q I r h
 obtain ⟨p, ns, rfl, hq, hn, q⟩ := h
 obtain ⟨u, rfl, ru⟩ := vals1 r
 obtain rfl : u = Value.ref p := ru
 obtain ⟨its, rv, pl, hz⟩ := I.list hq
 have hi := ints_of_vals rv
 have hl : its.length = ns.length := by rw [<- rv.length, List.length_map]
 refine sorted_ints pl.isList hi (by omega) fun out ms h1 h2 h3 => ?_
 obtain ⟨e, he⟩ := sortedAll_at s.heap its out
 have hml : ms.length = ns.length := h2.length_eq
 refine ⟨.ref (s.heap.objs.size + 1), _, I.laid (t' := s.toks) (o := .lst (ms.map V.int)) (fun b o g => sortedAll_old g) (Nat.le_succ _) ⟨?_, out.toList, e, vals_of_ints h1, ?_⟩, rfl, q ms h2 h3 _ (I.hok.fresh (Nat.le_succ _))⟩
 ·rw [List.length_map, hml]
  have : sizeLine = 16777216 := sizeLine_eq
  omega
 ·exact he
section
variable {prog : Program} {w : World} {A : Around} {E : Value -> Shared -> Prop} {s : Shared} {it a : Addr} {items : Array Value}
end
end
section
variable {X : Cx} {p p2 pos pos2 : Pos} {e : Expr} {t : TA}
end
end L2
namespace My
open PySem L2
theorem isSet_iff {m : Nat} {ns : List Int} : IsSet m ns ↔ (∀ z ∈ ns, 0 <= z /\ z < (m : Int)) /\ ns.Pairwise (· < ·) := by
 constructor
 ·intro h
  refine ⟨h.all, ?_⟩
  rw [List.pairwise_iff_getElem]
  intro i j hi hj hij
  induction j with
  | zero => exact absurd hij (Nat.not_lt_zero i)
  | succ j ih =>
   have hj' : j < ns.length := by omega
   have key := (h (j + 1) ns[j + 1] (List.getElem?_eq_getElem hj)).2.2 ns[j] (by omega) (by rw [Nat.add_sub_cancel]; exact List.getElem?_eq_getElem hj')
   by_cases e : i = j
   ·subst e; exact key
   ·have := ih hj' (by omega)
    omega
 ·rintro ⟨ha, hp⟩ i z hz
  obtain ⟨hi, ei⟩ := List.getElem?_eq_some_iff.mp hz
  have hm := ha z (List.mem_of_getElem? hz)
  refine ⟨hm.1, hm.2, fun y h0 hy => ?_⟩
  obtain ⟨hi', ei'⟩ := List.getElem?_eq_some_iff.mp hy
  have := List.pairwise_iff_getElem.mp hp (i - 1) i hi' hi (by omega)
  rw [ei, ei'] at this
  exact this
theorem lt_nodup {ns : List Int} (h : ns.Pairwise (· < ·)) : ns.Nodup := h.imp fun hab e => by omega
theorem IsSet.nodup {m : Nat} {ns : List Int} (h : IsSet m ns) : ns.Nodup := lt_nodup (isSet_iff.mp h).2
end My
namespace My
theorem snoc_ind {α : Type} {P : List α -> Prop} (h0 : P []) (h1 : ∀ l x, P l -> P (l ++ [x])) : ∀ l, P l := by
 intro l
 rw [<- List.reverse_reverse l]
 induction l.reverse with
 | nil => exact h0
 | cons x r ih =>
  rw [List.reverse_cons]
  exact h1 _ _ ih
inductive Conn (es : List (Nat × Nat)) : Nat -> Nat -> Prop
 | refl (i : Nat) : Conn es i i
 | edge {a b : Nat} (h : (a, b) ∈ es) : Conn es a b
 | symm {i j : Nat} : Conn es i j -> Conn es j i
 | trans {i j k : Nat} : Conn es i j -> Conn es j k -> Conn es i k
theorem Conn.mono {es fs : List (Nat × Nat)} (h : ∀ e ∈ es, e ∈ fs) {i j : Nat} (c : Conn es i j) : Conn fs i j := by
 induction c with
 | refl i => exact .refl i
 | edge q => exact .edge (h _ q)
 | symm _ ih => exact .symm ih
 | trans _ _ i1 i2 => exact .trans i1 i2
theorem mk_range {n i : Nat} (h : i < n) : mk ((List.range n).map fun (i : Nat) => (i : Int)) i = (i : Int) := by
 rw [mk_map' h]
where
 mk_map' {n i : Nat} (h : i < n) : mk ((List.range n).map fun (i : Nat) => (i : Int)) i = (i : Int) := by
  simp [mk, List.getD_eq_getElem?_getD, List.getElem?_map, List.getElem?_range h]
def InN (n : Nat) (es : List (Nat × Nat)) : Prop := ∀ e ∈ es, e.1 < n /\ e.2 < n
theorem InN.snoc {n : Nat} {es : List (Nat × Nat)} {e : Nat × Nat} (h : InN n (es ++ [e])) : InN n es /\ e.1 < n /\ e.2 < n := ⟨fun x hx => h x (List.mem_append_left _ hx), h e (by simp)⟩
theorem lms_edge {n : Nat} : ∀ es : List (Nat × Nat), InN n es -> ∀ e ∈ es, mk (lms n es) e.1 = mk (lms n es) e.2 := by
 refine snoc_ind (fun _ e h => by cases h) fun es x ih hn e he => ?_
 obtain ⟨h1, h2, h3⟩ := hn.snoc
 have hl := lms_length n es
 have hx := hn e he
 rw [lms_snoc]
 refine (lm_iff (by omega) (by omega)).mpr ?_
 rcases List.mem_append.mp he with q | q
 ·exact .inl (ih h1 e q)
 ·rw [List.mem_singleton.mp q]
  exact .inr ⟨.inl rfl, .inr rfl⟩
theorem lms_conn {n : Nat} : ∀ es : List (Nat × Nat), InN n es -> ∀ i j, i < n -> j < n -> mk (lms n es) i = mk (lms n es) j -> Conn es i j := by
 refine snoc_ind (fun _ i j hi hj h => ?_) fun es x ih hn i j hi hj h => ?_
 ·have h : mk ((List.range n).map fun (i : Nat) => (i : Int)) i = mk ((List.range n).map fun (i : Nat) => (i : Int)) j := h
  rw [mk_range hi, mk_range hj] at h
  have : i = j := by omega
  subst this
  exact .refl i
 ·obtain ⟨h1, h2, h3⟩ := hn.snoc
  have hl := lms_length n es
  have up : ∀ {i j : Nat}, Conn es i j -> Conn (es ++ [x]) i j := fun c => c.mono fun e he => List.mem_append_left _ he
  have ex : Conn (es ++ [x]) x.1 x.2 := .edge (by simp)
  rw [lms_snoc] at h
  rcases (lm_iff (by omega) (by omega)).mp h with q | ⟨q1, q2⟩
  ·exact up (ih h1 i j hi hj q)
  ·have ci : Conn (es ++ [x]) i x.1 := by
    rcases q1 with q | q
    ·exact up (ih h1 i _ hi h2 q)
    ·exact (up (ih h1 i _ hi h3 q)).trans ex.symm
   have cj : Conn (es ++ [x]) j x.1 := by
    rcases q2 with q | q
    ·exact up (ih h1 j _ hj h2 q)
    ·exact (up (ih h1 j _ hj h3 q)).trans ex.symm
   exact ci.trans cj.symm
theorem conn_lms {n : Nat} {es : List (Nat × Nat)} (hn : InN n es) {i j : Nat} (c : Conn es i j) : i = j \/ (i < n /\ j < n /\ mk (lms n es) i = mk (lms n es) j) := by
 induction c with
 | refl i => exact .inl rfl
 | edge q => exact .inr ⟨(hn _ q).1, (hn _ q).2, lms_edge es hn _ q⟩
 | symm _ ih =>
  rcases ih with e | ⟨a, b, c⟩
  ·exact .inl e.symm
  ·exact .inr ⟨b, a, c.symm⟩
 | trans _ _ i1 i2 =>
  rcases i1 with e | ⟨a, b, c⟩
  ·rw [e]; exact i2
  ·rcases i2 with e | ⟨a', b', c'⟩
   ·rw [<- e]; exact .inr ⟨a, b, c⟩
   ·exact .inr ⟨a, b', c.trans c'⟩
theorem lms_iff {n : Nat} {es : List (Nat × Nat)} (hn : InN n es) {i j : Nat} (hi : i < n) (hj : j < n) : mk (lms n es) i = mk (lms n es) j ↔ Conn es i j := by
 constructor
 ·exact lms_conn es hn i j hi hj
 ·intro c
  rcases conn_lms hn c with e | ⟨_, _, e⟩
  ·rw [e]
  ·exact e
theorem pms_iff {n : Nat} {es : List (Nat × Nat)} (hn : InN n es) {i j : Nat} (hi : i < n) (hj : j < n) : mk (pms n es) i = mk (pms n es) j ↔ Conn es i j := by
 rw [<- lms_iff hn hi hj]
 have s := same_pms (n := n) (es := es) hn
 exact s.2 i j (by rw [pms_length]; exact hi) (by rw [pms_length]; exact hj)
def cnt (M : List Int) : Nat := (fstA M M.length).length
theorem fst_ex (M : List Int) {i : Nat} : ∃ p, p <= i /\ mk M p = mk M i /\ fstB M p = true := by
 induction i using Nat.strongRecOn with
 | ind i ih =>
  by_cases h : fstB M i = true
  ·exact ⟨i, Nat.le_refl _, rfl, h⟩
  ·have : ∃ j, j < i /\ mk M j = mk M i := by
    by_cases q : ∃ j, j < i /\ mk M j = mk M i
    ·exact q
    ·exact absurd (fstB_iff.mpr fun j hj e => q ⟨j, hj, e⟩) h
   obtain ⟨j, hj, e⟩ := this
   obtain ⟨p, h1, h2, h3⟩ := ih j hj
   exact ⟨p, by omega, h2.trans e, h3⟩
theorem count_less {p q : Nat -> Bool} {x n : Nat} (hx : x < n) (hpx : p x = true) (h : ∀ y, y < n -> q y = (p y && !decide (y = x))) : ((List.range n).filter q).length + 1 = ((List.range n).filter p).length := by
 induction n with
 | zero => exact absurd hx (Nat.not_lt_zero x)
 | succ n ih =>
  rw [List.range_succ, List.filter_append, List.filter_append, List.length_append, List.length_append]
  by_cases e : x = n
  ·subst e
   have e1 : (List.range x).filter q = (List.range x).filter p := List.filter_congr fun y hy => by
    have hy := List.mem_range.mp hy
    rw [h y (by omega), show decide (y = x) = false from decide_eq_false (by omega)]
    simp
   have e2 : q x = false := by rw [h x (by omega)]; simp
   rw [e1]
   simp [List.filter_cons, e2, hpx]
  ·have hq : q n = p n := by rw [h n (by omega), show decide (n = x) = false from decide_eq_false (fun z => e z.symm)]; simp
   have := ih (by omega) fun y hy => h y (by omega)
   simp only [List.filter_cons, List.filter_nil, hq]
   omega
theorem fst_uniq {M : List Int} {p q : Nat} (hp : fstB M p = true) (hq : fstB M q = true) (e : mk M p = mk M q) : p = q := by
 rcases Nat.lt_trichotomy p q with h | h | h
 ·exact absurd e (fstB_iff.mp hq p h)
 ·exact h
 ·exact absurd e.symm (fstB_iff.mp hp q h)
theorem cnt_step {m : List Int} {a b : Nat} (ha : a < m.length) (hb : b < m.length) (hne : mk m a ≠ mk m b) : cnt (lm m a b) + 1 = cnt m := by
 obtain ⟨A, hA1, hA2, hA3⟩ := fst_ex m (i := a)
 obtain ⟨B, hB1, hB2, hB3⟩ := fst_ex m (i := b)
 have hAB : A ≠ B := fun e => hne (by rw [<- hA2, <- hB2, e])
 unfold cnt fstA
 rw [lm_length]
 refine count_less (x := max A B) (by omega) ?_ fun y hy => ?_
 ·rcases Nat.le_total A B with h | h
  ·rw [Nat.max_eq_right h]; exact hB3
  ·rw [Nat.max_eq_left h]; exact hA3
 ·rw [Bool.eq_iff_iff, Bool.and_eq_true, fstB_iff, fstB_iff]
  have key : ∀ i, i < y -> (mk (lm m a b) i = mk (lm m a b) y ↔ Mrg m a b i y) := fun i hi => lm_iff (by omega) hy
  have nmax : (!decide (y = max A B)) = true ↔ y ≠ max A B := by simp
  rw [nmax]
  constructor
  ·intro q
   refine ⟨fun i hi e => q i hi ((key i hi).mpr (.inl e)), fun e => ?_⟩
   rcases Nat.lt_or_gt_of_ne hAB with h | h
   ·have ey : y = B := by omega
    subst ey
    exact q A h ((key A h).mpr (.inr ⟨.inl hA2, .inr hB2⟩))
   ·have ey : y = A := by omega
    subst ey
    exact q B h ((key B h).mpr (.inr ⟨.inr hB2, .inl hA2⟩))
  ·rintro ⟨q1, q2⟩ i hi e
   rcases (key i hi).mp e with e | ⟨e1, e2⟩
   ·exact q1 i hi e
   ·have fy : fstB m y = true := fstB_iff.mpr q1
    rcases e2 with e2 | e2
    ·have ey : y = A := fst_uniq fy hA3 (e2.trans hA2.symm)
     rcases e1 with e1 | e1
     ·exact q1 i hi (e1.trans e2.symm)
     ·obtain ⟨p, p1, p2, p3⟩ := fst_ex m (i := i)
      have : p = B := fst_uniq p3 hB3 (by rw [p2, e1, hB2])
      omega
    ·have ey : y = B := fst_uniq fy hB3 (e2.trans hB2.symm)
     rcases e1 with e1 | e1
     ·obtain ⟨p, p1, p2, p3⟩ := fst_ex m (i := i)
      have : p = A := fst_uniq p3 hA3 (by rw [p2, e1, hA2])
      omega
     ·exact q1 i hi (e1.trans e2.symm)
theorem cnt_range (n : Nat) : cnt ((List.range n).map fun (i : Nat) => (i : Int)) = n := by
 unfold cnt fstA
 rw [List.length_map, List.length_range]
 have e : (List.range n).filter (fstB ((List.range n).map fun (i : Nat) => (i : Int))) = List.range n := by
  refine List.filter_eq_self.mpr fun p hp => fstB_iff.mpr fun i hi e => ?_
  have hp := List.mem_range.mp hp
  rw [mk_range (by omega), mk_range hp] at e
  omega
 rw [e, List.length_range]
theorem cnt_one {M : List Int} (hM : 1 <= M.length) : cnt M = 1 ↔ ∀ i j, i < M.length -> j < M.length -> mk M i = mk M j := by
 have e : cnt M = (grp M).length := by
  unfold cnt grp
  rw [grpA_eq, List.length_map]
 rw [e]
 exact grp_one hM
end My
namespace My
open PySem L2
theorem seq_ix {i : Int} {n : Nat} (h0 : 0 <= i) (h1 : i < (n : Int)) : seqIndex? i n = some i.toNat := by
 have e : (if i < 0 then i + (n : Int) else i) = i := if_neg (by omega)
 unfold seqIndex?
 simp only [e]
 rw [if_pos (by simp; omega)]
def IsTree (n : Int) (ps : List (Int × Int)) (ns : List Int) : Prop := IsSet ps.length ns /\ (ns.length : Int) = n - 1 /\ ∀ i j, i < n.toNat -> j < n.toNat -> Conn (endsOf ps ns) i j
theorem ends_in {n : Int} {ps : List (Int × Int)} {ns : List Int} (g : GoodW n ps) (h : ∀ z ∈ ns, 0 <= z /\ z < (ps.length : Int)) : InN n.toNat (endsOf ps ns) := fun e he => by
 obtain ⟨z, hz, rfl⟩ := List.mem_map.mp he
 obtain ⟨z0, z1⟩ := h z hz
 have hp : ps[z.toNat]? = some (ps[z.toNat]'(by omega)) := List.getElem?_eq_getElem _
 rw [getD_of hp]
 obtain ⟨b1, b2, b3, b4⟩ := g.2.2.2 _ (List.mem_of_getElem? hp)
 exact ⟨by omega, by omega⟩
theorem ends_sub {ps : List (Int × Int)} {ns ms : List Int} (h : ∀ z ∈ ns, z ∈ ms) : ∀ e ∈ endsOf ps ns, e ∈ endsOf ps ms := fun e he => by
 obtain ⟨z, hz, rfl⟩ := List.mem_map.mp he
 exact List.mem_map.mpr ⟨z, h z hz, rfl⟩
theorem one_conn {n : Nat} {es : List (Nat × Nat)} (h : InN n es) : (∀ i j, i < (lms n es).length -> j < (lms n es).length -> mk (lms n es) i = mk (lms n es) j) ↔ ∀ i j, i < n -> j < n -> Conn es i j := by
 rw [lms_length]
 constructor
 ·intro q i j hi hj; exact (lms_iff h hi hj).mp (q i j hi hj)
 ·intro q i j hi hj; exact (lms_iff h hi hj).mpr (q i j hi hj)
theorem conn_perm {ps : List (Int × Int)} {ns ms : List Int} (h : ∀ z, z ∈ ns ↔ z ∈ ms) {i j : Nat} : Conn (endsOf ps ns) i j ↔ Conn (endsOf ps ms) i j :=
 ⟨fun c => c.mono (ends_sub fun z hz => (h z).mp hz), fun c => c.mono (ends_sub fun z hz => (h z).mpr hz)⟩
section
variable {K : PySem.W.Frag} {a : Addr} {xs : List V} {g : TG} {tt : TT} {te : TE} {o : Nat} {fr : List Nat} {σ : St} {H : Hp} {Q : VK}
theorem lc_enum (Pv : Nat -> List V -> Hp -> Prop) (h0 : Pv 0 [] H) (hz : xs.length < sizeLine) (hl : ∀ i ys H, i <= xs.length -> Pv i ys H -> SqL K H a xs /\ ys.length <= i)
  (hs : ∀ (i : Nat) x ys H (p : Addr), H p = none -> xs[i]? = some x -> Pv i ys H -> LcTurn Pv g tt te o fr σ i (.ref p) ys (upd H p (.tup [.int i, x]))) (hd : ∀ ys H, Pv xs.length ys H -> ∀ p, H p = none -> Q (.ref p) (upd H p (.lst ys))) : LcR (Ite K a) g tt te o fr σ H Q := by
 refine ⟨fun i m ys H => m = xs.length - i /\ i <= xs.length /\ Pv i ys H, ⟨xs.length, by simp, Nat.zero_le _, h0⟩, ?_⟩
 rintro i m ys H ⟨rfl, hi, p⟩
 obtain ⟨q, hy⟩ := hl i ys H hi p
 by_cases hlt : i < xs.length
 ·refine .inr ⟨⟨xs, xs[i], q, by simp [hlt]⟩, by omega, fun x H' ⟨T, y, hT, ex, eH, hyy⟩ => ?_⟩
  subst ex eH
  exact hs i y ys H T hT (hyy xs q) p (fun j ys H => ∃ m', m' < xs.length - i /\ m' = xs.length - j /\ j <= xs.length /\ Pv j ys H) fun ys H p' => ⟨xs.length - (i + 1), by omega, rfl, hlt, p'⟩
 ·have e : i = xs.length := by omega
  subst e
  exact .inl ⟨⟨xs, q, Nat.le_refl _⟩, by omega, hd ys H p⟩
end
def unlike (M : List Int) (ps : List (Int × Int)) (i : Nat) : List Int := ((List.range i).filter fun k => decide (mk M (ps.getD k (0, 0)).1.toNat ≠ mk M (ps.getD k (0, 0)).2.toNat)).map fun (k : Nat) => (k : Int)
def wo (ns : List Int) (z : Int) : List Int := ns.filter fun y => decide (y ≠ z)
theorem wo_mem {ns : List Int} {z y : Int} : y ∈ wo ns z ↔ y ∈ ns /\ y ≠ z := by unfold wo; rw [List.mem_filter]; simp
theorem wo_len (ns : List Int) (z : Int) : (wo ns z).length <= ns.length := List.length_filter_le _ _
theorem wo_take_succ {ns : List Int} {i : Nat} {y z : Int} (h : ns[i]? = some y) : wo (ns.take (i + 1)) z = wo (ns.take i) z ++ (if y ≠ z then [y] else []) := by
 unfold wo
 rw [List.take_succ, h, List.filter_append]
 congr 1
 by_cases e : y ≠ z
 ·rw [if_pos e]; show List.filter _ [y] = _; rw [List.filter_cons, if_pos (decide_eq_true e)]; rfl
 ·rw [if_neg e]; show List.filter _ [y] = _; rw [List.filter_cons, if_neg (by simpa using e)]; rfl
def ringA (n : Int) (ps : List (Int × Int)) (ns : List Int) (z : Int) (l : List Int) : List Int := l.filter fun y => decide (z ∈ unlike (lms n.toNat (endsOf ps (wo ns y))) ps ps.length)
theorem ringA_succ {n : Int} {ps : List (Int × Int)} {ns : List Int} {z : Int} {l : List Int} {i : Nat} {y : Int} (h : l[i]? = some y) :
  ringA n ps ns z (l.take (i + 1)) = ringA n ps ns z (l.take i) ++ (if z ∈ unlike (lms n.toNat (endsOf ps (wo ns y))) ps ps.length then [y] else []) := by
 unfold ringA
 rw [List.take_succ, h, List.filter_append]
 congr 1
 by_cases e : z ∈ unlike (lms n.toNat (endsOf ps (wo ns y))) ps ps.length
 ·rw [if_pos e]; show List.filter _ [y] = _; rw [List.filter_cons, if_pos (decide_eq_true e)]; rfl
 ·rw [if_neg e]; show List.filter _ [y] = _; rw [List.filter_cons, if_neg (by simpa using e)]; rfl
theorem ringA_len (n : Int) (ps : List (Int × Int)) (ns : List Int) (z : Int) (l : List Int) : (ringA n ps ns z l).length <= l.length := List.length_filter_le _ _
theorem unlike_mem {M : List Int} {ps : List (Int × Int)} {z : Int} (h0 : 0 <= z) (h1 : z < (ps.length : Int)) : z ∈ unlike M ps ps.length ↔ mk M (ps.getD z.toNat (0, 0)).1.toNat ≠ mk M (ps.getD z.toNat (0, 0)).2.toNat := by
 unfold unlike
 rw [List.mem_map]
 constructor
 ·rintro ⟨k, hk, rfl⟩
  have := of_decide_eq_true (List.mem_filter.mp hk).2
  rw [Int.toNat_natCast]
  exact this
 ·intro h
  exact ⟨z.toNat, List.mem_filter.mpr ⟨List.mem_range.mpr (by omega), decide_eq_true h⟩, by omega⟩
end My
namespace L2
open PySem PySem.Spec PyProof.Rows
section
variable {prog : Program} {w : World} {A : Around} {E : Value -> Shared -> Prop} {s : Shared}
theorem collect_tup {tp : Addr} {vs : List Value} {Q : List Value -> Shared -> Prop} {ot : Obj} {m : Nat} (ht : s.heap.get? tp = some ot) (hc : ot.cls = .type "tuple") (hd : ot.data = .seq vs.toArray m) (hz : vs.length <= sizeLine)
  (k : Q vs { s with heap := (s.heap.push (seqObj "list" #[] 0)).update s.heap.objs.size (Obj.mapSeq (· ++ vs.toArray)) }) : wpAny (model prog w) A (collect (.ref tp)) Q E s := by
 have ht1 : (s.heap.push (seqObj "list" #[] 0)).get? tp = some ot := Heap.get?_push_of_some _ ht
 have hL1 : (s.heap.push (seqObj "list" #[] 0)).get? s.heap.objs.size = some (seqObj "list" #[] 0) := Heap.get?_push_size _ rfl
 unfold collect
 refine wpAny_bind (wpAny_runValue (codeAny_builtin entry_proto_collect' ?_))
 show wpAny _ _ (do again (.builtin "list.__iadd__" ⟨[<- newList [], .ref tp], []⟩)) _ _ s
 refine wpAny_bind (wpAny_newList (wpAny_pure ⟨Code.quiet_builtin _ (by decide +kernel), codeAny_builtin entry_list_iadd' ?_⟩))
 show wpAny _ _ (Builtin.List.listExtendWith (.ref s.heap.objs.size) (.ref tp) (.ref s.heap.objs.size)) _ _ { s with heap := s.heap.push (seqObj "list" #[] 0) }
 unfold Builtin.List.listExtendWith
 refine wpAny_bind (wpAny_typeOf (T := "tuple") ⟨ot, ht1, hc⟩ ?_)
 rw [if_pos (by rw [show (Value.type "tuple" == Value.type "tuple") = true from rfl]; simp)]
 refine wpAny_bind (listItems_at ht1 hd ?_)
 refine wpAny_bind (listItems_at (xs := #[]) (n := 0) hL1 rfl ?_)
 rw [if_neg (by simp)]
 refine wpAny_bind (listUpdate_at (xs := #[]) (n := 0) hL1 rfl ?_ (Nat.zero_le _) (by show (#[] ++ vs.toArray).size <= sizeLine + 1; simp only [Array.size_append, List.size_toArray, List.length_nil]; omega))
 refine wpAny_pure ?_
 refine wpAny_bind (wpAny_load (get?_update_seq hL1 _) ?_)
 show wpAny _ _ (pure ((#[] : Array Value) ++ vs.toArray).toList) Q E _
 rw [show ((#[] : Array Value) ++ vs.toArray).toList = vs by simp]
 exact wpAny_pure k
end
section
variable {X : Cx}
end
section
variable {X : Cx}
def rCatU (K : PySem.W.Frag) : R2 := fun x y H Q => ∃ a b xs ys, x = .ref a /\ y = .ref b /\ SqT K H a xs /\ SqT K H b ys /\ xs.length + ys.length <= sizeLine /\
 (xs = [] -> Q (.ref b) H) /\ (xs ≠ [] -> ys = [] -> Q (.ref a) H) /\ (xs ≠ [] -> ys ≠ [] -> ∀ p, H p = none -> Q (.ref p) (upd H p (.tup (xs ++ ys))))
theorem op_catU (K : PySem.W.Frag) (hk : X.K = K := by rfl) : OpR X (binaryOp .Add) (rCatU K) := by
 intro pins s σ H x y v u Q I rx ry h
 obtain ⟨a, b, xs, ys, e1, e2, ha, hb, hz, q0, q1, q2⟩ := id h
 by_cases hx : xs = []
 ·subst hk e1 e2
  cases rx
  cases ry
  obtain ⟨its, r1, p1, _⟩ := I.tuple ha
  obtain ⟨its2, r2, p2, _⟩ := I.tuple hb
  have hi : its = [] := r1.nil_iff.mpr hx
  obtain ⟨⟨cls, dd, data, sl⟩, ho, hc, n, hd⟩ := id p1
  obtain ⟨⟨cls2, dd2, data2, sl2⟩, ho2, hc2, n2, hd2⟩ := id p2
  simp only at hc hd hc2 hd2
  subst hc hd hc2 hd2
  exact concat_meets ⟨_, ho, rfl⟩ ⟨_, ho2, rfl⟩ noFill_tuple_add seq_tuple_add PySem.F.slot_tuple_add PySem.F.entry_tuple_add (PySem.F.args_tuple_add_2 _ _)
   (tuple_addW0 a b its.toArray its2.toArray n n2 dd dd2 sl sl2 (by simp [hi])) ⟨ho, ho2, ⟨.ref b, H, I, rfl, q0 hx⟩⟩
 ·exact op_catTK K hk pins s σ H x y v u Q I rx ry ⟨a, b, xs, ys, e1, e2, ha, hb, hx, hz, q1 hx, q2 hx⟩
end
end L2
namespace My
open PySem L2
theorem lm_id {m : List Int} {a b : Nat} (h : mk m a = mk m b) : lm m a b = m := by unfold lm; rw [if_neg (fun z => z h)]
theorem cnt_less {m : List Int} {a b : Nat} (ha : a < m.length) (hb : b < m.length) : cnt m <= cnt (lm m a b) + 1 := by
 by_cases e : mk m a = mk m b
 ·rw [lm_id e]; omega
 ·have := cnt_step ha hb e; omega
theorem cnt_lms {n : Nat} : ∀ es : List (Nat × Nat), InN n es -> n <= cnt (lms n es) + es.length := by
 refine snoc_ind (fun _ => ?_) fun es x ih hn => ?_
 ·have : cnt (lms n []) = n := cnt_range n
  omega
 ·obtain ⟨h1, h2, h3⟩ := hn.snoc
  have hl := lms_length n es
  have := cnt_less (m := lms n es) (a := x.1) (b := x.2) (by omega) (by omega)
  have := ih h1
  rw [lms_snoc, List.length_append, List.length_cons, List.length_nil]
  omega
theorem cnt_pos {M : List Int} (h : 1 <= M.length) : 1 <= cnt M := by
 unfold cnt fstA
 refine List.length_pos_of_mem (a := 0) (List.mem_filter.mpr ⟨List.mem_range.mpr (by omega), fstB_iff.mpr fun i hi => absurd hi (Nat.not_lt_zero i)⟩)
theorem cnt_conn {n : Nat} {es : List (Nat × Nat)} (hn : 1 <= n) (h : InN n es) : cnt (lms n es) = 1 ↔ ∀ i j, i < n -> j < n -> Conn es i j := by
 rw [cnt_one (by rw [lms_length]; exact hn)]
 exact one_conn h
theorem wo_length {ts : List Int} {o : Int} (hn : ts.Nodup) (ho : o ∈ ts) : (wo ts o).length + 1 = ts.length := by
 induction ts with
 | nil => cases ho
 | cons x r ih =>
  obtain ⟨h1, h2⟩ := List.nodup_cons.mp hn
  unfold wo
  rw [List.filter_cons]
  by_cases e : x = o
  ·subst e
   rw [if_neg (by simp)]
   have : r.filter (fun y => decide (y ≠ x)) = r := List.filter_eq_self.mpr fun y hy => decide_eq_true fun e => h1 (e ▸ hy)
   rw [this]; rfl
  ·rw [if_pos (decide_eq_true e)]
   have := ih h2 ((List.mem_cons.mp ho).resolve_left fun z => e z.symm)
   unfold wo at this
   rw [List.length_cons, List.length_cons]
   omega
def endOf (ps : List (Int × Int)) (z : Int) : Nat × Nat := ((ps.getD z.toNat (0, 0)).1.toNat, (ps.getD z.toNat (0, 0)).2.toNat)
theorem ends_snoc (ps : List (Int × Int)) (ns : List Int) (z : Int) : endsOf ps (ns ++ [z]) = endsOf ps ns ++ [endOf ps z] := by unfold endsOf endOf; rw [List.map_append]; rfl
theorem end_in {n : Int} {ps : List (Int × Int)} {z : Int} (g : GoodW n ps) (z0 : 0 <= z) (z1 : z < (ps.length : Int)) : (endOf ps z).1 < n.toNat /\ (endOf ps z).2 < n.toNat := by
 have := ends_in (ns := [z]) g (fun y hy => by rw [List.mem_singleton.mp hy]; exact ⟨z0, z1⟩)
 exact this (endOf ps z) (by unfold endsOf endOf; simp)
theorem wo_all {n : Int} {ps : List (Int × Int)} {ts : List Int} {o : Int} (hT : IsTree n ps ts) : ∀ y ∈ wo ts o, 0 <= y /\ y < (ps.length : Int) := fun y hy => hT.1.all y (wo_mem.mp hy).1
theorem exch {n : Int} {ps : List (Int × Int)} {ts : List Int} {o z : Int} (g : GoodW n ps) (hT : IsTree n ps ts) (ho : o ∈ ts) (z0 : 0 <= z) (z1 : z < (ps.length : Int)) :
  (∀ i j, i < n.toNat -> j < n.toNat -> Conn (endsOf ps (wo ts o ++ [z])) i j) ↔ ¬ Conn (endsOf ps (wo ts o)) (endOf ps z).1 (endOf ps z).2 := by
 have hn : 1 <= n.toNat := by have := g.1; omega
 have hw := wo_length hT.1.nodup ho
 have hl : (ts.length : Int) = n - 1 := hT.2.1
 have i0 : InN n.toNat (endsOf ps (wo ts o)) := ends_in g (wo_all hT)
 have hz := end_in g z0 z1
 have ob := hT.1.all o ho
 have hoe := end_in g ob.1 ob.2
 have i1 : InN n.toNat (endsOf ps (wo ts o) ++ [endOf ps z]) := fun e he => (List.mem_append.mp he).elim (i0 e) fun q => by rw [List.mem_singleton.mp q]; exact hz
 have i2 : InN n.toNat (endsOf ps (wo ts o) ++ [endOf ps o]) := fun e he => (List.mem_append.mp he).elim (i0 e) fun q => by rw [List.mem_singleton.mp q]; exact hoe
 have hL := lms_length n.toNat (endsOf ps (wo ts o))
 have le : (endsOf ps (wo ts o)).length = (wo ts o).length := by unfold endsOf; rw [List.length_map]
 rw [ends_snoc]
 constructor
 ·intro hc c
  have h1 : cnt (lms n.toNat (endsOf ps (wo ts o) ++ [endOf ps z])) = 1 := (cnt_conn hn i1).mpr hc
  rw [lms_snoc, lm_id ((lms_iff i0 hz.1 hz.2).mpr c)] at h1
  have := cnt_lms _ i0
  omega
 ·intro hc
  have h2 : cnt (lms n.toNat (endsOf ps (wo ts o) ++ [endOf ps o])) = 1 := by
   refine (cnt_conn hn i2).mpr fun i j hi hj => ?_
   rw [<- ends_snoc]
   refine (conn_perm fun y => ?_).mp (hT.2.2 i j hi hj)
   rw [List.mem_append, wo_mem, List.mem_singleton]
   constructor
   ·intro hy
    by_cases e : y = o
    ·exact .inr e
    ·exact .inl ⟨hy, e⟩
   ·rintro (q | q)
    ·exact q.1
    ·rw [q]; exact ho
  rw [lms_snoc] at h2
  have h3 := cnt_less (m := lms n.toNat (endsOf ps (wo ts o))) (a := (endOf ps o).1) (b := (endOf ps o).2) (by omega) (by omega)
  have h4 := cnt_step (m := lms n.toNat (endsOf ps (wo ts o))) (a := (endOf ps z).1) (b := (endOf ps z).2) (by omega) (by omega) (fun e => hc ((lms_iff i0 hz.1 hz.2).mp e))
  have h5 := cnt_pos (M := lm (lms n.toNat (endsOf ps (wo ts o))) (endOf ps z).1 (endOf ps z).2) (by rw [lm_length]; omega)
  refine (cnt_conn hn i1).mp ?_
  rw [lms_snoc]
  omega
def cutT (n : Int) (ps : List (Int × Int)) (ts : List Int) (o : Int) : List Int := unlike (lms n.toNat (endsOf ps (wo ts o))) ps ps.length
theorem unlike_bnd {M : List Int} {ps : List (Int × Int)} {i : Nat} {z : Int} (h : z ∈ unlike M ps i) : 0 <= z /\ z < (i : Int) := by
 unfold unlike at h
 obtain ⟨k, hk, rfl⟩ := List.mem_map.mp h
 have := List.mem_range.mp (List.mem_filter.mp hk).1
 omega
theorem cutT_mem {n : Int} {ps : List (Int × Int)} {ts : List Int} {o z : Int} (g : GoodW n ps) (hT : IsTree n ps ts) (z0 : 0 <= z) (z1 : z < (ps.length : Int)) : z ∈ cutT n ps ts o ↔ ¬ Conn (endsOf ps (wo ts o)) (endOf ps z).1 (endOf ps z).2 := by
 have hz := end_in g z0 z1
 unfold cutT
 rw [unlike_mem z0 z1]
 exact not_congr (lms_iff (ends_in g (wo_all hT)) hz.1 hz.2)
def exg (n : Int) (ps : List (Int × Int)) (ts : List Int) (o z : Int) : Prop := o ∈ ts /\ z ≠ o /\ z ∈ cutT n ps ts o
instance (n : Int) (ps : List (Int × Int)) (ts : List Int) (o z : Int) : Decidable (exg n ps ts o z) := by unfold exg; infer_instance
theorem exg_iff {n : Int} {ps : List (Int × Int)} {ts : List Int} {o z : Int} (g : GoodW n ps) (hT : IsTree n ps ts) :
  exg n ps ts o z ↔ o ∈ ts /\ z ∉ ts /\ 0 <= z /\ z < (ps.length : Int) /\ ∀ i j, i < n.toNat -> j < n.toNat -> Conn (endsOf ps (wo ts o ++ [z])) i j := by
 constructor
 ·rintro ⟨h1, h2, h3⟩
  obtain ⟨z0, z1⟩ := unlike_bnd h3
  have hc := (cutT_mem g hT z0 z1).mp h3
  refine ⟨h1, fun hz => hc ?_, z0, z1, (exch g hT h1 z0 z1).mpr hc⟩
  refine .edge ?_
  exact List.mem_map.mpr ⟨z, wo_mem.mpr ⟨hz, h2⟩, rfl⟩
 ·rintro ⟨h1, h2, z0, z1, hc⟩
  exact ⟨h1, fun e => h2 (e ▸ h1), (cutT_mem g hT z0 z1).mpr ((exch g hT h1 z0 z1).mp hc)⟩
theorem PairsV.mut {H : Hp} {l : Addr} {ys zs xs : List V} {ps : List (Int × Int)} (hP : PairsV H xs ps) (hl : H l = some (.lst ys)) : PairsV (upd H l (.lst zs)) xs ps := by
 refine ⟨hP.1, fun j p e => ?_⟩
 obtain ⟨v, e1, tt, e2, e3⟩ := hP.2 j p e
 exact ⟨v, e1, tt, e2, by rw [upd_ne (ne_of e3 hl (fun z => nomatch z))]; exact e3⟩
end My
namespace L2
open PySem PySem.Spec PyProof.Rows
section
variable {prog : Program} {w : World} {A : Around} {E : Value -> Shared -> Prop} {s : Shared}
end
section
variable {prog : Program} {w : World} {A : Around} {E : Value -> Shared -> Prop} {s : Shared} {it a : Addr} {items : Array Value}
end
section
variable {X : Cx} {p p2 pos pos2 : Pos} {e : Expr} {t : TA}
end
section
variable {prog : Program} {w : World} {A : Around} {E : Value -> Shared -> Prop} {s : Shared}
end
section
variable {X : Cx}
end
end L2
namespace My
open PySem L2
end My
namespace L2
open PySem PySem.Spec PyProof.Rows
section
variable {X : Cx}
def refB (e : Addr -> Bool) : V -> Bool
 | .ref a => e a
 | _ => false
theorem any_refB {e : Addr -> Bool} : ∀ {xs : List V} {us : List Value}, Vals xs us -> (∀ v ∈ xs, ∃ a, v = .ref a) -> (us.any fun u => match u with | .ref a => e a | _ => false) = xs.any (refB e)
 | _, _, .nil, _ => rfl
 | x :: xs, u :: us, .cons r t, h => by
  obtain ⟨a, rfl⟩ := h x List.mem_cons_self
  obtain rfl : u = Value.ref a := r
  rw [List.any_cons, List.any_cons, any_refB t fun v hv => h v (List.mem_cons_of_mem _ hv)]
  rfl
theorem mem_refB {e : Addr -> Bool} {n : Nat} {x : V} {w : Value} {pins : List (Addr × Obj)} {σ : St} {H : Hp} {s : Shared} (I : Inv X pins σ H s) {A : Around} (hu : A.units + n < cLine) (rx : RelV x w) : ∀ {xs : List V} {us : List Value}, Vals xs us -> (∀ v ∈ xs, ∃ a, v = .ref a /\ EqD X.K H n v x (e a)) -> ∀ u ∈ us, SeqAt.EqAt A s u w (match u with | .ref a => e a | _ => false)
 | _, _, .nil, _ => fun u hu => by cases hu
 | y :: xs, u :: us, .cons r t, h => fun u' hu' => by
  rcases List.mem_cons.mp hu' with rfl | hu'
  ·obtain ⟨a, rfl, q⟩ := h y List.mem_cons_self
   obtain rfl : u' = Value.ref a := r
   exact q.at I hu rfl rx
  ·exact mem_refB I hu rx t (fun v hv => h v (List.mem_cons_of_mem _ hv)) u' hu'
end
end L2
namespace My
open PySem L2
theorem cut_own {n : Int} {ps : List (Int × Int)} {ts : List Int} {o y : Int} (g : GoodW n ps) (hT : IsTree n ps ts) (ho : o ∈ ts) (hy : y ∈ ts) : y ∈ cutT n ps ts o ↔ y = o := by
 have yb := hT.1.all y hy
 rw [cutT_mem g hT yb.1 yb.2]
 constructor
 ·intro h
  by_cases e : y = o
  ·exact e
  ·exact absurd (.edge (List.mem_map.mpr ⟨y, wo_mem.mpr ⟨hy, e⟩, rfl⟩)) h
 ·rintro rfl
  refine (exch g hT hy yb.1 yb.2).mp fun i j hi hj => (conn_perm fun z => ?_).mp (hT.2.2 i j hi hj)
  rw [List.mem_append, wo_mem, List.mem_singleton]
  constructor
  ·intro hz
   by_cases e : z = y
   ·exact .inr e
   ·exact .inl ⟨hz, e⟩
  ·rintro (q | q)
   ·exact q.1
   ·rw [q]; exact hy
theorem ringA_mem {n : Int} {ps : List (Int × Int)} {ts l : List Int} {z y : Int} : y ∈ ringA n ps ts z l ↔ y ∈ l /\ z ∈ cutT n ps ts y := by
 unfold ringA
 rw [List.mem_filter, decide_eq_true_iff]
 exact Iff.rfl
theorem exg_tree {n : Int} {ps : List (Int × Int)} {ts ms : List Int} {o z : Int} (g : GoodW n ps) (hT : IsTree n ps ts) (hx : exg n ps ts o z) (hpm : ms.Perm (wo ts o ++ [z])) (hpw : ms.Pairwise (· <= ·)) : IsTree n ps ms := by
 obtain ⟨ho, hz, z0, z1, hc⟩ := (exg_iff g hT).mp hx
 have nd : (wo ts o ++ [z]).Nodup := nd_snoc (hT.1.nodup.sublist List.filter_sublist) fun h => hz (wo_mem.mp h).1
 have ndm : ms.Nodup := hpm.nodup_iff.mpr nd
 have hl := wo_length hT.1.nodup ho
 have hl2 := hpm.length_eq
 rw [List.length_append, List.length_singleton] at hl2
 refine ⟨isSet_iff.mpr ⟨fun y hy => ?_, (List.pairwise_and_iff.mpr ⟨hpw, ndm⟩).imp fun {x y} h => by have := h.1; have := h.2; omega⟩, by rw [hl2, hl]; exact hT.2.1, fun i j hi hj => (conn_perm fun y => hpm.mem_iff).mpr (hc i j hi hj)⟩
 rcases List.mem_append.mp (hpm.mem_iff.mp hy) with h | h
 ·exact hT.1.all y (wo_mem.mp h).1
 ·rw [List.mem_singleton.mp h]; exact ⟨z0, z1⟩
section
variable {n : Int} {ps : List (Int × Int)} {ts ms : List Int} {o z : Int} (g : GoodW n ps) (hT : IsTree n ps ts) (hx : exg n ps ts o z) (hpm : ms.Perm (wo ts o ++ [z])) (hpw : ms.Pairwise (· <= ·))
include g hT hx hpm hpw
theorem exg_mem {y : Int} : y ∈ ms ↔ (y ∈ ts /\ y ≠ o) \/ y = z := by
 rw [hpm.mem_iff, List.mem_append, wo_mem, List.mem_singleton]
end
theorem lex_trans : ∀ {a b c : List Int}, HT.lexLt a b = true -> HT.lexLt b c = true -> HT.lexLt a c = true
 | [], [], _, h, _ => by cases h
 | [], _ :: _, [], _, h => by cases h
 | [], _ :: _, _ :: _, _, _ => rfl
 | _ :: _, [], _, h, _ => by cases h
 | _ :: _, _ :: _, [], _, h => by cases h
 | x :: xs, y :: ys, z :: zs, h1, h2 => by
  rw [HT.lexLt_cons] at h1 h2 ⊢
  by_cases e1 : x = y
  ·subst e1
   rw [if_pos rfl] at h1
   by_cases e2 : x = z
   ·subst e2
    rw [if_pos rfl] at h2 ⊢
    exact lex_trans h1 h2
   ·rw [if_neg e2] at h2 ⊢
    exact h2
  ·rw [if_neg e1] at h1
   have h1 := of_decide_eq_true h1
   by_cases e2 : y = z
   ·subst e2
    rw [if_neg e1]
    exact decide_eq_true h1
   ·rw [if_neg e2] at h2
    have h2 := of_decide_eq_true h2
    rw [if_neg (by omega)]
    exact decide_eq_true (by omega)
theorem lex_irrefl : ∀ a : List Int, HT.lexLt a a = false
 | [] => rfl
 | x :: xs => by rw [HT.lexLt_cons, if_pos rfl]; exact lex_irrefl xs
theorem best_le (bt : Nat -> Nat -> Bool) : ∀ j, argBest bt j <= j
 | 0 => Nat.le_refl _
 | j + 1 => by
  unfold argBest
  split
  ·exact Nat.le_refl _
  ·have := best_le bt j; omega
end My
namespace L2
open PySem PySem.Spec PyProof.Rows
section
variable {prog : Program} {w : World} {A : Around} {I S : Addr} {fp wr : List Addr} {n : Nat} {P : Nat -> Value -> Prop} {St : Nat -> Heap -> Prop} {R : Result -> Shared -> Prop}
end
section
variable {X : Cx}
end
end L2
namespace My
open PySem L2
def nxt (s : List Int) : Int := match s.getLast? with | none => 0 | some x => x + 1
def ext1 (m : Int) (s : List Int) : List (List Int) := (List.range (m - nxt s).toNat).map fun (i : Nat) => s ++ [nxt s + (i : Int)]
def cmb (m : Int) : Nat -> List (List Int)
 | 0 => [[]]
 | k + 1 => (cmb m k).flatMap (ext1 m)
theorem nxt_snoc (s : List Int) (x : Int) : nxt (s ++ [x]) = x + 1 := by unfold nxt; rw [List.getLast?_append]; rfl
theorem ext1_mem {m : Int} {s l : List Int} : l ∈ ext1 m s ↔ ∃ t, nxt s <= t /\ t < m /\ l = s ++ [t] := by
 unfold ext1
 rw [List.mem_map]
 constructor
 ·rintro ⟨i, hi, rfl⟩
  have := List.mem_range.mp hi
  exact ⟨_, by omega, by omega, rfl⟩
 ·rintro ⟨t, h1, h2, rfl⟩
  exact ⟨(t - nxt s).toNat, List.mem_range.mpr (by omega), by rw [show nxt s + (((t - nxt s).toNat : Nat) : Int) = t by omega]⟩
theorem asc_snoc {m : Nat} {s : List Int} {t : Int} : IsSet m (s ++ [t]) ↔ IsSet m s /\ nxt s <= t /\ 0 <= t /\ t < (m : Int) := by
 rw [isSet_iff, isSet_iff, List.pairwise_append]
 have last : (∀ a ∈ s, ∀ b ∈ [t], a < b) /\ s.Pairwise (· < ·) -> nxt s <= t \/ t < 0 := by
  rintro ⟨h, _⟩
  unfold nxt
  cases e : s.getLast? with
  | none => by_cases h0 : 0 <= t; exact .inl h0; exact .inr (by omega)
  | some x => have := h x (List.mem_of_getLast? e) t (by simp); exact .inl (by show x + 1 <= t; omega)
 constructor
 ·rintro ⟨h1, h2, _, h3⟩
  have ht := h1 t (by simp)
  refine ⟨⟨fun z hz => h1 z (List.mem_append_left _ hz), h2⟩, ?_, ht⟩
  rcases last ⟨h3, h2⟩ with h | h
  ·exact h
  ·omega
 ·rintro ⟨⟨h1, h2⟩, h3, h4, h5⟩
  refine ⟨fun z hz => ?_, h2, List.pairwise_singleton .., fun a ha b hb => ?_⟩
  ·rcases List.mem_append.mp hz with h | h
   ·exact h1 z h
   ·rw [List.mem_singleton.mp h]; exact ⟨h4, h5⟩
  ·rw [List.mem_singleton.mp hb]
   have key : ∀ {s : List Int} {a : Int}, s.Pairwise (· < ·) -> a ∈ s -> a < nxt s := by
    refine fun {s} => snoc_ind (P := fun s => ∀ {a : Int}, s.Pairwise (· < ·) -> a ∈ s -> a < nxt s) (fun {a} _ h => by cases h) (fun l x ih {a} hp h => ?_) s
    rw [nxt_snoc]
    rw [List.pairwise_append] at hp
    rcases List.mem_append.mp h with h | h
    ·have := hp.2.2 a h x (by simp); omega
    ·rw [List.mem_singleton.mp h]; omega
   have := key h2 ha
   omega
theorem cmb_mem {m : Nat} : ∀ {k : Nat} {l : List Int}, l ∈ cmb (m : Int) k ↔ l.length = k /\ IsSet m l
 | 0, l => by
  show l ∈ [[]] ↔ _
  rw [List.mem_singleton]
  constructor
  ·rintro rfl; exact ⟨rfl, fun i z e => by simp at e⟩
  ·rintro ⟨h, _⟩; exact List.length_eq_zero_iff.mp h
 | k + 1, l => by
  show l ∈ (cmb (m : Int) k).flatMap (ext1 m) ↔ _
  rw [List.mem_flatMap]
  constructor
  ·rintro ⟨s, hs, hl⟩
   obtain ⟨t, h1, h2, rfl⟩ := ext1_mem.mp hl
   obtain ⟨e, hI⟩ := cmb_mem.mp hs
   have n0 : 0 <= nxt s := by
    unfold nxt
    cases q : s.getLast? with
    | none => exact Int.le_refl 0
    | some x => have := (hI.all x (List.mem_of_getLast? q)).1; show 0 <= x + 1; omega
   exact ⟨by rw [List.length_append, e]; rfl, asc_snoc.mpr ⟨hI, h1, by omega, h2⟩⟩
  ·rintro ⟨e, hI⟩
   have hne : l ≠ [] := fun z => by rw [z] at e; simp at e
   obtain ⟨s, t, rfl⟩ : ∃ s t, l = s ++ [t] := ⟨l.dropLast, l.getLast hne, (List.dropLast_concat_getLast hne).symm⟩
   obtain ⟨h1, h2, h3, h4⟩ := asc_snoc.mp hI
   exact ⟨s, cmb_mem.mpr ⟨by rw [List.length_append] at e; simpa using e, h1⟩, ext1_mem.mpr ⟨t, h2, h4, rfl⟩⟩
theorem asc_sub : ∀ {w t : List Int}, t.Pairwise (· < ·) -> w.Pairwise (· < ·) -> (∀ z ∈ t, z ∈ w) -> t.Sublist w
 | [], [], _, _, _ => List.Sublist.slnil
 | [], x :: t, _, _, h => absurd (h x List.mem_cons_self) (by simp)
 | y :: w, [], _, _, _ => List.nil_sublist _
 | y :: w, x :: t, ht, hw, h => by
  obtain ⟨h1, h2⟩ := List.pairwise_cons.mp ht
  obtain ⟨h3, h4⟩ := List.pairwise_cons.mp hw
  by_cases e : x = y
  ·subst e
   refine List.Sublist.cons₂ _ (asc_sub h2 h4 fun z hz => ?_)
   rcases List.mem_cons.mp (h z (List.mem_cons_of_mem _ hz)) with q | q
   ·have := h1 z hz; omega
   ·exact q
  ·have hx : x ∈ w := (List.mem_cons.mp (h x List.mem_cons_self)).resolve_left e
   refine List.Sublist.cons _ (asc_sub ht h4 fun z hz => ?_)
   rcases List.mem_cons.mp (h z hz) with q | q
   ·have := h3 x hx
    rcases List.mem_cons.mp hz with q2 | q2
    ·rw [q2]; exact hx
    ·have := h1 z q2; omega
   ·exact q
def pmf (M : List Int) (es : List (Nat × Nat)) : List Int := es.foldl (fun m e => pm m e.1 e.2) M
theorem pmf_snoc (M : List Int) (es : List (Nat × Nat)) (e : Nat × Nat) : pmf M (es ++ [e]) = pm (pmf M es) e.1 e.2 := by unfold pmf; rw [List.foldl_append]; rfl
theorem pmf_length (M : List Int) : ∀ es : List (Nat × Nat), (pmf M es).length = M.length := by
 intro es
 unfold pmf
 induction es generalizing M with
 | nil => rfl
 | cons e l ih => rw [List.foldl_cons, ih, pm_length]
theorem cut_upto {xs : List V} {i : Int} (h0 : 0 <= i) : cutV xs none (some i) = xs.take i.toNat := by
 have e : HT.sIx xs.length xs.length (some i) = min i.toNat xs.length := by
  show (if i < 0 then (i + (xs.length : Int)).toNat else min i.toNat xs.length) = _
  rw [if_neg (by omega)]
 unfold cutV
 rw [e, HT.sIx_none, List.drop_zero, Nat.sub_zero]
 by_cases h : i.toNat <= xs.length
 ·rw [Nat.min_eq_left h]
 ·rw [Nat.min_eq_right (by omega), List.take_of_length_le (Nat.le_refl _), List.take_of_length_le (by omega)]
def rgL (m : Nat) : List Int := (List.range m).map fun (i : Nat) => (i : Int)
theorem rgL_mem {m : Nat} {z : Int} : z ∈ rgL m ↔ 0 <= z /\ z < (m : Int) := by
 unfold rgL
 rw [List.mem_map]
 constructor
 ·rintro ⟨i, hi, rfl⟩
  have := List.mem_range.mp hi
  omega
 ·intro h
  exact ⟨z.toNat, List.mem_range.mpr (by omega), by omega⟩
theorem rgL_length (m : Nat) : (rgL m).length = m := by unfold rgL; simp
theorem rngI_rgL (m : Nat) : rngI 0 (m : Int) = rgL m := by
 unfold rngI rgL
 rw [Int.sub_zero, Int.toNat_natCast]
 exact List.map_congr_left fun i _ => by omega
def Joined (n : Int) (ps : List (Int × Int)) : Prop := ∀ i j, i < n.toNat -> j < n.toNat -> Conn (endsOf ps (rgL ps.length)) i j
end My
namespace L2
open PySem PySem.Spec PyProof.Rows
section
variable {prog : Program} {w : World} {A : Around} {E : Value -> Shared -> Prop} {s : Shared}
theorem collect_rng {r : Addr} {a b c : Int} {t u v : Tok} {n : Nat} {Q : List Value -> Shared -> Prop} (hh : A.handled = none) (hr : IsRange s.heap r a b c t u v) (hm : Builtin.Range.small a b c = true) (hn : Builtin.Range.rangeSize a b c = n) (hl : n <= 2 ^ 24)
  (k : ∀ (h' : Heap) (tk : Nat) (acc : Array Value), (∀ b o, s.heap.get? b = some o -> h'.get? b = some o) -> ItemsOf (fun i v => ∃ t, v = .int (a + i * c) t) acc n -> Q acc.toList { s with heap := h', toks := tk }) : wpAny (model prog w) A (collect (.ref r)) Q E s := by
 have hL1 : (s.heap.push (seqObj "list" #[] 0)).get? s.heap.objs.size = some (seqObj "list" #[] 0) := Heap.get?_push_size _ rfl
 unfold collect
 refine wpAny_bind (wpAny_runValue (codeAny_builtin entry_proto_collect' ?_))
 show wpAny _ A.in1 (do again (.builtin "list.__iadd__" ⟨[<- newList [], .ref r], []⟩)) _ _ s
 refine wpAny_bind (wpAny_newList (wpAny_pure ⟨Code.quiet_builtin _ (by decide +kernel), codeAny_builtin entry_list_iadd' ?_⟩))
 show wpAny _ A.in1 (Builtin.List.listExtendWith (.ref s.heap.objs.size) (.ref r) (.ref s.heap.objs.size)) _ _ { s with heap := s.heap.push (seqObj "list" #[] 0) }
 refine wpAny_mono (wpAny_extend_range (A := A) (R := fun x s' => ∃ (h' : Heap) (tk : Nat) (acc : Array Value) (c' : Nat), x = .ok (.ret (.ref s.heap.objs.size)) /\ s' = { s with heap := h', toks := tk } /\ (∀ b o, s.heap.get? b = some o -> h'.get? b = some o) /\
   h'.get? s.heap.objs.size = some { cls := .type "list", dict := none, data := .seq acc c', slots := #[] } /\ ItemsOf (fun i v => ∃ t, v = .int (a + i * c) t) acc n)
  (s := { s with heap := s.heap.push (seqObj "list" #[] 0) }) hh (Heap.get?_push_of_some _ hr) hm hn hl _ _ 0 hL1 fun h' tk acc c' k1 k2 k3 => ⟨h', tk, acc, c', rfl, rfl, fun b o e => k1 b o (Nat.ne_of_lt (Heap.lt_size e)) (Heap.get?_push_of_some _ e), k2, k3⟩) (fun fin s' z => ?_) (fun e s' z => ?_)
 ·cases fin with
  | done f =>
   obtain ⟨h', tk, acc, c', e, rfl, k1, k2, k3⟩ := z
   cases e
   refine wpAny_bind (wpAny_load k2 ?_)
   exact wpAny_pure (k h' tk acc k1 k3)
  | again c' =>
   refine ⟨z.1, codeAny_mono z.2 fun x s2 z => ?_⟩
   obtain ⟨h', tk, acc, c', rfl, rfl, k1, k2, k3⟩ := z
   refine wpAny_bind (wpAny_load k2 ?_)
   exact wpAny_pure (k h' tk acc k1 k3)
 ·obtain ⟨h', tk, acc, c', e, _⟩ := z
  cases e
theorem new_tuple_rng {r : Addr} {a b c : Int} {t u v : Tok} {n : Nat} (hm : Builtin.Range.small a b c = true) (hn : Builtin.Range.rangeSize a b c = n) (hl : n <= 2 ^ 24) :
  Meets (Builtin.«tuple.__new__» ⟨[.type "tuple", .ref r], []⟩) (fun A R s => A.handled = none /\ IsRange s.heap r a b c t u v /\ ∀ (h' : Heap) (tk : Nat) (acc : Array Value), (∀ b o, s.heap.get? b = some o -> h'.get? b = some o) -> ItemsOf (fun i v => ∃ t, v = .int (a + i * c) t) acc n ->
   R (.ok (.ret (.ref h'.objs.size))) { s with heap := h'.push (seqObj "tuple" acc 0), toks := tk }) :=
 .of_wp fun prog w A R s h => by
  obtain ⟨hh, hr, h⟩ := h
  have e1 := sub_tuple_self
  have e2 := init_tuple_lookup
  have e3 := madeHere_tuple
  have hT : s.TypeIs (.ref r) "range" := ⟨_, hr, rfl⟩
  have hh1 : A.in1.handled = none := hh
  wp_walk using wpAny_typeOf hT, collect_rng hh1 hr hm hn hl
  intro h' tk acc hk hacc
  show wpAny _ _ (Builtin.Tuple.tupleExact acc.toList.toArray >>= ret) _ _ _
  unfold Builtin.Tuple.tupleExact
  have e : acc.toList.toArray = acc := by simp
  rw [e]
  refine wpAny_bind (wpAny_newObj_type ?_ (by show acc.size <= sizeLine; rw [hacc.1, sizeLine_eq]; exact hl))
  exact wpAny_pure ⟨_, rfl, h h' tk acc hk hacc⟩
theorem call_tuple_range {r : Addr} {a b c : Int} {t u v : Tok} {n : Nat} {Q : Value -> Shared -> Prop} (hh : A.handled = none) (hr : IsRange s.heap r a b c t u v) (hm : Builtin.Range.small a b c = true) (hn : Builtin.Range.rangeSize a b c = n) (hl : n <= 2 ^ 24)
  (k : ∀ (h' : Heap) (tk : Nat) (acc : Array Value), (∀ b o, s.heap.get? b = some o -> h'.get? b = some o) -> ItemsOf (fun i v => ∃ t, v = .int (a + i * c) t) acc n -> Q (.ref h'.objs.size) { s with heap := h'.push (seqObj "tuple" acc 0), toks := tk }) : wpAny (model prog w) A (call (.type "tuple") [.ref r]) Q E s :=
 callType_new F.called_tuple (by decide) (F.typeCall_tuple_1 _) (F.newCall_tuple_1 _) (fun o => F.args_object_init_2 o _) F.entry_tuple_new (new_tuple_rng (t := t) (u := u) (v := v) hm hn hl)
  ⟨hh, hr, fun h' tk acc hk hacc => ⟨⟨_, Heap.get?_push_size _ rfl, rfl⟩, k h' tk acc hk hacc⟩⟩
end
section
variable {X : Cx}
theorem call_tuple_rng (hc : X.calm = true) : CallR X (.type "tuple") (fun xs H Q => ∃ p lo hi, xs = [.ref p] /\ H p = some (.rng lo hi) /\ (-(2 ^ 62) <= lo /\ lo < 2 ^ 62 /\ -(2 ^ 62) <= hi /\ hi < 2 ^ 62) /\ (hi - lo).toNat <= 16777216 /\
  ∀ l, H l = none -> Q (.ref l) (upd H l (.tup ((rngI lo hi).map V.int)))) := by
 intro pins s σ H xs us Q I r h
 obtain ⟨p, lo, hi, rfl, hp, ⟨b1, b2, b3, b4⟩, hz, q⟩ := h
 obtain ⟨u, rfl, ru⟩ := vals1 r
 obtain rfl : u = Value.ref p := ru
 obtain ⟨t, u, v, e⟩ := (show ObjOk X.prog X.w H s.heap p (.rng lo hi) from I.hok p _ hp)
 have hn : Builtin.Range.rangeSize lo hi 1 = (((hi - lo).toNat : Nat) : Int) := by rw [rangeSize_one]; split <;> omega
 refine call_tuple_range (I.ok.hd hc) (t := t) (u := u) (v := v) e (small_one b1 b2 b3 b4) hn hz fun h' tk acc hk ha => ?_
 have hl : acc.toList.length = (hi - lo).toNat := by rw [Array.length_toList]; exact ha.1
 have rv : Vals ((rngI lo hi).map V.int) acc.toList := vals_rng (lo := lo) hl fun j w ew => by
  obtain ⟨t, e⟩ := ha.2 j w (by simpa using ew)
  exact ⟨t, by rw [e, Int.mul_one]⟩
 have I1 : Inv X pins σ H { s with heap := h', toks := tk } := I.kept (t' := tk) hk
 have hz2 : ((rngI lo hi).map V.int).length <= sizeLine := by
  rw [List.length_map, rngI_length]
  have : sizeLine = 16777216 := sizeLine_eq
  omega
 have I2 : Inv X pins σ (upd H h'.objs.size (.tup ((rngI lo hi).map V.int))) { s with heap := h'.push (seqObj "tuple" acc.toList.toArray 0), toks := tk } :=
  I1.laid (t' := tk) (fun b o e => Heap.get?_push_of_some _ e) (Nat.le_refl _) (show ObjOk X.prog X.w _ _ _ (.tup ((rngI lo hi).map V.int)) from ⟨hz2, acc.toList, rv, IsTup.new _ _⟩)
 have ea : acc.toList.toArray = acc := by simp
 rw [ea] at I2
 exact ⟨.ref h'.objs.size, _, I2, rfl, q _ (I1.hok.fresh (Nat.le_refl _))⟩
end
end L2
namespace My
open PySem L2
def gst (n : Nat) (ps : List (Int × Int)) (G : List Int) (z : Int) : List Int := if mk (lms n (endsOf ps G)) (endOf ps z).1 = mk (lms n (endsOf ps G)) (endOf ps z).2 then G else G ++ [z]
def grw (n : Nat) (ps : List (Int × Int)) (zs : List Int) : List Int := zs.foldl (gst n ps) []
theorem grw_snoc (n : Nat) (ps : List (Int × Int)) (zs : List Int) (z : Int) : grw n ps (zs ++ [z]) = gst n ps (grw n ps zs) z := by unfold grw; rw [List.foldl_append]; rfl
theorem grw_app (n : Nat) (ps : List (Int × Int)) (zs : List Int) : ∀ ys, ∃ us, grw n ps (zs ++ ys) = grw n ps zs ++ us /\ us.Sublist ys := by
 refine snoc_ind ⟨[], by simp⟩ fun ys y ih => ?_
 obtain ⟨us, e, s⟩ := ih
 rw [<- List.append_assoc, grw_snoc, e]
 unfold gst
 split
 ·exact ⟨us, rfl, s.trans (List.sublist_append_left _ _)⟩
 ·exact ⟨us ++ [y], by rw [List.append_assoc], s.append (List.Sublist.refl _)⟩
theorem grw_sub (n : Nat) (ps : List (Int × Int)) (zs : List Int) : (grw n ps zs).Sublist zs := by
 obtain ⟨us, e, s⟩ := grw_app n ps [] zs
 rw [List.nil_append] at e
 rw [e]
 exact s
theorem grw_all {n : Nat} {ps : List (Int × Int)} {zs : List Int} (h : ∀ z ∈ zs, 0 <= z /\ z < (ps.length : Int)) : ∀ z ∈ grw n ps zs, 0 <= z /\ z < (ps.length : Int) := fun z hz => h z ((grw_sub n ps zs).subset hz)
theorem grw_in {n : Int} {ps : List (Int × Int)} (g : GoodW n ps) {zs : List Int} (h : ∀ z ∈ zs, 0 <= z /\ z < (ps.length : Int)) : InN n.toNat (endsOf ps (grw n.toNat ps zs)) := ends_in g (grw_all h)
theorem grw_cnt {n : Int} {ps : List (Int × Int)} (g : GoodW n ps) : ∀ zs : List Int, (∀ z ∈ zs, 0 <= z /\ z < (ps.length : Int)) -> cnt (lms n.toNat (endsOf ps (grw n.toNat ps zs))) + (grw n.toNat ps zs).length = n.toNat := by
 refine snoc_ind (fun _ => cnt_range n.toNat) fun zs z ih h => ?_
 have h1 : ∀ z ∈ zs, 0 <= z /\ z < (ps.length : Int) := fun y hy => h y (List.mem_append_left _ hy)
 have ih := ih h1
 obtain ⟨z0, z1⟩ := h z (List.mem_append_right _ (List.mem_singleton.mpr rfl))
 have he := end_in (z := z) g z0 z1
 have hl := lms_length n.toNat (endsOf ps (grw n.toNat ps zs))
 rw [grw_snoc]
 unfold gst
 split
 ·exact ih
 ·rename_i h
  rw [ends_snoc, lms_snoc, List.length_append, List.length_singleton]
  have := cnt_step (m := lms n.toNat (endsOf ps (grw n.toNat ps zs))) (by omega) (by omega) h
  omega
theorem grw_len {n : Int} {ps : List (Int × Int)} (g : GoodW n ps) {zs : List Int} (h : ∀ z ∈ zs, 0 <= z /\ z < (ps.length : Int)) : (grw n.toNat ps zs).length <= 14 := by
 have := grw_cnt g zs h
 have := g.2.1
 omega
theorem grw_conn {n : Int} {ps : List (Int × Int)} (g : GoodW n ps) : ∀ zs : List Int, (∀ z ∈ zs, 0 <= z /\ z < (ps.length : Int)) -> ∀ {i j : Nat}, Conn (endsOf ps zs) i j -> Conn (endsOf ps (grw n.toNat ps zs)) i j := by
 refine snoc_ind (fun _ _ _ c => c) fun zs z IH h i j c => ?_
 have h1 : ∀ z ∈ zs, 0 <= z /\ z < (ps.length : Int) := fun y hy => h y (List.mem_append_left _ hy)
 obtain ⟨z0, z1⟩ := h z (List.mem_append_right _ (List.mem_singleton.mpr rfl))
 have he := end_in (z := z) g z0 z1
 have up : ∀ {a b : Nat}, Conn (endsOf ps (grw n.toNat ps zs)) a b -> Conn (endsOf ps (grw n.toNat ps (zs ++ [z]))) a b := fun c => by
  rw [grw_snoc]
  unfold gst
  split
  ·exact c
  ·exact c.mono (ends_sub fun y hy => List.mem_append_left _ hy)
 have own : Conn (endsOf ps (grw n.toNat ps (zs ++ [z]))) (endOf ps z).1 (endOf ps z).2 := by
  rw [grw_snoc]
  unfold gst
  split
  ·rename_i e
   exact (lms_iff (grw_in g h1) he.1 he.2).mp e
  ·rw [ends_snoc]
   exact .edge (List.mem_append_right _ (List.mem_singleton.mpr rfl))
 induction c with
 | refl i => exact .refl i
 | symm _ ih => exact .symm ih
 | trans _ _ i1 i2 => exact .trans i1 i2
 | @edge a b e =>
  rw [ends_snoc] at e
  rcases List.mem_append.mp e with e | e
  ·exact up (IH h1 (.edge e))
  ·have e := List.mem_singleton.mp e
   have ea : a = (endOf ps z).1 := congrArg Prod.fst e
   have eb : b = (endOf ps z).2 := congrArg Prod.snd e
   rw [ea, eb]
   exact own
end My
namespace PyProof.Rows
open PySem
abbrev dK : Keyed := (Value.none, Value.none)
section
variable {M : Model} {A : Around} {E : Value -> Shared -> Prop} {s : Shared} {O : KeyOrd} {key : Keyed -> O.α} {kd : SortKind} {S : Keyed -> Prop}
def ke (key : Keyed -> O.α) (arr : Array Keyed) (i : Nat) : O.α := key (arr.getD i dK)
end
section
variable {M : Model} {A : Around} {E : Value -> Shared -> Prop} {s : Shared} {O : KeyOrd} {key : Keyed -> O.α} {kd : SortKind} {S : Keyed -> Prop}
def RK (O : KeyOrd) (key : Keyed -> O.α) (x y : Keyed) : Prop := O.kle (key x) (key y)
structure MI (O : KeyOrd) (key : Keyed -> O.α) (la lb : List Keyed) (out : Array Keyed) (ia ib : Nat) : Prop where
 so : out.toList.Pairwise (RK O key)
 oa : ∀ x ∈ out.toList, ∀ y ∈ la.drop ia, RK O key x y
 ob : ∀ x ∈ out.toList, ∀ y ∈ lb.drop ib, RK O key x y
 pm : (out.toList ++ la.drop ia ++ lb.drop ib).Perm (la ++ lb)
abbrev LoS := Option (Array Keyed) × Array Keyed × Nat × Nat × Nat × Nat × Nat
section
variable {a b out : Array Keyed} {ia ib : Nat} {st : SortSt} {R : ForInStep LoS -> SortSt -> Prop}
end
section
variable {a b : Array Keyed} {st : SortSt}
end
end
section
variable {M : Model} {A : Around} {E : Value -> Shared -> Prop} {s : Shared} {O : KeyOrd} {key : Keyed -> O.α} {kd : SortKind} {S : Keyed -> Prop}
structure MH (O : KeyOrd) (key : Keyed -> O.α) (la lb : List Keyed) (out : Array Keyed) (na nb : Nat) : Prop where
 so : out.toList.Pairwise fun x y => RK O key y x
 oa : ∀ x ∈ la.take na, ∀ y ∈ out.toList, RK O key x y
 ob : ∀ x ∈ lb.take nb, ∀ y ∈ out.toList, RK O key x y
 pm : (la.take na ++ lb.take nb ++ out.toList).Perm (la ++ lb)
abbrev HiS := Option (Array Keyed) × Nat × Nat × Array Keyed × Nat × Nat × Nat
section
variable {a b out : Array Keyed} {na nb : Nat} {st : SortSt} {R : ForInStep HiS -> SortSt -> Prop}
end
section
variable {a b : Array Keyed} {st : SortSt}
end
end
section
variable {M : Model} {A : Around} {E : Value -> Shared -> Prop} {s : Shared} {O : KeyOrd} {key : Keyed -> O.α} {kd : SortKind} {S : Keyed -> Prop}
end
section
variable {M : Model} {A : Around} {E : Value -> Shared -> Prop} {s : Shared} {O : KeyOrd} {key : Keyed -> O.α} {kd : SortKind} {S : Keyed -> Prop}
end
section
variable {M : Model} {A : Around} {E : Value -> Shared -> Prop} {s : Shared} {O : KeyOrd} {key : Keyed -> O.α} {kd : SortKind} {S : Keyed -> Prop}
def offs : List (List Keyed) -> Nat -> List (Nat × Nat)
 | [], _ => []
 | g :: gs, o => (o, g.length) :: offs gs (o + g.length)
structure PI (O : KeyOrd) (key : Keyed -> O.α) (kd : SortKind) (a₀ : Array Keyed) (st : SortSt) (segs : List (List Keyed)) (rest : List Keyed) : Prop where
 kind : kindOf st = kd
 fail : failedOf st = none
 perm : (arrOf st).Perm a₀
 arr : (arrOf st).toList = segs.flatten ++ rest
 srt : ∀ g ∈ segs, 1 <= g.length /\ g.Pairwise (RK O key)
 pend : (pendingOf st).toList.map (fun p => (p.1, p.2.1)) = offs segs 0
end
end PyProof.Rows
namespace L2
open PySem PySem.Spec PyProof.Rows
section
variable {prog : Program} {w : World} {A : Around} {E : Value -> Shared -> Prop} {s : Shared}
def sameBut (a : Addr) (h h' : Heap) : Prop := ∀ b o, b ≠ a -> h.get? b = some o -> h'.get? b = some o
end
end L2
namespace L2
open PySem PySem.Spec PyProof.Rows My
theorem ints_uniq : ∀ {vs : List Value} {ns ms : List Int}, IntsAre vs ns -> IntsAre vs ms -> ns = ms
 | _, _, _, .nil, .nil => rfl
 | _, _, _, .cons n t h, .cons _ _ k => by rw [ints_uniq h k]
section
variable {X : Cx}
end
end L2
namespace L2
open PySem PySem.Spec PyProof.Rows
section
variable {X : Cx}
def rNotInR (K : PySem.W.Frag) : R2 := fun x y H Q => ∃ (n : Nat) (p : Addr) (xs : List V) (e : Addr -> Bool), y = .ref p /\ SqL K H p xs /\ n <= 6 /\ (∀ v ∈ xs, ∃ a, v = .ref a /\ EqD K H n v x (e a)) /\ Q (.bl (!xs.any (refB e))) H
theorem op_notInR (K : PySem.W.Frag) (hu : X.A.units + 8 < cLine) (hk : X.K = K := by rfl) : OpR X (compareOp .NotIn) (rNotInR K) := by
 subst hk
 intro pins s σ H x y v u Q I rx ry h
 obtain ⟨n, p, xs, e, rfl, hq, hn, he, q⟩ := h
 cases ry
 obtain ⟨its, r, pl, hz⟩ := I.list hq
 refine SeqAt.notIn_listAt (fun u => match u with | .ref a => e a | _ => false) pl.isList (fun w hw => mem_refB I (by show X.A.units + 1 + n < cLine; omega) rx r he w (by simpa using hw)) ⟨.bl _, H, I, rfl, ?_⟩
 have ea : its.any (fun u => match u with | .ref a => e a | _ => false) = xs.any (refB e) := any_refB r fun v hv => let ⟨a, ea, _⟩ := he v hv; ⟨a, ea⟩
 have eb : its.toArray.any (fun u => match u with | .ref a => e a | _ => false) = its.any (fun u => match u with | .ref a => e a | _ => false) := by simp
 rw [eb, ea]
 exact q
end
end L2
namespace My
open PySem L2
theorem sub_len {α : Type} [DecidableEq α] : ∀ {l m : List α}, l.Nodup -> (∀ x ∈ l, x ∈ m) -> l.length <= m.length
 | [], m, _, _ => Nat.zero_le _
 | x :: l, m, h, hs => by
  obtain ⟨h1, h2⟩ := List.nodup_cons.mp h
  have hx := hs x List.mem_cons_self
  have := sub_len (l := l) (m := m.erase x) h2 fun y hy => (List.mem_erase_of_ne (fun (e : y = x) => h1 (e ▸ hy))).mpr (hs y (List.mem_cons_of_mem _ hy))
  rw [List.length_erase_of_mem hx] at this
  have := List.length_pos_of_mem hx
  rw [List.length_cons]
  omega
end My
namespace L2
open PySem PySem.Spec PyProof.Rows
section
variable {X : Cx}
end
end L2
namespace L2
open PySem PySem.Spec PyProof.Rows
open PySem.SeqAt
open PySem.AutoSeq1 (wpAny_loadPart')
open PySem.MeetsSeq PySem.MeetsSeq2 PySem.MeetsSeq3
end L2
namespace L2
open PySem PySem.Spec PyProof.Rows My
section
variable {prog : Program} {w : World} {A : Around} {E : Value -> Shared -> Prop} {s : Shared}
end
section
variable {X : Cx}
end
end L2
namespace L2
open PySem PySem.Spec PyProof.Rows
def CMulC (i j : Int) : Prop := (-(10 ^ 200) < i /\ i < 10 ^ 200) /\ (-(10 ^ 200) < j /\ j < 10 ^ 200)
theorem bits_great {a : Int} (h1 : -(10 ^ 200) < a) (h2 : a < 10 ^ 200) : Builtin.Int.intBits a <= 1000 := by
 have h : a.natAbs < 10 ^ 200 := by omega
 exact PySem.intBits_le_iff.mpr (Nat.lt_trans h (by decide))
section
variable {X : Cx}
theorem op_mulC : OpR X (binaryOp .Mult) (rI CMulC fun i j => .int (i * j)) := opI fun _ _ _ _ _ _ _ hc q => mul_int q (.of_bits (Nat.le_trans (bits_great hc.1.1 hc.1.2) (by decide)) (Nat.le_trans (bits_great hc.2.1 hc.2.2) (by decide)))
end
end L2
namespace My
open PySem L2
end My
namespace L2
open PySem PySem.Spec PyProof.Rows
section
variable {X : Cx}
end
end L2
namespace My
open PySem L2
theorem ring_conn {n : Int} {ps : List (Int × Int)} {T : List Int} {z : Int} (g : GoodW n ps) (hT : IsTree n ps T) (z0 : 0 <= z) (z1 : z < (ps.length : Int)) : Conn (endsOf ps (ringA n ps T z T)) (endOf ps z).1 (endOf ps z).2 := by
 have he := end_in (z := z) g z0 z1
 have key : ∀ D : List Int, (∀ o ∈ D, o ∈ T /\ z ∉ cutT n ps T o) -> Conn (endsOf ps (T.filter fun y => decide (y ∉ D))) (endOf ps z).1 (endOf ps z).2 := by
  intro D
  induction D with
  | nil =>
   intro _
   have e : (T.filter fun y => decide (y ∉ ([] : List Int))) = T := List.filter_eq_self.mpr fun y _ => by simp
   rw [e]
   exact hT.2.2 _ _ he.1 he.2
  | cons o D ih =>
   intro hD
   have c := ih fun y hy => hD y (List.mem_cons_of_mem _ hy)
   obtain ⟨hoT, hoc⟩ := hD o List.mem_cons_self
   by_cases hoD : o ∈ D
   ·refine c.mono (ends_sub fun y hy => ?_)
    obtain ⟨h1, h2⟩ := List.mem_filter.mp hy
    have h2 := of_decide_eq_true h2
    exact List.mem_filter.mpr ⟨h1, decide_eq_true fun h => (List.mem_cons.mp h).elim (fun e => h2 (e ▸ hoD)) h2⟩
   ·refine Classical.byContradiction fun hno => ?_
    have hsub : ∀ y, y ∈ (T.filter fun y => decide (y ∉ o :: D)) -> y ∈ wo T o := fun y hy => by
     obtain ⟨h1, h2⟩ := List.mem_filter.mp hy
     have h2 := of_decide_eq_true h2
     exact wo_mem.mpr ⟨h1, fun e => h2 (by rw [e]; exact List.mem_cons_self)⟩
    have c2 : Conn (endsOf ps ((T.filter fun y => decide (y ∉ o :: D)) ++ [o])) (endOf ps z).1 (endOf ps z).2 := (conn_perm fun y => by
     rw [List.mem_append, List.mem_filter, List.mem_filter, List.mem_singleton]
     simp only [decide_eq_true_eq, List.mem_cons, not_or]
     constructor
     ·rintro ⟨h1, h2⟩
      by_cases e : y = o
      ·exact .inr e
      ·exact .inl ⟨h1, e, h2⟩
     ·rintro (⟨h1, _, h2⟩ | e)
      ·exact ⟨h1, h2⟩
      ·rw [e]; exact ⟨hoT, hoD⟩).mp c
    have hall : ∀ y ∈ (T.filter fun y => decide (y ∉ o :: D)), 0 <= y /\ y < (ps.length : Int) := fun y hy => hT.1.all y (List.mem_filter.mp hy).1
    obtain ⟨o0, o1⟩ := hT.1.all o hoT
    have hin : InN n.toNat (endsOf ps (T.filter fun y => decide (y ∉ o :: D))) := ends_in g hall
    have hin1 : InN n.toNat (endsOf ps ((T.filter fun y => decide (y ∉ o :: D)) ++ [o])) := ends_in g fun y hy => by
     rcases List.mem_append.mp hy with h | h
     ·exact hall y h
     ·rw [List.mem_singleton.mp h]; exact ⟨o0, o1⟩
    have hoe := end_in (z := o) g o0 o1
    have hl := lms_length n.toNat (endsOf ps (T.filter fun y => decide (y ∉ o :: D)))
    have own : ¬ Conn (endsOf ps (wo T o)) (endOf ps o).1 (endOf ps o).2 := (cutT_mem g hT o0 o1).mp ((cut_own g hT hoT hoT).mpr rfl)
    have cw : Conn (endsOf ps (wo T o)) (endOf ps z).1 (endOf ps z).2 := Classical.byContradiction fun h => hoc ((cutT_mem g hT z0 z1).mpr h)
    have up : ∀ {i j : Nat}, i < n.toNat -> j < n.toNat -> mk (lms n.toNat (endsOf ps (T.filter fun y => decide (y ∉ o :: D)))) i = mk (lms n.toNat (endsOf ps (T.filter fun y => decide (y ∉ o :: D)))) j -> Conn (endsOf ps (wo T o)) i j := fun hi hj e => ((lms_iff hin hi hj).mp e).mono (ends_sub hsub)
    have m := (lms_iff hin1 he.1 he.2).mpr c2
    rw [ends_snoc, lms_snoc, lm_iff (by omega) (by omega)] at m
    rcases m with m | ⟨m1, m2⟩
    ·exact hno ((lms_iff hin he.1 he.2).mp m)
    ·rcases m1 with m1 | m1 <;> rcases m2 with m2 | m2
     ·exact hno ((lms_iff hin he.1 he.2).mp (m1.trans m2.symm))
     ·exact own (((up he.1 hoe.1 m1).symm.trans cw).trans (up he.2 hoe.2 m2))
     ·exact own (((up he.2 hoe.1 m2).symm.trans cw.symm).trans (up he.1 hoe.2 m1))
     ·exact hno ((lms_iff hin he.1 he.2).mp (m1.trans m2.symm))
 have c := key (T.filter fun y => decide (z ∉ cutT n ps T y)) fun o ho => by
  obtain ⟨h1, h2⟩ := List.mem_filter.mp ho
  exact ⟨h1, of_decide_eq_true h2⟩
 refine c.mono (ends_sub fun y hy => ?_)
 obtain ⟨h1, h2⟩ := List.mem_filter.mp hy
 have h2 := of_decide_eq_true h2
 exact ringA_mem.mpr ⟨h1, Classical.byContradiction fun h => h2 (List.mem_filter.mpr ⟨h1, decide_eq_true h⟩)⟩
inductive WP (n : Int) (ps : List (Int × Int)) (W : List Int) (T0 : List Int) : List Int -> List (Int × Int) -> List Int -> Prop
 | nil : WP n ps W T0 [] [] T0
 | skip {l : List Int} {ws : List (Int × Int)} {T : List Int} {z : Int} : WP n ps W T0 l ws T -> z ∈ T -> WP n ps W T0 (l ++ [z]) ws T
 | step {l : List Int} {ws : List (Int × Int)} {T T' : List Int} {z o : Int} : WP n ps W T0 l ws T -> z ∉ T -> o ∈ ringA n ps T z T -> o ∉ W -> (∀ y ∈ ringA n ps T z T, y ∉ W -> o <= y) -> T'.Perm (wo T o ++ [z]) -> T'.Pairwise (· <= ·) -> WP n ps W T0 (l ++ [z]) (ws ++ [(o, z)]) T'
theorem asc_ext {a b : List Int} (ha : a.Pairwise (· < ·)) (hb : b.Pairwise (· < ·)) (h : ∀ z, z ∈ a ↔ z ∈ b) : a = b :=
 (asc_sub ha hb fun z hz => (h z).mp hz).eq_of_length (Nat.le_antisymm (asc_sub ha hb fun z hz => (h z).mp hz).length_le (asc_sub hb ha fun z hz => (h z).mpr hz).length_le)
end My
namespace L2
open PySem PySem.Spec PyProof.Rows
section
variable {prog : Program} {w : World} {A : Around} {E : Value -> Shared -> Prop} {s : Shared} {l : Addr} {xs : Array (Int × Tok)}
end
section
variable {X : Cx}
end
end L2
namespace My
open PySem L2
theorem cut_from2 {xs : List V} {i : Int} (h0 : 0 <= i) : cutV xs (some i) none = xs.drop i.toNat := by
 have e : HT.sIx xs.length 0 (some i) = min i.toNat xs.length := by
  show (if i < 0 then (i + (xs.length : Int)).toNat else min i.toNat xs.length) = _
  rw [if_neg (by omega)]
 unfold cutV
 rw [e, HT.sIx_none, List.take_of_length_le (by rw [List.length_drop]; exact Nat.le_refl _)]
 by_cases h : i.toNat <= xs.length
 ·rw [Nat.min_eq_left h]
 ·rw [Nat.min_eq_right (by omega), List.drop_eq_nil_of_le (Nat.le_refl _), List.drop_eq_nil_of_le (by omega)]
def cutz {α : Type} (l : List α) (z : Int) : List α := l.take z.toNat ++ l.drop (z.toNat + 1)
theorem cut_z {xs : List V} {z : Int} (h0 : 0 <= z) : cutV xs none (some z) ++ cutV xs (some (z + 1)) none = cutz xs z := by
 rw [cut_upto h0, cut_from2 (by omega), show (z + 1).toNat = z.toNat + 1 by omega]
 rfl
theorem cutz_len {α : Type} (l : List α) (z : Int) : (cutz l z).length <= l.length := by
 unfold cutz
 rw [List.length_append, List.length_take, List.length_drop]
 omega
end My
namespace L2
open PySem PySem.Spec PyProof.Rows
section
variable {X : Cx}
def rIxQ (K : PySem.W.Frag) : R2 := fun x y H Q => ∃ (k : Bool) (p : Addr) (xs : List V) (i : Int) (v : V), x = .ref p /\ y = .int i /\ My.SqK k K H p xs /\ atI xs i = some v /\ Q v H
theorem ix_seqK (K : PySem.W.Frag) (h : X.K = K := by rfl) : IxR X (rIxQ K) := by
 intro value slice pins s σ H x y v u Q I rx ry h1 hs
 obtain ⟨k, p, xs, i, z, e1, e2, hq, he, q⟩ := h1
 cases k with
 | false => exact ix_listK K h value slice pins s σ H x y v u Q I rx ry ⟨p, xs, i, z, e1, e2, hq, he, q⟩ hs
 | true => exact ix_tupK K h value slice pins s σ H x y v u Q I rx ry ⟨p, xs, i, z, e1, e2, hq, he, q⟩ hs
end
theorem nx_mk {N a b : St -> Hp -> Prop} {r : VK} {σ : St} {H : Hp} (h : N σ H) : Ends.nx { nx := N, rt := r, bk := a, ct := b } σ H := h
theorem cont1 {c : TT} {t u : TS} {N a b : St -> Hp -> Prop} {r : VK} {σ : St} {H : Hp} (P : St -> Hp -> Prop) (h1 : ∀ σ' H', P σ' H' -> N σ' H') (h2 : ∀ K : St -> Hp -> Prop, (∀ σ' H', P σ' H' -> K σ' H') -> tIfS c t u { nx := K, rt := r, bk := a, ct := b } σ H) : tIfS c t u { nx := N, rt := r, bk := a, ct := b } σ H := h2 _ h1
end L2
namespace My
theorem len1 {α : Type} {l : List α} (h : l.length = 1) : ∃ a, l = [a] := by
 cases l with
 | nil => cases h
 | cons a l => cases l with
  | nil => exact ⟨a, rfl⟩
  | cons b l => simp at h
theorem len2 {α : Type} {l : List α} (h : l.length = 2) : ∃ a b, l = [a, b] := by
 cases l with
 | nil => cases h
 | cons a l =>
  obtain ⟨b, rfl⟩ := len1 (Nat.succ.inj h)
  exact ⟨a, b, rfl⟩
theorem len3 {α : Type} {l : List α} (h : l.length = 3) : ∃ a b c, l = [a, b, c] := by
 cases l with
 | nil => cases h
 | cons a l =>
  obtain ⟨b, c, rfl⟩ := len2 (Nat.succ.inj h)
  exact ⟨a, b, c, rfl⟩
theorem len4 {α : Type} {l : List α} (h : l.length = 4) : ∃ a b c d, l = [a, b, c, d] := by
 cases l with
 | nil => cases h
 | cons a l =>
  obtain ⟨b, c, d, rfl⟩ := len3 (Nat.succ.inj h)
  exact ⟨a, b, c, d, rfl⟩
end My
namespace L2
open PySem PySem.Spec PyProof.Rows
section
variable {X : Cx}
end
end L2
namespace Att
open PySem PySem.W PySem.Calls PyProof.Rows
end Att
namespace L2
open PySem PySem.Spec PyProof.Rows
end L2
namespace My
open PySem L2
end My
namespace L2
open PySem PySem.Spec PyProof.Rows
section
variable {X : Cx}
end
end L2
namespace My
open PySem L2
end My
namespace L2
open PySem PySem.Spec PyProof.Rows
section
variable {prog : Program} {w : World} {A : Around} {E : Value -> Shared -> Prop} {s : Shared} {it a : Addr} {items : Array Value}
end
section
variable {X : Cx} {p p2 pos pos2 : Pos} {e : Expr} {t : TA}
end
section
variable {X : Cx}
end
end L2
namespace My
open PySem L2
theorem Conn.lift {es fs : List (Nat × Nat)} (h : ∀ e ∈ es, Conn fs e.1 e.2) {i j : Nat} (c : Conn es i j) : Conn fs i j := by
 induction c with
 | refl i => exact .refl i
 | edge e => exact h _ e
 | symm _ ih => exact ih.symm
 | trans _ _ ih1 ih2 => exact ih1.trans ih2
theorem partner_ex {n : Int} {ps : List (Int × Int)} {T W : List Int} {z : Int} (g : GoodW n ps) (hT : IsTree n ps T) (hW : IsTree n ps W) (hz : z ∈ T) (hzW : z ∉ W) : ∃ y, exg n ps T z y /\ exg n ps W y z := by
 obtain ⟨z0, z1⟩ := hT.1.all z hz
 refine Classical.byContradiction fun hno => ?_
 refine (cutT_mem g hT z0 z1).mp ((cut_own g hT hz hz).mpr rfl) ((ring_conn g hW z0 z1).lift fun e he => ?_)
 unfold endsOf at he
 obtain ⟨y, hy, rfl⟩ := List.mem_map.mp he
 obtain ⟨hyW, hyc⟩ := ringA_mem.mp hy
 obtain ⟨y0, y1⟩ := hW.1.all y hyW
 have hyz : y ≠ z := fun e => hzW (e ▸ hyW)
 have := (cutT_mem (o := z) g hT y0 y1)
 exact Classical.byContradiction fun h => hno ⟨y, ⟨hz, hyz, this.mpr h⟩, ⟨hyW, Ne.symm hyz, hyc⟩⟩
theorem sort_ex (l : List Int) : ∃ m : List Int, m.Perm l /\ m.Pairwise (· <= ·) := by
 induction l with
 | nil => exact ⟨[], .refl _, .nil⟩
 | cons x l ih =>
  obtain ⟨m, h1, h2⟩ := ih
  have key : ∀ m : List Int, m.Pairwise (· <= ·) -> ∃ k : List Int, k.Perm (x :: m) /\ k.Pairwise (· <= ·) := by
   intro m
   induction m with
   | nil => intro _; exact ⟨[x], .refl _, List.pairwise_singleton _ _⟩
   | cons y m ih2 =>
    intro hp
    obtain ⟨hy, hm⟩ := List.pairwise_cons.mp hp
    by_cases hxy : x <= y
    ·refine ⟨x :: y :: m, .refl _, List.pairwise_cons.mpr ⟨fun z hz => ?_, hp⟩⟩
     rcases List.mem_cons.mp hz with e | e
     ·rw [e]; exact hxy
     ·exact Int.le_trans hxy (hy z e)
    ·obtain ⟨k, k1, k2⟩ := ih2 hm
     refine ⟨y :: k, (k1.cons y).trans (List.Perm.swap x y m), List.pairwise_cons.mpr ⟨fun z hz => ?_, k2⟩⟩
     rcases List.mem_cons.mp (k1.mem_iff.mp hz) with e | e
     ·rw [e]; omega
     ·exact hy z e
  obtain ⟨k, k1, k2⟩ := key m h2
  exact ⟨k, k1.trans (h1.cons x), k2⟩
end My
namespace L2
open PySem PySem.Spec PyProof.Rows
section
variable {X : Cx}
end
end L2
namespace My
open PySem L2
inductive Wk (n : Int) (ps : List (Int × Int)) (T0 : List Int) : List (Int × Int) -> List Int -> Prop
 | nil : Wk n ps T0 [] T0
 | step {ws : List (Int × Int)} {T T' : List Int} {o z : Int} : Wk n ps T0 ws T -> exg n ps T o z -> T'.Perm (wo T o ++ [z]) -> T'.Pairwise (· <= ·) -> Wk n ps T0 (ws ++ [(o, z)]) T'
theorem grw_forest {n : Int} {ps : List (Int × Int)} {U : List Int} (g : GoodW n ps) (hU : IsTree n ps U) : ∀ V : List Int, V.Nodup -> (∀ z ∈ V, z ∈ U) -> grw n.toNat ps V = V := by
 refine snoc_ind (fun _ _ => rfl) fun V z ih hn hs => ?_
 have hn' := List.nodup_append.mp hn
 have hV : ∀ y ∈ V, y ∈ U := fun y hy => hs y (List.mem_append_left _ hy)
 have hz : z ∈ U := hs z (List.mem_append_right _ (List.mem_singleton.mpr rfl))
 have hzV : z ∉ V := fun h => hn'.2.2 z h z (List.mem_singleton.mpr rfl) rfl
 obtain ⟨z0, z1⟩ := hU.1.all z hz
 have he := end_in (z := z) g z0 z1
 rw [grw_snoc, ih hn'.1 hV]
 unfold gst
 rw [if_neg]
 intro e
 have c := (lms_iff (ends_in g fun y hy => hU.1.all y (hV y hy)) he.1 he.2).mp e
 exact (cutT_mem g hU z0 z1).mp ((cut_own g hU hz hz).mpr rfl) (c.mono (ends_sub fun y hy => wo_mem.mpr ⟨hV y hy, fun e' => hzV (by rw [<- e']; exact hy)⟩))
theorem grw_left {n : Int} {ps : List (Int × Int)} {as bs : List Int} {z : Int} (g : GoodW n ps) (h : ∀ y ∈ as, 0 <= y /\ y < (ps.length : Int)) (z0 : 0 <= z) (z1 : z < (ps.length : Int)) (hz : z ∉ grw n.toNat ps (as ++ z :: bs)) : Conn (endsOf ps (grw n.toNat ps as)) (endOf ps z).1 (endOf ps z).2 := by
 obtain ⟨us, e, _⟩ := grw_app n.toNat ps (as ++ [z]) bs
 rw [List.append_assoc] at e
 have e : grw n.toNat ps (as ++ z :: bs) = grw n.toNat ps (as ++ [z]) ++ us := e
 rw [e, grw_snoc] at hz
 have he := end_in (z := z) g z0 z1
 refine (lms_iff (grw_in g h) he.1 he.2).mp (Classical.byContradiction fun hne => hz ?_)
 unfold gst
 rw [if_neg hne]
 exact List.mem_append_left _ (List.mem_append_right _ (List.mem_singleton.mpr rfl))
theorem grw_mono {n : Nat} {ps : List (Int × Int)} {as bs : List Int} {y : Int} (h : y ∈ grw n ps as) : y ∈ grw n ps (as ++ bs) := by
 obtain ⟨us, e, _⟩ := grw_app n ps as bs
 rw [e]
 exact List.mem_append_left _ h
def Fr (n : Nat) (ps : List (Int × Int)) (l : List Int) : Bool := decide (grw n ps l = l)
theorem Fr.nil (n : Nat) (ps : List (Int × Int)) : Fr n ps [] = true := decide_eq_true rfl
theorem fr_snoc {n : Nat} {ps : List (Int × Int)} {l : List Int} {z : Int} : Fr n ps (l ++ [z]) = true ↔ Fr n ps l = true /\ mk (lms n (endsOf ps l)) (endOf ps z).1 ≠ mk (lms n (endsOf ps l)) (endOf ps z).2 := by
 unfold Fr
 rw [decide_eq_true_iff, decide_eq_true_iff, grw_snoc]
 constructor
 ·intro h
  unfold gst at h
  split at h
  ·have := (grw_sub n ps l).length_le
   rw [h, List.length_append] at this
   have h1 : [z].length = 1 := rfl
   omega
  ·rename_i hne
   have e := (List.append_inj' h rfl).1
   rw [e] at hne
   exact ⟨e, hne⟩
 ·rintro ⟨e, hne⟩
  rw [e]
  unfold gst
  rw [if_neg hne]
def frs (n : Nat) (ps : List (Int × Int)) (k : Nat) : List (List Int) := (cmb (ps.length : Int) k).filter (Fr n ps)
theorem frs_tree {n : Int} {ps : List (Int × Int)} (g : GoodW n ps) {l : List Int} : l ∈ frs n.toNat ps (n - 1).toNat ↔ IsTree n ps l := by
 unfold frs
 rw [List.mem_filter, cmb_mem]
 have g1 := g.1
 constructor
 ·rintro ⟨⟨h1, h2⟩, h3⟩
  have e : grw n.toNat ps l = l := of_decide_eq_true h3
  have c := grw_cnt g l h2.all
  rw [e] at c
  exact ⟨h2, by omega, (cnt_conn (by omega) (ends_in g h2.all)).mp (by omega)⟩
 ·intro h
  exact ⟨⟨by have := h.2.1; omega, h.1⟩, decide_eq_true (grw_forest g h l h.1.nodup fun z hz => hz)⟩
theorem tree_asc {n : Int} {ps : List (Int × Int)} {T : List Int} (hT : IsTree n ps T) : T.Pairwise (· < ·) := (isSet_iff.mp hT.1).2
theorem srt_strict {a : List Int} (h : a.Pairwise (· <= ·)) (hn : a.Nodup) : a.Pairwise (· < ·) := (h.and hn).imp fun h => by have := h.1; have := h.2; omega
theorem grw_nodup {n : Int} {ps : List (Int × Int)} (g : GoodW n ps) : ∀ zs : List Int, (∀ z ∈ zs, 0 <= z /\ z < (ps.length : Int)) -> (grw n.toNat ps zs).Nodup := by
 refine snoc_ind (fun _ => List.Pairwise.nil) fun zs z ih hb => ?_
 have hb' : ∀ y ∈ zs, 0 <= y /\ y < (ps.length : Int) := fun y hy => hb y (List.mem_append_left _ hy)
 obtain ⟨z0, z1⟩ := hb z (List.mem_append_right _ (List.mem_singleton.mpr rfl))
 have he := end_in (z := z) g z0 z1
 rw [grw_snoc]
 unfold gst
 split
 ·exact ih hb'
 ·next hne =>
  refine List.nodup_append.mpr ⟨ih hb', by simp, fun a ha b hbb e => ?_⟩
  rw [List.mem_singleton.mp hbb] at e
  subst e
  refine hne ((lms_iff (grw_in g hb') he.1 he.2).mpr (.edge ?_))
  exact List.mem_map.mpr ⟨a, ha, rfl⟩
theorem grw_is_tree {n : Int} {ps : List (Int × Int)} {zs ms : List Int} (g : GoodW n ps) (hb : ∀ z ∈ zs, 0 <= z /\ z < (ps.length : Int)) (hl : ¬ ((grw n.toNat ps zs).length : Int) < n - 1) (hpm : ms.Perm (grw n.toNat ps zs)) (hpw : ms.Pairwise (· <= ·)) : IsTree n ps ms := by
 have g1 := g.1
 have h2 := grw_cnt g zs hb
 have h3 := cnt_pos (M := lms n.toNat (endsOf ps (grw n.toNat ps zs))) (by rw [lms_length]; omega)
 have hcov := (cnt_conn (by omega) (grw_in g hb)).mp (by omega)
 refine ⟨isSet_iff.mpr ⟨fun z hz => hb z ((grw_sub _ _ _).subset (hpm.mem_iff.mp hz)), srt_strict hpw (hpm.nodup_iff.mpr (grw_nodup g zs hb))⟩, by rw [hpm.length_eq]; omega, fun i j hi hj => ?_⟩
 exact (conn_perm fun y => hpm.mem_iff).mpr (hcov i j hi hj)
theorem grow_ok {n : Int} {ps : List (Int × Int)} {I os U : List Int} (g : GoodW n ps) (hU : IsTree n ps U) (hI : I.Nodup) (hIU : ∀ z ∈ I, z ∈ U) (hUo : ∀ z ∈ U, z ∈ I ++ os) (hb : ∀ z ∈ I ++ os, 0 <= z /\ z < (ps.length : Int)) : (grw n.toNat ps (I ++ os)).take I.length = I /\ ¬ ((grw n.toNat ps (I ++ os)).length : Int) < n - 1 := by
 have g1 := g.1
 obtain ⟨us, e, _⟩ := grw_app n.toNat ps I os
 rw [grw_forest g hU I hI hIU] at e
 refine ⟨by rw [e, List.take_left], ?_⟩
 have hcov : ∀ i j, i < n.toNat -> j < n.toNat -> Conn (endsOf ps (grw n.toNat ps (I ++ os))) i j := fun i j hi hj => grw_conn g _ hb ((hU.2.2 i j hi hj).mono (ends_sub hUo))
 have h1 := (cnt_conn (by omega) (grw_in g hb)).mpr hcov
 have h2 := grw_cnt g (I ++ os) hb
 omega
theorem asc_split {p r : List Int} {x : Int} (h : (p ++ x :: r).Pairwise (· < ·)) : (∀ z ∈ p, z < x) /\ ∀ z ∈ x :: r, x <= z := by
 have a := List.pairwise_append.mp h
 refine ⟨fun z hz => a.2.2 z hz x List.mem_cons_self, fun z hz => ?_⟩
 rcases List.mem_cons.mp hz with h | h
 ·rw [h]; exact Int.le_refl _
 ·exact Int.le_of_lt ((List.pairwise_cons.mp a.2.1).1 z h)
end My
namespace L2
open PySem PySem.Spec PyProof.Rows
section
variable {X : Cx}
end
end L2
namespace My
open PySem L2
end My
namespace L2
open PySem PySem.Spec PyProof.Rows
section
variable {X : Cx}
end
end L2
namespace My
open PySem L2
def TC (n : Int) (ps : List (Int × Int)) (c : Nat) : Prop := ∃ L : List (List Int), L.Nodup /\ (∀ l, l ∈ L ↔ IsTree n ps l) /\ L.length = c
theorem set_snoc {m : Nat} {T : List Int} : IsSet (m + 1) (T ++ [(m : Int)]) ↔ IsSet m T := by
 constructor
 ·intro h
  have a := isSet_iff.mp h
  have b := List.pairwise_append.mp a.2
  refine isSet_iff.mpr ⟨fun z hz => ?_, b.1⟩
  have c := a.1 z (List.mem_append_left _ hz)
  have d := b.2.2 z hz m (List.mem_singleton.mpr rfl)
  omega
 ·exact fun h => h.snoc
theorem set_last {m : Nat} {T : List Int} (h : IsSet (m + 1) T) : IsSet m T \/ ∃ T', T = T' ++ [(m : Int)] /\ IsSet m T' := by
 have a := isSet_iff.mp h
 by_cases hm : (m : Int) ∈ T
 ·obtain ⟨p, r, e⟩ := List.append_of_mem hm
  have b := asc_split (e ▸ a.2)
  cases r with
  | nil => exact .inr ⟨p, e, set_snoc.mp (e ▸ h)⟩
  | cons y r =>
   have h1 := a.1 y (by rw [e]; simp)
   have h2 := (List.pairwise_cons.mp (List.pairwise_append.mp (e ▸ a.2)).2.1).1 y List.mem_cons_self
   omega
 ·refine .inl (isSet_iff.mpr ⟨fun z hz => ?_, a.2⟩)
  have h1 := a.1 z hz
  have h2 : z ≠ (m : Int) := fun e => hm (e ▸ hz)
  omega
theorem conn_flip {es : List (Nat × Nat)} {a b i j : Nat} (c : Conn (es ++ [(a, b)]) i j) : Conn (es ++ [(b, a)]) i j := c.lift fun e he => by
 rcases List.mem_append.mp he with q | q
 ·exact .edge (List.mem_append_left _ q)
 ·rw [List.mem_singleton.mp q]
  exact .symm (.edge (by simp))
theorem kit_int_bool {K : PySem.W.Frag} : PySem.W.kitOne K (.type "int") (.type "bool") = some false := by
 unfold PySem.W.kitOne
 rw [if_neg (by decide)]
 rfl
end My
namespace L2
open PySem PySem.Spec PyProof.Rows
section
variable {X : Cx}
end
end L2
namespace My
open PySem L2
theorem Bears.app {α : Type} [DecidableEq α] {R : V -> α -> Prop} {xs ys : List V} {l m : List α} (h : Bears R xs l) (h2 : Bears R ys m) : Bears R (xs ++ ys) (l ++ m) := by
 refine ⟨by rw [List.length_append, List.length_append, h.1, h2.1], fun i a e => ?_⟩
 have hl := h.1
 by_cases c : i < l.length
 ·rw [List.getElem?_append_left c] at e
  obtain ⟨x, e1, r⟩ := h.2 i a e
  exact ⟨x, by rw [List.getElem?_append_left (by omega)]; exact e1, r⟩
 ·rw [List.getElem?_append_right (by omega)] at e
  obtain ⟨x, e1, r⟩ := h2.2 _ a e
  exact ⟨x, by rw [List.getElem?_append_right (by omega), hl]; exact e1, r⟩
end My
namespace L2
open PySem PySem.Spec PyProof.Rows
def Itz (K : PySem.W.Frag) (a b : Addr) : It :=
 ⟨fun i H => ∃ xs ys x y, SqL K H a xs /\ SqL K H b ys /\ xs[i]? = some x /\ ys[i]? = some y, fun i H v H' => ∃ T x y, H T = none /\ v = .ref T /\ H' = upd H T (.tup [x, y]) /\ (∀ xs, SqL K H a xs -> xs[i]? = some x) /\ ∀ ys, SqL K H b ys -> ys[i]? = some y,
  fun i H => ∃ xs ys, SqL K H a xs /\ SqL K H b ys /\ (xs.length <= i \/ ys.length <= i)⟩
theorem turn_zip {P : Program} {w : World} {K : PySem.W.Frag} {elts : List Expr} {x1 : Nat} {pos : Pos} (a b z TI TO i1 i2 : Addr) (D : ZipApart z TI TO i1 i2 a b) :
  Turn P w K (.Tuple elts x1 pos) (Itz K a b) [z, TI, TO, i1, i2] z (fun i h => IsZip h z TI TO .none /\ IsPair h TI (.ref i1) (.ref i2) /\ (∃ c d, IsPair h TO c d) /\ h.IsListIter i1 a i /\ h.IsListIter i2 b i) where
 mem := by simp
 obj := fun i h st c hc => by
  obtain ⟨hz, hTI, ⟨u, v, hTO⟩, ⟨o1, e1, _, d1⟩, ⟨o2, e2, _, d2⟩⟩ := st
  have hc' : c = z \/ c = TI \/ c = TO \/ c = i1 \/ c = i2 := by simpa using hc
  rcases hc' with rfl | rfl | rfl | rfl | rfl
  ·exact ⟨_, hz, fun v q => by
    have q' : Data.fields _ = Data.cell v := q
    cases q'⟩
  ·exact ⟨_, hTI, fun v q => by
    have q' : Data.seq _ _ = Data.cell v := q
    cases q'⟩
  ·exact ⟨_, hTO, fun v q => by
    have q' : Data.seq _ _ = Data.cell v := q
    cases q'⟩
  ·exact ⟨o1, e1, fun v q => by rw [d1] at q; cases q⟩
  ·exact ⟨o2, e2, fun v q => by rw [d2] at q; cases q⟩
 keep := fun i h h' st k => by
  obtain ⟨hz, hTI, ⟨u, v, hTO⟩, h1, h2⟩ := st
  exact ⟨k z (by simp) _ hz, k TI (by simp) _ hTI, ⟨u, v, k TO (by simp) _ hTO⟩, h1.at fun o e => k i1 (by simp) o e, h2.at fun o e => k i2 (by simp) o e⟩
 item := by
  intro X hP hw hK hc i pins s σ H E I hf st hg
  subst hP hw hK
  obtain ⟨xs, ys, x, y, hq, hq2, hx, hy⟩ := hg
  obtain ⟨hz, hTI, ⟨u0, v0, hTO⟩, h1, h2⟩ := st
  obtain ⟨its, rv, p, _⟩ := I.list hq
  obtain ⟨u, hu, ru⟩ := rv.get hx
  obtain ⟨its2, rv2, p2, _⟩ := I.list hq2
  obtain ⟨v, hv, rv'⟩ := rv2.get hy
  have fz := hf z (by simp)
  have fTO := hf TO (by simp)
  have fi1 := hf i1 (by simp)
  have fi2 := hf i2 (by simp)
  have hT0 : H s.heap.objs.size = none := I.hok.fresh (Nat.le_refl _)
  refine wpAny_pyNext_zip_item D hz hTI hTO h1 h2 p.isList p2.isList (x := u) (y := v) (by simpa using hu) (by simpa using hv) fun h' a1 a2 a3 a4 a5 hsz hk => ?_
  have ltT : ∀ b ob, s.heap.get? b = some ob -> b ≠ s.heap.objs.size := fun b ob z => Nat.ne_of_lt (Heap.lt_size z)
  have ltH : ∀ b ob, H b = some ob -> b ≠ s.heap.objs.size := fun b ob z => Nat.ne_of_lt (I.hok.lt z)
  have nof : ∀ c ob, H c = some ob -> c ≠ z /\ c ≠ TO /\ c ≠ i1 /\ c ≠ i2 := fun c ob q => ⟨fun e => (by rw [e, fz.1] at q; cases q), fun e => (by rw [e, fTO.1] at q; cases q), fun e => (by rw [e, fi1.1] at q; cases q), fun e => (by rw [e, fi2.1] at q; cases q)⟩
  have hkc : ∀ c o, c ∉ [z, TO, i1, i2] -> s.heap.get? c = some o -> h'.get? c = some o := fun c o hcx q => hk c o (fun e => hcx (by simp [e])) (fun e => hcx (by simp [e])) (fun e => hcx (by simp [e])) (fun e => hcx (by simp [e])) q
  have I1 : Inv X pins σ (upd H s.heap.objs.size (.tup [x, y])) { s with heap := h' } := by
   refine I.step (g' := s.gens) (d' := s.drawn) (t' := s.toks) (ch := [z, TO, i1, i2]) (fun c hb => ?_) (fun c o _ _ hcx q _ => hkc c o hcx q) (fun c o _ _ hcx q _ => ⟨o.slots, hkc c o hcx q⟩)
    (fun c o _ q n => by rw [upd_ne (ltT c o q)]; exact n) (fun c o hcx q => ⟨o, hkc c o hcx q⟩) (fun c ys q => by rw [upd_ne (ltH c _ q)]; exact q) (fun c o v q => by rw [upd_ne (ltH c _ q)]; exact q)
    (fun c ps q => ⟨#[], by rw [upd_ne (ltH c _ q), q]; simp⟩) (fun m hm => ?_) (fun c v' q => ?_) I.bare
   ·have hc' : c = z \/ c = TO \/ c = i1 \/ c = i2 := by simpa using hb
    rcases hc' with rfl | rfl | rfl | rfl
    ·exact ⟨fz.2.2.2.1, fz.2.1, fz.2.2.2.2.1, fz.2.2.2.2.2⟩
    ·exact ⟨fTO.2.2.2.1, fTO.2.1, fTO.2.2.2.2.1, fTO.2.2.2.2.2⟩
    ·exact ⟨fi1.2.2.2.1, fi1.2.1, fi1.2.2.2.2.1, fi1.2.2.2.2.2⟩
    ·exact ⟨fi2.2.2.2.1, fi2.2.1, fi2.2.2.2.2.1, fi2.2.2.2.2.2⟩
   ·obtain ⟨o, es, ep, ho', r⟩ := hm
    exact ⟨o, es, ep, hk _ o (Ne.symm fz.2.1) (Ne.symm fTO.2.1) (Ne.symm fi1.2.1) (Ne.symm fi2.2.1) ho', r⟩
   ·by_cases hb : c = s.heap.objs.size
    ·subst hb
     rw [upd_same] at q
     cases q
     exact ⟨by show 2 <= sizeLine; decide, [u, v], .cons ru (.cons rv' .nil), ⟨_, a5, rfl, _, rfl⟩⟩
    ·rw [upd_ne hb] at q
     refine (I.hok c v' q).stay (fun e w' hc' q' => ?_) (fun e q => by rw [upd_ne (ltH e _ q)]; exact q) fun e ys q => by rw [upd_ne (ltH e _ q)]; exact q
     rcases hc' with rfl | hc'
     ·have := nof e _ q
      exact hk e w' this.1 this.2.1 this.2.2.1 this.2.2.2 q'
     ·have := nof e _ hc'
      exact hk e w' this.1 this.2.1 this.2.2.1 this.2.2.2 q'
  refine ⟨_, rfl, wpAny_letOwnedTupleGo_zip a1 fun h2 hz2 hs2 => ?_⟩
  have fT : z ≠ s.heap.objs.size := ltT z _ hz
  have I2 : Inv X pins σ (upd H s.heap.objs.size (.tup [x, y])) { s with heap := h2 } := Inv.turned (s := { s with heap := h' }) (h' := h2) (t' := s.toks) (it := z) I1 (fun b o hb q => hs2.extBut b o hb q) (by rw [upd_ne fT]; exact fz.1) fz.2.1 fz.2.2.2.1 fz.2.2.2.2.1 fz.2.2.2.2.2
  refine ⟨.ref s.heap.objs.size, _, I2, rfl, ⟨_, x, y, hT0, rfl, rfl, fun ys hy' => by rw [I.list_inj hy' hq]; exact hx, fun ys hy' => by rw [I.list_inj hy' hq2]; exact hy⟩,
   ⟨hz2, hs2.extBut _ _ D.TIz (hkc _ _ (by have := D.TIz; have := D.TITO; have := D.TIi1; have := D.TIi2; simp; exact ⟨D.TIz, D.TITO, D.TIi1, D.TIi2⟩) hTI), ⟨u, v, hs2.extBut _ _ D.TOz a2⟩, a3.at fun o q => hs2.extBut i1 o D.i1z q, a4.at fun o q => hs2.extBut i2 o D.i2z q⟩, fun c hc => ?_⟩
  have hc' : c = z \/ c = TI \/ c = TO \/ c = i1 \/ c = i2 := by simpa using hc
  have hn := (hf c hc).1
  rcases hc' with rfl | rfl | rfl | rfl | rfl
  ·rw [upd_ne fT]; exact hn
  ·rw [upd_ne (ltT _ _ hTI)]; exact hn
  ·rw [upd_ne (ltT _ _ hTO)]; exact hn
  ·obtain ⟨o, eo, _⟩ := h1
   rw [upd_ne (ltT _ o eo)]; exact hn
  ·obtain ⟨o, eo, _⟩ := h2
   rw [upd_ne (ltT _ o eo)]; exact hn
 done := by
  intro X hP hw hK hc i pins s σ H E I hf st hg
  subst hP hw hK
  obtain ⟨xs, ys, hq, hq2, hend⟩ := hg
  obtain ⟨hz, hTI, ⟨u0, v0, hTO⟩, h1, h2⟩ := st
  obtain ⟨its, rv, p, _⟩ := I.list hq
  obtain ⟨its2, rv2, p2, _⟩ := I.list hq2
  have l1 := rv.length
  have l2 := rv2.length
  have fz := hf z (by simp)
  have fTO := hf TO (by simp)
  have fi1 := hf i1 (by simp)
  have fi2 := hf i2 (by simp)
  refine wpAny_pyNext_zip_end (I.ok.hd hc) D hz hTI hTO h1 h2 p.isList p2.isList (by
   rcases hend with e | e
   ·exact .inl (by simp; omega)
   ·exact .inr (by simp; omega)) fun h' hk => ⟨rfl, ?_⟩
  have hkc : ∀ c o, c ∉ [z, TO, i1, i2] -> s.heap.get? c = some o -> h'.get? c = some o := fun c o hcx q => hk c o (fun e => hcx (by simp [e])) (fun e => hcx (by simp [e])) (fun e => hcx (by simp [e])) (fun e => hcx (by simp [e])) q
  have nof : ∀ c ob, H c = some ob -> c ≠ z /\ c ≠ TO /\ c ≠ i1 /\ c ≠ i2 := fun c ob q => ⟨fun e => (by rw [e, fz.1] at q; cases q), fun e => (by rw [e, fTO.1] at q; cases q), fun e => (by rw [e, fi1.1] at q; cases q), fun e => (by rw [e, fi2.1] at q; cases q)⟩
  refine I.step (g' := s.gens) (d' := s.drawn) (t' := s.toks) (ch := [z, TO, i1, i2]) (fun c hb => ?_) (fun c o _ _ hcx q _ => hkc c o hcx q) (fun c o _ _ hcx q _ => ⟨o.slots, hkc c o hcx q⟩)
   (fun c o _ q n => n) (fun c o hcx q => ⟨o, hkc c o hcx q⟩) (fun c ys q => q) (fun c o v q => q)
   (fun c ps q => ⟨#[], by rw [q]; simp⟩) (fun m hm => ?_) (fun c v' q => ?_) I.bare
  ·have hc' : c = z \/ c = TO \/ c = i1 \/ c = i2 := by simpa using hb
   rcases hc' with rfl | rfl | rfl | rfl
   ·exact ⟨fz.2.2.2.1, fz.2.1, fz.2.2.2.2.1, fz.2.2.2.2.2⟩
   ·exact ⟨fTO.2.2.2.1, fTO.2.1, fTO.2.2.2.2.1, fTO.2.2.2.2.2⟩
   ·exact ⟨fi1.2.2.2.1, fi1.2.1, fi1.2.2.2.2.1, fi1.2.2.2.2.2⟩
   ·exact ⟨fi2.2.2.2.1, fi2.2.1, fi2.2.2.2.2.1, fi2.2.2.2.2.2⟩
  ·obtain ⟨o, es, ep, ho', r⟩ := hm
   exact ⟨o, es, ep, hk _ o (Ne.symm fz.2.1) (Ne.symm fTO.2.1) (Ne.symm fi1.2.1) (Ne.symm fi2.2.1) ho', r⟩
  ·refine (I.hok c v' q).stay (fun e w' hc' q' => ?_) (fun e q => q) fun e ys q => q
   rcases hc' with rfl | hc'
   ·have := nof e _ q
    exact hk e w' this.1 this.2.1 this.2.2.1 this.2.2.2 q'
   ·have := nof e _ hc'
    exact hk e w' this.1 this.2.1 this.2.2.1 this.2.2.2 q'
 self := fun _ _ _ _ _ st h => wpAny_pyIter_zip st.1 h
def iZip (K : PySem.W.Frag) (ta : TA) : TI := fun σ H R => ta σ H fun vs H1 => ∃ a b, vs = [.ref a, .ref b] /\ (∃ xs ys, SqL K H1 a xs /\ SqL K H1 b ys) /\ R (Itz K a b) H1
section
variable {X : Cx}
theorem pi_zip (K : PySem.W.Frag) {elts : List Expr} {x1 : Nat} {tpos : Pos} {e f : Expr} {ta : TA} {p pos : Pos} (hg : Gl X "zip") (hm : X.mg "zip" = none) (ha : PA X [e, f] ta) (hs : starEach [e, f] X.env = (false, eval e X.env) :: starEach [f] X.env := by rfl) (hpl : (backTo pos (starEach [f] X.env)).any (·.1) = false := by rfl) (hk : X.K = K := by rfl) :
  PI X (.Tuple elts x1 tpos) (.Call (.Name "zip" p) [e, f] [] pos) (iZip K ta) := by
 subst hk
 intro pins s σ H R I h
 refine Call_ (ld_blt I hg hm Boot.«zip» (PyProof.Rows.callWith_type1 (thn (ha pos pins s σ H _ I h) fun us s1 ⟨vs, H1, I1, r1, q1⟩ => ?_) hs hpl))
 obtain ⟨a, b, ev, ⟨xs, ys, hq, hq2⟩, q⟩ := q1
 subst ev
 obtain ⟨u, u', rfl, ru, ru'⟩ := vals2 r1
 obtain rfl : u = Value.ref a := ru
 obtain rfl : u' = Value.ref b := ru'
 obtain ⟨its, rv, pl, _⟩ := I1.list hq
 obtain ⟨its2, rv2, pl2, _⟩ := I1.list hq2
 have lt1 : a < s1.heap.objs.size := let ⟨_, _, e, _⟩ := pl; Heap.lt_size e
 have lt2 : b < s1.heap.objs.size := let ⟨_, _, e, _⟩ := pl2; Heap.lt_size e
 have D : ZipApart (s1.heap.objs.size + 4) (s1.heap.objs.size + 2) (s1.heap.objs.size + 3) s1.heap.objs.size (s1.heap.objs.size + 1) a b := by
  have key : ∀ n x y : Nat, x < n -> y < n -> ZipApart (n + 4) (n + 2) (n + 3) n (n + 1) x y := fun n x y h1 h2 => by constructor <;> (intro q; have q' : (_ : Nat) = _ := q; omega)
  exact key _ _ _ lt1 lt2
 refine call_zip_2 pl.isList pl2.isList fun h' hz hTI hTO hi1 hi2 hsz hk => ?_
 refine wpAny_pyIter_zip (s := { s1 with heap := h' }) hz ?_
 refine ⟨s1.heap.objs.size + 4, [s1.heap.objs.size + 4, s1.heap.objs.size + 2, s1.heap.objs.size + 3, s1.heap.objs.size, s1.heap.objs.size + 1], _, _, H1, rfl, I1.kept (t' := s1.toks) hk, turn_zip a b _ _ _ _ _ D, ⟨hz, hTI, ⟨_, _, hTO⟩, hi1, hi2⟩, fun c hc => ?_, q⟩
 have hle : s1.heap.objs.size <= c := by
  have hc' : c = s1.heap.objs.size + 4 \/ c = s1.heap.objs.size + 2 \/ c = s1.heap.objs.size + 3 \/ c = s1.heap.objs.size \/ c = s1.heap.objs.size + 1 := by simpa using hc
  rcases hc' with e | e | e | e | e <;> rw [e] <;> first | exact Nat.le_refl _ | exact Nat.le_add_right _ _
 exact I1.fpOk hle (I1.hok.fresh hle)
end
end L2
namespace My
open PySem L2
section
variable {K : PySem.W.Frag} {a b : Addr} {xs ys : List V} {g : TG} {tt : TT} {te : TE} {o : Nat} {fr : List Nat} {σ : St} {H : Hp} {Q : VK}
theorem lc_zip (Pv : Nat -> List V -> Hp -> Prop) (h0 : Pv 0 [] H) (hxy : xs.length = ys.length) (hz : xs.length < sizeLine) (hl : ∀ i zs H, i <= xs.length -> Pv i zs H -> SqL K H a xs /\ SqL K H b ys /\ zs.length <= i)
  (hs : ∀ (i : Nat) x y zs H (p : Addr), H p = none -> xs[i]? = some x -> ys[i]? = some y -> Pv i zs H -> LcTurn Pv g tt te o fr σ i (.ref p) zs (upd H p (.tup [x, y]))) (hd : ∀ zs H, Pv xs.length zs H -> ∀ p, H p = none -> Q (.ref p) (upd H p (.lst zs))) : LcR (Itz K a b) g tt te o fr σ H Q := by
 refine ⟨fun i m zs H => m = xs.length - i /\ i <= xs.length /\ Pv i zs H, ⟨xs.length, by simp, Nat.zero_le _, h0⟩, ?_⟩
 rintro i m zs H ⟨rfl, hi, p⟩
 obtain ⟨q, q2, hy⟩ := hl i zs H hi p
 by_cases hlt : i < xs.length
 ·refine .inr ⟨⟨xs, ys, xs[i], ys[i]'(by omega), q, q2, by simp [hlt], List.getElem?_eq_getElem (by omega)⟩, by omega, fun x H' ⟨T, u, v, hT, ex, eH, hu, hv⟩ => ?_⟩
  subst ex eH
  exact hs i u v zs H T hT (hu xs q) (hv ys q2) p (fun j zs H => ∃ m', m' < xs.length - i /\ m' = xs.length - j /\ j <= xs.length /\ Pv j zs H) fun zs H p' => ⟨xs.length - (i + 1), by omega, rfl, hlt, p'⟩
 ·have e : i = xs.length := by omega
  subst e
  exact .inl ⟨⟨xs, ys, q, q2, .inl (Nat.le_refl _)⟩, by omega, hd zs H p⟩
end
end My
namespace My
abbrev Mx := Nat -> Nat -> Int
def sm : Nat -> (Nat -> Int) -> Int
 | 0, _ => 0
 | n + 1, f => sm n f + f n
theorem sm_congr {f g : Nat -> Int} : ∀ {n : Nat}, (∀ i, i < n -> f i = g i) -> sm n f = sm n g
 | 0, _ => rfl
 | n + 1, h => by
  show sm n f + f n = sm n g + g n
  rw [sm_congr fun i hi => h i (by omega), h n (by omega)]
theorem sm_add {f g : Nat -> Int} : ∀ {n : Nat}, sm n (fun i => f i + g i) = sm n f + sm n g
 | 0 => rfl
 | n + 1 => by
  show sm n (fun i => f i + g i) + (f n + g n) = sm n f + f n + (sm n g + g n)
  rw [sm_add]
  omega
theorem sm_mul {c : Int} {f : Nat -> Int} : ∀ {n : Nat}, sm n (fun i => c * f i) = c * sm n f
 | 0 => (Int.mul_zero c).symm
 | n + 1 => by
  show sm n (fun i => c * f i) + c * f n = c * (sm n f + f n)
  rw [sm_mul, Int.mul_add]
theorem sm_zero : ∀ {n : Nat}, sm n (fun _ => 0) = 0
 | 0 => rfl
 | n + 1 => by
  show sm n (fun _ => 0) + 0 = 0
  rw [sm_zero]
  rfl
theorem sm_none {f : Nat -> Int} {n : Nat} (h : ∀ i, i < n -> f i = 0) : sm n f = 0 := by rw [sm_congr h]; exact sm_zero
theorem sm_first {f : Nat -> Int} : ∀ {n : Nat}, sm (n + 1) f = f 0 + sm n (fun i => f (i + 1))
 | 0 => by show 0 + f 0 = f 0 + 0; omega
 | n + 1 => by
  show sm (n + 1) f + f (n + 1) = f 0 + (sm n (fun i => f (i + 1)) + f (n + 1))
  rw [sm_first]
  omega
theorem sm_swap {f : Nat -> Nat -> Int} {m : Nat} : ∀ {n : Nat}, sm n (fun i => sm m (f i)) = sm m (fun j => sm n (fun i => f i j))
 | 0 => sm_zero.symm
 | n + 1 => by
  show sm n (fun i => sm m (f i)) + sm m (f n) = sm m (fun j => sm n (fun i => f i j) + f n j)
  rw [sm_swap, sm_add]
def sk (j k : Nat) : Nat := if k < j then k else k + 1
def mn (A : Mx) (j : Nat) : Mx := fun i k => A (i + 1) (sk j k)
def sg (j : Nat) : Int := if j % 2 = 0 then 1 else -1
theorem sg_succ (j : Nat) : sg (j + 1) = - sg j := by
 unfold sg
 by_cases h : j % 2 = 0
 ·rw [if_pos h, if_neg (by omega)]
 ·rw [if_neg h, if_pos (by omega)]; rfl
def det : Nat -> Mx -> Int
 | 0, _ => 1
 | n + 1, A => sm (n + 1) fun j => sg j * A 0 j * det n (mn A j)
theorem sk_lt {j k n : Nat} (h : k < n) : sk j k < n + 1 := by unfold sk; split <;> omega
theorem det_congr : ∀ {n : Nat} {A B : Mx}, (∀ i j, i < n -> j < n -> A i j = B i j) -> det n A = det n B
 | 0, _, _, _ => rfl
 | n + 1, A, B, h => sm_congr fun j hj => by
  rw [h 0 j (by omega) hj, det_congr (A := mn A j) (B := mn B j) fun i k hi hk => h (i + 1) (sk j k) (by omega) (sk_lt hk)]
theorem det_lin : ∀ {n : Nat} {A B C : Mx} {c : Int} {i : Nat}, i < n -> (∀ r j, r < n -> j < n -> r ≠ i -> A r j = B r j /\ A r j = C r j) -> (∀ j, j < n -> A i j = c * B i j + C i j) -> det n A = c * det n B + det n C
 | 0, _, _, _, _, _, hi, _, _ => absurd hi (Nat.not_lt_zero _)
 | n + 1, A, B, C, c, i, hi, h1, h2 => by
  show sm (n + 1) (fun j => sg j * A 0 j * det n (mn A j)) = c * sm (n + 1) (fun j => sg j * B 0 j * det n (mn B j)) + sm (n + 1) (fun j => sg j * C 0 j * det n (mn C j))
  rw [<- sm_mul, <- sm_add]
  refine sm_congr fun j hj => ?_
  cases i with
  | zero =>
   have e1 : det n (mn B j) = det n (mn A j) := det_congr fun r k hr hk => (h1 (r + 1) (sk j k) (by omega) (sk_lt hk) (by omega)).1.symm
   have e2 : det n (mn C j) = det n (mn A j) := det_congr fun r k hr hk => (h1 (r + 1) (sk j k) (by omega) (sk_lt hk) (by omega)).2.symm
   rw [e1, e2, h2 j hj]
   generalize det n (mn A j) = d
   generalize sg j = s
   rw [Int.mul_add, Int.add_mul, <- Int.mul_assoc s c, Int.mul_comm s c, Int.mul_assoc c s, Int.mul_assoc c]
  | succ i =>
   have e := det_lin (n := n) (A := mn A j) (B := mn B j) (C := mn C j) (c := c) (i := i) (by omega) (fun r k hr hk hne => h1 (r + 1) (sk j k) (by omega) (sk_lt hk) (by omega)) (fun k hk => h2 (sk j k) (sk_lt hk))
   have e0 := h1 0 j (by omega) hj (by omega)
   rw [e, <- e0.1, <- e0.2]
   generalize det n (mn B j) = d
   generalize det n (mn C j) = d'
   generalize sg j * A 0 j = s
   rw [Int.mul_add, <- Int.mul_assoc, <- Int.mul_assoc, Int.mul_comm s c]
theorem mn_mn {A : Mx} {j k i l : Nat} (h : j <= k) : mn (mn A j) k i l = mn (mn A (k + 1)) j i l := by
 show A (i + 1 + 1) (sk j (sk k l)) = A (i + 1 + 1) (sk (k + 1) (sk j l))
 refine congrArg _ ?_
 unfold sk
 by_cases h1 : l < j
 ·rw [if_pos (show l < k by omega), if_pos h1, if_pos (show l < k + 1 by omega)]
 ·rw [if_neg h1]
  by_cases h2 : l < k
  ·rw [if_pos h2, if_neg h1, if_pos (show l + 1 < k + 1 by omega)]
  ·rw [if_neg h2, if_neg (show ¬ l + 1 < j by omega), if_neg (show ¬ l + 1 < k + 1 by omega)]
theorem det_next : ∀ {n : Nat} {A : Mx} {i : Nat}, i + 1 < n -> (∀ j, j < n -> A i j = A (i + 1) j) -> det n A = 0
 | 0, _, _, hi, _ => absurd hi (Nat.not_lt_zero _)
 | n + 1, A, i + 1, hi, h => sm_none fun j hj => by
  rw [det_next (A := mn A j) (i := i) (by omega) fun k hk => h (sk j k) (sk_lt hk), Int.mul_zero]
 | 1, _, 0, hi, _ => absurd hi (by omega)
 | n + 2, A, 0, _, h => by
  obtain ⟨t, ht⟩ : ∃ t : Nat -> Nat -> Int, t = fun j k => sg j * A 0 j * (sg k * A 1 (sk j k) * det n (mn (mn A j) k)) := ⟨_, rfl⟩
  have e1 : det (n + 2) A = sm (n + 2) fun j => sm (n + 1) (t j) := sm_congr fun j hj => by
   rw [ht, sm_mul]
   rfl
  have e2 : ∀ j k, j <= k -> k < n + 1 -> t (k + 1) j = - t j k := fun j k hjk hk => by
   rw [ht]
   show sg (k + 1) * A 0 (k + 1) * (sg j * A 1 (sk (k + 1) j) * det n (mn (mn A (k + 1)) j)) = - (sg j * A 0 j * (sg k * A 1 (sk j k) * det n (mn (mn A j) k)))
   have f1 : sk (k + 1) j = j := by unfold sk; rw [if_pos (by omega)]
   have f2 : sk j k = k + 1 := by unfold sk; rw [if_neg (by omega)]
   have f3 : det n (mn (mn A (k + 1)) j) = det n (mn (mn A j) k) := det_congr fun i l _ _ => (mn_mn hjk).symm
   rw [f1, f2, f3, sg_succ, <- h j (by omega), <- h (k + 1) (by omega)]
   generalize det n (mn (mn A j) k) = d
   generalize A 0 j = x
   generalize A 0 (k + 1) = y
   generalize sg j = s
   generalize sg k = u
   simp only [Int.neg_mul, Int.neg_inj]
   simp only [Int.mul_comm, Int.mul_left_comm, Int.mul_assoc]
  have e3 : sm (n + 2) (fun j => sm (n + 1) (t j)) = sm (n + 2) (fun j => sm (n + 1) fun k => if k < j then t j k else 0) + sm (n + 2) (fun j => sm (n + 1) fun k => if k < j then 0 else t j k) := by
   rw [<- sm_add]
   refine sm_congr fun j _ => ?_
   rw [<- sm_add]
   refine sm_congr fun k _ => ?_
   split <;> omega
  have e4 : sm (n + 2) (fun j => sm (n + 1) fun k => if k < j then t j k else 0) = sm (n + 1) (fun k => sm (n + 1) fun j => if k <= j then t (j + 1) k else 0) := by
   rw [sm_swap]
   refine sm_congr fun k _ => ?_
   rw [sm_first, if_neg (by omega), Int.zero_add]
   refine sm_congr fun j _ => ?_
   by_cases c : k <= j
   ·rw [if_pos c, if_pos (by omega)]
   ·rw [if_neg c, if_neg (by omega)]
  have e5 : sm (n + 2) (fun j => sm (n + 1) fun k => if k < j then 0 else t j k) = sm (n + 1) (fun j => sm (n + 1) fun k => if j <= k then t j k else 0) := by
   show sm (n + 1) (fun j => sm (n + 1) fun k => if k < j then 0 else t j k) + sm (n + 1) (fun k => if k < n + 1 then 0 else t (n + 1) k) = _
   rw [sm_none (f := fun k => if k < n + 1 then 0 else t (n + 1) k) fun k hk => if_pos hk, Int.add_zero]
   refine sm_congr fun j _ => sm_congr fun k _ => ?_
   by_cases c : j <= k
   ·rw [if_pos c, if_neg (by omega)]
   ·rw [if_neg c, if_pos (by omega)]
  rw [e1, e3, e4, e5, <- sm_add]
  refine sm_none fun j hj => ?_
  rw [<- sm_add]
  refine sm_none fun k hk => ?_
  by_cases c : j <= k
  ·rw [if_pos c, if_pos c, e2 j k c hk]
   omega
  ·rw [if_neg c, if_neg c]
   rfl
def put2 (A : Mx) (i : Nat) (x y : Nat -> Int) : Mx := fun r => if r = i then x else if r = i + 1 then y else A r
theorem det_put2 {n : Nat} {A : Mx} {i : Nat} {x x' y : Nat -> Int} (hi : i + 1 < n) : det n (put2 A i (fun j => x j + x' j) y) = det n (put2 A i x y) + det n (put2 A i x' y) := by
 have := det_lin (n := n) (A := put2 A i (fun j => x j + x' j) y) (B := put2 A i x y) (C := put2 A i x' y) (c := 1) (i := i) (by omega) (fun r j _ _ hne => by unfold put2; rw [if_neg hne, if_neg hne, if_neg hne]; exact ⟨rfl, rfl⟩) (fun j _ => by unfold put2; rw [if_pos rfl, if_pos rfl, if_pos rfl, Int.one_mul])
 rw [this, Int.one_mul]
theorem det_put2' {n : Nat} {A : Mx} {i : Nat} {x y y' : Nat -> Int} (hi : i + 1 < n) : det n (put2 A i x (fun j => y j + y' j)) = det n (put2 A i x y) + det n (put2 A i x y') := by
 have ne : ¬ i + 1 = i := by omega
 have := det_lin (n := n) (A := put2 A i x (fun j => y j + y' j)) (B := put2 A i x y) (C := put2 A i x y') (c := 1) (i := i + 1) (by omega) (fun r j _ _ hne => by unfold put2; rw [if_neg hne, if_neg hne, if_neg hne]; exact ⟨rfl, rfl⟩) (fun j _ => by unfold put2; rw [if_neg ne, if_neg ne, if_neg ne, if_pos rfl, if_pos rfl, if_pos rfl, Int.one_mul])
 rw [this, Int.one_mul]
theorem det_same {n : Nat} {A : Mx} {i : Nat} {x : Nat -> Int} (hi : i + 1 < n) : det n (put2 A i x x) = 0 := det_next hi fun j _ => by
 unfold put2
 rw [if_pos rfl, if_neg (by omega), if_pos rfl]
theorem det_turn {n : Nat} {A : Mx} {i : Nat} {x y : Nat -> Int} (hi : i + 1 < n) : det n (put2 A i y x) = - det n (put2 A i x y) := by
 have h := det_same (A := A) (x := fun j => x j + y j) hi
 rw [det_put2 hi, det_put2' hi, det_put2' hi, det_same hi, det_same hi] at h
 omega
theorem put2_own {A : Mx} {i : Nat} : put2 A i (A i) (A (i + 1)) = A := by
 funext r
 unfold put2
 by_cases h : r = i
 ·rw [if_pos h, h]
 ·rw [if_neg h]
  by_cases h2 : r = i + 1
  ·rw [if_pos h2, h2]
  ·rw [if_neg h2]
theorem det_swap {n : Nat} {A : Mx} {i : Nat} (hi : i + 1 < n) : det n (put2 A i (A (i + 1)) (A i)) = - det n A := by
 have := det_turn (A := A) (x := A i) (y := A (i + 1)) hi
 rw [put2_own] at this
 exact this
theorem det_alike {n : Nat} {a : Nat} : ∀ {d : Nat} {A : Mx}, a + d + 1 < n -> (∀ j, j < n -> A a j = A (a + d + 1) j) -> det n A = 0
 | 0, A, hn, h => det_next hn h
 | d + 1, A, hn, h => by
  have e := det_swap (n := n) (A := A) (i := a + d + 1) (by omega)
  have z : det n (put2 A (a + d + 1) (A (a + d + 1 + 1)) (A (a + d + 1))) = 0 := by
   refine det_alike (a := a) (d := d) (by omega) fun j hj => ?_
   unfold put2
   rw [if_neg (by omega), if_neg (by omega), if_pos rfl]
   exact h j hj
  omega
def rotN (k t i : Nat) : Nat := if i < k then i else if i = k then k + t else if i <= k + t then i - 1 else i
theorem rotN_zero (k i : Nat) : rotN k 0 i = i := by
 unfold rotN
 by_cases h : i < k
 ·rw [if_pos h]
 ·rw [if_neg h]
  by_cases h2 : i = k
  ·rw [if_pos h2, h2]; rfl
  ·rw [if_neg h2, if_neg (by omega)]
theorem det_rot {n k : Nat} : ∀ {t : Nat} {A : Mx}, k + t < n -> det n (fun i => A (rotN k t i)) = sg t * det n A
 | 0, A, _ => by
  rw [show sg 0 = 1 from rfl, Int.one_mul]
  exact det_congr fun i j _ _ => by rw [rotN_zero]
 | t + 1, A, h => by
  have e := det_rot (n := n) (k := k) (t := t) (A := put2 A (k + t) (A (k + t + 1)) (A (k + t))) (by omega)
  rw [det_swap (by omega)] at e
  have f : det n (fun i => A (rotN k (t + 1) i)) = det n (fun i => put2 A (k + t) (A (k + t + 1)) (A (k + t)) (rotN k t i)) := det_congr fun i j _ _ => by
   refine congrFun ?_ j
   have r1 : rotN k (t + 1) i = if i < k then i else if i = k then k + (t + 1) else if i <= k + (t + 1) then i - 1 else i := rfl
   have r2 : rotN k t i = if i < k then i else if i = k then k + t else if i <= k + t then i - 1 else i := rfl
   unfold put2
   by_cases h1 : i < k
   ·rw [if_pos h1] at r1 r2
    rw [r1, r2, if_neg (by omega), if_neg (by omega)]
   ·rw [if_neg h1] at r1 r2
    by_cases h2 : i = k
    ·rw [if_pos h2] at r1 r2
     rw [r1, r2, if_pos rfl]
     rfl
    ·rw [if_neg h2] at r1 r2
     by_cases h3 : i <= k + t
     ·rw [if_pos (by omega)] at r1
      rw [if_pos h3] at r2
      rw [r1, r2, if_neg (by omega), if_neg (by omega)]
     ·rw [if_neg h3] at r2
      by_cases h4 : i = k + t + 1
      ·rw [if_pos (by omega)] at r1
       rw [r1, r2, if_neg (by omega), if_pos h4]
       exact congrArg A (by omega)
      ·rw [if_neg (by omega)] at r1
       rw [r1, r2, if_neg (by omega), if_neg h4]
  rw [f, e, sg_succ, Int.mul_neg, Int.neg_mul]
theorem det_col0 : ∀ {n : Nat} {A : Mx}, (∀ i, i < n + 1 -> A i 0 = 0) -> det (n + 1) A = 0
 | 0, A, h => by
  show 0 + sg 0 * A 0 0 * 1 = 0
  rw [h 0 (by omega), Int.mul_zero]
  rfl
 | n + 1, A, h => sm_none fun j hj => by
  cases j with
  | zero => rw [h 0 (by omega), Int.mul_zero, Int.zero_mul]
  | succ j =>
   rw [det_col0 (A := mn A (j + 1)) fun i hi => ?_, Int.mul_zero]
   show A (i + 1) (sk (j + 1) 0) = 0
   rw [show sk (j + 1) 0 = 0 from rfl]
   exact h (i + 1) (by omega)
theorem det_first {n : Nat} {A : Mx} (h : ∀ i, i < n -> A (i + 1) 0 = 0) : det (n + 1) A = A 0 0 * det n (fun i j => A (i + 1) (j + 1)) := by
 show sm (n + 1) (fun j => sg j * A 0 j * det n (mn A j)) = _
 rw [sm_first, sm_none fun j hj => ?_]
 ·rw [Int.add_zero, show sg 0 = 1 from rfl, Int.one_mul]
  refine congrArg (A 0 0 * ·) (det_congr fun i j _ _ => ?_)
  rfl
 ·cases n with
  | zero => exact absurd hj (Nat.not_lt_zero _)
  | succ n =>
   rw [det_col0 (A := mn A (j + 1)) fun i hi => ?_, Int.mul_zero]
   exact h i hi
theorem det_row0 {n : Nat} {A : Mx} {i : Nat} (hi : i < n) (h : ∀ j, j < n -> A i j = 0) : det n A = 0 := by
 have := det_lin (A := A) (B := A) (C := A) (c := 1) hi (fun r j _ _ _ => ⟨rfl, rfl⟩) (fun j hj => by rw [h j hj]; rfl)
 omega
theorem det_scale {c : Int} : ∀ {n : Nat} {A : Mx}, det n (fun i j => c * A i j) = c ^ n * det n A
 | 0, _ => by show (1 : Int) = c ^ 0 * 1; rw [Int.pow_zero]; rfl
 | n + 1, A => by
  show sm (n + 1) (fun j => sg j * (c * A 0 j) * det n (mn (fun i j => c * A i j) j)) = c ^ (n + 1) * sm (n + 1) (fun j => sg j * A 0 j * det n (mn A j))
  rw [<- sm_mul]
  refine sm_congr fun j _ => ?_
  have e : det n (mn (fun i j => c * A i j) j) = c ^ n * det n (mn A j) := det_scale (A := mn A j)
  rw [e, Int.pow_succ]
  generalize det n (mn A j) = d
  generalize c ^ n = p
  generalize sg j = s
  generalize A 0 j = x
  simp only [Int.mul_comm, Int.mul_left_comm, Int.mul_assoc]
def offN (R : Mx) : Mx := fun i j => R 0 0 * R (i + 1) (j + 1) - R (i + 1) 0 * R 0 (j + 1)
def offB (R : Mx) (k : Nat) : Mx := fun r j => if r = 0 then R 0 j else if r <= k then R 0 0 * R r j - R r 0 * R 0 j else R r j
theorem det_offB {m : Nat} {R : Mx} : ∀ {k : Nat}, k < m + 1 -> det (m + 1) (offB R k) = R 0 0 ^ k * det (m + 1) R
 | 0, _ => by
  rw [Int.pow_zero, Int.one_mul]
  refine det_congr fun i j _ _ => ?_
  unfold offB
  by_cases h : i = 0
  ·rw [if_pos h, h]
  ·rw [if_neg h, if_neg (by omega)]
 | k + 1, hk => by
  have ih := det_offB (m := m) (R := R) (k := k) (by omega)
  obtain ⟨C, hC⟩ : ∃ C : Mx, C = fun r j => if r = k + 1 then - R (k + 1) 0 * R 0 j else offB R k r j := ⟨_, rfl⟩
  obtain ⟨B, hB⟩ : ∃ B : Mx, B = fun r j => if r = k + 1 then R 0 j else offB R k r j := ⟨_, rfl⟩
  obtain ⟨Z, hZ⟩ : ∃ Z : Mx, Z = fun r j => if r = k + 1 then 0 else offB R k r j := ⟨_, rfl⟩
  have hBz : det (m + 1) B = 0 := det_alike (n := m + 1) (a := 0) (d := k) (by omega) fun j hj => by
   rw [hB]
   show (if 0 = k + 1 then _ else offB R k 0 j) = if 0 + k + 1 = k + 1 then _ else _
   rw [if_neg (by omega), if_pos (by omega)]
   rfl
  have hZz : det (m + 1) Z = 0 := det_row0 (i := k + 1) hk fun j hj => by rw [hZ]; exact if_pos rfl
  have hCz : det (m + 1) C = 0 := by
   have := det_lin (A := C) (B := B) (C := Z) (c := - R (k + 1) 0) hk (fun r j _ _ hne => by
    rw [hC, hB, hZ]
    show (if r = k + 1 then _ else offB R k r j) = (if r = k + 1 then _ else offB R k r j) /\ (if r = k + 1 then _ else offB R k r j) = (if r = k + 1 then _ else offB R k r j)
    rw [if_neg hne, if_neg hne, if_neg hne]
    exact ⟨rfl, rfl⟩) (fun j _ => by
    rw [hC, hB, hZ]
    show (if k + 1 = k + 1 then _ else _) = _ * (if k + 1 = k + 1 then _ else _) + (if k + 1 = k + 1 then _ else _)
    rw [if_pos rfl, if_pos rfl, if_pos rfl, Int.add_zero])
   rw [this, hBz, hZz, Int.mul_zero]
   rfl
  have := det_lin (A := offB R (k + 1)) (B := offB R k) (C := C) (c := R 0 0) hk (fun r j _ _ hne => by
   have e1 : offB R (k + 1) r j = offB R k r j := by
    unfold offB
    by_cases h0 : r = 0
    ·rw [if_pos h0, if_pos h0]
    ·rw [if_neg h0, if_neg h0]
     by_cases h1 : r <= k
     ·rw [if_pos h1, if_pos (by omega)]
     ·rw [if_neg h1, if_neg (by omega)]
   refine ⟨e1, ?_⟩
   rw [hC, e1]
   show _ = if r = k + 1 then _ else _
   rw [if_neg hne]) (fun j _ => by
   have e1 : offB R (k + 1) (k + 1) j = R 0 0 * R (k + 1) j - R (k + 1) 0 * R 0 j := by
    unfold offB
    rw [if_neg (by omega), if_pos (by omega)]
   have e2 : offB R k (k + 1) j = R (k + 1) j := by
    unfold offB
    rw [if_neg (by omega), if_neg (by omega)]
   rw [e1, e2, hC]
   show _ = _ + (if k + 1 = k + 1 then - R (k + 1) 0 * R 0 j else _)
   rw [if_pos rfl, Int.neg_mul]
   rfl)
  rw [this, hCz, ih, Int.add_zero, Int.pow_succ]
  rw [<- Int.mul_assoc, Int.mul_comm (R 0 0)]
theorem det_off {m : Nat} {R : Mx} : R 0 0 * det m (offN R) = R 0 0 ^ m * det (m + 1) R := by
 rw [<- det_offB (k := m) (by omega), det_first fun i hi => ?_]
 ·have e0 : offB R m 0 0 = R 0 0 := if_pos rfl
  rw [e0]
  refine congrArg (R 0 0 * ·) (det_congr fun i j hi hj => ?_)
  unfold offB offN
  rw [if_neg (by omega), if_pos (by omega)]
 ·unfold offB
  rw [if_neg (by omega), if_pos (by omega), Int.mul_comm]
  omega
def ex (k : Nat) (r : Nat -> Nat) (i : Nat) : Nat := if i < k then i else k + r (i - k)
def Bar (A : Mx) (k M : Nat) (R : Mx) (last : Int) : Prop := last ≠ 0 /\ ∀ (m : Nat) (r c : Nat -> Nat), (∀ i, i < m + 1 -> r i < M /\ c i < M) ->
 det (m + 1) (fun i j => R (r i) (c j)) = det (k + m + 1) (fun i j => A (ex k r i) (ex k c j)) * last ^ m
theorem bar_start (A : Mx) (n : Nat) : Bar A 0 n A 1 := ⟨by decide, fun m r c _ => by
 rw [Int.one_pow, Int.mul_one, Nat.zero_add]
 refine det_congr fun i j _ _ => ?_
 unfold ex
 rw [if_neg (Nat.not_lt_zero _), if_neg (Nat.not_lt_zero _), Nat.zero_add, Nat.zero_add, Nat.sub_zero, Nat.sub_zero]⟩
theorem pow_ne {p : Int} (h : p ≠ 0) : ∀ n : Nat, p ^ n ≠ 0
 | 0 => by rw [Int.pow_zero]; decide
 | n + 1 => by rw [Int.pow_succ]; exact Int.mul_ne_zero (pow_ne h n) h
def bef (r : Nat -> Nat) : Nat -> Nat
 | 0 => 0
 | i + 1 => r i + 1
theorem ex_bef (k : Nat) (r : Nat -> Nat) (i : Nat) : ex k (bef r) i = ex (k + 1) r i := by
 unfold ex
 by_cases h : i < k
 ·rw [if_pos h, if_pos (by omega)]
 ·rw [if_neg h]
  by_cases h2 : i = k
  ·rw [if_pos (by omega), h2, Nat.sub_self]
   rfl
  ·rw [if_neg (by omega)]
   obtain ⟨d, rfl⟩ : ∃ d, i = k + d + 1 := ⟨i - k - 1, by omega⟩
   rw [show k + d + 1 - k = d + 1 by omega, show k + d + 1 - (k + 1) = d by omega]
   show k + (r d + 1) = k + 1 + r d
   omega
theorem bar_off {A : Mx} {k M : Nat} {R : Mx} {last : Int} (h : Bar A k (M + 1) R last) (hp : R 0 0 ≠ 0) {m : Nat} {r c : Nat -> Nat} (hb : ∀ i, i < m + 1 -> r i < M /\ c i < M) :
  det (m + 1) (fun i j => offN R (r i) (c j)) = R 0 0 ^ m * (last ^ (m + 1) * det (k + 1 + m + 1) (fun i j => A (ex (k + 1) r i) (ex (k + 1) c j))) := by
 have e1 := det_off (m := m + 1) (R := fun i j => R (bef r i) (bef c j))
 have e2 := h.2 (m + 1) (bef r) (bef c) fun i hi => by
  cases i with
  | zero => exact ⟨Nat.succ_pos _, Nat.succ_pos _⟩
  | succ i => have := hb i (by omega); exact ⟨Nat.succ_lt_succ this.1, Nat.succ_lt_succ this.2⟩
 have e3 : det (m + 1) (offN fun i j => R (bef r i) (bef c j)) = det (m + 1) (fun i j => offN R (r i) (c j)) := rfl
 have e4 : det (k + (m + 1) + 1) (fun i j => A (ex k (bef r) i) (ex k (bef c) j)) = det (k + 1 + m + 1) (fun i j => A (ex (k + 1) r i) (ex (k + 1) c j)) := by
  rw [show k + (m + 1) + 1 = k + 1 + m + 1 by omega]
  exact det_congr fun i j _ _ => by rw [ex_bef, ex_bef]
 rw [e3] at e1
 rw [e4] at e2
 have e5 : R (bef r 0) (bef c 0) = R 0 0 := rfl
 rw [e5, e2] at e1
 generalize det (m + 1) (fun i j => offN R (r i) (c j)) = x at *
 generalize det (k + 1 + m + 1) (fun i j => A (ex (k + 1) r i) (ex (k + 1) c j)) = y at *
 rw [Int.pow_succ] at e1
 refine Int.eq_of_mul_eq_mul_left hp ?_
 rw [e1, Int.mul_comm y, Int.mul_comm (R 0 0 ^ m), Int.mul_assoc]
theorem det_one (A : Mx) : det 1 A = A 0 0 := by
 show 0 + sg 0 * A 0 0 * 1 = A 0 0
 rw [show sg 0 = 1 from rfl]
 omega
theorem bar_num {A : Mx} {k M : Nat} {R : Mx} {last : Int} (h : Bar A k (M + 1) R last) (hp : R 0 0 ≠ 0) {i j : Nat} (hi : i < M) (hj : j < M) :
  offN R i j = last * det (k + 2) (fun a b => A (ex (k + 1) (fun _ => i) a) (ex (k + 1) (fun _ => j) b)) := by
 have := bar_off h hp (m := 0) (r := fun _ => i) (c := fun _ => j) fun _ _ => ⟨hi, hj⟩
 rw [det_one, Int.pow_zero, Int.one_mul, Int.pow_succ, Int.pow_zero, Int.one_mul] at this
 exact this
theorem bar_step {A : Mx} {k M : Nat} {R R' : Mx} {last : Int} (h : Bar A k (M + 1) R last) (hp : R 0 0 ≠ 0) (hR : ∀ i j, i < M -> j < M -> R' i j = (offN R i j).fdiv last) : Bar A (k + 1) M R' (R 0 0) := by
 refine ⟨hp, fun m r c hb => ?_⟩
 have ex1 : ∀ i j, i < M -> j < M -> offN R i j = last * R' i j := fun i j hi hj => by
  rw [hR i j hi hj, bar_num h hp hi hj, Int.mul_fdiv_cancel_left _ h.1]
 have e1 := bar_off h hp hb
 have e2 : det (m + 1) (fun i j => offN R (r i) (c j)) = last ^ (m + 1) * det (m + 1) (fun i j => R' (r i) (c j)) := by
  rw [<- det_scale]
  exact det_congr fun i j hi hj => ex1 _ _ (hb i hi).1 (hb j hj).2
 rw [e2] at e1
 refine Int.eq_of_mul_eq_mul_left (pow_ne h.1 (m + 1)) ?_
 rw [e1]
 generalize det (k + 1 + m + 1) (fun i j => A (ex (k + 1) r i) (ex (k + 1) c j)) = y
 rw [Int.mul_left_comm, Int.mul_comm y]
theorem bar_rot {A : Mx} {k M t : Nat} {R : Mx} {last : Int} (h : Bar A k M R last) (ht : t < M) : Bar (fun i => A (rotN k t i)) k M (fun i => R (rotN 0 t i)) last := by
 refine ⟨h.1, fun m r c hb => ?_⟩
 have e := h.2 m (fun i => rotN 0 t (r i)) c fun i hi => ⟨by
  have := (hb i hi).1
  unfold rotN
  rw [if_neg (by omega)]
  split
  ·omega
  ·split <;> omega, (hb i hi).2⟩
 rw [e]
 refine congrArg (· * last ^ m) (det_congr fun i j _ _ => ?_)
 refine congrArg (fun a => A a (ex k c j)) ?_
 unfold ex
 by_cases hi : i < k
 ·rw [if_pos hi, if_pos hi]
  unfold rotN
  rw [if_pos hi]
 ·rw [if_neg hi, if_neg hi]
  show k + rotN 0 t (r (i - k)) = rotN k t (k + r (i - k))
  generalize r (i - k) = a
  have r1 : rotN 0 t a = if a < 0 then a else if a = 0 then 0 + t else if a <= 0 + t then a - 1 else a := rfl
  have r2 : rotN k t (k + a) = if k + a < k then k + a else if k + a = k then k + t else if k + a <= k + t then k + a - 1 else k + a := rfl
  rw [if_neg (by omega)] at r1 r2
  by_cases h1 : a = 0
  ·rw [if_pos h1] at r1
   rw [if_pos (by omega)] at r2
   rw [r1, r2]
   omega
  ·rw [if_neg h1] at r1
   rw [if_neg (by omega)] at r2
   by_cases h2 : a <= t
   ·rw [if_pos (by omega)] at r1
    rw [if_pos (by omega)] at r2
    rw [r1, r2]
    omega
   ·rw [if_neg (by omega)] at r1
    rw [if_neg (by omega)] at r2
    rw [r1, r2]
theorem ex_id (k i : Nat) : ex k (fun i => i) i = i := by
 unfold ex
 by_cases h : i < k
 ·rw [if_pos h]
 ·rw [if_neg h]
  show k + (i - k) = i
  omega
theorem bar_none {A : Mx} {k M : Nat} {R : Mx} {last : Int} (h : Bar A k (M + 1) R last) (h0 : ∀ i, i < M + 1 -> R i 0 = 0) : det (k + M + 1) A = 0 := by
 have e := h.2 M (fun i => i) (fun i => i) fun i hi => ⟨hi, hi⟩
 rw [det_col0 (A := fun i j => R i j) h0] at e
 have e2 : det (k + M + 1) (fun i j => A (ex k (fun i => i) i) (ex k (fun i => i) j)) = det (k + M + 1) A := det_congr fun i j _ _ => by rw [ex_id, ex_id]
 rw [e2] at e
 rcases Int.mul_eq_zero.mp e.symm with z | z
 ·exact z
 ·exact absurd z (pow_ne h.1 M)
theorem bar_end {A : Mx} {k : Nat} {R : Mx} {last : Int} (h : Bar A k 1 R last) : R 0 0 = det (k + 1) A := by
 have e := h.2 0 (fun i => i) (fun i => i) fun i hi => ⟨by omega, by omega⟩
 rw [det_one, Int.pow_zero, Int.mul_one] at e
 have e2 : det (k + 0 + 1) (fun i j => A (ex k (fun i => i) i) (ex k (fun i => i) j)) = det (k + 1) A := det_congr fun i j _ _ => by rw [ex_id, ex_id]
 rw [e2] at e
 exact e
end My
namespace L2
open PySem PySem.Spec PyProof.Rows
def CMulL (i j : Int) : Prop := i.natAbs < 2 ^ 9000 /\ j.natAbs < 2 ^ 9000
def CDivL (i j : Int) : Prop := j ≠ 0 /\ j.natAbs < 2 ^ 9000
theorem bits_long {a : Int} (h : a.natAbs < 2 ^ 9000) : Builtin.Int.intBits a <= 9000 := PySem.intBits_le_iff.mpr h
section
variable {X : Cx}
theorem op_mulL : OpR X (binaryOp .Mult) (rI CMulL fun i j => .int (i * j)) := opI fun _ _ _ _ _ _ _ hc q => mul_int q (.of_bits (Nat.le_trans (bits_long hc.1) (by decide)) (Nat.le_trans (bits_long hc.2) (by decide)))
theorem op_fdivL : OpR X (binaryOp .FloorDiv) (rI CDivL fun i j => .int (i.fdiv j)) := opI fun _ _ _ _ _ _ _ hc q => floordiv_int hc.1 q (.inl (PyProof.noPylong_of_log2 ((Nat.log2_lt (by have := hc.1; omega)).mpr hc.2)))
end
end L2
namespace My
def fnL (L : List (List Int)) : Mx := fun i j => (L.getD i []).getD j 0
theorem fnL_at {L : List (List Int)} {l : List Int} {i j : Nat} {x : Int} (h : L[i]? = some l) (h2 : l[j]? = some x) : fnL L i j = x := by
 have e : L.getD i [] = l := by rw [List.getD_eq_getElem?_getD, h]; rfl
 unfold fnL
 rw [e, List.getD_eq_getElem?_getD, h2]
 rfl
def bnd (B : Nat) : Nat -> Nat
 | 0 => 1
 | n + 1 => (n + 1) * (B * bnd B n)
theorem sm_abs {f : Nat -> Int} {C : Nat} : ∀ {n : Nat}, (∀ i, i < n -> (f i).natAbs <= C) -> (sm n f).natAbs <= n * C
 | 0, _ => by show (0 : Int).natAbs <= 0 * C; rw [Nat.zero_mul]; exact Nat.le_refl 0
 | n + 1, h => by
  have h1 := sm_abs (n := n) fun i hi => h i (by omega)
  have h2 := h n (by omega)
  have h3 : (sm n f + f n).natAbs <= (sm n f).natAbs + (f n).natAbs := Int.natAbs_add_le ..
  show (sm n f + f n).natAbs <= (n + 1) * C
  rw [Nat.succ_mul]
  omega
theorem det_abs {B : Nat} : ∀ {n : Nat} {A : Mx}, (∀ i j, i < n -> j < n -> (A i j).natAbs <= B) -> (det n A).natAbs <= bnd B n
 | 0, _, _ => Nat.le_refl 1
 | n + 1, A, h => by
  refine sm_abs fun j hj => ?_
  have e : (sg j).natAbs = 1 := by
   unfold sg
   split <;> rfl
  rw [Int.natAbs_mul, Int.natAbs_mul, e, Nat.one_mul]
  exact Nat.mul_le_mul (h 0 j (by omega) hj) (det_abs fun i k hi hk => h (i + 1) (sk j k) (by omega) (sk_lt hk))
theorem bnd_le {b : Nat} : ∀ {n : Nat}, n <= 16 -> bnd (2 ^ b) n <= 2 ^ ((b + 4) * n)
 | 0, _ => by show 1 <= 2 ^ ((b + 4) * 0); rw [Nat.mul_zero]; exact Nat.le_refl 1
 | n + 1, h => by
  have ih := bnd_le (b := b) (n := n) (by omega)
  have e : 2 ^ ((b + 4) * (n + 1)) = 16 * (2 ^ b * 2 ^ ((b + 4) * n)) := by
   rw [Nat.mul_succ, Nat.pow_add, Nat.pow_add, Nat.mul_comm (2 ^ ((b + 4) * n)), Nat.mul_comm (2 ^ b) (2 ^ 4), Nat.mul_assoc]
  rw [e]
  show (n + 1) * (2 ^ b * bnd (2 ^ b) n) <= _
  exact Nat.mul_le_mul h (Nat.mul_le_mul (Nat.le_refl _) ih)
theorem det_small {n : Nat} {A : Mx} (hn : n <= 16) (h : ∀ i j, i < n -> j < n -> (A i j).natAbs <= 2 ^ 400) : (det n A).natAbs < 2 ^ 9000 := by
 have h1 := det_abs h
 have h2 := bnd_le (b := 400) hn
 have h3 : 2 ^ ((400 + 4) * n) <= 2 ^ (404 * 16) := Nat.pow_le_pow_right (by decide) (Nat.mul_le_mul (Nat.le_refl _) hn)
 have h4 : 2 ^ (404 * 16) < 2 ^ 9000 := Nat.pow_lt_pow_right (by decide) (by decide)
 exact Nat.lt_of_le_of_lt (Nat.le_trans h1 (Nat.le_trans h2 h3)) h4
theorem bar_at {A : Mx} {k M : Nat} {R : Mx} {last : Int} (h : Bar A k M R last) {i j : Nat} (hi : i < M) (hj : j < M) : R i j = det (k + 1) (fun a b => A (ex k (fun _ => i) a) (ex k (fun _ => j) b)) := by
 have := h.2 0 (fun _ => i) (fun _ => j) fun _ _ => ⟨hi, hj⟩
 rw [det_one, Int.pow_zero, Int.mul_one] at this
 exact this
theorem bar_small {A : Mx} {k M n : Nat} {R : Mx} {last : Int} (h : Bar A k M R last) (hn : k + M = n) (hn16 : n <= 16) (hA : ∀ i j, i < n -> j < n -> (A i j).natAbs <= 2 ^ 400) {i j : Nat} (hi : i < M) (hj : j < M) : (R i j).natAbs < 2 ^ 9000 := by
 rw [bar_at h hi hj]
 refine det_small (by omega) fun a b ha hb => hA _ _ ?_ ?_
 ·have e : ex k (fun _ => i) a = if a < k then a else k + i := rfl
  rw [e]
  split <;> omega
 ·have e : ex k (fun _ => j) b = if b < k then b else k + j := rfl
  rw [e]
  split <;> omega
theorem rot_get {L : List (List Int)} {l : List Int} {t : Nat} (h : L[t]? = some l) (i : Nat) : (l :: L.eraseIdx t)[i]? = L[rotN 0 t i]? := by
 have ht := (List.getElem?_eq_some_iff.mp h).1
 have r : rotN 0 t i = if i < 0 then i else if i = 0 then 0 + t else if i <= 0 + t then i - 1 else i := rfl
 rw [if_neg (by omega)] at r
 cases i with
 | zero =>
  rw [if_pos rfl, Nat.zero_add] at r
  rw [r, h]
  rfl
 | succ i =>
  rw [if_neg (by omega), Nat.zero_add] at r
  rw [r, List.getElem?_cons_succ, List.getElem?_eraseIdx]
  by_cases c : i + 1 <= t
  ·rw [if_pos c, if_pos (by omega)]
   rfl
  ·rw [if_neg c, if_neg (by omega)]
theorem rot_fnL {L : List (List Int)} {l : List Int} {t : Nat} (h : L[t]? = some l) : fnL (l :: L.eraseIdx t) = fun i => fnL L (rotN 0 t i) := by
 funext i j
 show ((l :: L.eraseIdx t).getD i []).getD j 0 = (L.getD (rotN 0 t i) []).getD j 0
 refine congrArg (fun r : List Int => r.getD j 0) ?_
 rw [List.getD_eq_getElem?_getD, List.getD_eq_getElem?_getD, rot_get h]
def tkn (y : Int) (p : List Int) (last : Int) (l : List Int) : List Int := List.zipWith (fun own other => (y * own - l.headD 0 * other).fdiv last) l.tail p
theorem tkn_len {y last : Int} {p l : List Int} (h : l.length = p.length + 1) : (tkn y p last l).length = p.length := by
 unfold tkn
 rw [List.length_zipWith, List.length_tail]
 omega
theorem tkn_fnL {y last : Int} {p : List Int} {L : List (List Int)} {M : Nat} (hp : p.length = M) (hL : L.length = M) (hl : ∀ l ∈ L, l.length = M + 1) {i j : Nat} (hi : i < M) (hj : j < M) :
  fnL (L.map (tkn y p last)) i j = (offN (fnL ((y :: p) :: L)) i j).fdiv last := by
 obtain ⟨l, hli⟩ : ∃ l, L[i]? = some l := ⟨_, List.getElem?_eq_getElem (by omega)⟩
 have hll := hl l (List.mem_of_getElem? hli)
 obtain ⟨x, l', rfl⟩ : ∃ x l', l = x :: l' := by
  cases l with
  | nil => cases hll
  | cons x l' => exact ⟨x, l', rfl⟩
 have hl' : l'.length = M := by rw [List.length_cons] at hll; omega
 obtain ⟨u, hu⟩ : ∃ u, l'[j]? = some u := ⟨_, List.getElem?_eq_getElem (by omega)⟩
 obtain ⟨v, hv⟩ : ∃ v, p[j]? = some v := ⟨_, List.getElem?_eq_getElem (by omega)⟩
 have e1 : fnL (L.map (tkn y p last)) i j = (y * u - x * v).fdiv last := fnL_at (l := tkn y p last (x :: l')) (by rw [List.getElem?_map, hli]; rfl) (by
  show (List.zipWith _ l' p)[j]? = _
  rw [List.getElem?_zipWith, hu, hv]
  rfl)
 have e2 : fnL ((y :: p) :: L) 0 0 = y := rfl
 have e3 : fnL ((y :: p) :: L) (i + 1) (j + 1) = u := fnL_at (l := x :: l') hli hu
 have e4 : fnL ((y :: p) :: L) (i + 1) 0 = x := fnL_at (l := x :: l') hli rfl
 have e5 : fnL ((y :: p) :: L) 0 (j + 1) = v := fnL_at (l := y :: p) rfl hv
 rw [e1]
 unfold offN
 rw [e2, e3, e4, e5]
end My
namespace My
open PySem L2
def RowV (K : PySem.W.Frag) (H : Hp) (v : V) (l : List Int) : Prop := ∃ (r : Addr) (k : Bool), v = .ref r /\ SqK k K H r (IL l)
def LiV (d : Addr) (H : Hp) (v : V) (l : List Int) : Prop := ∃ r, v = .ref r /\ H r = some (.lst (IL l)) /\ r ≠ d
theorem LiV.same {d : Addr} {H H' : Hp} {v : V} {l : List Int} (s : Same H H') (h : LiV d H v l) : LiV d H' v l := by
 obtain ⟨r, e, h, n⟩ := h
 exact ⟨r, e, s _ _ h, n⟩
theorem LiV.mut {d : Addr} {H : Hp} {v : V} {l : List Int} {o : HO} (h : LiV d H v l) : LiV d (upd H d o) v l := by
 obtain ⟨r, e, h, n⟩ := h
 exact ⟨r, e, by rw [upd_ne n]; exact h, n⟩
theorem LiV.list {d : Addr} {H : Hp} {v : V} {l : List Int} (h : LiV d H v l) : ListV H v l := by
 obtain ⟨r, e, h, _⟩ := h
 exact ⟨r, e, h⟩
theorem Bears.erase {α : Type} [DecidableEq α] {R : V -> α -> Prop} {xs : List V} {l : List α} (h : Bears R xs l) (t : Nat) : Bears R (xs.eraseIdx t) (l.eraseIdx t) := by
 have hl := h.1
 refine ⟨by rw [List.length_eraseIdx, List.length_eraseIdx, hl], fun i a e => ?_⟩
 rw [List.getElem?_eraseIdx] at e
 rw [List.getElem?_eraseIdx]
 split at e
 ·next c => rw [if_pos c]; exact h.2 _ _ e
 ·next c => rw [if_neg c]; exact h.2 _ _ e
theorem cut_tail (x : Int) (l : List Int) : cutV (IL (x :: l)) (some 1) none = IL l := by
 rw [cut_from2 (by decide)]
 rfl
theorem sg_sq (t : Nat) : sg t * sg t = 1 := by
 unfold sg
 split <;> rfl
end My
namespace My
theorem sm_reord {f : Nat -> Nat -> Int} {n m : Nat} : sm n (fun i => sm m (fun j => f i j)) = sm m (fun j => sm n (fun i => f i j)) := sm_swap
theorem det_col : ∀ {n : Nat} {A : Mx}, det (n + 1) A = sm (n + 1) fun i => sg i * A i 0 * det n (fun r c => A (sk i r) (c + 1))
 | 0, A => rfl
 | n + 1, A => by
  have e1 : det (n + 2) A = sg 0 * A 0 0 * det (n + 1) (mn A 0) + sm (n + 1) fun j => sg (j + 1) * A 0 (j + 1) * det (n + 1) (mn A (j + 1)) := sm_first
  have e2 : sm (n + 2) (fun i => sg i * A i 0 * det (n + 1) (fun r c => A (sk i r) (c + 1))) = sg 0 * A 0 0 * det (n + 1) (fun r c => A (sk 0 r) (c + 1)) + sm (n + 1) fun i => sg (i + 1) * A (i + 1) 0 * det (n + 1) (fun r c => A (sk (i + 1) r) (c + 1)) := sm_first
  rw [e1, e2]
  have e3 : det (n + 1) (mn A 0) = det (n + 1) (fun r c => A (sk 0 r) (c + 1)) := det_congr fun r c _ _ => rfl
  rw [e3]
  refine congrArg (fun z : Int => sg 0 * A 0 0 * det (n + 1) (fun r c => A (sk 0 r) (c + 1)) + z) ?_
  obtain ⟨D, hD⟩ : ∃ D : Nat -> Nat -> Int, D = fun i j => det n (fun r c => A (sk i r + 1) (sk (j + 1) (c + 1))) := ⟨_, rfl⟩
  have e4 : ∀ j, j < n + 1 -> det (n + 1) (mn A (j + 1)) = sm (n + 1) fun i => sg i * A (i + 1) 0 * D i j := fun j _ => by
   rw [det_col, hD]
   rfl
  have e5 : ∀ i, i < n + 1 -> det (n + 1) (fun r c => A (sk (i + 1) r) (c + 1)) = sm (n + 1) fun j => sg j * A 0 (j + 1) * D i j := fun i hi => by
   show sm (n + 1) (fun j => sg j * A (sk (i + 1) 0) (j + 1) * det n (mn (fun r c => A (sk (i + 1) r) (c + 1)) j)) = _
   refine sm_congr fun j _ => ?_
   rw [hD]
   show sg j * A (sk (i + 1) 0) (j + 1) * det n (mn (fun r c => A (sk (i + 1) r) (c + 1)) j) = sg j * A 0 (j + 1) * det n (fun r c => A (sk i r + 1) (sk (j + 1) (c + 1)))
   rw [show sk (i + 1) 0 = 0 from rfl]
   refine congrArg (sg j * A 0 (j + 1) * ·) (det_congr fun r c _ _ => ?_)
   show A (sk (i + 1) (r + 1)) (sk j c + 1) = A (sk i r + 1) (sk (j + 1) (c + 1))
   have f1 : sk (i + 1) (r + 1) = sk i r + 1 := by
    unfold sk
    by_cases h : r < i
    ·rw [if_pos h, if_pos (by omega)]
    ·rw [if_neg h, if_neg (by omega)]
   have f2 : sk j c + 1 = sk (j + 1) (c + 1) := by
    unfold sk
    by_cases h : c < j
    ·rw [if_pos h, if_pos (by omega)]
    ·rw [if_neg h, if_neg (by omega)]
   rw [f1, f2]
  have e6 : sm (n + 1) (fun j => sg (j + 1) * A 0 (j + 1) * det (n + 1) (mn A (j + 1))) = sm (n + 1) fun j => sm (n + 1) fun i => sg (j + 1) * A 0 (j + 1) * (sg i * A (i + 1) 0 * D i j) := sm_congr fun j hj => by rw [e4 j hj, sm_mul]
  have e7 : sm (n + 1) (fun i => sg (i + 1) * A (i + 1) 0 * det (n + 1) (fun r c => A (sk (i + 1) r) (c + 1))) = sm (n + 1) fun i => sm (n + 1) fun j => sg (i + 1) * A (i + 1) 0 * (sg j * A 0 (j + 1) * D i j) := sm_congr fun i hi => by rw [e5 i hi, sm_mul]
  rw [e6, e7, sm_reord]
  refine sm_congr fun i _ => sm_congr fun j _ => ?_
  rw [sg_succ, sg_succ]
  generalize D i j = d
  generalize A 0 (j + 1) = x
  generalize A (i + 1) 0 = y
  generalize sg i = s
  generalize sg j = u
  simp only [Int.neg_mul, Int.neg_inj]
  simp only [Int.mul_comm, Int.mul_left_comm, Int.mul_assoc]
theorem det_T : ∀ {n : Nat} {A : Mx}, det n (fun i j => A j i) = det n A
 | 0, _ => rfl
 | n + 1, A => by
  rw [det_col (A := A)]
  refine sm_congr fun j _ => ?_
  show sg j * A j 0 * det n (fun i k => A (sk j k) (i + 1)) = sg j * A j 0 * det n (fun r c => A (sk j r) (c + 1))
  rw [<- det_T (A := fun r c => A (sk j r) (c + 1))]
theorem det_two {n a b : Nat} {A : Mx} (ha : a < n) (hb : b < n) (hne : a ≠ b) (h : ∀ j, j < n -> A a j = A b j) : det n A = 0 := by
 rcases Nat.lt_or_gt_of_ne hne with c | c
 ·obtain ⟨d, rfl⟩ : ∃ d, b = a + d + 1 := ⟨b - a - 1, by omega⟩
  exact det_alike hb h
 ·obtain ⟨d, rfl⟩ : ∃ d, a = b + d + 1 := ⟨a - b - 1, by omega⟩
  exact det_alike ha fun j hj => (h j hj).symm
def putr (A : Mx) (i : Nat) (x : Nat -> Int) : Mx := fun r => if r = i then x else A r
theorem det_putr {n i : Nat} {A : Mx} {c : Int} {x y : Nat -> Int} (hi : i < n) : det n (putr A i (fun j => c * x j + y j)) = c * det n (putr A i x) + det n (putr A i y) :=
 det_lin hi (fun r j _ _ hne => by unfold putr; rw [if_neg hne, if_neg hne, if_neg hne]; exact ⟨rfl, rfl⟩) (fun j _ => by unfold putr; rw [if_pos rfl, if_pos rfl, if_pos rfl])
theorem putr_own {A : Mx} {i : Nat} : putr A i (A i) = A := by
 funext r
 unfold putr
 by_cases h : r = i
 ·rw [if_pos h, h]
 ·rw [if_neg h]
theorem det_addr {n a b : Nat} {A : Mx} {c : Int} (ha : a < n) (hb : b < n) (hne : a ≠ b) : det n (putr A a (fun j => A a j + c * A b j)) = det n A := by
 have e : (fun j => A a j + c * A b j) = fun j => c * A b j + A a j := by funext j; omega
 rw [e, det_putr ha, putr_own, det_two ha hb hne (A := putr A a (A b)) fun j _ => ?_, Int.mul_zero, Int.zero_add]
 unfold putr
 rw [if_pos rfl, if_neg (Ne.symm hne)]
theorem rot_sk (a i : Nat) : rotN 0 a (i + 1) = sk a i := by
 have r : rotN 0 a (i + 1) = if i + 1 < 0 then i + 1 else if i + 1 = 0 then 0 + a else if i + 1 <= 0 + a then i + 1 - 1 else i + 1 := rfl
 rw [if_neg (by omega), if_neg (by omega)] at r
 rw [r]
 unfold sk
 by_cases h : i < a
 ·rw [if_pos h, if_pos (by omega)]
  omega
 ·rw [if_neg h, if_neg (by omega)]
theorem sm_only {f : Nat -> Int} {a : Nat} : ∀ {n : Nat}, a < n -> (∀ j, j < n -> j ≠ a -> f j = 0) -> sm n f = f a
 | 0, h, _ => absurd h (Nat.not_lt_zero _)
 | n + 1, h, h0 => by
  show sm n f + f n = f a
  by_cases c : a = n
  ·rw [sm_none fun i hi => h0 i (by omega) (by omega), c, Int.zero_add]
  ·rw [sm_only (n := n) (by omega) fun j hj hne => h0 j (by omega) hne, h0 n (by omega) (by omega), Int.add_zero]
theorem det_unit {n a : Nat} {A : Mx} (ha : a < n + 1) : det (n + 1) (putr A a (fun j => if j = a then 1 else 0)) = det n (fun i j => A (sk a i) (sk a j)) := by
 have e := det_rot (n := n + 1) (k := 0) (t := a) (A := putr A a (fun j => if j = a then 1 else 0)) (by omega)
 have r0 : rotN 0 a 0 = a := by
  show (if 0 < 0 then 0 else if 0 = 0 then 0 + a else _) = a
  rw [if_neg (by omega), if_pos rfl, Nat.zero_add]
 have top : det (n + 1) (fun i => putr A a (fun j => if j = a then 1 else 0) (rotN 0 a i)) = sg a * det n (fun i j => A (sk a i) (sk a j)) := by
  show sm (n + 1) (fun j => sg j * putr A a (fun j => if j = a then 1 else 0) (rotN 0 a 0) j * det n (mn (fun i => putr A a (fun j => if j = a then 1 else 0) (rotN 0 a i)) j)) = _
  rw [sm_only ha fun j _ hne => ?_]
  ·rw [r0]
   have e1 : putr A a (fun j => if j = a then 1 else 0) a a = 1 := by unfold putr; rw [if_pos rfl, if_pos rfl]
   rw [e1, Int.mul_one]
   refine congrArg (sg a * ·) (det_congr fun i j _ _ => ?_)
   show putr A a (fun j => if j = a then 1 else 0) (rotN 0 a (i + 1)) (sk a j) = A (sk a i) (sk a j)
   rw [rot_sk]
   unfold putr
   rw [if_neg (by unfold sk; split <;> omega)]
  ·rw [r0]
   have e1 : putr A a (fun j => if j = a then 1 else 0) a j = 0 := by unfold putr; rw [if_pos rfl, if_neg hne]
   rw [e1, Int.mul_zero, Int.zero_mul]
 rw [top] at e
 have h := congrArg (sg a * ·) e
 simp only [<- Int.mul_assoc] at h
 rw [show sg a * sg a = 1 by unfold sg; split <;> rfl, Int.one_mul, Int.one_mul] at h
 exact h.symm
theorem det_diag {n a : Nat} {A : Mx} {w : Int} (ha : a < n + 1) : det (n + 1) (fun i j => A i j + w * ((if i = a then 1 else 0) * (if j = a then 1 else 0))) = det (n + 1) A + w * det n (fun i j => A (sk a i) (sk a j)) := by
 have e : det (n + 1) (fun i j => A i j + w * ((if i = a then 1 else 0) * (if j = a then 1 else 0))) = det (n + 1) (putr A a (fun j => w * (fun j => if j = a then 1 else 0) j + A a j)) := det_congr fun i j _ _ => by
  unfold putr
  by_cases h : i = a
  ·subst h
   rw [if_pos rfl, if_pos rfl, Int.one_mul]
   show A i j + w * (if j = i then 1 else 0) = w * (if j = i then 1 else 0) + A i j
   exact Int.add_comm ..
  ·rw [if_neg h, if_neg h, Int.zero_mul, Int.mul_zero, Int.add_zero]
 rw [e, det_putr ha, putr_own, det_unit ha]
 omega
def ind (u v i : Nat) : Int := (if i = u then 1 else 0) - (if i = v then 1 else 0)
def fold2 (A : Mx) (a b : Nat) : Mx := fun i j => (A i j + (if i = b then A a j else 0)) + (if j = b then A i a + (if i = b then A a a else 0) else 0)
theorem det_fold2 {n a b : Nat} {A : Mx} (ha : a < n) (hb : b < n) (hne : a ≠ b) : det n (fold2 A a b) = det n A := by
 have e1 : det n A = det n (putr A b (fun j => A b j + 1 * A a j)) := (det_addr hb ha (Ne.symm hne)).symm
 obtain ⟨R, hR⟩ : ∃ R : Mx, R = putr A b (fun j => A b j + 1 * A a j) := ⟨_, rfl⟩
 have e2 : det n R = det n (putr (fun i j => R j i) b (fun j => (fun i j => R j i) b j + 1 * (fun i j => R j i) a j)) := by
  rw [det_addr (A := fun i j => R j i) hb ha (Ne.symm hne)]
  exact det_T.symm
 rw [e1, <- hR, e2, <- det_T (A := putr (fun i j => R j i) b (fun j => (fun i j => R j i) b j + 1 * (fun i j => R j i) a j))]
 refine det_congr fun i j _ _ => ?_
 have rv : ∀ r c, R r c = A r c + (if r = b then A a c else 0) := fun r c => by
  rw [hR]
  unfold putr
  by_cases h : r = b
  ·rw [if_pos h, if_pos h, h]; omega
  ·rw [if_neg h, if_neg h]; omega
 unfold fold2
 show _ = (putr (fun i j => R j i) b (fun j => R j b + 1 * R j a)) j i
 unfold putr
 by_cases h : j = b
 ·rw [if_pos h, if_pos h, rv, rv, h]
  by_cases h2 : i = b
  ·rw [if_pos h2, if_pos h2]; omega
  ·rw [if_neg h2, if_neg h2]; omega
 ·rw [if_neg h, if_neg h]
  show _ = R i j
  rw [rv]
  omega
theorem det_tie {n a b : Nat} {A : Mx} {w : Int} (ha : a < n + 1) (hb : b < n + 1) (hne : a ≠ b) : det (n + 1) (fun i j => A i j + w * (ind a b i * ind a b j)) = det (n + 1) A + w * det n (fun i j => fold2 A a b (sk a i) (sk a j)) := by
 have e1 := det_fold2 (A := fun i j => A i j + w * (ind a b i * ind a b j)) ha hb hne
 have e2 : det (n + 1) (fold2 (fun i j => A i j + w * (ind a b i * ind a b j)) a b) = det (n + 1) (fun i j => fold2 A a b i j + w * ((if i = a then 1 else 0) * (if j = a then 1 else 0))) := det_congr fun i j _ _ => by
  have na : ¬ a = b := hne
  have nb : ¬ b = a := Ne.symm hne
  unfold fold2 ind
  by_cases hi : i = b
  ·subst hi
   by_cases hj : j = i
   ·subst hj
    simp [na, nb]
    omega
   ·by_cases hj2 : j = a
    ·subst hj2
     simp [na, nb, hj]
     omega
    ·simp [na, nb, hj, hj2]
  ·by_cases hi2 : i = a
   ·subst hi2
    by_cases hj : j = b
    ·subst hj
     simp [na, nb]
     omega
    ·by_cases hj2 : j = i
     ·subst hj2
      simp [na, nb]
     ·simp [na, nb, hj, hj2]
   ·by_cases hj : j = b
    ·subst hj
     simp [na, nb, hi, hi2]
    ·by_cases hj2 : j = a
     ·subst hj2
      simp [na, nb, hi, hi2]
     ·simp [na, nb, hi, hi2, hj, hj2]
 rw [<- e1, e2, det_diag ha, det_fold2 ha hb hne]
end My
namespace My
open PySem L2
abbrev Ed := Nat × Nat × Int
def lapE : List Ed -> Mx
 | [] => fun _ _ => 0
 | e :: E => fun i j => e.2.2 * (ind e.1 e.2.1 i * ind e.1 e.2.1 j) + lapE E i j
theorem lapE_snoc (E : List Ed) (e : Ed) (i j : Nat) : lapE (E ++ [e]) i j = lapE E i j + e.2.2 * (ind e.1 e.2.1 i * ind e.1 e.2.1 j) := by
 induction E with
 | nil => show _ + 0 = 0 + _; omega
 | cons f E ih =>
  show _ + lapE (E ++ [e]) i j = _ + lapE E i j + _
  rw [ih]
  omega
def edE (E : List Ed) (z : Int) : Nat × Nat := ((E.getD z.toNat (0, 0, 0)).1, (E.getD z.toNat (0, 0, 0)).2.1)
def wtE (E : List Ed) : List Int -> Int
 | [] => 1
 | z :: T => (E.getD z.toNat (0, 0, 0)).2.2 * wtE E T
theorem wtE_app (E : List Ed) (S T : List Int) : wtE E (S ++ T) = wtE E S * wtE E T := by
 induction S with
 | nil => show _ = 1 * _; rw [Int.one_mul]; rfl
 | cons z S ih => show _ * wtE E (S ++ T) = _ * _ * _; rw [ih, Int.mul_assoc]
def IsT (k : Nat) (E : List Ed) (T : List Int) : Prop := IsSet E.length T /\ T.length = k /\ ∀ i j, i < k + 1 -> j < k + 1 -> Conn (T.map (edE E)) i j
def TW (k : Nat) (E : List Ed) (s : Int) : Prop := ∃ L : List (List Int), L.Nodup /\ (∀ T, T ∈ L ↔ IsT k E T) /\ (L.map (wtE E)).sum = s
theorem getD_up {E : List Ed} {e : Ed} {z : Int} (h0 : 0 <= z) (h1 : z < (E.length : Int)) : (E ++ [e]).getD z.toNat (0, 0, 0) = E.getD z.toNat (0, 0, 0) := by
 rw [List.getD_eq_getElem?_getD, List.getD_eq_getElem?_getD, List.getElem?_append_left (by omega)]
theorem getD_last (E : List Ed) (e : Ed) : (E ++ [e]).getD (E.length : Int).toNat (0, 0, 0) = e := by
 rw [List.getD_eq_getElem?_getD, Int.toNat_natCast, List.getElem?_append_right (Nat.le_refl _), Nat.sub_self]
 rfl
theorem map_up {E : List Ed} {e : Ed} {T : List Int} (h : IsSet E.length T) : T.map (edE (E ++ [e])) = T.map (edE E) := List.map_congr_left fun z hz => by
 have := h.all z hz
 unfold edE
 rw [getD_up this.1 this.2]
theorem wt_up {E : List Ed} {e : Ed} {T : List Int} (h : ∀ z ∈ T, 0 <= z /\ z < (E.length : Int)) : wtE (E ++ [e]) T = wtE E T := by
 induction T with
 | nil => rfl
 | cons z T ih =>
  have hz := h z List.mem_cons_self
  show _ * wtE (E ++ [e]) T = _ * wtE E T
  rw [getD_up hz.1 hz.2, ih fun y hy => h y (List.mem_cons_of_mem _ hy)]
theorem isT_up {k : Nat} {E : List Ed} {e : Ed} {T : List Int} (h : IsSet E.length T) : IsT k (E ++ [e]) T ↔ IsT k E T := by
 have h2 : IsSet (E ++ [e]).length T := by rw [List.length_append]; exact h.up
 constructor
 ·rintro ⟨_, a, b⟩
  exact ⟨h, a, by rw [map_up h] at b; exact b⟩
 ·rintro ⟨_, a, b⟩
  exact ⟨h2, a, by rw [map_up h]; exact b⟩
theorem map_snoc {E : List Ed} {e : Ed} {T : List Int} (h : IsSet E.length T) : (T ++ [(E.length : Int)]).map (edE (E ++ [e])) = T.map (edE E) ++ [(e.1, e.2.1)] := by
 rw [List.map_append, map_up h]
 show _ ++ [edE (E ++ [e]) (E.length : Int)] = _
 unfold edE
 rw [getD_last]
def sh (a x : Nat) : Nat := if x < a then x else x - 1
def dl (a b x : Nat) : Nat := if x = a then sh a b else sh a x
theorem sh_sk (a y : Nat) : sh a (sk a y) = y := by
 unfold sk
 by_cases h : y < a
 ·rw [if_pos h]
  unfold sh
  rw [if_pos h]
 ·rw [if_neg h]
  unfold sh
  rw [if_neg (by omega)]
  omega
theorem sk_ne (a y : Nat) : sk a y ≠ a := by
 unfold sk
 split <;> omega
theorem sk_sh {a x : Nat} (h : x ≠ a) : sk a (sh a x) = x := by
 unfold sh
 by_cases c : x < a
 ·rw [if_pos c]
  unfold sk
  rw [if_pos c]
 ·rw [if_neg c]
  unfold sk
  rw [if_neg (by omega)]
  omega
theorem dl_sk (a b y : Nat) : dl a b (sk a y) = y := by
 unfold dl
 rw [if_neg (sk_ne a y), sh_sk]
theorem sh_inj {a x y : Nat} (hx : x ≠ a) (hy : y ≠ a) (h : sh a x = sh a y) : x = y := by
 have := congrArg (sk a) h
 rw [sk_sh hx, sk_sh hy] at this
 exact this
theorem dl_eq {a b x y : Nat} (hne : b ≠ a) (h : dl a b x = dl a b y) : x = y \/ (x = a /\ y = b) \/ (x = b /\ y = a) := by
 unfold dl at h
 by_cases hx : x = a
 ·rw [if_pos hx] at h
  by_cases hy : y = a
  ·exact .inl (hx.trans hy.symm)
  ·rw [if_neg hy] at h
   exact .inr (.inl ⟨hx, (sh_inj hne hy h).symm⟩)
 ·rw [if_neg hx] at h
  by_cases hy : y = a
  ·rw [if_pos hy] at h
   exact .inr (.inr ⟨sh_inj hx hne h, hy⟩)
  ·rw [if_neg hy] at h
   exact .inl (sh_inj hx hy h)
theorem dl_ab (a b : Nat) (hne : b ≠ a) : dl a b a = dl a b b := by
 unfold dl
 rw [if_pos rfl, if_neg hne]
theorem cdl_down {a b : Nat} {es : List (Nat × Nat)} {i j : Nat} (hne : b ≠ a) (c : Conn (es ++ [(a, b)]) i j) : Conn (es.map fun e => (dl a b e.1, dl a b e.2)) (dl a b i) (dl a b j) := by
 induction c with
 | refl i => exact .refl _
 | edge q =>
  rcases List.mem_append.mp q with q | q
  ·exact .edge (List.mem_map.mpr ⟨_, q, rfl⟩)
  ·have e := List.mem_singleton.mp q
   injection e with e1 e2
   rw [e1, e2, dl_ab a b hne]
   exact .refl _
 | symm _ ih => exact .symm ih
 | trans _ _ a b => exact .trans a b
theorem cdl_lift {a b : Nat} {es : List (Nat × Nat)} {u v : Nat} (hne : b ≠ a) (c : Conn (es.map fun e => (dl a b e.1, dl a b e.2)) u v) : ∀ i j, dl a b i = u -> dl a b j = v -> Conn (es ++ [(a, b)]) i j := by
 have he : Conn (es ++ [(a, b)]) a b := .edge (by simp)
 have same : ∀ i j, dl a b i = dl a b j -> Conn (es ++ [(a, b)]) i j := fun i j e => by
  rcases dl_eq hne e with e | ⟨e1, e2⟩ | ⟨e1, e2⟩
  ·rw [e]; exact .refl _
  ·rw [e1, e2]; exact he
  ·rw [e1, e2]; exact he.symm
 induction c with
 | refl u => exact fun i j e1 e2 => same i j (e1.trans e2.symm)
 | edge q =>
  intro i j e1 e2
  obtain ⟨⟨x, y⟩, hxy, e⟩ := List.mem_map.mp q
  injection e with x1 x2
  exact (same i x (e1.trans x1.symm)).trans (.trans (.edge (List.mem_append_left _ hxy)) (same y j (x2.trans e2.symm)))
 | symm _ ih => exact fun i j e1 e2 => (ih j i e2 e1).symm
 | @trans x y z _ _ ih1 ih2 => exact fun i j e1 e2 => (ih1 i (sk a y) e1 (dl_sk a b y)).trans (ih2 (sk a y) j (dl_sk a b y) e2)
theorem dl_lt {a b x k : Nat} (ha : a < k + 1) (hb : b < k + 2) (hne : b ≠ a) (hx : x < k + 2) : dl a b x < k + 1 := by
 unfold dl sh
 by_cases h : x = a
 ·rw [if_pos h]
  split <;> omega
 ·rw [if_neg h]
  split <;> omega
theorem cdl {a b k : Nat} {es : List (Nat × Nat)} (ha : a < k + 1) (hb : b < k + 2) (hne : b ≠ a) : (∀ i j, i < k + 2 -> j < k + 2 -> Conn (es ++ [(a, b)]) i j) ↔ ∀ i j, i < k + 1 -> j < k + 1 -> Conn (es.map fun e => (dl a b e.1, dl a b e.2)) i j := by
 constructor
 ·intro c i j h1 h2
  have := cdl_down hne (c (sk a i) (sk a j) (sk_lt h1) (sk_lt h2))
  rw [dl_sk, dl_sk] at this
  exact this
 ·exact fun c i j h1 h2 => cdl_lift hne (c _ _ (dl_lt ha hb hne h1) (dl_lt ha hb hne h2)) i j rfl rfl
def drE (a b : Nat) (E : List Ed) : List Ed := E.map fun e => (dl a b e.1, dl a b e.2.1, e.2.2)
theorem drE_get {a b : Nat} {E : List Ed} {z : Int} (h0 : 0 <= z) (h1 : z < (E.length : Int)) : (drE a b E).getD z.toNat (0, 0, 0) = (dl a b (E.getD z.toNat (0, 0, 0)).1, dl a b (E.getD z.toNat (0, 0, 0)).2.1, (E.getD z.toNat (0, 0, 0)).2.2) := by
 unfold drE
 rw [List.getD_eq_getElem?_getD, List.getD_eq_getElem?_getD, List.getElem?_map, List.getElem?_eq_getElem (by omega)]
 rfl
theorem drE_map {a b : Nat} {E : List Ed} {T : List Int} (h : IsSet E.length T) : T.map (edE (drE a b E)) = (T.map (edE E)).map fun e => (dl a b e.1, dl a b e.2) := by
 rw [List.map_map]
 refine List.map_congr_left fun z hz => ?_
 have := h.all z hz
 unfold edE
 rw [drE_get this.1 this.2]
 rfl
theorem drE_wt {a b : Nat} {E : List Ed} {T : List Int} (h : ∀ z ∈ T, 0 <= z /\ z < (E.length : Int)) : wtE (drE a b E) T = wtE E T := by
 induction T with
 | nil => rfl
 | cons z T ih =>
  have hz := h z List.mem_cons_self
  show _ * wtE (drE a b E) T = _ * wtE E T
  rw [drE_get hz.1 hz.2, ih fun y hy => h y (List.mem_cons_of_mem _ hy)]
theorem isT_dr {k a b : Nat} {E : List Ed} {e : Ed} {T : List Int} (ha : a < k + 1) (hb : b < k + 2) (hne : b ≠ a) (he : (e.1 = a /\ e.2.1 = b) \/ (e.1 = b /\ e.2.1 = a)) (h : IsSet E.length T) : IsT (k + 1) (E ++ [e]) (T ++ [(E.length : Int)]) ↔ IsT k (drE a b E) T := by
 have hl : (drE a b E).length = E.length := List.length_map ..
 have hc : (∀ i j, i < k + 2 -> j < k + 2 -> Conn ((T ++ [(E.length : Int)]).map (edE (E ++ [e]))) i j) ↔ ∀ i j, i < k + 2 -> j < k + 2 -> Conn (T.map (edE E) ++ [(a, b)]) i j := by
  rw [map_snoc h]
  rcases he with ⟨e1, e2⟩ | ⟨e1, e2⟩
  ·rw [e1, e2]
  ·rw [e1, e2]
   exact ⟨fun c i j x y => conn_flip (c i j x y), fun c i j x y => conn_flip (c i j x y)⟩
 have h2 : IsSet (E ++ [e]).length (T ++ [(E.length : Int)]) := by rw [List.length_append]; exact h.snoc
 constructor
 ·rintro ⟨_, x, y⟩
  refine ⟨hl ▸ h, ?_, ?_⟩
  ·rw [List.length_append, List.length_singleton] at x
   omega
  ·rw [drE_map h]
   exact (cdl ha hb hne).mp (hc.mp y)
 ·rintro ⟨_, x, y⟩
  rw [drE_map h] at y
  refine ⟨h2, by rw [List.length_append, List.length_singleton, x], hc.mpr ((cdl ha hb hne).mpr y)⟩
theorem isT_loop {k : Nat} {E : List Ed} {e : Ed} {T : List Int} (hE : ∀ f ∈ E, f.1 < k + 1 /\ f.2.1 < k + 1) (he : e.1 = e.2.1) (h : IsSet E.length T) : ¬ IsT k (E ++ [e]) (T ++ [(E.length : Int)]) := by
 rintro ⟨_, x, y⟩
 rw [map_snoc h] at y
 have hcov : ∀ i j, i < k + 1 -> j < k + 1 -> Conn (T.map (edE E)) i j := fun i j hi hj => (y i j hi hj).lift fun f hf => by
  rcases List.mem_append.mp hf with q | q
  ·exact .edge q
  ·rw [List.mem_singleton.mp q, he]
   exact .refl _
 have hin : InN (k + 1) (T.map (edE E)) := fun f hf => by
  obtain ⟨z, hz, rfl⟩ := List.mem_map.mp hf
  have := h.all z hz
  unfold edE
  rw [List.getD_eq_getElem?_getD, List.getElem?_eq_getElem (by omega)]
  exact hE _ (List.getElem_mem _)
 have h2 := (cnt_conn (by omega) hin).mpr hcov
 have h3 := cnt_lms _ hin
 rw [List.length_map] at h3
 rw [List.length_append, List.length_singleton] at x
 omega
theorem tw_loop {k : Nat} {E : List Ed} {e : Ed} {s : Int} (hE : ∀ f ∈ E, f.1 < k + 1 /\ f.2.1 < k + 1) (he : e.1 = e.2.1) (h : TW k E s) : TW k (E ++ [e]) s := by
 obtain ⟨L, a1, a2, a3⟩ := h
 refine ⟨L, a1, fun T => ?_, ?_⟩
 ·rw [a2]
  constructor
  ·exact fun h => (isT_up h.1).mpr h
  ·intro h
   have hs := h.1
   rw [List.length_append] at hs
   rcases set_last hs with c | ⟨T', c, c2⟩
   ·exact (isT_up c).mp h
   ·exact absurd (c ▸ h) (isT_loop hE he c2)
 ·rw [<- a3]
  refine congrArg List.sum (List.map_congr_left fun T hT => wt_up ((a2 T).mp hT).1.all)
theorem sum_app (a b : List Int) : (a ++ b).sum = a.sum + b.sum := by
 induction a with
 | nil => rw [List.nil_append, List.sum_nil, Int.zero_add]
 | cons x a ih => rw [List.cons_append, List.sum_cons, List.sum_cons, ih]; omega
theorem sum_scale (w : Int) (l : List (List Int)) (f : List Int -> Int) : (l.map fun T => f T * w).sum = w * (l.map f).sum := by
 induction l with
 | nil => rw [List.map_nil, List.map_nil, List.sum_nil, Int.mul_zero]
 | cons x l ih => rw [List.map_cons, List.map_cons, List.sum_cons, List.sum_cons, ih, Int.mul_add, Int.mul_comm]
theorem tw_part {k a b : Nat} {E : List Ed} {e : Ed} {s1 s2 : Int} (ha : a < k + 1) (hb : b < k + 2) (hne : b ≠ a) (he : (e.1 = a /\ e.2.1 = b) \/ (e.1 = b /\ e.2.1 = a)) (h1 : TW (k + 1) E s1) (h2 : TW k (drE a b E) s2) : TW (k + 1) (E ++ [e]) (s1 + e.2.2 * s2) := by
 obtain ⟨L, a1, a2, a3⟩ := h1
 obtain ⟨M, b1, b2, b3⟩ := h2
 have hl : (drE a b E).length = E.length := List.length_map ..
 refine ⟨L ++ M.map (· ++ [(E.length : Int)]), List.nodup_append.mpr ⟨a1, ?_, fun x hx y hy c => ?_⟩, fun T => ?_, ?_⟩
 ·exact List.Pairwise.map _ (fun x y h c => h (List.append_cancel_right c)) b1
 ·obtain ⟨z, hz, c2⟩ := List.mem_map.mp hy
  have := ((a2 x).mp hx).1.all (E.length : Int) (by rw [c, <- c2]; simp)
  omega
 ·rw [List.mem_append, a2, List.mem_map]
  constructor
  ·rintro (h | ⟨T', hT, rfl⟩)
   ·exact (isT_up h.1).mpr h
   ·have := (b2 T').mp hT
    exact (isT_dr ha hb hne he (hl ▸ this.1)).mpr this
  ·intro h
   have hs := h.1
   rw [List.length_append] at hs
   rcases set_last hs with c | ⟨T', c, c2⟩
   ·exact .inl ((isT_up c).mp h)
   ·exact .inr ⟨T', (b2 T').mpr ((isT_dr ha hb hne he c2).mp (c ▸ h)), c.symm⟩
 ·rw [List.map_append, sum_app, List.map_map]
  have e1 : L.map (wtE (E ++ [e])) = L.map (wtE E) := List.map_congr_left fun T hT => wt_up ((a2 T).mp hT).1.all
  have e2 : M.map (wtE (E ++ [e]) ∘ (· ++ [(E.length : Int)])) = M.map fun T => wtE (drE a b E) T * e.2.2 := List.map_congr_left fun T hT => by
   have hs : IsSet E.length T := hl ▸ ((b2 T).mp hT).1
   show wtE (E ++ [e]) (T ++ [(E.length : Int)]) = _
   rw [wtE_app, wt_up hs.all, drE_wt hs.all]
   show _ * (((E ++ [e]).getD (E.length : Int).toNat (0, 0, 0)).2.2 * 1) = _
   rw [getD_last, Int.mul_one]
  rw [e1, e2, a3, sum_scale, b3]
theorem ind_dl {a b u v i : Nat} (hne : b ≠ a) : ind (dl a b u) (dl a b v) i = ind u v (sk a i) + (if sk a i = b then ind u v a else 0) := by
 have key : ∀ x : Nat, ((if i = dl a b x then 1 else 0 : Int)) = (if sk a i = x then 1 else 0) + (if sk a i = b then (if a = x then 1 else 0) else 0) := fun x => by
  unfold dl
  by_cases hx : x = a
  ·rw [if_pos hx, if_neg (show ¬ sk a i = x from hx ▸ sk_ne a i), Int.zero_add]
   by_cases h : sk a i = b
   ·rw [if_pos h, if_pos hx.symm, if_pos]
    rw [<- h, sh_sk]
   ·rw [if_neg h, if_neg]
    intro e
    exact h (by rw [e, sk_sh hne])
  ·rw [if_neg hx]
   have e2 : (if sk a i = b then (if a = x then 1 else 0 : Int) else 0) = 0 := by
    rw [if_neg (Ne.symm hx)]
    split <;> rfl
   rw [e2, Int.add_zero]
   by_cases h : sk a i = x
   ·rw [if_pos h, if_pos]
    rw [<- h, sh_sk]
   ·rw [if_neg h, if_neg]
    intro e
    exact h (by rw [e, sk_sh hx])
 unfold ind
 rw [key u, key v]
 by_cases h : sk a i = b
 ·rw [if_pos h, if_pos h, if_pos h]
  omega
 ·rw [if_neg h, if_neg h, if_neg h]
  omega
theorem lapE_dr {a b : Nat} (hne : b ≠ a) (i j : Nat) : ∀ E : List Ed, lapE (drE a b E) i j = fold2 (lapE E) a b (sk a i) (sk a j)
 | [] => by
  show (0 : Int) = _
  unfold fold2 lapE
  by_cases h : sk a i = b
  ·by_cases h2 : sk a j = b
   ·rw [if_pos h, if_pos h2]; rfl
   ·rw [if_pos h, if_neg h2]; rfl
  ·by_cases h2 : sk a j = b
   ·rw [if_neg h, if_pos h2]; rfl
   ·rw [if_neg h, if_neg h2]; rfl
 | e :: E => by
  have ih := lapE_dr hne i j E
  show e.2.2 * (ind (dl a b e.1) (dl a b e.2.1) i * ind (dl a b e.1) (dl a b e.2.1) j) + lapE (drE a b E) i j = _
  rw [ih, ind_dl hne, ind_dl hne]
  unfold fold2
  show _ = (e.2.2 * (ind e.1 e.2.1 (sk a i) * ind e.1 e.2.1 (sk a j)) + lapE E (sk a i) (sk a j) + (if sk a i = b then e.2.2 * (ind e.1 e.2.1 a * ind e.1 e.2.1 (sk a j)) + lapE E a (sk a j) else 0)) + (if sk a j = b then (e.2.2 * (ind e.1 e.2.1 (sk a i) * ind e.1 e.2.1 a) + lapE E (sk a i) a) + (if sk a i = b then e.2.2 * (ind e.1 e.2.1 a * ind e.1 e.2.1 a) + lapE E a a else 0) else 0)
  generalize ind e.1 e.2.1 (sk a i) = x
  generalize ind e.1 e.2.1 (sk a j) = y
  generalize ind e.1 e.2.1 a = z
  generalize e.2.2 = w
  by_cases h : sk a i = b
  ·by_cases h2 : sk a j = b
   ·simp only [if_pos h, if_pos h2, Int.mul_add, Int.add_mul]
    omega
   ·simp only [if_pos h, if_neg h2, Int.mul_add, Int.add_mul, Int.add_zero, Int.mul_zero]
    omega
  ·by_cases h2 : sk a j = b
   ·simp only [if_neg h, if_pos h2, Int.mul_add, Int.add_mul, Int.add_zero, Int.zero_mul]
    omega
   ·simp only [if_neg h, if_neg h2, Int.add_zero]
theorem ind_swap (u v i : Nat) : ind v u i = - ind u v i := by
 unfold ind
 omega
theorem det_lap {k a b : Nat} {E : List Ed} {e : Ed} (ha : a < k + 1) (hb : b < k + 2) (hne : b ≠ a) (he : (e.1 = a /\ e.2.1 = b) \/ (e.1 = b /\ e.2.1 = a)) : det (k + 1) (lapE (E ++ [e])) = det (k + 1) (lapE E) + e.2.2 * det k (lapE (drE a b E)) := by
 have e1 : det (k + 1) (lapE (E ++ [e])) = det (k + 1) (fun i j => lapE E i j + e.2.2 * (ind a b i * ind a b j)) := det_congr fun i j _ _ => by
  rw [lapE_snoc]
  rcases he with ⟨x, y⟩ | ⟨x, y⟩
  ·rw [x, y]
  ·rw [x, y, ind_swap a b i, ind_swap a b j, Int.neg_mul_neg]
 have e2 : det k (lapE (drE a b E)) = det k (fun i j => fold2 (lapE E) a b (sk a i) (sk a j)) := det_congr fun i j _ _ => lapE_dr hne i j E
 rw [e1, e2]
 by_cases hk : b < k + 1
 ·exact det_tie ha hk (Ne.symm hne)
 ·have e3 : det (k + 1) (fun i j => lapE E i j + e.2.2 * (ind a b i * ind a b j)) = det (k + 1) (fun i j => lapE E i j + e.2.2 * ((if i = a then 1 else 0) * (if j = a then 1 else 0))) := det_congr fun i j hi hj => by
   unfold ind
   rw [if_neg (show ¬ i = b by omega), if_neg (show ¬ j = b by omega), Int.sub_zero, Int.sub_zero]
  have e4 : det k (fun i j => fold2 (lapE E) a b (sk a i) (sk a j)) = det k (fun i j => lapE E (sk a i) (sk a j)) := det_congr fun i j hi hj => by
   have h1 := sk_lt (j := a) hi
   have h2 := sk_lt (j := a) hj
   unfold fold2
   rw [if_neg (show ¬ sk a i = b by omega), if_neg (show ¬ sk a j = b by omega), Int.add_zero, Int.add_zero]
  rw [e3, e4]
  exact det_diag ha
theorem lapE_loop {E : List Ed} {e : Ed} (he : e.1 = e.2.1) : lapE (E ++ [e]) = lapE E := by
 funext i j
 rw [lapE_snoc, he]
 unfold ind
 rw [Int.sub_self, Int.zero_mul, Int.mul_zero, Int.add_zero]
theorem matrix_tree : ∀ (m k : Nat) (E : List Ed), E.length = m -> (∀ e ∈ E, e.1 < k + 1 /\ e.2.1 < k + 1) -> TW k E (det k (lapE E))
 | 0, k, E, hm, _ => by
  obtain rfl := List.length_eq_zero_iff.mp hm
  cases k with
  | zero =>
   refine ⟨[[]], by simp, fun T => ?_, rfl⟩
   rw [List.mem_singleton]
   constructor
   ·rintro rfl
    exact ⟨IsSet.nil _, rfl, fun i j hi hj => by
     have : i = j := by omega
     rw [this]
     exact .refl j⟩
   ·intro h
    exact List.length_eq_zero_iff.mp h.2.1
  | succ k =>
   refine ⟨[], .nil, fun T => ⟨fun h => (by cases h), fun h => ?_⟩, ?_⟩
   ·have h1 := h.1.len
    have h2 := h.2.1
    rw [List.length_nil] at h1
    omega
   ·exact (det_row0 (i := 0) (by omega) fun j _ => rfl).symm
 | m + 1, k, E, hm, hE => by
  obtain ⟨E', e, rfl⟩ : ∃ E' e, E = E' ++ [e] := ⟨E.dropLast, E.getLast (fun h => by rw [h] at hm; cases hm), (List.dropLast_concat_getLast _).symm⟩
  have hm' : E'.length = m := by rw [List.length_append] at hm; simpa using hm
  have hE' : ∀ f ∈ E', f.1 < k + 1 /\ f.2.1 < k + 1 := fun f hf => hE f (List.mem_append_left _ hf)
  have he := hE e (by simp)
  have ih := matrix_tree m k E' hm' hE'
  by_cases hl : e.1 = e.2.1
  ·rw [lapE_loop hl]
   exact tw_loop hE' hl ih
  ·obtain ⟨k', rfl⟩ : ∃ k', k = k' + 1 := ⟨k - 1, by omega⟩
   obtain ⟨a, b, ha, hb, hne, hab⟩ : ∃ a b, a < k' + 1 /\ b < k' + 2 /\ b ≠ a /\ ((e.1 = a /\ e.2.1 = b) \/ (e.1 = b /\ e.2.1 = a)) := by
    by_cases c : e.1 < k' + 1
    ·exact ⟨e.1, e.2.1, c, he.2, fun h => hl h.symm, .inl ⟨rfl, rfl⟩⟩
    ·exact ⟨e.2.1, e.1, by omega, he.1, hl, .inr ⟨rfl, rfl⟩⟩
   have ih2 := matrix_tree m k' (drE a b E') (by unfold drE; rw [List.length_map]; exact hm') fun f hf => by
    obtain ⟨g, hg, rfl⟩ := List.mem_map.mp hf
    have := hE' g hg
    exact ⟨dl_lt ha hb hne this.1, dl_lt ha hb hne this.2⟩
   rw [det_lap ha hb hne hab]
   exact tw_part ha hb hne hab ih ih2
def edsOf (ps : List (Int × Int)) (ws : List Int) : List Ed := List.zipWith (fun p w => (p.1.toNat, p.2.toNat, w)) ps ws
theorem isT_web {n : Int} {ps : List (Int × Int)} {ws : List Int} {T : List Int} (h1 : 1 <= n) (hw : ws.length = ps.length) : IsT (n - 1).toNat (edsOf ps ws) T ↔ IsTree n ps T := by
 have hl : (edsOf ps ws).length = ps.length := by unfold edsOf; rw [List.length_zipWith]; omega
 have hm : IsSet ps.length T -> T.map (edE (edsOf ps ws)) = endsOf ps T := fun hs => List.map_congr_left fun z hz => by
  have := hs.all z hz
  unfold edE edsOf
  rw [List.getD_eq_getElem?_getD, List.getElem?_zipWith, List.getElem?_eq_getElem (by omega), List.getElem?_eq_getElem (show z.toNat < ws.length by omega), List.getD_eq_getElem?_getD, List.getElem?_eq_getElem (by omega)]
  rfl
 unfold IsT IsTree
 rw [hl]
 constructor
 ·rintro ⟨a, b, c⟩
  rw [hm a] at c
  exact ⟨a, by omega, fun i j hi hj => c i j (by omega) (by omega)⟩
 ·rintro ⟨a, b, c⟩
  rw [hm a]
  exact ⟨a, by omega, fun i j hi hj => c i j (by omega) (by omega)⟩
theorem wt_one {E : List Ed} (h : ∀ e ∈ E, e.2.2 = 1) : ∀ {T : List Int}, (∀ z ∈ T, 0 <= z /\ z < (E.length : Int)) -> wtE E T = 1
 | [], _ => rfl
 | z :: T, hb => by
  have hz := hb z List.mem_cons_self
  show (E.getD z.toNat (0, 0, 0)).2.2 * wtE E T = 1
  rw [wt_one h fun y hy => hb y (List.mem_cons_of_mem _ hy), Int.mul_one, List.getD_eq_getElem?_getD, List.getElem?_eq_getElem (by omega)]
  exact h _ (List.getElem_mem _)
theorem sum_ones {l : List (List Int)} {f : List Int -> Int} (h : ∀ T ∈ l, f T = 1) : (l.map f).sum = (l.length : Int) := by
 induction l with
 | nil => rfl
 | cons x l ih =>
  rw [List.map_cons, List.sum_cons, ih fun T hT => h T (List.mem_cons_of_mem _ hT), h x List.mem_cons_self, List.length_cons]
  omega
theorem eds_in {n : Int} {ps : List (Int × Int)} (g : GoodW n ps) (ws : List Int) : ∀ e ∈ edsOf ps ws, e.1 < (n - 1).toNat + 1 /\ e.2.1 < (n - 1).toNat + 1 := fun e he => by
 unfold edsOf at he
 obtain ⟨i, hi⟩ := List.getElem?_of_mem he
 rw [List.getElem?_zipWith] at hi
 have g1 := g.1
 cases h1 : ps[i]? with
 | none => rw [h1] at hi; cases hi
 | some p =>
  cases h2 : ws[i]? with
  | none => rw [h1, h2] at hi; cases hi
  | some w =>
   rw [h1, h2] at hi
   obtain rfl := Option.some.inj hi
   obtain ⟨a, b, c, d⟩ := g.2.2.2 p (List.mem_of_getElem? h1)
   exact ⟨by show p.1.toNat < _; omega, by show p.2.toNat < _; omega⟩
theorem tree_det {n : Int} {ps : List (Int × Int)} (g : GoodW n ps) {L : List (List Int)} (hL : L.Nodup) (hm : ∀ l, l ∈ L ↔ IsTree n ps l) : det (n - 1).toNat (lapE (edsOf ps (List.replicate ps.length 1))) = (L.length : Int) := by
 have g1 := g.1
 have hw : (List.replicate ps.length (1 : Int)).length = ps.length := List.length_replicate
 obtain ⟨M, a1, a2, a3⟩ := matrix_tree _ (n - 1).toNat (edsOf ps (List.replicate ps.length 1)) rfl (eds_in g _)
 have hl : (edsOf ps (List.replicate ps.length 1)).length = ps.length := by unfold edsOf; rw [List.length_zipWith, hw]; omega
 have w1 : ∀ e ∈ edsOf ps (List.replicate ps.length (1 : Int)), e.2.2 = 1 := fun e he => by
  unfold edsOf at he
  obtain ⟨i, hi⟩ := List.getElem?_of_mem he
  rw [List.getElem?_zipWith] at hi
  cases h1 : ps[i]? with
  | none => rw [h1] at hi; cases hi
  | some p =>
   cases h2 : (List.replicate ps.length (1 : Int))[i]? with
   | none => rw [h1, h2] at hi; cases hi
   | some w =>
    rw [h1, h2] at hi
    obtain rfl := Option.some.inj hi
    exact List.eq_of_mem_replicate (List.mem_of_getElem? h2)
 rw [<- a3, sum_ones fun T hT => wt_one w1 ((a2 T).mp hT).1.all]
 have hp : M.Perm L := (List.perm_ext_iff_of_nodup a1 hL).mpr fun l => by rw [a2, hm, isT_web g1 hw]
 rw [hp.length_eq]
end My
namespace L2
open PySem PySem.Spec PyProof.Rows
section
variable {X : Cx}
def rGetL (K : PySem.W.Frag) : V -> V -> Hp -> VK -> Prop := fun x y H Q => ∃ p xs i v, x = .ref p /\ y = .int i /\ SqL K H p xs /\ 0 <= i /\ xs[i.toNat]? = some v /\ Q v H
theorem get_listK (K : PySem.W.Frag) (hk : X.K = K := by rfl) : PGet X (rGetL K) := by
 subst hk
 intro pins s σ H o i ov iv Q I ro ri h
 obtain ⟨p, xs, j, z, rfl, rfl, hq, h0, he, q⟩ := h
 cases ro
 obtain ⟨t, rfl⟩ := ri
 obtain ⟨its, r, pl, hz⟩ := I.list hq
 obtain ⟨w, ew, rw'⟩ := r.get he
 have hl := r.length
 have hn := line63
 have hlt := (List.getElem?_eq_some_iff.mp he).1
 exact wpAny_getItem_list pl.isList h0 (by omega) (by simpa using ew) ⟨z, H, I, rw', q⟩
end
end L2
namespace My
open PySem L2
theorem for_zip {K : PySem.W.Frag} {a b : Addr} {xs ys : List V} {g : TG} {tb : TS} {D : Ends} {σ : St} {H : Hp} (hxy : xs.length = ys.length) (Pv : Nat -> St -> Hp -> Prop) (h0 : Pv 0 σ H) (hl : ∀ i σ H, i <= xs.length -> Pv i σ H -> SqL K H a xs /\ SqL K H b ys)
  (hs : ∀ (i : Nat) x y σ H (p : Addr), H p = none -> xs[i]? = some x -> ys[i]? = some y -> Pv i σ H -> g (.ref p) σ (upd H p (.tup [x, y])) fun σ2 H2 => tb { D with nx := Pv (i + 1), ct := Pv (i + 1), bk := D.nx } σ2 H2) (hd : ∀ σ H, Pv xs.length σ H -> D.nx σ H) :
  ∃ W : Nat -> Nat -> St -> Hp -> Prop, (∃ m, W 0 m σ H) /\ ∀ i m σ H, W i m σ H ->
   ((Itz K a b).stop i H /\ D.nx σ H) \/ ((Itz K a b).go i H /\ ∃ N : St -> Hp -> Prop, (∀ σ' H', N σ' H' -> ∃ m', m' < m /\ W (i + 1) m' σ' H') /\ ∀ x H', (Itz K a b).yld i H x H' -> g x σ H' fun σ2 H2 => tb { D with nx := N, ct := N, bk := D.nx } σ2 H2) := by
 refine ⟨fun i m σ H => m = xs.length - i /\ i <= xs.length /\ Pv i σ H, ⟨xs.length, by simp, Nat.zero_le _, h0⟩, ?_⟩
 rintro i m σ H ⟨rfl, hi, p⟩
 obtain ⟨q, q2⟩ := hl i σ H hi p
 by_cases hlt : i < xs.length
 ·refine .inr ⟨⟨xs, ys, xs[i], ys[i]'(by omega), q, q2, by simp [hlt], List.getElem?_eq_getElem (by omega)⟩, Pv (i + 1), fun σ' H' p' => ⟨xs.length - (i + 1), by omega, rfl, hlt, p'⟩, fun x H' ⟨T, u, v, hT, ex, eH, hu, hv⟩ => ?_⟩
  subst ex eH
  exact hs i u v σ H T hT (hu xs q) (hv ys q2) p
 ·have e : i = xs.length := by omega
  subst e
  exact .inl ⟨⟨xs, ys, q, q2, .inl (Nat.le_refl _)⟩, hd σ H p⟩
structure TabAt (H0 : Hp) (r : Addr) (n : Nat) (H : Hp) (ys : List V) (L : List (List Int)) : Prop where
 tab : H r = some (.lst ys)
 rows : Bears (LiV r H) ys L
 len : L.length = n
 all : ∀ l ∈ L, l.length = n
 nd : ys.Nodup
 new : ∀ A, V.ref A ∈ ys -> H0 A = none
theorem TabAt.same {H0 H H' : Hp} {r : Addr} {n : Nat} {ys : List V} {L : List (List Int)} (s : Same H H') (h : TabAt H0 r n H ys L) : TabAt H0 r n H' ys L := ⟨s _ _ h.tab, h.rows.imp fun _ _ q => q.same s, h.len, h.all, h.nd, h.new⟩
theorem TabAt.at {H0 H : Hp} {r : Addr} {n : Nat} {ys : List V} {L : List (List Int)} (h : TabAt H0 r n H ys L) {i : Nat} (hi : i < n) : ∃ (A : Addr) (l : List Int), ys[i]? = some (.ref A) /\ L[i]? = some l /\ H A = some (.lst (IL l)) /\ l.length = n /\ H0 A = none /\ A ≠ r := by
 have hl := h.len
 obtain ⟨l, e⟩ : ∃ l, L[i]? = some l := ⟨_, List.getElem?_eq_getElem (by omega)⟩
 obtain ⟨v, e1, A, rfl, e2, e3⟩ := h.rows.2 i l e
 exact ⟨A, l, e1, e, e2, h.all l (List.mem_of_getElem? e), h.new A (List.mem_of_getElem? e1), e3⟩
theorem TabAt.put {H0 H : Hp} {r : Addr} {n : Nat} {ys : List V} {L : List (List Int)} (h : TabAt H0 r n H ys L) {i : Nat} {A : Addr} {l l' : List Int} (e1 : ys[i]? = some (.ref A)) (e2 : L[i]? = some l) (e3 : A ≠ r) (hl : l'.length = n) : TabAt H0 r n (upd H A (.lst (IL l'))) ys (L.set i l') := by
 have hi := (List.getElem?_eq_some_iff.mp e2).1
 have hil := (List.getElem?_eq_some_iff.mp e1).1
 refine ⟨by rw [upd_ne (Ne.symm e3)]; exact h.tab, ⟨by rw [List.length_set]; exact h.rows.1, fun j m em => ?_⟩, by rw [List.length_set]; exact h.len, fun m hm => ?_, h.nd, h.new⟩
 ·rw [List.getElem?_set] at em
  by_cases c : i = j
  ·subst c
   rw [if_pos rfl, if_pos hi] at em
   obtain rfl := Option.some.inj em
   exact ⟨_, e1, A, rfl, upd_same, e3⟩
  ·rw [if_neg c] at em
   obtain ⟨v, f1, B, rfl, f2, f3⟩ := h.rows.2 j m em
   refine ⟨_, f1, B, rfl, ?_, f3⟩
   rw [upd_ne]
   ·exact f2
   ·intro e
    rw [e] at f1
    exact c (nodup_get h.nd e1 f1)
 ·rcases List.mem_or_eq_of_mem_set hm with e | e
  ·exact h.all m e
  ·rw [e]; exact hl
theorem fnL_put {L : List (List Int)} {l : List Int} {i j : Nat} {x : Int} (hi : L[i]? = some l) (hj : j < l.length) (a b : Nat) : fnL (L.set i (l.set j x)) a b = if a = i /\ b = j then x else fnL L a b := by
 have hil := (List.getElem?_eq_some_iff.mp hi).1
 unfold fnL
 by_cases ha : a = i
 ·subst ha
  have e1 : (L.set a (l.set j x)).getD a [] = l.set j x := by rw [List.getD_eq_getElem?_getD, List.getElem?_set, if_pos rfl, if_pos hil]; rfl
  have e2 : L.getD a [] = l := by rw [List.getD_eq_getElem?_getD, hi]; rfl
  rw [e1, e2]
  by_cases hb : b = j
  ·subst hb
   rw [if_pos ⟨rfl, rfl⟩, List.getD_eq_getElem?_getD, List.getElem?_set, if_pos rfl, if_pos hj]
   rfl
  ·rw [if_neg (fun h => hb h.2), List.getD_eq_getElem?_getD, List.getElem?_set, if_neg (Ne.symm hb), <- List.getD_eq_getElem?_getD]
 ·have e1 : (L.set i (l.set j x)).getD a [] = L.getD a [] := by rw [List.getD_eq_getElem?_getD, List.getD_eq_getElem?_getD, List.getElem?_set, if_neg (Ne.symm ha)]
  rw [e1, if_neg (fun h => ha h.1)]
theorem four {A : Mx} {u v : Nat} {w : Int} (hne : u ≠ v) (a b : Nat) {B C D E : Mx} (h1 : ∀ a b, B a b = if a = u /\ b = u then A u u + w else A a b) (h2 : ∀ a b, C a b = if a = v /\ b = v then B v v + w else B a b) (h3 : ∀ a b, D a b = if a = u /\ b = v then C u v - w else C a b) (h4 : ∀ a b, E a b = if a = v /\ b = u then D v u - w else D a b) : E a b = A a b + w * (ind u v a * ind u v b) := by
 have nv : ¬ v = u := Ne.symm hne
 unfold ind
 by_cases x1 : a = u
 ·subst x1
  by_cases y1 : b = a
  ·subst y1
   simp [h4, h3, h2, h1, hne, nv]
  ·by_cases y2 : b = v
   ·subst y2
    simp [h4, h3, h2, h1, hne, nv]
    omega
   ·simp [h4, h3, h2, h1, hne, nv, y1, y2]
 ·by_cases x2 : a = v
  ·subst x2
   by_cases y1 : b = u
   ·subst y1
    simp [h4, h3, h2, h1, hne, nv]
    omega
   ·by_cases y2 : b = a
    ·subst y2
     simp [h4, h3, h2, h1, hne, nv]
    ·simp [h4, h3, h2, h1, hne, nv, y1, y2]
  ·simp [h4, h3, h2, h1, hne, nv, x1, x2]
theorem eds_snoc {ps : List (Int × Int)} {ws : List Int} {i : Nat} {p : Int × Int} {w : Int} (hp : ps[i]? = some p) (hw : ws[i]? = some w) : edsOf (ps.take (i + 1)) (ws.take (i + 1)) = edsOf (ps.take i) (ws.take i) ++ [(p.1.toNat, p.2.toNat, w)] := by
 have h1 := (List.getElem?_eq_some_iff.mp hp).1
 have h2 := (List.getElem?_eq_some_iff.mp hw).1
 unfold edsOf
 rw [List.take_succ, List.take_succ, hp, hw]
 rw [List.zipWith_append (by rw [List.length_take, List.length_take]; omega)]
 rfl
end My
namespace L2
open PySem
end L2
namespace L2
open PySem PySem.Spec PyProof.Rows
section
variable {prog : Program} {w : World} {A : Around} {E : Value -> Shared -> Prop} {s : Shared}
end
section
variable {prog : Program} {w : World} {A : Around} {R : Result -> Shared -> Prop} {I : Addr} {fp wr : List Addr} {G : Array GenState -> Array GenState -> Prop} {n : Nat} {P : Nat -> Value -> Prop} {St : Nat -> Shared -> Prop}
end
section
variable {prog : Program} {w : World} {A : Around} {E : Value -> Shared -> Prop} {s : Shared}
end
section
variable {prog : Program} {w : World} {A : Around} {E : Value -> Shared -> Prop} {s : Shared}
end
section
variable {prog : Program} {w : World} {A : Around} {E : Value -> Shared -> Prop} {s : Shared}
end
section
variable {prog : Program} {w : World} {A : Around} {E : Value -> Shared -> Prop} {s : Shared}
end
section
variable {prog : Program} {w : World} {A : Around} {E : Value -> Shared -> Prop} {s : Shared}
end
section
variable {prog : Program} {w : World} {A B : Around} {E : Value -> Shared -> Prop} {s : Shared}
end
section
variable {prog : Program} {w : World} {A : Around} {E : Value -> Shared -> Prop} {s : Shared}
end
theorem perm_of_len {m : List Int} : ∀ {l : List Int}, m.Nodup -> l.length = m.length -> (∀ x ∈ m, x ∈ l) -> l.Perm m := by
 induction m with
 | nil => intro l _ h _; rw [List.length_eq_zero_iff.mp h]
 | cons x m ih =>
  intro l hn hl hs
  have hx := hs x List.mem_cons_self
  have hn' := List.nodup_cons.mp hn
  refine (List.perm_cons_erase hx).trans ((ih hn'.2 (by rw [List.length_erase_of_mem hx, hl]; rfl) fun y hy => ?_).cons x)
  have ne : y ≠ x := fun e => hn'.1 (by rw [<- e]; exact hy)
  exact (List.mem_erase_of_ne ne).mpr (hs y (List.mem_cons_of_mem _ hy))
section
variable {prog : Program} {w : World} {A : Around} {E : Value -> Shared -> Prop} {s : Shared}
end
section
variable {X : Cx} {p p2 pos pos2 : Pos} {e : Expr} {t : TA}
end
end L2
namespace My
open PySem L2
section
variable {n : Int} {ps : List (Int × Int)} {I O S : List Int} {f g : Nat -> Nat} {k : Nat}
end
section
variable {N : Nat} {es : List (Nat × Nat)} {F : List Int}
end
section
variable {K : PySem.W.Frag} {a : Addr} {xs : List V} {g : TG} {tt : TT} {te : TE} {o : Nat} {fr : List Nat} {σ : St} {H : Hp} {Q : VK}
end
def FD (A B : List Int) (t : Int) : Prop := t ∈ A /\ t ∉ B /\ ∀ s, s < t -> (s ∈ A ↔ s ∈ B)
theorem lex_first : ∀ {A B : List Int}, A.Pairwise (· < ·) -> B.Pairwise (· < ·) -> A.length = B.length -> (HT.lexLt A B = true ↔ ∃ t, FD A B t)
 | [], [], _, _, _ => ⟨fun h => (by cases h), fun ⟨t, h, _⟩ => (by cases h)⟩
 | x :: A, y :: B, hA, hB, hl => by
  obtain ⟨a1, a2⟩ := List.pairwise_cons.mp hA
  obtain ⟨b1, b2⟩ := List.pairwise_cons.mp hB
  have hl' : A.length = B.length := Nat.succ.inj hl
  show (if x = y then HT.lexLt A B else decide (x < y)) = true ↔ _
  by_cases c : x = y
  ·subst c
   rw [if_pos rfl, lex_first a2 b2 hl']
   constructor
   ·rintro ⟨t, h1, h2, h3⟩
    have tx := a1 t h1
    refine ⟨t, List.mem_cons_of_mem _ h1, fun q => ?_, fun s hs => ?_⟩
    ·rcases List.mem_cons.mp q with e | e
     ·omega
     ·exact h2 e
    ·rw [List.mem_cons, List.mem_cons, h3 s hs]
   ·rintro ⟨t, h1, h2, h3⟩
    have tx : t ≠ x := fun e => h2 (e ▸ List.mem_cons_self)
    have h1' := (List.mem_cons.mp h1).resolve_left tx
    refine ⟨t, h1', fun q => h2 (List.mem_cons_of_mem _ q), fun s hs => ?_⟩
    have := h3 s hs
    rw [List.mem_cons, List.mem_cons] at this
    by_cases e : s = x
    ·rw [e]
     exact ⟨fun q => absurd (a1 x q) (Int.lt_irrefl x), fun q => absurd (b1 x q) (Int.lt_irrefl x)⟩
    ·exact ⟨fun q => (this.mp (.inr q)).resolve_left e, fun q => (this.mpr (.inr q)).resolve_left e⟩
  ·rw [if_neg c, decide_eq_true_iff]
   constructor
   ·intro h
    refine ⟨x, List.mem_cons_self, fun q => ?_, fun s hs => ⟨fun q => ?_, fun q => ?_⟩⟩
    ·rcases List.mem_cons.mp q with e | e
     ·exact c e
     ·have := b1 x e; omega
    ·rcases List.mem_cons.mp q with e | e
     ·omega
     ·have := a1 s e; omega
    ·rcases List.mem_cons.mp q with e | e
     ·omega
     ·have := b1 s e; omega
   ·rintro ⟨t, h1, h2, h3⟩
    have tx : x <= t := by
     rcases List.mem_cons.mp h1 with e | e
     ·omega
     ·have := a1 t e; omega
    refine Classical.byContradiction fun hc => ?_
    have hyx : y < x := by omega
    have := (h3 y (by omega)).mpr List.mem_cons_self
    rcases List.mem_cons.mp this with e | e
    ·omega
    ·have := a1 y e; omega
section
variable {n : Int} {ps : List (Int × Int)} {I O : List Int} {i b c : Nat}
end
end My
namespace L2
open PySem PySem.Spec PyProof.Rows
section
variable {X : Cx}
end
end L2
namespace My
open PySem L2
theorem contS {s rest : TS} {D : Ends} {σ : L2.St} {H : Hp} (P : L2.St -> Hp -> Prop) (h1 : ∀ σ' H', P σ' H' -> rest D σ' H') (h2 : ∀ K : L2.St -> Hp -> Prop, (∀ σ' H', P σ' H' -> K σ' H') -> s { D with nx := K } σ H) : tSeq s rest D σ H := h2 _ h1
end My
namespace L2
open PySem PySem.Spec PyProof.Rows
section
variable {X : Cx}
end
end L2
namespace My
open PySem L2
theorem fr_take {n : Nat} {ps : List (Int × Int)} {l : List Int} : ∀ (m : List Int), Fr n ps (l ++ m) = true -> Fr n ps l = true := fun m => by
 refine snoc_ind (P := fun m => Fr n ps (l ++ m) = true -> Fr n ps l = true) (fun h => by rwa [List.append_nil] at h) (fun m x ih h => ?_) m
 rw [<- List.append_assoc] at h
 exact ih (fr_snoc.mp h).1
theorem tree_fr {n : Int} {ps : List (Int × Int)} (g : GoodW n ps) {l : List Int} : IsTree n ps l ↔ (l.length : Int) = n - 1 /\ IsSet ps.length l /\ Fr n.toNat ps l = true := by
 have g1 := g.1
 rw [<- frs_tree g]
 unfold frs
 rw [List.mem_filter, cmb_mem]
 constructor
 ·rintro ⟨⟨a, b⟩, c⟩
  exact ⟨by omega, b, c⟩
 ·rintro ⟨a, b, c⟩
  exact ⟨⟨by omega, b⟩, c⟩
end My
namespace HT
open PySem PyProof.Rows
def lexLe : List Int -> List Int -> Bool
 | [], _ => true
 | _ :: _, [] => false
 | x :: xs, y :: ys => if x = y then lexLe xs ys else decide (x <= y)
theorem lexLe_cons (x y : Int) (xs ys : List Int) : lexLe (x :: xs) (y :: ys) = if x = y then lexLe xs ys else decide (x <= y) := rfl
theorem lexLe_lt : ∀ xs ys : List Int, lexLe xs ys = !lexLt ys xs
 | [], [] => rfl
 | [], _ :: _ => rfl
 | _ :: _, [] => rfl
 | x :: xs, y :: ys => by
  rw [lexLe_cons, lexLt_cons]
  by_cases e : x = y
  ·rw [if_pos e, if_pos e.symm, lexLe_lt xs ys]
  ·rw [if_neg e, if_neg (Ne.symm e)]
   by_cases h : x <= y
   ·rw [decide_eq_true h, decide_eq_false (by omega)]
    rfl
   ·rw [decide_eq_false h, decide_eq_true (by omega)]
    rfl
theorem rcLe_int (A : Around) (s : Shared) (a : Int) (t : Tok) (c : Int) (u : Tok) (prog : Program) (w : World) (E : Value -> Shared -> Prop) (Q : Value -> Shared -> Prop) (h : Q (.bool (decide (a <= c))) s) :
  wpAny (model prog w) A (richCompare .LtE (.int a t) (.int c u)) Q E s :=
 (PyProof.Rows.le_int h : wpAny (model prog w) A (compareOp .LtE (.int a t) (.int c u)) Q E s)
section
open PySem.SeqAt
open PySem.AutoSeq1 (wpAny_loadPart')
open PySem.MeetsSeq PySem.MeetsSeq2 PySem.MeetsSeq3
theorem tuple_le_ints (l b : Addr) (items items2 : Array Value) (n n2 : Nat) (dd dd2 : Option Addr) (sl sl2 : Array (Option Value)) (ns ms : List Int) (hi : IntsAre items.toList ns) (hj : IntsAre items2.toList ms) :
  Meets (Builtin.«tuple.__le__» ⟨[.ref l, .ref b], []⟩)
   (fun _ R s => s.heap.get? l = some { cls := .type "tuple", dict := dd, data := .seq items n, slots := sl } /\ s.heap.get? b = some { cls := .type "tuple", dict := dd2, data := .seq items2 n2, slots := sl2 } /\
    R (.ok (.ret (.bool (lexLe ns ms)))) s) :=
 .of_wp fun prog w A R s h => by
  obtain ⟨hp, g, d, tk, os⟩ := s; obtain ⟨hl, hb, h⟩ := h
  have f2 := AutoSeq1.sub_tuple_tuple
  have z1 : items.size = ns.length := by rw [<- hi.length]; simp
  have z2 : items2.size = ms.length := by rw [<- hj.length]; simp
  wp_walk using wpAny_loadPart' hl, wpAny_loadPart' hb, wpAny_forIn_list _ (fun rest b s' => b.1 = none /\ s' = ⟨hp, g, d, tk, os⟩ /\ ∃ (vs ws : List Value) (ns' ms' : List Int), rest = vs.zip ws /\
   IntsAre vs ns' /\ IntsAre ws ms' /\ ns'.length + items2.size = ms'.length + items.size /\ R (.ok (.ret (.bool (lexLe ns' ms')))) ⟨hp, g, d, tk, os⟩) _
  case turn =>
   rintro ⟨y, x⟩ rest b s' ⟨hb', rfl, vs, ws, ns', ms', hz, hvi, hwi, hlen, hR⟩
   cases hvi with
   | nil => rw [List.zip_nil_left] at hz; cases hz
   | cons a t hvi' =>
    cases hwi with
    | nil => rw [List.zip_nil_right] at hz; cases hz
    | cons c u hwi' =>
     rw [List.zip_cons_cons] at hz
     injection hz with hyx hrest
     injection hyx with hy hx
     subst hy hx
     rw [lexLe_cons] at hR
     simp only [List.length_cons] at hlen
     obtain ⟨e, he, hiff⟩ := eqAt_int A.in1 ⟨hp, g, d, tk, os⟩ a t c u
     refine wpAny_bind (he prog w _ _ ?_)
     cases e with
     | true =>
      rw [if_pos (hiff.mp rfl)] at hR
      wp_walk
      exact ⟨rfl, rfl, _, _, _, _, hrest, hvi', hwi', by omega, hR⟩
     | false =>
      rw [if_neg (fun q => absurd (hiff.mpr q) Bool.false_ne_true)] at hR
      have hri := rcLe_int A.in1 ⟨hp, g, d, tk, os⟩ a t c u prog w
      wp_walk using hri
      exact ⟨_, rfl, by simpa using hR⟩
  case fin =>
   rintro ⟨b1, b2⟩ s' ⟨hb', rfl, vs, ws, ns', ms', hz, hvi, hwi, hlen, hR⟩
   simp only at hb'
   subst hb'
   have hv : lexLe ns' ms' = decide (items.size <= items2.size) := by
    cases hvi with
    | nil =>
     simp only [List.length_nil] at hlen
     show true = _
     exact (decide_eq_true (by omega)).symm
    | cons a t hv =>
     cases hwi with
     | nil =>
      simp only [List.length_nil, List.length_cons] at hlen
      show false = _
      exact (decide_eq_false (by omega)).symm
     | cons c u hw =>
      rw [List.zip_cons_cons] at hz
      cases hz
   rw [hv] at hR
   wp_walk
   exact ⟨_, rfl, by simpa [Builtin.Tuple.tupleCompareSizes] using hR⟩
  case h =>
   exact ⟨rfl, rfl, items.toList, items2.toList, ns, ms, rfl, hi, hj, by omega, h⟩
end
section
variable {prog : Program} {w : World} {A : Around} {E : Value -> Shared -> Prop} {s : Shared}
theorem le_tupInts {l b : Addr} {items items2 : Array Value} {ns ms : List Int} {Q : Value -> Shared -> Prop} (hl : IsTup s.heap l items) (hb : IsTup s.heap b items2) (hi : IntsAre items.toList ns) (hj : IntsAre items2.toList ms)
  (hu : A.units < cLine) (h : Q (.bool (lexLe ns ms)) s) : wpAny (model prog w) A (compareOp .LtE (.ref l) (.ref b)) Q E s := by
 obtain ⟨⟨cls, dd, data, sl⟩, ho, hc, n, hd⟩ := id hl
 obtain ⟨⟨cls2, dd2, data2, sl2⟩, ho2, hc2, n2, hd2⟩ := id hb
 simp only at hc hd hc2 hd2
 subst hc hd hc2 hd2
 exact richCompare_meets_room (op := .LtE) ⟨_, ho, rfl⟩ ⟨_, ho2, rfl⟩ PySem.F.slot_tuple_le PySem.F.entry_tuple_le (PySem.F.args_tuple_le_2 _ _) (tuple_le_ints l b items items2 n n2 dd dd2 sl sl2 ns ms hi hj)
  ⟨ho, ho2, show Value.bool (lexLe ns ms) ≠ Value.notImplemented /\ Q (.bool (lexLe ns ms)) s from ⟨(fun x => nomatch x), h⟩⟩ hu
end
end HT
namespace L2
open PySem PySem.Spec PyProof.Rows
section
variable {X : Cx}
end
end L2
namespace My
open PySem L2
end My
namespace L2
open PySem PySem.Spec PyProof.Rows
section
variable {M : Model} {A : Around} {E : Value -> Shared -> Prop} {s : Shared}
end
structure CompScopeD (sc0 : Scope) (N N' : List Str) (o : Nat) (fr : List Nat) (scope : Scope) (xo : Str) : Prop where
 kind : scope.kind = .function
 one : (scope.names.filter fun y => y.2 == .cell) = [(xo, .cell)]
 loc : (scope.names.all fun y => y.2 != .local || scope.names.lookup y.1 == some .local) = true
 free : (scope.names.all fun y => y.2 != .free || (y.1 != xo && (sc0.names.lookup y.1 == some .cell || sc0.names.lookup y.1 == some .free))) = true
 len : N'.length = o + fr.length
 sees : ((List.range fr.length).all fun j => match fr[j]? with
  | none => false
  | some y => match N[y]? with
   | none => false
   | some x => N'[o + j]? == some x && scope.names.lookup x == some .free) = true
section
variable {X : Cx} {pins : List (Addr × Obj)} {σ : St} {H : Hp} {s : Shared} {N' : List Str} {o : Nat} {fr : List Nat} {scope : Scope} {fp : List Addr} {xo : Str}
end
section
variable {xo : Str} {X : Cx} {N' : List Str} {o : Nat} {fr : List Nat} {scope : Scope} {elt tg iter : Expr} {ifs : List Expr} {pos : Pos} {wi : TI} {g : TG} {tt : TT} {te : TE}
end
end L2
namespace My
open PySem L2
end My
namespace L2
open PySem PySem.Spec PyProof.Rows
section
variable {prog : Program} {w : World} {A : Around} {E : Value -> Shared -> Prop} {s : Shared}
end
section
variable {prog : Program} {w : World} {A : Around} {E : Value -> Shared -> Prop} {s : Shared}
end
section
variable {X : Cx}
end
end L2
namespace My
open PySem L2
def ev (b : Int) : List Int -> Int
 | [] => 0
 | d :: l => d + b * ev b l
theorem sum_snocI (l : List Int) (x : Int) : (l ++ [x]).sum = l.sum + x := by
 induction l with
 | nil => show x + 0 = 0 + x; omega
 | cons y l ih => show y + (l ++ [x]).sum = y + l.sum + x; omega
end My
namespace L2
open PySem PySem.Spec PyProof.Rows
section
variable {X : Cx}
end
end L2
namespace My
open PySem L2
def cM (M : List Int) (p : Nat) (x : Int) : Int := ((M.take p).count x : Nat)
section
variable {n : Nat} {es : List (Nat × Nat)} (h : InN n es)
include h
end
abbrev lnz (ls : List Int) (z : Int) : Int := ls.getD z.toNat 0
def lwS (ls : List Int) (x : Int) : List Int := (rgL ls.length).filter fun z => decide (lnz ls z < x)
def mA (N : Nat) (ps : List (Int × Int)) (ls : List Int) (x : Int) : List Int := pms N (endsOf ps (lwS ls x))
section
variable {n : Int} {ps : List (Int × Int)} {ls T : List Int} (g : GoodW n ps) (hl : ls.length = ps.length)
include g hl
end
end My
namespace L2
open PySem PySem.Spec PyProof.Rows
section
variable {prog : Program} {w : World} {A : Around} {E : Value -> Shared -> Prop} {s : Shared} {l : Addr} {xs : Array (Int × Tok)}
end
section
variable {X : Cx}
end
end L2
namespace My
open PySem L2
section
variable {n : Int} {ps : List (Int × Int)} {ls T : List Int} (g : GoodW n ps) (hl : ls.length = ps.length)
include g hl
omit hl in
end
section
variable {n : Int} {ps : List (Int × Int)} {ls Ls S : List Int} {j : Nat} {x : Int} (g : GoodW n ps) (hl : ls.length = ps.length) (hLa : Ls.Pairwise (· < ·)) (hLm : ∀ z, z ∈ Ls ↔ z ∈ ls) (hx : Ls[j]? = some x)
include hLa hx
include g hl hLm
end
def sumL (ls T : List Int) : Int := (T.map (lnz ls)).sum
theorem sumL_perm {ls a b : List Int} (h : a.Perm b) : sumL ls a = sumL ls b := by
 unfold sumL
 induction h with
 | nil => rfl
 | cons x _ ih => rw [List.map_cons, List.map_cons, List.sum_cons, List.sum_cons, ih]
 | swap x y l => rw [List.map_cons, List.map_cons, List.map_cons, List.map_cons, List.sum_cons, List.sum_cons, List.sum_cons, List.sum_cons]; omega
 | trans _ _ i1 i2 => exact i1.trans i2
theorem sumL_wo {ls : List Int} {o : Int} : ∀ {T : List Int}, T.Nodup -> o ∈ T -> sumL ls (wo T o) + lnz ls o = sumL ls T
 | [], _, h => by cases h
 | x :: T, hn, h => by
  obtain ⟨n1, n2⟩ := List.nodup_cons.mp hn
  unfold wo
  by_cases c : x = o
  ·rw [List.filter_cons_of_neg (by simpa using c)]
   have e : T.filter (fun y => decide (y ≠ o)) = T := List.filter_eq_self.mpr fun y hy => decide_eq_true fun e => n1 (by rw [c, <- e]; exact hy)
   rw [e, <- c]
   show sumL ls T + lnz ls x = lnz ls x + sumL ls T
   omega
  ·rw [List.filter_cons_of_pos (by simpa using c)]
   have := sumL_wo (ls := ls) n2 ((List.mem_cons.mp h).resolve_left fun e => c e.symm)
   show lnz ls x + sumL ls (wo T o) + lnz ls o = lnz ls x + sumL ls T
   omega
theorem sumL_exch {ls T M : List Int} {o z : Int} (hn : T.Nodup) (ho : o ∈ T) (hp : M.Perm (wo T o ++ [z])) : sumL ls M = sumL ls T - lnz ls o + lnz ls z := by
 rw [sumL_perm hp]
 have := sumL_wo (ls := ls) hn ho
 have e : sumL ls (wo T o ++ [z]) = sumL ls (wo T o) + lnz ls z := by
  unfold sumL
  rw [List.map_append, List.map_singleton]
  exact sum_snocI _ _
 omega
section
variable {n : Int} {ps : List (Int × Int)} {ls T : List Int} (g : GoodW n ps)
include g
theorem tree_sub {W : List Int} (hT : IsTree n ps T) (hW : IsTree n ps W) (h : ∀ z ∈ T, z ∈ W) : T.Perm W := by
 have := perm_of_len (l := W) hT.1.nodup (by have := hT.2.1; have := hW.2.1; omega) h
 exact this.symm
end
end My
namespace L2
open PySem PySem.Spec PyProof.Rows My
section
variable {prog : Program} {w : World} {A : Around} {E : Value -> Shared -> Prop} {s : Shared}
end
section
variable {X : Cx}
end
section
variable {M : Model} {A : Around} {E : Value -> Shared -> Prop} {s : Shared}
end
section
variable {prog : Program} {w : World} {A : Around} {E : Value -> Shared -> Prop} {s : Shared}
end
section
variable {X : Cx}
end
end L2
namespace My
open PySem L2
end My
namespace L2
open PySem PySem.Spec PyProof.Rows
section
variable {prog : Program} {w : World} {A : Around} {E : Value -> Shared -> Prop} {s : Shared}
end
section
variable {prog : Program} {w : World} {A : Around} {E : Value -> Shared -> Prop} {s : Shared}
end
section
variable {X : Cx}
end
end L2
namespace My
open PySem L2
section
variable {K : PySem.W.Frag} {kd : Bool} {a b : Addr} {xs ys : List V} {g : TG} {tt : TT} {te : TE} {o : Nat} {fr : List Nat} {σ : St} {H : Hp} {Q : VK}
end
section
variable {K : PySem.W.Frag} {kd : Bool} {a b : Addr} {xs ys : List V} {g : TG} {tt : TT} {te : TE} {o : Nat} {fr : List Nat} {σ : St} {H : Hp} {Q : VK}
end
end My
namespace L2
open PySem PySem.Spec PyProof.Rows
section
theorem isTup_tuple {h : Heap} {a : Addr} {us : Array Value} (p : IsTup h a us) : h.IsTuple a us := by
 obtain ⟨o, e, c, n, d⟩ := p
 exact ⟨o, e, c, n, d⟩
variable {prog : Program} {w : World} {A : Around} {E : Value -> Shared -> Prop} {s : Shared}
end
section
variable {X : Cx}
end
section
variable {prog : Program} {w : World} {A : Around} {E : Value -> Shared -> Prop} {s : Shared}
end
section
variable {X : Cx} {p p2 pos pos2 : Pos} {e : Expr} {t : TA}
end
end L2
namespace My
open PySem L2
section
variable {K : PySem.W.Frag} {kd : Bool} {a : Addr} {xs : List V} {g : TG} {tt : TT} {te : TE} {o : Nat} {fr : List Nat} {σ : St} {H : Hp} {Q : VK}
end
end My
namespace HT
open PySem PyProof.Rows
section
open PySem.SeqAt
open PySem.AutoSeq1 (wpAny_loadPart')
open PySem.MeetsSeq PySem.MeetsSeq2 PySem.MeetsSeq3
theorem tuple_ltAt (l b : Addr) (xs ys : Array Value) (n n2 : Nat) (dd dd2 : Option Addr) (sl sl2 : Array (Option Value)) (d : Nat) (r : Bool) (hd0 : d <= min xs.size ys.size) :
  Meets (Builtin.«tuple.__lt__» ⟨[.ref l, .ref b], []⟩)
   (fun A R s => s.heap.get? l = some { cls := .type "tuple", dict := dd, data := .seq xs n, slots := sl } /\ s.heap.get? b = some { cls := .type "tuple", dict := dd2, data := .seq ys n2, slots := sl2 } /\
    (∀ j (h1 : j < xs.size) (h2 : j < ys.size), j <= d -> EqAt A.in1 s xs[j] ys[j] (decide (j ≠ d))) /\
    (∀ (h1 : d < xs.size) (h2 : d < ys.size) (prog : Program) (w : World) (E : Value -> Shared -> Prop) (Q : Value -> Shared -> Prop), Q (.bool r) s -> wpAny (model prog w) A.in1 (richCompare .Lt xs[d] ys[d]) Q E s) /\
    (d = min xs.size ys.size -> r = decide (xs.size < ys.size)) /\ R (.ok (.ret (.bool r))) s) :=
 .of_wp fun prog w A R s h => by
  obtain ⟨hp, g, d1, tk, os⟩ := s
  obtain ⟨hl, hb, he, hlt, hfin, h⟩ := h
  have f2 := AutoSeq1.sub_tuple_tuple
  have hZ : (xs.toList.zip ys.toList).length = min xs.size ys.size := by simp
  wp_walk using wpAny_loadPart' hl, wpAny_loadPart' hb, wpAny_forIn_list _ (fun rest b s' => b.1 = none /\ s' = ⟨hp, g, d1, tk, os⟩ /\ ∃ i, i <= d /\ rest = (xs.toList.zip ys.toList).drop i) _
  case turn =>
   rintro ⟨y, x⟩ rest b s' ⟨hb', rfl, i, hid, hz⟩
   have hi : i < (xs.toList.zip ys.toList).length := by
    rcases Nat.lt_or_ge i (xs.toList.zip ys.toList).length with q | q
    ·exact q
    ·rw [List.drop_of_length_le q] at hz; cases hz
   have hm : i < min xs.size ys.size := hZ ▸ hi
   have h1 : i < xs.size := Nat.lt_of_lt_of_le hm (Nat.min_le_left _ _)
   have h2 : i < ys.size := Nat.lt_of_lt_of_le hm (Nat.min_le_right _ _)
   rw [List.drop_eq_getElem_cons hi] at hz
   injection hz with hyx hrest
   have hy : y = xs[i] := by have := congrArg Prod.fst hyx; simpa using this
   have hx : x = ys[i] := by have := congrArg Prod.snd hyx; simpa using this
   subst hy hx
   refine wpAny_bind (he i h1 h2 hid prog w _ _ ?_)
   by_cases c : i = d
   ·subst c
    rw [decide_eq_false (by simp)]
    have hri := hlt h1 h2 prog w
    wp_walk using hri
    exact ⟨_, rfl, by simpa using h⟩
   ·rw [decide_eq_true c]
    wp_walk
    exact ⟨rfl, rfl, i + 1, by omega, hrest⟩
  case fin =>
   rintro ⟨b1, b2⟩ s' ⟨hb', rfl, i, hid, hz⟩
   simp only at hb'
   subst hb'
   have hge : min xs.size ys.size <= i := by
    rcases Nat.lt_or_ge i (xs.toList.zip ys.toList).length with q | q
    ·rw [List.drop_eq_getElem_cons q] at hz; cases hz
    ·exact hZ ▸ q
   rw [hfin (by omega)] at h
   wp_walk
   exact ⟨_, rfl, by simpa [Builtin.Tuple.tupleCompareSizes] using h⟩
  case h => exact ⟨rfl, rfl, 0, Nat.zero_le _, rfl⟩
end
section
variable {prog : Program} {w : World} {A : Around} {E : Value -> Shared -> Prop} {s : Shared}
theorem lt_tupAt {l b : Addr} {xs ys : Array Value} {d : Nat} {r : Bool} {Q : Value -> Shared -> Prop} (hl : IsTup s.heap l xs) (hb : IsTup s.heap b ys) (hd0 : d <= min xs.size ys.size) (hu : A.units < cLine)
  (he : ∀ j (h1 : j < xs.size) (h2 : j < ys.size), j <= d -> SeqAt.EqAt A.in1 s xs[j] ys[j] (decide (j ≠ d)))
  (hlt : ∀ (h1 : d < xs.size) (h2 : d < ys.size) (prog : Program) (w : World) (E : Value -> Shared -> Prop) (Q : Value -> Shared -> Prop), Q (.bool r) s -> wpAny (model prog w) A.in1 (richCompare .Lt xs[d] ys[d]) Q E s)
  (hfin : d = min xs.size ys.size -> r = decide (xs.size < ys.size)) (h : Q (.bool r) s) : wpAny (model prog w) A (compareOp .Lt (.ref l) (.ref b)) Q E s := by
 obtain ⟨⟨cls, dd, data, sl⟩, ho, hc, n, hd⟩ := id hl
 obtain ⟨⟨cls2, dd2, data2, sl2⟩, ho2, hc2, n2, hd2⟩ := id hb
 simp only at hc hd hc2 hd2
 subst hc hd hc2 hd2
 exact richCompare_meets_room (op := .Lt) ⟨_, ho, rfl⟩ ⟨_, ho2, rfl⟩ PySem.F.slot_tuple_lt PySem.F.entry_tuple_lt (PySem.F.args_tuple_lt_2 _ _) (tuple_ltAt l b xs ys n n2 dd dd2 sl sl2 d r hd0)
  ⟨ho, ho2, he, hlt, hfin, show Value.bool r ≠ Value.notImplemented /\ Q (.bool r) s from ⟨(fun x => nomatch x), h⟩⟩ hu
theorem eqAt_ints {l b : Addr} {xs ys : Array Value} {ns ms : List Int} (hl : IsTup s.heap l xs) (hb : IsTup s.heap b ys) (hi : IntsAre xs.toList ns) (hj : IntsAre ys.toList ms) (hu : A.units < cLine) : SeqAt.EqAt A s (.ref l) (.ref b) (decide (ns = ms)) := by
 have z1 : xs.size = ns.length := by rw [<- hi.length]; simp
 have z2 : ys.size = ms.length := by rw [<- hj.length]; simp
 by_cases hab : l = b
 ·subst hab
  obtain ⟨o1, e1, _, n1, d1⟩ := hl
  obtain ⟨o2, e2, _, n2, d2⟩ := hb
  rw [e1] at e2
  cases e2
  rw [d1] at d2
  cases d2
  have en : ns = ms := L2.ints_uniq hi hj
  rw [decide_eq_true en]
  exact SeqAt.EqAt.same _
 ·have k := SeqAt.RcAt.tuples (A := A) (s := s) (e := fun j => ns.getD j 0 == ms.getD j 0) (L2.isTup_tuple hl) (L2.isTup_tuple hb) hu fun j h1 h2 => by
   obtain ⟨t, ea⟩ := IntsAre.int_at hi j xs[j] (by simp [h1])
   obtain ⟨u, ec⟩ := IntsAre.int_at hj j ys[j] (by simp [h2])
   rw [ea, ec]
   exact SeqAt.EqAt.int_int _ _ _ _
  have e : ((List.range (min xs.size ys.size)).all (fun j => ns.getD j 0 == ms.getD j 0) && xs.size == ys.size) = decide (ns = ms) := by
   rw [z1, z2, Bool.eq_iff_iff, Bool.and_eq_true, List.all_eq_true, decide_eq_true_iff]
   constructor
   ·rintro ⟨q1, q2⟩
    have q2 : ns.length = ms.length := by simpa using q2
    refine List.ext_getElem? fun j => ?_
    by_cases c : j < ns.length
    ·have := q1 j (List.mem_range.mpr (by omega))
     rw [List.getD_eq_getElem?_getD, List.getD_eq_getElem?_getD, List.getElem?_eq_getElem c, List.getElem?_eq_getElem (by omega)] at this
     have := eq_of_beq this
     rw [List.getElem?_eq_getElem c, List.getElem?_eq_getElem (by omega)]
     exact congrArg some this
    ·rw [List.getElem?_eq_none (by omega), List.getElem?_eq_none (by omega)]
   ·rintro rfl
    exact ⟨fun j _ => by simp, by simp⟩
  rw [e] at k
  exact SeqAt.EqAt.of_refs hab k
def ltP (x y : Int × List Int) : Bool := decide (x.1 < y.1) || (decide (x.1 = y.1) && lexLt x.2 y.2)
theorem lt_pair {l b p q : Addr} {a c : Int} {t u : Tok} {r1 r2 : List Value} {xs ys : Array Value} {ns ms : List Int} {Q : Value -> Shared -> Prop} (hl : IsTup s.heap l (.int a t :: .ref p :: r1).toArray) (hb : IsTup s.heap b (.int c u :: .ref q :: r2).toArray)
  (hp : IsTup s.heap p xs) (hq : IsTup s.heap q ys) (hi : IntsAre xs.toList ns) (hj : IntsAre ys.toList ms) (hr : a = c -> ns = ms -> r1 = [] /\ r2 = []) (hu : A.units + 2 < cLine) (h : Q (.bool (ltP (a, ns) (c, ms))) s) : wpAny (model prog w) A (compareOp .Lt (.ref l) (.ref b)) Q E s := by
 have u1 : A.units < cLine := by omega
 have u2 : A.in1.units < cLine := by show A.units + 1 < cLine; omega
 by_cases c1 : a = c
 ·subst c1
  by_cases c2 : ns = ms
  ·obtain ⟨rfl, rfl⟩ := hr rfl c2
   have e : ltP (a, ns) (a, ms) = false := by
    subst c2
    show (decide (a < a) || (decide (a = a) && lexLt ns ns)) = false
    rw [My.lex_irrefl]
    simp
   refine lt_tupAt (d := 2) (r := ltP (a, ns) (a, ms)) hl hb (by simp) u1 (fun j h1 h2 hj' => ?_) (fun h1 => absurd h1 (by simp)) (fun _ => by rw [e]; simp) h
   match j, h1, h2, hj' with
   | 0, _, _, _ => exact (show SeqAt.EqAt A.in1 s (.int a t) (.int a u) true from by have := SeqAt.EqAt.int_int (A := A.in1) (s := s) a t a u; simpa using this)
   | 1, _, _, _ => exact (show SeqAt.EqAt A.in1 s (.ref p) (.ref q) true from by have := eqAt_ints (A := A.in1) hp hq hi hj u2; rwa [decide_eq_true c2] at this)
   | j + 2, h1, _, _ => exact absurd h1 (by simp)
  ·have e : ltP (a, ns) (a, ms) = lexLt ns ms := by
    show (decide (a < a) || (decide (a = a) && lexLt ns ms)) = _
    simp
   rw [e] at h
   refine lt_tupAt (d := 1) (r := lexLt ns ms) hl hb (by simp) u1 (fun j h1 h2 hj' => ?_) (fun h1 h2 prog w E Q hq' => ?_) (fun z => absurd z (by simp)) h
   ·match j, h1, h2, hj' with
    | 0, _, _, _ => exact (show SeqAt.EqAt A.in1 s (.int a t) (.int a u) true from by have := SeqAt.EqAt.int_int (A := A.in1) (s := s) a t a u; simpa using this)
    | 1, _, _, _ => exact (show SeqAt.EqAt A.in1 s (.ref p) (.ref q) false from by have := eqAt_ints (A := A.in1) hp hq hi hj u2; rwa [decide_eq_false c2] at this)
    | j + 2, _, _, z => omega
   ·exact (show wpAny (model prog w) A.in1 (compareOp .Lt (.ref p) (.ref q)) Q E s from lt_tupInts hp hq hi hj u2 hq')
 ·have e : ltP (a, ns) (c, ms) = decide (a < c) := by
   show (decide (a < c) || (decide (a = c) && lexLt ns ms)) = _
   simp [c1]
  rw [e] at h
  refine lt_tupAt (d := 0) (r := decide (a < c)) hl hb (Nat.zero_le _) u1 (fun j h1 h2 hj' => ?_) (fun h1 h2 prog w E Q hq' => ?_) (fun z => absurd z (by simp)) h
  ·match j, h1, h2, hj' with
   | 0, _, _, _ => exact (show SeqAt.EqAt A.in1 s (.int a t) (.int c u) false from by have := SeqAt.EqAt.int_int (A := A.in1) (s := s) a t c u; rwa [show (a == c) = false by simpa using c1] at this)
   | j + 1, _, _, z => omega
  ·exact rcLt_int A.in1 s a t c u prog w E Q hq'
end
theorem ltP_irrefl (x : Int × List Int) : ltP x x = false := by
 show (decide (x.1 < x.1) || (decide (x.1 = x.1) && lexLt x.2 x.2)) = false
 rw [My.lex_irrefl]
 simp
theorem ltP_iff {x y : Int × List Int} : ltP x y = true ↔ x.1 < y.1 \/ (x.1 = y.1 /\ lexLt x.2 y.2 = true) := by
 unfold ltP
 simp
theorem ltP_trans {x y z : Int × List Int} (h1 : ltP x y = true) (h2 : ltP y z = true) : ltP x z = true := by
 rw [ltP_iff] at h1 h2 ⊢
 rcases h1 with a | ⟨a, b⟩
 ·rcases h2 with c | ⟨c, d⟩
  ·exact .inl (by omega)
  ·exact .inl (by omega)
 ·rcases h2 with c | ⟨c, d⟩
  ·exact .inl (by omega)
  ·exact .inr ⟨by omega, My.lex_trans b d⟩
end HT
namespace My
open PySem L2
theorem best_leastG {lt : Nat -> Nat -> Bool} (hi : ∀ i, lt i i = false) (ht : ∀ i j k, lt i j = true -> lt j k = true -> lt i k = true) : ∀ j i, i <= j -> lt i (argBest lt j) = false
 | 0, i, h => by
  have : i = 0 := by omega
  subst this
  exact hi _
 | j + 1, i, h => by
  have ih := best_leastG hi ht j
  unfold argBest
  cases hb : lt (j + 1) (argBest lt j) with
  | true =>
   rw [if_pos rfl]
   by_cases e : i = j + 1
   ·subst e; exact hi _
   ·cases hc : lt i (j + 1) with
    | false => rfl
    | true =>
     have := ih i (by omega)
     rw [ht _ _ _ hc hb] at this
     cases this
  | false =>
   rw [if_neg (by simp)]
   by_cases e : i = j + 1
   ·subst e; exact hb
   ·exact ih i (by omega)
end My
namespace L2
open PySem PySem.Spec PyProof.Rows
section
variable {prog : Program} {w : World} {A : Around} {I S : Addr} {fp wr : List Addr} {n : Nat} {P : Nat -> Value -> Prop} {St : Nat -> Heap -> Prop} {R : Result -> Shared -> Prop}
theorem minG_loop (W : Walks prog w A.in1 I fp wr n P St) (lt : Nat -> Nat -> Bool) (C : Heap -> Prop) (ck : ∀ h h', C h -> (∀ b o, b ≠ S -> b ∉ wr -> h.get? b = some o -> h'.get? b = some o) -> C h') (cc : ∀ (s : Shared) (i j : Nat) (v u : Value) (E : Value -> Shared -> Prop) (Q : Value -> Shared -> Prop), C s.heap -> i ≠ j -> P i v -> P j u -> Q (.bool (lt i j)) s -> wpAny (model prog w) A.in1 (compareOp .Lt v u) Q E s) (hSf : S ∉ fp) : ∀ (k j : Nat) (s : Shared) (vb : Value) (c : Nat), n - (j + 1) = k -> j + 1 <= n -> St (j + 1) s.heap -> P (argBest lt j) vb -> C s.heap ->
  s.heap.get? S = some { cls := .type "list", dict := none, data := .seq #[vb, vb] c, slots := #[] } ->
  (∀ v h' tk, P (argBest lt (n - 1)) v -> (∀ b o, b ≠ S -> b ∉ wr -> s.heap.get? b = some o -> h'.get? b = some o) -> R (.ok (.ret v)) { s with heap := h', toks := tk }) ->
  codeAny (model prog w) A (.builtin "min.loop" ⟨[.ref I, .none, .ref S], []⟩) R s := by
 have hSw : S ∉ wr := fun h => hSf (W.sub _ h)
 have nm : (toString "min" ++ toString ".loop" : String) = "min.loop" := by decide
 intro k
 induction k with
 | zero =>
  intro j s vb c hk hj st pb ta hS hR
  have ej : j + 1 = n := by omega
  refine codeAny_builtin F.entry_min_loop ?_
  rw [Around.under_plainId F.plain_min_loop _]
  show wpAny _ A.in1 (seqItems? (.ref S) >>= _) _ _ s
  refine wpAny_bind (wpAny_seqItems hS rfl ?_)
  show wpAny _ A.in1 (tryCatch (pyNext (.ref I)) _ >>= _) _ _ s
  refine wpAny_bind (wpAny_tryCatch (W.done s _ _ (ej ▸ st) fun h' tk hk' => ?_))
  have hS' := hk' S _ hSw hS
  show wpAny _ A.in1 (updateSeq S (fun _ => #[]) >>= _) _ _ _
  refine wpAny_bind (wpAny_updateSeq hS' rfl (wpAny_bind (wpAny_letGo (wpAny_pure ?_))))
  exact hR vb _ tk (by rw [<- ej]; exact pb) fun b o b1 b2 e => (Heap.get?_update_other _ _ (Ne.symm b1)).trans (hk' b o b2 e)
 | succ k ih =>
  intro j s vb c hk hj st pb ta hS hR
  have hlt : j + 1 < n := by omega
  refine codeAny_builtin F.entry_min_loop ?_
  rw [Around.under_plainId F.plain_min_loop _]
  show wpAny _ A.in1 (seqItems? (.ref S) >>= _) _ _ s
  refine wpAny_bind (wpAny_seqItems hS rfl ?_)
  show wpAny _ A.in1 (tryCatch (pyNext (.ref I)) _ >>= _) _ _ s
  refine wpAny_bind (wpAny_tryCatch (W.item (j + 1) s _ _ hlt st fun v h' tk pv st' hk' => ?_))
  have hS' := hk' S _ hSw hS
  have ta' := ck _ h' ta fun b o _ b2 e => hk' b o b2 e
  show wpAny _ A.in1 (tryCatch (holding [v, v] (richCompare .Lt (v) (vb) >>= _)) _ >>= _) _ _ _
  refine wpAny_bind (wpAny_tryCatch (wpAny_holding (wpAny_bind (show wpAny _ _ (compareOp .Lt (v) (vb)) _ _ _ from cc { s with heap := h', toks := tk } (j + 1) _ v vb _ _ ta' (Nat.ne_of_gt (Nat.lt_succ_of_le (My.best_le _ _))) pv pb ?_))))
  refine wpAny_bind (wpAny_holding (wpAny_truthy_bool ?_))
  refine wpAny_bind (wpAny_letGo (wpAny_pure ?_))
  cases hb : lt (j + 1) (argBest lt j) with
  | true =>
   simp only [if_true]
   refine wpAny_bind (wpAny_updateSeq hS' rfl (wpAny_bind (wpAny_letGo ?_)))
   rw [nm]
   have up : ∀ b o, b ≠ S -> h'.get? b = some o -> (h'.update S (Obj.mapSeq fun _ => #[v, v])).get? b = some o := fun b o b1 e => (Heap.get?_update_other _ _ (Ne.symm b1)).trans e
   refine wpAny_pure ⟨plainId_quiet F.plain_min_loop _, ih (j + 1) _ (v) _ (by omega) hlt (W.frame _ h' _ st' fun b hbf o e => up b o (fun h => hSf (h ▸ hbf)) e) ?_ (ck _ _ ta' fun b o b1 _ e => up b o b1 e) (Heap.get?_update_self _ hS' rfl) fun v' h'' tk'' p'' k'' => ?_⟩
   ·unfold argBest
    rw [if_pos hb]
    exact pv
   ·exact hR v' h'' tk'' p'' fun b o b1 b2 e => k'' b o b1 b2 (up b o b1 (hk' b o b2 e))
  | false =>
   simp only [Bool.false_eq_true, if_false]
   refine wpAny_bind (wpAny_letGo ?_)
   rw [nm]
   refine wpAny_pure ⟨plainId_quiet F.plain_min_loop _, ih (j + 1) _ (vb) c (by omega) hlt st' ?_ ta' hS' fun v' h'' tk'' p'' k'' => ?_⟩
   ·unfold argBest
    rw [if_neg (by rw [hb]; decide)]
    exact pb
   ·exact hR v' h'' tk'' p'' fun b o b1 b2 e => k'' b o b1 b2 (hk' b o b2 e)
theorem minG_first (W : Walks prog w A.in1 I fp wr n P St) (lt : Nat -> Nat -> Bool) (C : Heap -> Prop) (ck : ∀ h h', C h -> (∀ b o, b ≠ S -> b ∉ wr -> h.get? b = some o -> h'.get? b = some o) -> C h') (cc : ∀ (s : Shared) (i j : Nat) (v u : Value) (E : Value -> Shared -> Prop) (Q : Value -> Shared -> Prop), C s.heap -> i ≠ j -> P i v -> P j u -> Q (.bool (lt i j)) s -> wpAny (model prog w) A.in1 (compareOp .Lt v u) Q E s) (hSf : S ∉ fp) (hn : 0 < n) {s : Shared} {c : Nat} (st : St 0 s.heap) (ta : C s.heap) (hS : s.heap.get? S = some { cls := .type "list", dict := none, data := .seq #[] c, slots := #[] })
  (hR : ∀ v h' tk, P (argBest lt (n - 1)) v -> (∀ b o, b ≠ S -> b ∉ wr -> s.heap.get? b = some o -> h'.get? b = some o) -> R (.ok (.ret v)) { s with heap := h', toks := tk }) :
  codeAny (model prog w) A (.builtin "min.loop" ⟨[.ref I, .none, .ref S], []⟩) R s := by
 have hSw : S ∉ wr := fun h => hSf (W.sub _ h)
 have nm : (toString "min" ++ toString ".loop" : String) = "min.loop" := by decide
 refine codeAny_builtin F.entry_min_loop ?_
 rw [Around.under_plainId F.plain_min_loop _]
 show wpAny _ A.in1 (seqItems? (.ref S) >>= _) _ _ s
 refine wpAny_bind (wpAny_seqItems hS rfl ?_)
 show wpAny _ A.in1 (tryCatch (pyNext (.ref I)) _ >>= _) _ _ s
 refine wpAny_bind (wpAny_tryCatch (W.item 0 s _ _ hn st fun v h' tk pv st' hk' => ?_))
 have hS' := hk' S _ hSw hS
 show wpAny _ A.in1 (updateSeq S (fun _ => #[v, v]) >>= _) _ _ _
 refine wpAny_bind (wpAny_updateSeq hS' rfl ?_)
 rw [nm]
 have up : ∀ b o, b ≠ S -> h'.get? b = some o -> (h'.update S (Obj.mapSeq fun _ => #[v, v])).get? b = some o := fun b o b1 e => (Heap.get?_update_other _ _ (Ne.symm b1)).trans e
 refine wpAny_pure ⟨plainId_quiet F.plain_min_loop _, minG_loop W lt C ck cc hSf _ 0 _ v _ rfl hn (W.frame _ h' _ st' fun b hbf o e => up b o (fun h => hSf (h ▸ hbf)) e) pv (ck _ _ ta fun b o b1 b2 e => up b o b1 (hk' b o b2 e)) (Heap.get?_update_self _ hS' rfl) fun v' h'' tk'' p'' k'' => ?_⟩
 exact hR v' h'' tk'' p'' fun b o b1 b2 e => k'' b o b1 b2 (up b o b1 (hk' b o b2 e))
end
section
variable {X : Cx}
theorem vals_cons {x : V} {xs : List V} {us : List Value} (r : Vals (x :: xs) us) : ∃ u vs, us = u :: vs /\ RelV x u /\ Vals xs vs := by
 cases r with
 | cons a b => exact ⟨_, _, rfl, a, b⟩
theorem call_minPT (K : PySem.W.Frag) (hc : X.calm = true) (hu : X.A.units + 8 < cLine) (hk : X.K = K := by rfl) : CallR X (.builtin "min") (fun xs H Q => ∃ (p : Addr) (ys : List V) (L : List (Int × List Int)) (fl : Bool), xs = [.ref p] /\ SqL K H p ys /\ 0 < ys.length /\ ys.length = L.length /\
  (∀ (i : Nat) (x : Int × List Int), L[i]? = some x -> ∃ (a q : Addr) (rest : List V), ys[i]? = some (.ref a) /\ SqT K H a (.int x.1 :: .ref q :: rest) /\ SqT K H q (x.2.map V.int) /\ (fl = true -> rest = [])) /\ (fl = false -> L.Nodup) /\
  ∀ (i : Nat) (a : Addr) (x : Int × List Int), L[i]? = some x -> ys[i]? = some (.ref a) -> (∀ m ∈ L, HT.ltP m x = false) -> Q (.ref a) H) := by
 subst hk
 intro pins s σ H xs us Q I r h
 obtain ⟨p, ys, L, fl, rfl, hq, hn, hl, hT, hnd, q⟩ := h
 obtain ⟨u, rfl, ru⟩ := vals1 r
 obtain rfl : u = Value.ref p := ru
 obtain ⟨its, rv, pl, hz⟩ := I.list hq
 have el : its.length = ys.length := rv.length.symm
 have hp : p < s.heap.objs.size := let ⟨_, _, e, _⟩ := pl; Heap.lt_size e
 have nm : (toString "min" ++ toString ".loop" : String) = "min.loop" := by decide
 refine call_function_tree F.kind_min F.plain_min F.entry_min (F.args_min1 _) ?_
 show wpAny _ X.A.in1 (Builtin.Builtins.bindParams "min" ["key", "default"] 0 ⟨[], []⟩ >>= _) _ _ s
 refine wpAny_bind (wpAny_of_eq (a := [none, none]) rfl ?_)
 refine wpAny_bind (wpAny_pure ?_)
 refine wpAny_bind (wpAny_pyIter_list pl.isList ?_)
 refine wpAny_bind (wpAny_newObj_type ?_)
 rw [nm]
 have W := Walks.list (prog := X.prog) (w := X.w) (A := X.A.in1) (I.ok.hd hc) s.heap.objs.size p (Nat.ne_of_lt hp) its.toArray
 obtain ⟨G, hG⟩ : ∃ G, G = s.heap.push { cls := .type "list_iterator", data := .fields #[.ref p, .int 0 0] } := ⟨_, rfl⟩
 have e1 : G.get? s.heap.objs.size = some { cls := .type "list_iterator", data := .fields #[.ref p, .int 0 0] } := by rw [hG]; exact Heap.get?_push_size s.heap rfl
 have z1 : G.objs.size = s.heap.objs.size + 1 := by rw [hG]; exact Heap.size_push ..
 have up : ∀ b o, s.heap.get? b = some o -> G.get? b = some o := fun b o e => by rw [hG]; exact Heap.get?_push_of_some _ e
 have plG : G.IsList p its.toArray := by rw [hG]; exact pl.isList.push _
 rw [<- hG]
 have at' : ∀ (i : Nat) (v : Value), its.toArray[i]? = some v -> ∃ (a : Addr) (x : Int × List Int) (qa : Addr) (rest : List V), L[i]? = some x /\ ys[i]? = some (.ref a) /\ v = .ref a /\ SqT X.K H a (.int x.1 :: .ref qa :: rest) /\ SqT X.K H qa (x.2.map V.int) /\ (fl = true -> rest = []) := fun i v e => by
  have e : its[i]? = some v := by simpa using e
  have hi : i < its.length := (List.getElem?_eq_some_iff.mp e).1
  obtain ⟨a, qa, rest, ea, ta, tq, tf⟩ := hT i L[i] (List.getElem?_eq_getElem (by omega))
  obtain ⟨x, ex, rx⟩ := rv.at hi
  have ea2 := ea
  rw [ex] at ea2
  cases ea2
  rw [List.getElem?_eq_getElem hi] at e
  have e : its[i] = v := Option.some.inj e
  rw [e] at rx
  exact ⟨a, L[i], qa, rest, List.getElem?_eq_getElem (by omega), ea, rx, ta, tq, tf⟩
 refine wpAny_pure ⟨plainId_quiet F.plain_min_loop _, ?_⟩
 obtain ⟨lt, hlt⟩ : ∃ lt : Nat -> Nat -> Bool, lt = fun i j => HT.ltP (L.getD i (0, [])) (L.getD j (0, [])) := ⟨_, rfl⟩
 refine minG_first (A := X.A) (S := G.objs.size) W lt (fun h => ∀ b o, s.heap.get? b = some o -> h.get? b = some o) (fun h h' c k b o e => k b o (by rw [z1]; exact Nat.ne_of_lt (Nat.lt_succ_of_lt (Heap.lt_size e))) (fun z => absurd (List.mem_singleton.mp z) (Nat.ne_of_lt (Heap.lt_size e))) (c b o e)) (fun s2 i j v u E Q c hij pv pu hQ => ?_) ?_ (by rw [List.size_toArray]; omega) ⟨⟨_, Heap.get?_push_of_some _ e1, rfl, rfl⟩, plG.push _⟩ (fun b o e => Heap.get?_push_of_some _ (up b o e)) (Heap.get?_push_size _ rfl) fun v h' tk pv hk' => ?_
 ·obtain ⟨a1, x1, q1, r1, l1, _, rfl, t1, tq1, f1⟩ := at' i v pv
  obtain ⟨a2, x2, q2, r2, l2, _, rfl, t2, tq2, f2⟩ := at' j u pu
  have keep : ∀ {a : Addr} {xs : Array Value}, IsTup s.heap a xs -> IsTup s2.heap a xs := fun ⟨o, ho, z⟩ => ⟨o, c _ o ho, z⟩
  obtain ⟨i1, v1, p1, _⟩ := I.tuple t1
  obtain ⟨i2, v2, p2, _⟩ := I.tuple t2
  obtain ⟨j1, w1, o1, _⟩ := I.tuple tq1
  obtain ⟨j2, w2, o2, _⟩ := I.tuple tq2
  obtain ⟨c1, rest1, rfl, rc1, v1'⟩ := vals_cons v1
  obtain ⟨c2, rest2, rfl, rc2, v2'⟩ := vals_cons v2
  obtain ⟨d1, rest1, rfl, rd1, vv1⟩ := vals_cons v1'
  obtain ⟨d2, rest2, rfl, rd2, vv2⟩ := vals_cons v2'
  obtain ⟨tk1, rfl⟩ : ∃ t, c1 = Value.int x1.1 t := rc1
  obtain ⟨tk2, rfl⟩ : ∃ t, c2 = Value.int x2.1 t := rc2
  obtain rfl : d1 = Value.ref q1 := rd1
  obtain rfl : d2 = Value.ref q2 := rd2
  have g1 : L.getD i (0, []) = x1 := My.getD_of l1
  have g2 : L.getD j (0, []) = x2 := My.getD_of l2
  refine HT.lt_pair (keep p1) (keep p2) (keep o1) (keep o2) (by simpa using ints_of_vals w1) (by simpa using ints_of_vals w2) (fun b1 b2 => ?_) (by show X.A.units + 1 + 2 < cLine; omega) (by rw [hlt] at hQ; simpa only [g1, g2] using hQ)
  have hxx : x1 = x2 := Prod.ext b1 b2
  cases hfl : fl with
  | true =>
   have z1 := f1 hfl
   have z2 := f2 hfl
   rw [z1] at vv1
   rw [z2] at vv2
   have a1 := vv1.length
   have a2 := vv2.length
   exact ⟨List.length_eq_zero_iff.mp a1.symm, List.length_eq_zero_iff.mp a2.symm⟩
  | false =>
   exact absurd (My.nodup_get (hnd hfl) l1 (by rw [hxx]; exact l2)) hij
 ·rw [z1]
  simp only [List.mem_cons, List.not_mem_nil, or_false, not_or]
  exact ⟨Nat.succ_ne_self _, Nat.ne_of_gt (Nat.lt_succ_of_lt hp)⟩
 ·obtain ⟨a, x, qa, rest, l1, y1, rfl, _⟩ := at' _ v pv
  have hs : its.toArray.size = ys.length := by rw [List.size_toArray]; exact el
  refine ⟨.ref a, H, I.kept fun b o e => hk' b o ?_ ?_ (Heap.get?_push_of_some _ (up b o e)), rfl, q _ a x l1 y1 fun m hm => ?_⟩
  ·rw [z1]; exact Nat.ne_of_lt (Nat.lt_succ_of_lt (Heap.lt_size e))
  ·exact fun h => absurd (List.mem_singleton.mp h) (Nat.ne_of_lt (Heap.lt_size e))
  ·obtain ⟨i, hi, ei⟩ := List.getElem_of_mem hm
   have k := My.best_leastG (lt := lt) (fun i => by rw [hlt]; exact HT.ltP_irrefl _) (fun i j k a b => by rw [hlt] at a b ⊢; exact HT.ltP_trans a b) (its.toArray.size - 1) i (by omega)
   have g1 : L.getD i (0, []) = m := by rw [List.getD_eq_getElem?_getD, List.getElem?_eq_getElem hi, ei]; rfl
   have g2 : L.getD (argBest lt (its.toArray.size - 1)) (0, []) = x := My.getD_of l1
   rw [<- g1, <- g2]
   rw [hlt] at k ⊢
   exact k
end
section
variable {prog : Program} {w : World} {A : Around} {E : Value -> Shared -> Prop} {s : Shared}
end
section
variable {X : Cx}
end
end L2
namespace My
open PySem L2
def bkD (d : Int) : Int := if d % 2 = 0 then d + 1 else d - 1
def dtU (ps : List (Int × Int)) (p : Int) : Nat -> List Int
 | 0 => []
 | i + 1 => dtU ps p i ++ (if (ps.getD i (0, 0)).1 = p then [2 * (i : Int)] else []) ++ (if (ps.getD i (0, 0)).2 = p then [2 * (i : Int) + 1] else [])
def dts (ps : List (Int × Int)) (p : Int) : List Int := dtU ps p ps.length
def VT (n : Nat) (ps : List (Int × Int)) (ts : List (List Int)) : Prop := ts.length = n /\ ∀ (p : Nat) (row : List Int), ts[p]? = some row -> row.Perm (dts ps (p : Int))
section
variable {n : Nat} {ps : List (Int × Int)} {ts : List (List Int)}
end
def bhR (row : List Int) (k : Nat) : List (Int × Int) := (List.range k).map fun i => (bkD (row.getD i 0), row.getD ((i + 1) % row.length) 0)
def bhL (ts : List (List Int)) : List (Int × Int) := ts.flatMap fun row => bhR row row.length
section
variable {n : Nat} {ps : List (Int × Int)} {ts : List (List Int)}
end
def Orb (B : List (Int × Int)) (d : Int) (row : List Int) : Prop := row[0]? = some d /\ row.Nodup /\ (∀ i x y, row[i]? = some x -> row[i + 1]? = some y -> (x, y) ∈ B) /\ ∀ x, row[row.length - 1]? = some x -> (x, d) ∈ B
def Rds (B : List (Int × Int)) : Nat -> List (List Int) -> Prop
 | 0, R => R = []
 | k + 1, R => ∃ R', Rds B k R' /\ (((k : Int) ∈ R'.flatten /\ R = R') \/ ((k : Int) ∉ R'.flatten /\ ∃ row, Orb B k row /\ R = R' ++ [row]))
end My
namespace L2
open PySem PySem.Spec PyProof.Rows
section
variable {X : Cx}
end
end L2
namespace My
open PySem L2
structure JagAt (H0 : Hp) (r : Addr) (H : Hp) (ys : List V) (L : List (List Int)) : Prop where
 tab : H r = some (.lst ys)
 rows : Bears (LiV r H) ys L
 nd : ys.Nodup
 new : ∀ A, V.ref A ∈ ys -> H0 A = none
def RdW (ps : List (Int × Int)) (ts : List (List Int)) (R : List (List Int)) : Prop := (ps.length = 0 /\ R = [[]]) \/ (0 < ps.length /\ Rds (bhL ts) (2 * ps.length) R)
section
variable {n : Nat} {ps : List (Int × Int)} {ts : List (List Int)}
end
def plR (row : List Int) (k : Int) : List (Int × Int) := row.map fun d => (d, k)
def plL (ts : List (List Int)) : Nat -> List (Int × Int)
 | 0 => []
 | i + 1 => plL ts i ++ plR (ts.getD i []) i
end My
namespace L2
open PySem PySem.Spec PyProof.Rows
section
variable {X : Cx} {a b c : Expr} {ta tb tc : TE} {pos : Pos}
end
end L2
namespace My
open PySem L2
def Flat (n : Int) (ps : List (Int × Int)) (R : List (List Int)) : Prop := Joined n ps /\ n - (ps.length : Int) + (R.length : Int) = 2
def rnR (R : List (List Int)) (d : Int) : Int := ((plL R R.length).find? fun p => decide (p.1 = d)).elim 0 (·.2)
def owT (R : List (List Int)) (m : Nat) : List (Int × Int) := (List.range m).map fun (k : Nat) => (rnR R (2 * (k : Int)), rnR R (2 * (k : Int) + 1))
end My
namespace L2
open PySem PySem.Spec PyProof.Rows
section
variable {X : Cx}
end
end L2
namespace My
open PySem L2
section
variable {n : Nat} {ps : List (Int × Int)} {ts R L : List (List Int)}
end
section
variable {one d0 d1 : Int} {other : Option Int}
def hdD (one : Int) (other : Option Int) (d0 d1 y : Int) : Int := if y = one then d0 else if some y = other then d1 else y
end
section
variable {B B' : List (Int × Int)} {one d0 d1 : Int} {other : Option Int}
section
variable {M : Nat} {L : List (List Int)}
end
end
section
variable {n : Nat} {ps : List (Int × Int)} {ts : List (List Int)}
end
section
variable {n : Nat} {ps : List (Int × Int)} {ts R D : List (List Int)}
end
section
variable {n : Nat} {ps : List (Int × Int)} {ts R D : List (List Int)}
end
section
variable {n : Nat} {ps : List (Int × Int)} {ts R D : List (List Int)}
end
structure Back (n : Nat) (ps : List (Int × Int)) (ts R D : List (List Int)) : Prop where
 flat : Flat n ps R
 few : R.length <= 14
 rows : ∀ l ∈ R, l.length < 64
 good : GoodW R.length (owT R ps.length)
 vt : VT R.length (owT R ps.length) R
 rds : RdW (owT R ps.length) R D
 flat2 : Flat R.length (owT R ps.length) D
 len : D.length = n
 good2 : GoodW n (owT D ps.length)
 tc : ∀ c, TC n ps c -> TC n (owT D ps.length) c
 nd : D.flatten.Nodup
 all : ∀ x : Int, 0 <= x -> x < 2 * (ps.length : Int) -> x ∈ D.flatten
 small : D.flatten.length <= 100
end My
namespace L2
open PySem PySem.Spec PyProof.Rows
section
variable {X : Cx} {a b c : Expr} {ta tb tc : TE} {pos : Pos}
end
end L2
namespace PyProof.Rows
open PySem
section
variable {M : Model} {A : Around} {E : Value -> Shared -> Prop} {s : Shared} {O : KeyOrd} {key : Keyed -> O.α} {kd : SortKind} {S : Keyed -> Prop}
end
end PyProof.Rows
namespace L2
open PySem PySem.Spec PyProof.Rows
section
variable {prog : Program} {w : World} {A : Around} {E : Value -> Shared -> Prop} {s : Shared}
end
end L2
namespace L2
open PySem PySem.Spec PyProof.Rows My
section
variable {X : Cx}
end
end L2
namespace My
open PySem L2
section
variable {n : Nat} {ps : List (Int × Int)} {ts R : List (List Int)}
end
end My
namespace L2
open PySem PySem.Spec PyProof.Rows
section
variable {X : Cx}
variable {es : List Expr} {e : Expr} {te : TE} {t : St -> Hp -> Str -> (Str -> Hp -> Prop) -> Prop} {pos : Pos}
end
section
variable {X : Cx}
end
end L2
namespace My
open PySem L2
section
variable {g : TG} {tt : TT} {te : TE} {o : Nat} {fr : List Nat} {σ : L2.St} {H : Hp} {Q : VK}
end
end My
namespace L2
open PySem PySem.Spec PyProof.Rows
section
variable {X : Cx} {es : List Expr} {e : Expr} {te : TE} {t : St -> Hp -> (Hp -> Prop) -> Prop}
end
end L2
namespace My
open PySem L2
def Told (l : List Int) : Prop := ∀ z ∈ l, -(10 ^ 60) < z /\ z < (10 : Int) ^ 60
end My
namespace L2
open PySem PySem.Spec PyProof.Rows
section
variable {X : Cx} {tg : Expr}
end
end L2
namespace My
open PySem L2
abbrev Tr := Int × List (Int × Int) × List Int
def OkT (T : Tr) : Prop := GoodW T.1 T.2.1 /\ T.2.2.length = T.2.1.length /\ Told T.2.2
def StageV (C : Addr) (H : Hp) (v : V) (T : Tr) : Prop := ∃ t w a, v = .ref t /\ H t = some (.tup [.ref w, .ref a]) /\ WebAt C H w T.1 T.2.1 /\ H a = some (.lst (IL T.2.2))
def PastV (H : Hp) (v : V) (T : Tr) : Prop := ∃ p l b xs, v = .ref p /\ H p = some (.tup [.int T.1, .ref l, .ref b]) /\ H l = some (.lst xs) /\ PairsV H xs T.2.1 /\ H b = some (.lst (IL T.2.2))
def DeskAt (C : Addr) (H : Hp) (x d : Addr) (zs : List V) : Prop := ∃ dx, H x = some (.ins C dx (putF "stages" (.ref d) [])) /\ H d = some (.lst zs)
theorem at_lastG {α : Type} (ys : List α) (v : α) : atI (ys ++ [v]) (-1) = some v := by
 unfold atI ixN
 rw [if_neg (by decide), if_pos (by rw [List.length_append, List.length_singleton]; omega)]
 show (ys ++ [v])[_]? = _
 rw [show ((-1 : Int) + ((ys ++ [v]).length : Nat)).toNat = ys.length by rw [List.length_append, List.length_singleton]; omega]
 simp
structure DSt (CD C : Addr) (H : Hp) (x d pA : Addr) (zs ys : List V) (L M : List Tr) : Prop where
 desk : DeskAt CD H x d zs
 st : Bears (StageV C H) zs L
 pst : H pA = some (.lst ys)
 past : Bears (PastV H) ys M
 okL : ∀ T ∈ L, OkT T
 okM : ∀ T ∈ M, OkT T
 posL : 0 < L.length
 posM : 0 < M.length
section
variable {CD C : Addr} {H H' : Hp} {x d pA : Addr} {zs ys : List V} {L M : List Tr}
end
end My
namespace L2
open PySem PySem.Spec PyProof.Rows
section
variable {M : Model} {A : Around} {E : Value -> Shared -> Prop} {s : Shared} {base : Heap} {env env' : Env} {outer l : List Env} {L e f : Addr} {cls a0 fl : Value}
end
section
variable {X : Cx} {pins : List (Addr × Obj)} {σ : St} {H : Hp} {s : Shared} {e C : Addr} {fl : Value} {h0 : Heap}
structure FlyM (h0 : Heap) (H : Hp) (e C : Addr) (fl : Value) (h : Heap) : Prop where
 ex : ∃ oe vs T oT ts a0, h.get? e = some oe /\ oe.cls = .ref C /\ oe.data = .fields vs /\ vs[0]? = some a0 /\ vs[1]? = some (.ref T) /\ T ≠ e /\ h.get? T = some oT /\ oT.data = .fields ts /\ ts[3]? = some fl /\ h0.get? T = none /\ H T = none
 new : h0.get? e = none
 free : H e = none
end
section
variable {X : Cx} {pins pn : List (Addr × Obj)} {σ σ1 : St} {H1 H2 : Hp} {s1 s2 s' : Shared} {N' : List Str} {scope : Scope} {fp : List Addr} {Cc : Addr} {cl : List (Str × Addr)} {ev acc : Value} {E : XK} {E' : Value -> Shared -> Prop} {use : Option (Value -> Sem Unit)} {Q : Value -> Shared -> Prop}
end
section
variable {X : Cx} {N' : List Str} {o : Nat} {fr : List Nat} {scope : Scope} {elt tg iter : Expr} {ifs : List Expr} {pos : Pos} {wi : TI} {g : TG} {tt : TT} {te : TE}
end
end L2
namespace My
open PySem L2
end My
namespace L2
open PySem PySem.Spec PyProof.Rows
section
variable {X : Cx}
end
section
variable {X : Cx} {a b c d f g h i j : Expr} {ta tb tc td tf tg th ti tj : TE} {pos : Pos}
end
end L2
namespace My
open PySem L2
end My
namespace My
open PySem PySem.W PyProof.Rows
def goT {α : Type} (c : Nat -> Nat -> Bool) : KasT α -> α
 | .ret a => a
 | .ask i j k => goT c (k (c i j))
theorem goT_bind {α β : Type} {c : Nat -> Nat -> Bool} {f : α -> KasT β} : ∀ t : KasT α, goT c (t.bind f) = goT c (f (goT c t))
 | .ret _ => rfl
 | .ask i j k => goT_bind (k (c i j))
section
variable {n : Nat} {key : Nat -> Int}
def Ahd (key : Nat -> Int) (i j : Nat) : Prop := key i < key j \/ (key i = key j /\ i < j)
theorem Ahd.trans {i j k : Nat} (h1 : Ahd key i j) (h2 : Ahd key j k) : Ahd key i k := by
 unfold Ahd at *
 omega
structure Ord (n m : Nat) (p : Array Nat) : Prop where
 perm : p.Perm (List.range n).toArray
 suf : ∀ i, m <= i -> i < n -> p.getD i 0 = i
theorem Ord.size {m : Nat} {p : Array Nat} (h : Ord n m p) : p.size = n := by rw [h.perm.size_eq]; simp
theorem get_D {p : Array Nat} {i : Nat} (h : i < p.size) : p[i]? = some (p.getD i 0) := by
 rw [Array.getD_eq_getD_getElem?, Array.getElem?_eq_getElem h]
 rfl
theorem Ord.inj {m : Nat} {p : Array Nat} (h : Ord n m p) {i j : Nat} (hi : i < n) (hj : j < n) (e : p.getD i 0 = p.getD j 0) : i = j := by
 have hn : p.toList.Nodup := (Array.perm_iff_toList_perm.mp h.perm).nodup_iff.mpr List.nodup_range
 have hs := h.size
 have e1 := get_D (p := p) (i := i) (by omega)
 have e2 := get_D (p := p) (i := j) (by omega)
 rw [<- Array.getElem?_toList] at e1 e2
 exact (List.getElem?_inj (i := i) (j := j) (by rw [Array.length_toList]; omega) hn).mp (by rw [e1, e2, e])
theorem Ord.lt {m : Nat} {p : Array Nat} (h : Ord n m p) (hm : m <= n) {i : Nat} (hi : i < m) : p.getD i 0 < m := by
 by_cases hc : p.getD i 0 < m
 ·exact hc
 ·have hs := h.size
  have hb : p.getD i 0 < n := by
   have e1 := get_D (p := p) (i := i) (by omega)
   rw [<- Array.getElem?_toList] at e1
   exact List.mem_range.mp ((Array.perm_iff_toList_perm.mp h.perm).mem_iff.mp (List.mem_of_getElem? e1))
  have e := h.inj (by omega) hb (h.suf _ (by omega) hb).symm
  omega
theorem Ord.mono {m k : Nat} {p : Array Nat} (h : Ord n m p) (hk : m <= k) : Ord n k p := ⟨h.perm, fun i hi => h.suf i (by omega)⟩
theorem rev_at {p : Array Nat} {i j k : Nat} (hj : j <= p.size) : (kas_rev p i j).getD k 0 = if i <= k /\ k < j then p.getD (i + j - 1 - k) 0 else p.getD k 0 := by
 unfold kas_rev
 rw [Array.getD_eq_getD_getElem?, getElem?_mirror_all hj, apply_ite (fun o : Option Nat => o.getD 0), <- Array.getD_eq_getD_getElem?, <- Array.getD_eq_getD_getElem?]
theorem Ord.rev {m i j : Nat} {p : Array Nat} (h : Ord n m p) (hj : j <= m) (hm : m <= n) : Ord n m (kas_rev p i j) := by
 have hs := h.size
 refine ⟨(mirror_perm _ _ _ _).trans h.perm, fun k hk hn => ?_⟩
 rw [rev_at (by omega), if_neg (by omega)]
 exact h.suf k hk hn
def Asc (key : Nat -> Int) (m : Nat) (p : Array Nat) : Prop := ∀ i j, i < j -> j < m -> Ahd key (p.getD i 0) (p.getD j 0)
theorem Asc.more {m : Nat} {p : Array Nat} (hm : 1 <= m) (h : Asc key m p) (h2 : Ahd key (p.getD (m - 1) 0) (p.getD m 0)) : Asc key (m + 1) p := fun i j hij hj => by
 by_cases e : j = m
 ·subst e
  by_cases e2 : i = j - 1
  ·rw [e2]; exact h2
  ·exact (h i (j - 1) (by omega) (by omega)).trans h2
 ·exact h i j hij (by omega)
theorem asc_go : ∀ (f m : Nat) (p : Array Nat), m + f = n -> 1 <= m -> Ord n m p -> Asc key m p -> ∃ k, goT (fun i j => decide (key i < key j)) (kas_asc p f m) = k /\ m <= k /\ k <= n /\ Asc key k p /\ (k < n -> key (p.getD k 0) < key (p.getD (k - 1) 0))
 | 0, m, p, hf, h1, ho, ha => ⟨m, rfl, Nat.le_refl _, by omega, ha, fun h => by omega⟩
 | f + 1, m, p, hf, h1, ho, ha => by
  show ∃ k, goT _ (if decide (key (p.getD m 0) < key (p.getD (m - 1) 0)) = true then KasT.ret m else kas_asc p f (m + 1)) = k /\ _
  by_cases hc : key (p.getD m 0) < key (p.getD (m - 1) 0)
  ·rw [if_pos (decide_eq_true hc)]
   exact ⟨m, rfl, Nat.le_refl _, by omega, ha, fun _ => hc⟩
  ·rw [if_neg (fun z => hc (of_decide_eq_true z))]
   have e := ho.suf m (Nat.le_refl _) (by omega)
   have l := ho.lt (by omega) (i := m - 1) (by omega)
   obtain ⟨k, e1, e2, e3, e4, e5⟩ := asc_go f (m + 1) p (by omega) (by omega) (ho.mono (by omega)) (ha.more h1 (by unfold Ahd; rw [e] at hc ⊢; omega))
   exact ⟨k, e1, by omega, e3, e4, e5⟩
structure Dsc (key : Nat -> Int) (m g : Nat) (p : Array Nat) : Prop where
 le : g + 1 <= m
 old : ∀ i j, i < j -> j < m - (g + 1) -> Ahd key (p.getD j 0) (p.getD i 0)
 mid : ∀ i j, i < m - (g + 1) -> m - (g + 1) <= j -> j < m -> key (p.getD j 0) < key (p.getD i 0)
 own : ∀ i j, m - (g + 1) <= i -> i < j -> j < m -> key (p.getD i 0) = key (p.getD j 0) /\ p.getD i 0 < p.getD j 0
def Fall (key : Nat -> Int) (m : Nat) (p : Array Nat) : Prop := ∀ i j, i < j -> j < m -> Ahd key (p.getD j 0) (p.getD i 0)
theorem Dsc.turn {m g : Nat} {p : Array Nat} (h : Dsc key m g p) (hs : m <= p.size) : Fall key m (kas_rev p (m - (g + 1)) m) := fun i j hij hj => by
 have hl := h.le
 rw [rev_at hs, rev_at hs]
 by_cases c1 : m - (g + 1) <= j
 ·rw [if_pos ⟨c1, hj⟩]
  by_cases c2 : m - (g + 1) <= i
  ·rw [if_pos ⟨c2, by omega⟩]
   exact .inr (h.own (m - (g + 1) + m - 1 - j) (m - (g + 1) + m - 1 - i) (by omega) (by omega) (by omega))
  ·rw [if_neg (by omega)]
   exact .inl (h.mid i _ (by omega) (by omega) (by omega))
 ·rw [if_neg (by omega), if_neg (by omega)]
  exact h.old i j hij (by omega)
theorem Dsc.last {m g : Nat} {p : Array Nat} (h : Dsc key m g p) (hs : m <= p.size) : key ((kas_rev p (m - (g + 1)) m).getD (m - 1) 0) = key (p.getD (m - 1) 0) := by
 have hl := h.le
 rw [rev_at hs, if_pos (by omega)]
 by_cases e : g = 0
 ·congr 2
  omega
 ·exact (h.own (m - (g + 1) + m - 1 - (m - 1)) (m - 1) (by omega) (by omega) (by omega)).1
theorem Dsc.fall {m : Nat} {p : Array Nat} (h : Dsc key m 0 p) : Fall key m p := fun i j hij hj => by
 have hl := h.le
 by_cases e : j < m - (0 + 1)
 ·exact h.old i j hij e
 ·exact .inl (h.mid i j (by omega) (by omega) hj)
theorem Fall.new {m : Nat} {p : Array Nat} (hm : 1 <= m) (h : Fall key m p) (hk : key (p.getD m 0) < key (p.getD (m - 1) 0)) : Dsc key (m + 1) 0 p := by
 refine ⟨by omega, fun i j hij hj => h i j hij (by omega), fun i j hi h1 h2 => ?_, fun i j h1 h2 h3 => by omega⟩
 have e : j = m := by omega
 subst e
 by_cases c : i = j - 1
 ·rw [c]; exact hk
 ·have := h i (j - 1) (by omega) (by omega)
  unfold Ahd at this
  omega
theorem Fall.rev {m : Nat} {p : Array Nat} (h : Fall key m p) (hs : m <= p.size) : Asc key m (kas_rev p 0 m) := fun i j hij hj => by
 rw [rev_at hs, rev_at hs, if_pos ⟨Nat.zero_le _, by omega⟩, if_pos ⟨Nat.zero_le _, hj⟩]
 exact h _ _ (by omega) (by omega)
theorem Asc.rev {m : Nat} {p : Array Nat} (h : Asc key m p) (hs : m <= p.size) : Fall key m (kas_rev p 0 m) := fun i j hij hj => by
 rw [rev_at hs, rev_at hs, if_pos ⟨Nat.zero_le _, hj⟩, if_pos ⟨Nat.zero_le _, by omega⟩]
 exact h _ _ (by omega) (by omega)
theorem desc_go : ∀ (f m g : Nat) (p : Array Nat), m + f = n -> Ord n m p -> Dsc key m g p -> ∃ p' m' g', goT (fun i j => decide (key i < key j)) (kas_desc f p m g) = (p', m', g') /\ m <= m' /\ m' <= n /\ Ord n m' p' /\ Dsc key m' g' p'
 | 0, m, g, p, hf, ho, hd => ⟨p, m, g, rfl, Nat.le_refl _, by omega, ho, hd⟩
 | f + 1, m, g, p, hf, ho, hd => by
  have hl := hd.le
  have hs := ho.size
  have em := ho.suf m (Nat.le_refl _) (by omega)
  have ll := ho.lt (by omega) (i := m - 1) (by omega)
  show ∃ p' m' g', goT _ (if decide (key (p.getD m 0) < key (p.getD (m - 1) 0)) = true then (if g > 0 then kas_desc f (kas_rev p (m - (g + 1)) m) (m + 1) 0 else kas_desc f p (m + 1) 0) else KasT.ask (p.getD (m - 1) 0) (p.getD m 0) fun d => if d = true then .ret (p, m, g) else kas_desc f p (m + 1) (g + 1)) = _ /\ _
  by_cases hc : key (p.getD m 0) < key (p.getD (m - 1) 0)
  ·rw [if_pos (decide_eq_true hc)]
   by_cases hg : g > 0
   ·rw [if_pos hg]
    have hr := ho.rev (i := m - (g + 1)) (Nat.le_refl m) (by omega)
    have em2 := hr.suf m (Nat.le_refl _) (by omega)
    obtain ⟨p', m', g', e1, e2, e3, e4, e5⟩ := desc_go f (m + 1) 0 (kas_rev p (m - (g + 1)) m) (by omega) (hr.mono (by omega)) ((hd.turn (by omega)).new (by omega) (by rw [hd.last (by omega), em2]; rw [em] at hc; exact hc))
    exact ⟨p', m', g', e1, by omega, e3, e4, e5⟩
   ·rw [if_neg hg]
    obtain rfl : g = 0 := by omega
    obtain ⟨p', m', g', e1, e2, e3, e4, e5⟩ := desc_go f (m + 1) 0 p (by omega) (ho.mono (by omega)) (hd.fall.new (by omega) hc)
    exact ⟨p', m', g', e1, by omega, e3, e4, e5⟩
  ·rw [if_neg (fun z => hc (of_decide_eq_true z))]
   show ∃ p' m' g', goT _ (if decide (key (p.getD (m - 1) 0) < key (p.getD m 0)) = true then KasT.ret (p, m, g) else kas_desc f p (m + 1) (g + 1)) = _ /\ _
   by_cases hc2 : key (p.getD (m - 1) 0) < key (p.getD m 0)
   ·rw [if_pos (decide_eq_true hc2)]
    exact ⟨p, m, g, rfl, Nat.le_refl _, by omega, ho, hd⟩
   ·rw [if_neg (fun z => hc2 (of_decide_eq_true z))]
    have ek : key (p.getD (m - 1) 0) = key (p.getD m 0) := by omega
    obtain ⟨p', m', g', e1, e2, e3, e4, e5⟩ := desc_go f (m + 1) (g + 1) p (by omega) (ho.mono (by omega)) ⟨by omega, fun i j h1 h2 => hd.old i j h1 (by omega), fun i j h1 h2 h3 => by
     by_cases c : j = m
     ·rw [c, <- ek]; exact hd.mid i (m - 1) (by omega) (by omega) (by omega)
     ·exact hd.mid i j (by omega) (by omega) (by omega), fun i j h1 h2 h3 => by
     by_cases c : j = m
     ·rw [c]
      by_cases c2 : i = m - 1
      ·rw [c2, em]; rw [em] at ek; exact ⟨ek, ll⟩
      ·have := hd.own i (m - 1) (by omega) (by omega) (by omega)
       rw [em]; rw [em] at ek
       exact ⟨this.1.trans ek, by omega⟩
     ·exact hd.own i j (by omega) h2 (by omega)⟩
    exact ⟨p', m', g', e1, by omega, e3, e4, e5⟩
theorem tail_go {m : Nat} {p : Array Nat} (hm : 1 <= m) (hn : m <= n) (ho : Ord n m p) (hf : Fall key m p) : ∃ k p', goT (fun i j => decide (key i < key j)) (kas_tail3 m n p) = (k, p') /\ 1 <= k /\ k <= n /\ Ord n k p' /\ Asc key k p' := by
 have hs := ho.size
 unfold kas_tail3
 rw [goT_bind]
 have hr := ho.rev (i := 0) (Nat.le_refl m) hn
 obtain ⟨k, e1, e2, e3, e4, _⟩ := asc_go (n - m) m (kas_rev p 0 m) (by omega) hm hr (hf.rev (by omega))
 rw [e1]
 exact ⟨k, _, rfl, by omega, e3, hr.mono e2, e4⟩
theorem part_go {m : Nat} {p : Array Nat} (hm : 1 <= m) (hn : m < n) (ho : Ord n m p) (hf : Fall key m p) (hk : key (p.getD m 0) < key (p.getD (m - 1) 0)) : ∃ k p', goT (fun i j => decide (key i < key j)) (kas_descPart m n p) = (k, p') /\ 1 <= k /\ k <= n /\ Ord n k p' /\ Asc key k p' := by
 unfold kas_descPart
 rw [goT_bind]
 obtain ⟨p', m', g', e1, e2, e3, e4, e5⟩ := desc_go (n - (m + 1)) (m + 1) 0 p (by omega) (ho.mono (by omega)) (hf.new hm hk)
 rw [e1]
 have hs := e4.size
 show ∃ k q, goT _ (if g' > 0 then kas_tail3 m' n (kas_rev p' (m' - (g' + 1)) m') else kas_tail3 m' n p') = _ /\ _
 by_cases hg : g' > 0
 ·rw [if_pos hg]
  exact tail_go (by omega) e3 (e4.rev (Nat.le_refl _) e3) (e5.turn (by omega))
 ·rw [if_neg hg]
  obtain rfl : g' = 0 := by omega
  exact tail_go (by omega) e3 e4 e5.fall
theorem count_go {p : Array Nat} (hn : 1 <= n) (ho : Ord n 1 p) : ∃ k p', goT (fun i j => decide (key i < key j)) (kas_count n p) = (k, p') /\ 1 <= k /\ k <= n /\ Ord n k p' /\ Asc key k p' := by
 unfold kas_count
 rw [goT_bind]
 obtain ⟨k, e1, e2, e3, e4, e5⟩ := asc_go (key := key) (n - 1) 1 p (by omega) (Nat.le_refl _) ho fun i j h1 h2 => by omega
 rw [e1]
 have hs := ho.size
 have hk := ho.mono e2
 by_cases c : k = n
 ·rw [if_pos (by rw [c]; exact beq_self_eq_true n)]
  exact ⟨k, p, rfl, e2, e3, hk, e4⟩
 ·rw [if_neg (fun z => c (beq_iff_eq.mp z))]
  have hlt : k < n := by omega
  have h5 := e5 hlt
  by_cases c1 : k > 1
  ·rw [if_pos c1]
   show ∃ k' p', goT _ (if decide (key (p.getD 0 0) < key (p.getD (k - 1) 0)) = true then KasT.ret (k, p) else kas_descPart k n (kas_rev p 0 k)) = _ /\ _
   by_cases c2 : key (p.getD 0 0) < key (p.getD (k - 1) 0)
   ·rw [if_pos (decide_eq_true c2)]
    exact ⟨k, p, rfl, e2, e3, hk, e4⟩
   ·rw [if_neg (fun z => c2 (of_decide_eq_true z))]
    have a0 := e4 0 (k - 1) (by omega) (by omega)
    have eq : key (p.getD 0 0) = key (p.getD (k - 1) 0) := by
     unfold Ahd at a0
     omega
    have hr := hk.rev (i := 0) (Nat.le_refl k) (by omega)
    refine part_go e2 hlt hr (e4.rev (by omega)) ?_
    rw [rev_at (by omega), rev_at (by omega), if_neg (by omega), if_pos (by omega), show 0 + k - 1 - (k - 1) = 0 by omega, eq]
    exact h5
  ·rw [if_neg c1]
   obtain rfl : k = 1 := by omega
   exact part_go (Nat.le_refl _) hlt hk (fun i j h1 h2 => by omega) h5
theorem place_go {p : Array Nat} {k : Nat} (hk : Asc key k p) : ∀ (f l r : Nat), r - l <= f -> l <= r -> r <= k -> (∀ i, i < l -> ¬ key (p.getD k 0) < key (p.getD i 0)) -> (∀ i, r <= i -> i < k -> key (p.getD k 0) < key (p.getD i 0)) -> ∃ l', goT (fun i j => decide (key i < key j)) (kas_place p k f l r) = l' /\ l' <= k /\ (∀ i, i < l' -> ¬ key (p.getD k 0) < key (p.getD i 0)) /\ (∀ i, l' <= i -> i < k -> key (p.getD k 0) < key (p.getD i 0))
 | 0, l, r, hf, h1, h2, ha, hb => ⟨l, rfl, by omega, ha, fun i hi => hb i (by omega)⟩
 | f + 1, l, r, hf, h1, h2, ha, hb => by
  have mono : ∀ i j, i <= j -> j < k -> key (p.getD i 0) <= key (p.getD j 0) := fun i j hij hj => by
   by_cases e : i = j
   ·rw [e]; exact Int.le_refl _
   ·have := hk i j (by omega) hj
    unfold Ahd at this
    omega
  unfold kas_place
  by_cases c : l >= r
  ·rw [if_pos c]
   exact ⟨l, rfl, by omega, ha, fun i hi => hb i (by omega)⟩
  ·rw [if_neg c]
   show ∃ l', goT _ (if decide (key (p.getD k 0) < key (p.getD ((l + r) / 2) 0)) = true then kas_place p k f l ((l + r) / 2) else kas_place p k f ((l + r) / 2 + 1) r) = l' /\ _
   by_cases c2 : key (p.getD k 0) < key (p.getD ((l + r) / 2) 0)
   ·rw [if_pos (decide_eq_true c2)]
    exact place_go hk f l ((l + r) / 2) (by omega) (by omega) (by omega) ha fun i hi hik => by
     have := mono ((l + r) / 2) i hi hik
     omega
   ·rw [if_neg (fun z => c2 (of_decide_eq_true z))]
    exact place_go hk f ((l + r) / 2 + 1) r (by omega) (by omega) (by omega) (fun i hi => by
     have := mono i ((l + r) / 2) (by omega) (by omega)
     omega) hb
theorem bub_at {p : Array Nat} {k d x : Nat} (hk : k < p.size) (hd : d <= k) : (bubble p k d).getD x 0 = if x = k - d then p.getD k 0 else if k - d < x /\ x <= k then p.getD (x - 1) 0 else p.getD x 0 := by
 rw [Array.getD_eq_getD_getElem?, getElem?_bubble hk d hd, apply_ite (fun o : Option Nat => o.getD 0), apply_ite (fun o : Option Nat => o.getD 0), <- Array.getD_eq_getD_getElem?, <- Array.getD_eq_getD_getElem?, <- Array.getD_eq_getD_getElem?]
theorem bin_go : ∀ (f k : Nat) (p : Array Nat), k + f = n -> Ord n k p -> Asc key k p -> ∃ p', goT (fun i j => decide (key i < key j)) (kas_bin f p k) = p' /\ Ord n n p' /\ Asc key n p'
 | 0, k, p, hf, ho, ha => by
  obtain rfl : k = n := by omega
  exact ⟨p, rfl, ho, ha⟩
 | f + 1, k, p, hf, ho, ha => by
  have hs := ho.size
  have ek := ho.suf k (Nat.le_refl _) (by omega)
  unfold kas_bin
  rw [goT_bind]
  obtain ⟨l, e1, e2, e3, e4⟩ := place_go ha k 0 k (by omega) (by omega) (Nat.le_refl _) (fun i hi => by omega) fun i hi hi2 => by omega
  rw [e1]
  refine bin_go f (k + 1) (bubble p k (k - l)) (by omega) ⟨(bubble_perm _ _ _).trans ho.perm, fun i hi hn => ?_⟩ fun i j hij hj => ?_
  ·rw [bub_at (by omega) (by omega), if_neg (by omega), if_neg (by omega)]
   exact ho.suf i (by omega) hn
  ·have low : ∀ x, x < k -> p.getD x 0 < k := fun x hx => ho.lt (by omega) hx
   rw [bub_at (by omega) (by omega), bub_at (by omega) (by omega)]
   have ekl : k - (k - l) = l := by omega
   rw [ekl]
   by_cases c1 : i = l
   ·rw [if_pos c1, if_neg (by omega), if_pos (by omega)]
    exact .inl (e4 (j - 1) (by omega) (by omega))
   ·rw [if_neg c1]
    by_cases c2 : j = l
    ·rw [if_pos c2, if_neg (by omega)]
     have a := e3 i (by omega)
     have b := low i (by omega)
     rw [ek] at a ⊢
     unfold Ahd
     omega
    ·rw [if_neg c2]
     by_cases c3 : l < i
     ·rw [if_pos ⟨c3, by omega⟩, if_pos ⟨by omega, by omega⟩]
      exact ha _ _ (by omega) (by omega)
     ·rw [if_neg (by omega)]
      by_cases c4 : l < j
      ·rw [if_pos ⟨c4, by omega⟩]
       exact ha _ _ (by omega) (by omega)
      ·rw [if_neg (by omega)]
       exact ha _ _ hij (by omega)
theorem sort_go (hn : 1 <= n) : ∃ p, goT (fun i j => decide (key i < key j)) (kas_sort n) = p /\ p.toList.Perm (List.range n) /\ p.toList.Pairwise (Ahd key) := by
 have fin : ∀ p, Ord n n p -> Asc key n p -> p.toList.Perm (List.range n) /\ p.toList.Pairwise (Ahd key) := fun p ho ha => by
  have hs := ho.size
  refine ⟨Array.perm_iff_toList_perm.mp ho.perm, List.pairwise_iff_getElem.mpr fun i j hi hj hij => ?_⟩
  rw [Array.length_toList] at hi hj
  have := ha i j hij (by omega)
  rw [Array.getD_eq_getD_getElem?, Array.getD_eq_getD_getElem?, Array.getElem?_eq_getElem hi, Array.getElem?_eq_getElem hj] at this
  exact this
 unfold kas_sort
 rw [goT_bind]
 obtain ⟨k, p, e1, e2, e3, e4, e5⟩ := count_go (key := key) hn (p := (List.range n).toArray) ⟨Array.Perm.refl _, fun i _ hi => by simp [Array.getD, hi]⟩
 rw [e1]
 show ∃ q, goT _ (if k < n then kas_bin (n - max k 1) p (max k 1) else .ret p) = q /\ _
 by_cases c : k < n
 ·rw [if_pos c, Nat.max_eq_left e2]
  obtain ⟨q, h1, h2, h3⟩ := bin_go (n - k) k p (by omega) e4 e5
  exact ⟨q, h1, fin q h2 h3⟩
 ·rw [if_neg c]
  obtain rfl : k = n := by omega
  exact ⟨p, rfl, fin p e4 e5⟩
end
end My
namespace L2
open PySem PySem.Spec PyProof.Rows
def cxLam (P : Program) (w : World) (K : PySem.W.Frag) (mg : Str -> Option Value) (base : Heap) (N : List Str) (qual : Str) (scope : Scope) (f : Addr) (cd : Value) (cl : List (Str × Addr)) (A : Around) (outer : List Env) (s : Shared) (H : Hp) : Cx where
 prog := P
 w := w
 K := K
 mg := mg
 base := base
 A := A.deeper (PySem.W.envX qual scope s.heap.objs.size f cd cl)
 N := N
 s₀ := s
 H₀ := H
 env := PySem.W.envX qual scope s.heap.objs.size f cd cl
 outer := outer
 stack := PySem.W.envX qual scope s.heap.objs.size f cd cl :: outer
 ex := []
 calm := true
 fn := fun _ => false
 pn := []
 xe := fun _ _ => False
structure LamScope (v x : Str) (sc : Scope) : Prop where
 kind : sc.kind = .function
 co : sc.isCoroutine = false
 gen : sc.isGenerator = false
 nocell : ∀ y ∈ sc.names, y.2 ≠ .cell
 par : sc.names.lookup v = some .local
 free : sc.names.lookup x = some .free
 only : ∀ y, sc.names.lookup y = some .free -> y = x
 ne : v ≠ x
section
variable {P : Program} {w : World} {K : PySem.W.Frag} {mg : Str -> Option Value} {base : Heap} {qual name v x : Str} {scope : Scope} {f c c' : Addr} {cd pm ctv u ux : Value} {A : Around} {outer : List Env} {s s1 : Shared} {H : Hp} {vv vx : V} {params : Arguments} {body : Expr} {k : Nat} {t : TE} {Q : VK}
theorem lam_cell {y : Str} {c2 : Addr} (h : List.lookup y [(x, c)] = some c2) : y = x /\ c2 = c := by
 unfold List.lookup at h
 split at h
 ·rename_i e
  exact ⟨beq_iff_eq.mp e, (Option.some.inj h).symm⟩
 ·cases h
theorem inv_lam (S : LamScope v x scope) (hd : A.handled = none) (e0 : Env0 P w K mg base A outer s H) (hc : s.heap.IsCell c (some ux)) (rx : RelV vx ux) (hfc : H c = none) (rv : RelV vv u) {h1 : Heap} {tk : Nat}
  (hns : h1.Ns s.heap.objs.size fun y => [(v, u)].reverse.lookup y) (hk : ∀ b o, s.heap.get? b = some o -> h1.get? b = some o) :
  Inv (cxLam P w K mg base [v, x] qual scope f cd [(x, c)] A outer s H) [] [some vv, some vx] H { s with heap := h1, toks := tk } := by
 have noA : ∀ b : Addr, b ∉ (cxLam P w K mg base [v, x] qual scope f cd [(x, c)] A outer s H).ex := fun b z => absurd (show b ∈ ([] : List Addr) from z) (by simp)
 have hck : h1.IsCell c (some ux) := by
  obtain ⟨o, e, d⟩ := hc
  exact ⟨o, hk _ _ e, d⟩
 have lk : List.lookup x [(x, c)] = some c := by
  unfold List.lookup
  rw [beq_self_eq_true]
 refine ⟨⟨e0.mod, S.kind, rfl, rfl, Nat.le_refl _, fun y z c2 h1 h2 => ?_, fun y hy => ?_, fun y c2 z _ => (nomatch z), fun _ => hd, Around.frames_deeper e0.frames, .inr ⟨rfl, rfl⟩, fun b z => absurd z (noA b), e0.bs, e0.bsz, fun b _ _ => noA b, fun b z => absurd z (noA b), e0.funs, e0.frf⟩,
  rfl, e0.bare, Un.kept hk, ⟨_, hns, fun i y v' h1 h2 h3 => ?_⟩, fun y c2 h => ?_, e0.hok.fresh (Nat.le_refl _), fun y c2 h => ?_, fun p hp => absurd (show p ∈ ([] : List (Addr × Obj)) from hp) (by simp), e0.hok.kept hk, rfl⟩
 ·rw [(lam_cell h1).1, (lam_cell h2).1]
 ·have hy : scope.names.lookup y = some .cell \/ scope.names.lookup y = some .free := hy
  rcases hy with hy | hy
  ·exact absurd rfl (S.nocell _ (PySem.mem_of_lookup hy))
  ·rw [S.only y hy]
   exact ⟨c, lk⟩
 ·match i, h1, h2 with
  | 0, h1, h2 =>
   obtain rfl : v = y := Option.some.inj h1
   obtain rfl : vv = v' := Option.some.inj (Option.some.inj h2)
   refine ⟨u, rv, .inl ⟨S.par, ?_⟩⟩
   show List.lookup v [(v, u)] = some u
   unfold List.lookup
   rw [beq_self_eq_true]
  | 1, h1, h2 =>
   obtain rfl : x = y := Option.some.inj h1
   obtain rfl : vx = v' := Option.some.inj (Option.some.inj h2)
   exact ⟨ux, rx, .inr ⟨.inr S.free, c, lk, hck⟩⟩
  | i + 2, h1, h2 => cases h1
 ·rw [(lam_cell h).2]
  exact ⟨_, hck⟩
 ·rw [(lam_cell h).2]
  exact hfc
theorem lam_run (S : LamScope v x scope) (hr : Room (k + 1) A) (e0 : Env0 P w K mg base A outer s H) (ho : s.heap.get? f = some (PySem.W.kla_obj name qual params body scope [(x, c)] pm c' ctv)) (hcd : s.heap.CodeRec (.ref c') qual)
  (hbind : bindArgs (PySem.W.kla_fn name qual params body scope [(x, c)] pm (.ref c') ctv) ⟨[u], []⟩ = pure [(v, u)]) (hc : s.heap.IsCell c (some ux)) (rx : RelV vx ux) (hfc : H c = none) (rv : RelV vv u)
  (hb : PE (cxLam P w K mg base [v, x] qual scope f (.ref c') [(x, c)] A outer s H) body t) (hq : t [some vv, some vx] H Q) :
  codeAny (model P w) A (.call (.ref f) ⟨[u], []⟩) (fun r s' => ∃ u', r = .ok (.ret u') /\ CE outer P w H s Q u' s') s := by
 have lim : s.heap.NoLimit := e0.mod.nolimit.keeps fun b o e => (e0.bs b o e).1
 refine PySem.W.kla_callFunE hr.depth ho rfl S.co S.gen rfl hcd ?_
 rw [hbind]
 refine wpAny_pure (wpAny_newFunctionEnv S.nocell (fun y hy => ?_) (fun h1 hns hsb => ⟨lim.fresh _ hsb, ?_⟩) S.kind)
 ·rw [List.mem_singleton.mp hy]
  exact S.par
 have hk : ∀ b o, s.heap.get? b = some o -> h1.get? b = some o := fun b o e => hsb.extBut b o (Nat.ne_of_lt (Heap.lt_size e)) (Heap.get?_push_of_some _ e)
 have I : Inv (cxLam P w K mg base [v, x] qual scope f (.ref c') [(x, c)] A outer s H) [] [some vv, some vx] H { s with heap := h1, toks := s.toks + [(v, u)].length } := inv_lam S hr.hd e0 hc rx hfc rv hns hk
 refine PySem.W.kla_codeExpr (wpAny_mono (hb [] _ _ H _ I hq) (fun u' s' h => ?_) fun e s' h => False.elim h)
 obtain ⟨y, H', J, r, q⟩ := h
 exact ⟨u', rfl, y, H', J.os, J.bare, J.base, J.hok, r, q⟩
end
end L2
namespace My
open PySem PySem.W PyProof.Rows
def Asks {α : Type} (n : Nat) (R : α -> Prop) : KasT α -> Prop
 | .ret a => R a
 | .ask i j k => i < n /\ j < n /\ ∀ b, Asks n R (k b)
theorem Asks.bind {α β : Type} {n : Nat} {R : α -> Prop} {S : β -> Prop} {f : α -> KasT β} : ∀ {t : KasT α}, Asks n R t -> (∀ a, R a -> Asks n S (f a)) -> Asks n S (t.bind f)
 | .ret a, h, hf => hf a h
 | .ask _ _ _, h, hf => ⟨h.1, h.2.1, fun b => Asks.bind (h.2.2 b) hf⟩
theorem goT_wp' {α : Type} {n : Nat} {R : α -> Prop} {c : Nat -> Nat -> Bool} {cmp : Nat -> Nat -> (Bool -> Shared -> Prop) -> Shared -> Prop} {J : Shared -> Prop} (h : ∀ i j C s, i < n -> j < n -> J s -> (∀ s', J s' -> C (c i j) s') -> cmp i j C s) {Q : α -> Shared -> Prop} : ∀ (t : KasT α) (s : Shared), Asks n R t -> J s -> (∀ s', J s' -> Q (goT c t) s') -> t.kasWp cmp Q s
 | .ret _, s, _, hs, q => q s hs
 | .ask i j k, s, ha, hs, q => h i j _ s ha.1 ha.2.1 hs fun s' hs' => goT_wp' h (k (c i j)) s' (ha.2.2 _) hs' q
section
variable {n : Nat}
def Bd (n : Nat) (p : Array Nat) : Prop := p.Perm (List.range n).toArray
theorem Bd.lt {p : Array Nat} (h : Bd n p) (hn : 1 <= n) (i : Nat) : p.getD i 0 < n := by
 by_cases hi : i < p.size
 ·have e1 := get_D (p := p) hi
  rw [<- Array.getElem?_toList] at e1
  exact List.mem_range.mp ((Array.perm_iff_toList_perm.mp h).mem_iff.mp (List.mem_of_getElem? e1))
 ·rw [Array.getD_eq_getD_getElem?, Array.getElem?_eq_none (by omega)]
  exact hn
theorem Bd.rev {p : Array Nat} (h : Bd n p) (i j : Nat) : Bd n (kas_rev p i j) := (mirror_perm _ _ _ _).trans h
theorem asc_asks (hn : 1 <= n) {p : Array Nat} (hp : Bd n p) : ∀ f m : Nat, Asks n (fun _ => True) (kas_asc p f m)
 | 0, m => trivial
 | f + 1, m => ⟨hp.lt hn _, hp.lt hn _, fun b => by
  cases b with
  | true => exact trivial
  | false => exact asc_asks hn hp f (m + 1)⟩
theorem desc_asks (hn : 1 <= n) : ∀ (f : Nat) (p : Array Nat) (m q : Nat), Bd n p -> Asks n (fun r => Bd n r.1) (kas_desc f p m q)
 | 0, p, m, q, hp => hp
 | f + 1, p, m, q, hp => ⟨hp.lt hn _, hp.lt hn _, fun b => by
  cases b with
  | true =>
   show Asks n _ (if q > 0 then kas_desc f (kas_rev p (m - (q + 1)) m) (m + 1) 0 else kas_desc f p (m + 1) 0)
   split
   ·exact desc_asks hn f _ _ _ (hp.rev _ _)
   ·exact desc_asks hn f _ _ _ hp
  | false =>
   refine ⟨hp.lt hn _, hp.lt hn _, fun d => ?_⟩
   cases d with
   | true => exact hp
   | false => exact desc_asks hn f _ _ _ hp⟩
theorem tail_asks (hn : 1 <= n) {p : Array Nat} (hp : Bd n p) (m r : Nat) : Asks n (fun z => Bd n z.2) (kas_tail3 m r p) :=
 (asc_asks hn (hp.rev _ _) _ _).bind fun _ _ => hp.rev _ _
theorem part_asks (hn : 1 <= n) {p : Array Nat} (hp : Bd n p) (m r : Nat) : Asks n (fun z => Bd n z.2) (kas_descPart m r p) :=
 (desc_asks hn _ p _ _ hp).bind fun z hz => by
  split
  ·exact tail_asks hn (hz.rev _ _) _ _
  ·exact tail_asks hn hz _ _
theorem count_asks (hn : 1 <= n) {p : Array Nat} (hp : Bd n p) (r : Nat) : Asks n (fun z => Bd n z.2) (kas_count r p) :=
 (asc_asks hn hp _ _).bind fun z _ => by
  split
  ·exact hp
  ·split
   ·refine ⟨hp.lt hn _, hp.lt hn _, fun b => ?_⟩
    cases b with
    | true => exact hp
    | false => exact part_asks hn (hp.rev _ _) _ _
   ·exact part_asks hn hp _ _
theorem place_asks (hn : 1 <= n) {p : Array Nat} (hp : Bd n p) (k : Nat) : ∀ f l r : Nat, Asks n (fun _ => True) (kas_place p k f l r)
 | 0, l, r => trivial
 | f + 1, l, r => by
  unfold kas_place
  split
  ·exact trivial
  ·refine ⟨hp.lt hn _, hp.lt hn _, fun b => ?_⟩
   cases b with
   | true => exact place_asks hn hp k f _ _
   | false => exact place_asks hn hp k f _ _
theorem bin_asks (hn : 1 <= n) : ∀ (f : Nat) (p : Array Nat) (k : Nat), Bd n p -> Asks n (fun z => Bd n z) (kas_bin f p k)
 | 0, p, k, hp => hp
 | f + 1, p, k, hp => (place_asks hn hp k _ _ _).bind fun l _ => bin_asks hn f _ _ ((bubble_perm _ _ _).trans hp)
theorem sort_asks (hn : 1 <= n) : Asks n (fun z => Bd n z) (kas_sort n) :=
 (count_asks hn (p := (List.range n).toArray) (Array.Perm.refl _) n).bind fun z hz => by
  split
  ·exact bin_asks hn _ _ _ hz
  ·exact hz
end
end My
namespace L2
open PySem PySem.Spec PyProof.Rows PySem.W
def StabK (key : Int -> Int) (ns ms : List Int) : Prop := ∃ p : List Nat, p.Perm (List.range ns.length) /\ p.Pairwise (My.Ahd fun i => key (ns.getD i 0)) /\ ms = p.map fun i => ns.getD i 0
section
variable {X : Cx} {pins : List (Addr × Obj)} {σ : St} {H : Hp} {s : Shared} {a b : Addr} {o : Obj}
theorem Inv.pin1 (I : Inv X pins σ H s) (F : FpOk X pins H b) (e : s.heap.get? b = some o) (hd : ∀ v, o.data ≠ .cell v) : Inv X (pins ++ [(b, o)]) σ H s := I.pins_of fun p hp => by
 rcases List.mem_append.mp hp with hp | hp
 ·exact I.pin p (List.mem_append_right _ hp)
 ·rw [List.mem_singleton.mp hp]
  exact ⟨e, F.1, F.2.1, F.2.2.1, hd⟩
theorem FpOk.more {pl : List (Addr × Obj)} (F : FpOk X pins H b) (hn : ∀ p ∈ pl, p.1 ≠ b) : FpOk X (pins ++ pl) H b := ⟨F.1, F.2.1, F.2.2.1, F.2.2.2.1, F.2.2.2.2.1, fun p hp => by
 rcases List.mem_append.mp hp with hp | hp
 ·exact F.2.2.2.2.2 p (List.mem_append_left _ hp)
 ·rcases List.mem_append.mp hp with hp | hp
  ·exact F.2.2.2.2.2 p (List.mem_append_right _ hp)
  ·exact hn p hp⟩
theorem Inv.changed {h' : Heap} {t' : Nat} (I : Inv X pins σ H s) (F : FpOk X pins H b) (k : ∀ c o, c ≠ b -> s.heap.get? c = some o -> h'.get? c = some o) : Inv X pins σ H { s with heap := h', toks := t' } :=
 I.turned k F.1 F.2.1 F.2.2.2.1 F.2.2.2.2.1 F.2.2.2.2.2
theorem Inv.adopt {u : HO} (I : Inv X pins σ H s) (hex : X.ex = []) (F : FpOk X pins H b) (new : ObjOk X.prog X.w (upd H b u) s.heap b u) : Inv X pins σ (upd H b u) s := by
 have f4 : X.s₀.heap.objs.size <= b := F.2.2.2.1.resolve_left (by rw [hex]; simp)
 have hn := F.1
 refine ⟨I.ok, I.os, I.bare, ⟨I.base.keep, I.base.slot, fun c o e n hc => ?_, I.base.there, fun c xs q => ?_, fun c o w q => ?_, fun c ps q => ?_⟩, I.loc, I.cell, ?_, fun x c e => ?_, fun p hp => ?_, fun c w e => ?_, I.len⟩
 ·rw [upd_ne (Nat.ne_of_lt (Nat.lt_of_lt_of_le (Heap.lt_size e) f4))]
  exact I.base.free c o e n hc
 ·have := I.base.tups c xs q
  rw [upd_ne (ne_of_none this hn)]; exact this
 ·have := I.base.frzs c o w q
  rw [upd_ne (ne_of_none this hn)]; exact this
 ·obtain ⟨m, this⟩ := I.base.tbls c ps q
  exact ⟨m, by rw [upd_ne (ne_of_none this hn)]; exact this⟩
 ·rw [upd_ne (Ne.symm F.2.1)]; exact I.free
 ·rw [upd_ne (F.2.2.2.2.1 x c e)]; exact I.freeC x c e
 ·have := I.pin p hp
  exact ⟨this.1, by rw [upd_ne (F.2.2.2.2.2 p hp)]; exact this.2.1, this.2.2⟩
 ·by_cases hb : c = b
  ·subst hb; rw [upd_same] at e; cases e; exact new
  ·rw [upd_ne hb] at e
   exact (I.hok c w e).stay (fun _ _ _ q => q) (fun d q => by rw [upd_ne (ne_of_none q hn)]; exact q) fun d xs q => by rw [upd_ne (ne_of_none q hn)]; exact q
end
section
variable {X : Cx} {pins : List (Addr × Obj)} {σ : St} {H : Hp} {s : Shared} {a kS : Addr} {A : Around} {E : Value -> Shared -> Prop} {P : PySem.Fin -> Shared -> Prop} {kA : Array Value} {e e1 : Nat} {f : Value} {key : Int -> Int} {ns : List Int} {vs : List Value}
theorem key_tail {st : SortSt} {out : List Value} (I : Inv X (pins ++ [(a, seqObj "list" #[] e1), (kS, seqObj "list" kA e)]) σ H s) (Fa : FpOk X pins H a) (Fk : FpOk X pins H kS) (hak : a ≠ kS) (hz : kA.size < 64) (hfl : failedOf st = none)
  (hout : (arrOf st).map (·.2) = out.toArray) (hlen : out.length < 64) (h : ∀ s' m, Inv X pins σ H s' -> s'.heap.get? a = some (seqObj "list" out.toArray m) -> P (.done (.ret .none)) s') :
  wpAny (model X.prog X.w) A (ksk_tail a false e1 (.ref kS) st) P E s := by
 have hsl : sizeLine = 16777216 := sizeLine_eq
 have pa := (I.pin (a, seqObj "list" #[] e1) (by simp)).1
 have pk := (I.pin (kS, seqObj "list" kA e) (by simp)).1
 have I0 : Inv X pins σ H s := I.unpinned
 have pa1 : (s.heap.update kS (Obj.mapSeq fun _ => (#[] : Array Value))).get? a = some (seqObj "list" #[] e1) := (Heap.get?_update_other _ _ (Ne.symm hak)).trans pa
 obtain ⟨m, hm⟩ : ∃ m, ((s.heap.update kS (Obj.mapSeq fun _ => (#[] : Array Value))).update a (Obj.mapSeq fun _ => out.toArray)).get? a = some (seqObj "list" out.toArray m) := ⟨_, get?_update_seq pa1 fun _ => out.toArray⟩
 unfold ksk_tail
 dsimp only
 rw [hout]
 refine wpAny_bind (listUpdate_at pk rfl ?_ (by omega) (Nat.zero_le _))
 refine wpAny_bind (wpAny_letGo ?_)
 refine wpAny_bind (seqEpoch_at pa1 rfl ?_)
 refine wpAny_bind (listUpdate_at pa1 rfl ?_ (Nat.zero_le _) (by simp; omega))
 rw [hfl]
 simp only [bne_self_eq_false, Bool.false_eq_true, if_false]
 refine wpAny_pure (h _ m ?_ hm)
 have I1 : Inv X pins σ H { s with heap := s.heap.update kS (Obj.mapSeq fun _ => (#[] : Array Value)), toks := s.toks } := I0.changed Fk fun c o hc q => (Heap.get?_update_other _ _ (Ne.symm hc)).trans q
 exact I1.changed (t' := s.toks) Fa fun c o hc q => (Heap.get?_update_other _ _ (Ne.symm hc)).trans q
theorem ints_at : ∀ {vs : List Value} {ns : List Int}, IntsAre vs ns -> ∀ i, i < ns.length -> ∃ t, vs[i]? = some (.int (ns.getD i 0) t)
 | _, _, .nil, i, h => absurd h (Nat.not_lt_zero _)
 | _, _, .cons n t r, 0, h => ⟨t, rfl⟩
 | _, _, .cons n t r, i + 1, h => ints_at r i (by rw [List.length_cons] at h; omega)
theorem item_at (hv : IntsAre vs ns) (hk : IntsAre kA.toList (ns.map key)) {i : Nat} (hi : i < ns.length) : ∃ t u, kas_item (kA.zip vs.toArray) i = (.int (key (ns.getD i 0)) t, .int (ns.getD i 0) u) := by
 obtain ⟨u, hu⟩ := ints_at hv i hi
 obtain ⟨t, ht⟩ := ints_at hk i (by rw [List.length_map]; exact hi)
 have e : (ns.map key).getD i 0 = key (ns.getD i 0) := by
  rw [List.getD_eq_getElem?_getD, List.getElem?_map, List.getD_eq_getElem?_getD, List.getElem?_eq_getElem hi]
  rfl
 rw [e] at ht
 refine ⟨t, u, ?_⟩
 unfold kas_item
 rw [Array.getD_eq_getD_getElem?, <- Array.getElem?_toList, ksk_zip, (List.getElem?_zip_eq_some (z := (Value.int (key (ns.getD i 0)) t, Value.int (ns.getD i 0) u))).mpr ⟨ht, hu⟩]
 rfl
theorem ints_map (hv : IntsAre vs ns) (hk : IntsAre kA.toList (ns.map key)) : ∀ l : List Nat, (∀ i ∈ l, i < ns.length) -> IntsAre (l.map fun i => (kas_item (kA.zip vs.toArray) i).2) (l.map fun i => ns.getD i 0)
 | [], _ => .nil
 | i :: l, h => by
  obtain ⟨t, u, e⟩ := item_at hv hk (h i List.mem_cons_self)
  have r := ints_map hv hk l fun j hj => h j (List.mem_cons_of_mem _ hj)
  rw [List.map_cons, List.map_cons, e]
  exact .cons _ u r
theorem key_end (I : Inv X (pins ++ [(a, seqObj "list" #[] e1), (kS, seqObj "list" kA e)]) σ H s) (Fa : FpOk X pins H a) (Fk : FpOk X pins H kS) (hak : a ≠ kS) (hv : IntsAre vs ns) (h64 : ns.length < 64) (hk : IntsAre kA.toList (ns.map key))
  (h : ∀ s' m out ms, Inv X pins σ H s' -> s'.heap.get? a = some (seqObj "list" out m) -> IntsAre out.toList ms -> StabK key ns ms -> P (.done (.ret .none)) s') :
  wpAny (model X.prog X.w) A (ksk_end a false vs.toArray e1 (.ref kS) kA) P E s := by
 have hvl := hv.length
 have hkl := hk.length
 rw [Array.length_toList, List.length_map] at hkl
 have hzs : (kA.zip vs.toArray).size = ns.length := by rw [Array.size_zip, show vs.toArray.size = vs.length from List.size_toArray]; omega
 unfold ksk_end
 dsimp only
 rw [if_neg (by decide)]
 by_cases h2 : vs.toArray.size < 2
 ·rw [if_pos h2, if_pos h2]
  rw [List.size_toArray] at h2
  refine wpAny_bind (wpAny_pure ?_)
  rw [StateT.run_pure]
  refine wpAny_bind (wpAny_pure ?_)
  dsimp only
  refine key_tail (out := vs) I Fa Fk hak (by omega) rfl ?_ (by omega) fun s' m J e => h s' m vs.toArray ns J e (by simpa using hv) ?_
  ·show (if false = true then (kA.zip vs.toArray).reverse else kA.zip vs.toArray).map (·.2) = vs.toArray
   rw [if_neg (by decide), Array.map_snd_zip (by rw [List.size_toArray]; omega)]
  ·refine ⟨List.range ns.length, List.Perm.refl _, ?_, ?_⟩
   ·match ns.length, (show ns.length < 2 by omega) with
    | 0, _ => exact List.Pairwise.nil
    | 1, _ => exact List.pairwise_singleton _ _
   ·match ns, (show ns.length < 2 by omega) with
    | [], _ => rfl
    | [x], _ => rfl
 ·rw [if_neg h2, if_neg h2]
  rw [List.size_toArray] at h2
  rw [ksk_kind hk (by omega)]
  refine wpAny_bind (wpAny_pure ?_)
  rw [if_neg (by decide)]
  obtain ⟨p, hp1, hp2, hp3⟩ := My.sort_go (n := ns.length) (key := fun i => key (ns.getD i 0)) (by omega)
  have runs := kas_runs (prog := X.prog) (w := X.w) (A := A) (E := E) (κ := oneType') (it := kA.zip vs.toArray) (n := ns.length) (s := s) (Q := fun _ st s' => s' = s /\ failedOf st = none /\ arrOf st = p.map (kas_item (kA.zip vs.toArray)))
   (G := fun q s' => s' = s /\ q = p) (by omega) h64 (fun q st s' _ e2 e3 e4 => ⟨e4.1, e3, by rw [e2, e4.2]⟩)
   (My.goT_wp' (c := fun i j => decide (key (ns.getD i 0) < key (ns.getD j 0))) (J := fun s' => s' = s) (fun i j C s' hi hj hs hC => by
    obtain ⟨t, u, e⟩ := item_at hv hk hi
    obtain ⟨t', u', e'⟩ := item_at hv hk hj
    unfold kas_cmp
    rw [e, e']
    exact kat_lt_int (hC s' hs)) _ s (My.sort_asks (by omega)) rfl fun s' hs => ⟨hs, hp1⟩)
  unfold kasC kas_st at runs
  rw [<- hzs, kas_range] at runs
  refine wpAny_bind (wpAny_mono runs ?_ fun _ _ z => z)
  rintro ⟨⟨⟩, st⟩ s' ⟨rfl, hf, ha⟩
  dsimp only
  have hb : ∀ i ∈ p.toList, i < ns.length := fun i hi => List.mem_range.mp (hp2.mem_iff.mp hi)
  have hpl : p.toList.length = ns.length := by rw [hp2.length_eq, List.length_range]
  refine key_tail (out := p.toList.map fun i => (kas_item (kA.zip vs.toArray) i).2) I Fa Fk hak (by omega) hf ?_ (by rw [List.length_map]; omega) fun s'' m J e => h s'' m _ _ J e (by simpa using ints_map hv hk p.toList hb) ⟨p.toList, hp2, hp3, rfl⟩
  have ha : arrOf st = p.map (kas_item (kA.zip vs.toArray)) := ha
  rw [ha, Array.map_map]
  exact Array.toList_inj.mp (by simp)
theorem key_rest (I : Inv X (pins ++ [(a, seqObj "list" #[] e1), (kS, seqObj "list" #[] 0)]) σ H s) (Fa : FpOk X pins H a) (Fk : FpOk X pins H kS) (hak : a ≠ kS) (hv : IntsAre vs ns) (h64 : ns.length < 64)
  (turn : ∀ (pl : List (Addr × Obj)) (z : Int) (t : Tok) (s' : Shared), z ∈ ns -> Inv X (pins ++ pl) σ H s' -> wpAny (model X.prog X.w) A (call f [.int z t]) (fun v s'' => ∃ t', v = .int (key z) t' /\ Inv X (pins ++ pl) σ H s'') (fun _ _ => False) s')
  (h : ∀ s' m out ms, Inv X pins σ H s' -> s'.heap.get? a = some (seqObj "list" out m) -> IntsAre out.toList ms -> StabK key ns ms -> P (.done (.ret .none)) s') :
  wpAny (model X.prog X.w) A (ksk_rest a f false vs.toArray e1 (.ref kS)) P E s := by
 have hsl : sizeLine = 16777216 := sizeLine_eq
 have hvl := hv.length
 unfold ksk_rest
 refine wpAny_bind (wpAny_rule ?_)
 rw [<- Array.forIn_toList]
 simp only [List.toList_toArray]
 refine wpAny_bind (ksk_fold (fun i s' => ∃ (kA : Array Value) (e : Nat), Inv X (pins ++ [(a, seqObj "list" #[] e1), (kS, seqObj "list" kA e)]) σ H s' /\ IntsAre kA.toList ((ns.take i).map key)) vs 0 s ⟨#[], 0, I, by simpa using IntsAre.nil⟩ ?step ?done)
 case step =>
  rintro j x s' hx ⟨kA, e, J, hk⟩
  rw [Nat.zero_add] at hk ⊢
  have hj : j < ns.length := by rw [<- hvl]; exact (List.getElem?_eq_some_iff.mp hx).1
  obtain ⟨t, ht⟩ := ints_at hv j hj
  rw [hx] at ht
  obtain rfl := Option.some.inj ht
  have hz : kA.size <= j := by
   have h1 := hk.length
   rw [Array.length_toList, List.length_map, List.length_take] at h1
   omega
  have eg : ns.getD j 0 = ns[j] := by rw [List.getD_eq_getElem?_getD, List.getElem?_eq_getElem hj]; rfl
  have hmem : ns.getD j 0 ∈ ns := by rw [eg]; exact List.getElem_mem hj
  refine wpAny_bind (wpAny_attempt (wpAny_mono (turn _ _ t s' hmem J) (fun v s'' he => ?_) fun _ _ hF => hF.elim))
  obtain ⟨t2, rfl, J2⟩ := he
  dsimp only
  have pk := (J2.pin (kS, seqObj "list" kA e) (by simp)).1
  obtain ⟨c2, hc2⟩ : ∃ c2, (s''.heap.update kS (Obj.mapSeq (·.push (.int (key (ns.getD j 0)) t2)))).get? kS = some (seqObj "list" (kA.push (.int (key (ns.getD j 0)) t2)) c2) := ⟨_, get?_update_seq pk (·.push (.int (key (ns.getD j 0)) t2))⟩
  refine wpAny_bind (listUpdate_at pk rfl ?_ (by omega) (by rw [Array.size_push]; omega))
  refine wpAny_pure ⟨rfl, kA.push (.int (key (ns.getD j 0)) t2), c2, ?_, ?_⟩
  ·have J3 : Inv X (pins ++ [(a, seqObj "list" #[] e1)]) σ H s'' := J2.pins_of fun p hp => J2.pin p (List.mem_append_right _ (by
    rcases List.mem_append.mp hp with hp | hp
    ·exact List.mem_append_left _ hp
    ·exact List.mem_append_right _ (by rw [List.mem_singleton.mp hp]; exact List.mem_cons_self)))
   have Fk2 : FpOk X (pins ++ [(a, seqObj "list" #[] e1)]) H kS := Fk.more fun p hp => by rw [List.mem_singleton.mp hp]; exact hak
   have J4 := (J3.changed (t' := s''.toks) Fk2 fun c o hc q => (Heap.get?_update_other s''.heap (Obj.mapSeq (·.push (.int (key (ns.getD j 0)) t2))) (Ne.symm hc)).trans q).pin1 Fk2 hc2 fun v z => by cases z
   rw [List.append_assoc] at J4
   exact J4
  ·have ek : (ns.take (j + 1)).map key = (ns.take j).map key ++ [key (ns.getD j 0)] := by rw [List.take_add_one, List.getElem?_eq_getElem hj, List.map_append, eg]; rfl
   rw [Array.toList_push, ek]
   exact ksk_snoc hk
 case done =>
  rintro s' ⟨kA, e, J, hk⟩
  rw [Nat.zero_add, hvl, List.take_length] at hk
  have pk := (J.pin (kS, seqObj "list" kA e) (by simp)).1
  refine wpAny_bind (listItems_at pk rfl ?_)
  exact key_end J Fa Fk hak hv h64 hk h
theorem key_sort {n : Nat} (I : Inv X pins σ H s) (Fa : FpOk X pins H a) (ho : s.heap.get? a = some (seqObj "list" vs.toArray n)) (hv : IntsAre vs ns) (h64 : ns.length < 64)
  (turn : ∀ (pl : List (Addr × Obj)) (z : Int) (t : Tok) (s' : Shared), z ∈ ns -> Inv X (pins ++ pl) σ H s' -> wpAny (model X.prog X.w) A (call f [.int z t]) (fun v s'' => ∃ t', v = .int (key z) t' /\ Inv X (pins ++ pl) σ H s'') (fun _ _ => False) s')
  (h : ∀ s' m out ms, Inv X pins σ H s' -> s'.heap.get? a = some (seqObj "list" out m) -> IntsAre out.toList ms -> StabK key ns ms -> P (.done (.ret .none)) s') :
  wpAny (model X.prog X.w) A (ksk_tree a f false) P E s := by
 have hsl : sizeLine = 16777216 := sizeLine_eq
 have hvl := hv.length
 obtain ⟨e1, ho1⟩ : ∃ e1, (s.heap.update a (Obj.mapSeq fun _ => (#[] : Array Value))).get? a = some (seqObj "list" #[] e1) := ⟨_, get?_update_seq ho fun _ => #[]⟩
 have I1 : Inv X pins σ H { s with heap := s.heap.update a (Obj.mapSeq fun _ => (#[] : Array Value)), toks := s.toks } := I.changed Fa fun c o hc q => (Heap.get?_update_other _ _ (Ne.symm hc)).trans q
 have I2 : Inv X pins σ H { s with heap := (s.heap.update a (Obj.mapSeq fun _ => (#[] : Array Value))).push (seqObj "tuple" vs.toArray 0), toks := s.toks } := I1.kept fun c o q => Heap.get?_push_of_some _ q
 have ho2 : ((s.heap.update a (Obj.mapSeq fun _ => (#[] : Array Value))).push (seqObj "tuple" vs.toArray 0)).get? a = some (seqObj "list" #[] e1) := Heap.get?_push_of_some _ ho1
 unfold ksk_tree
 refine wpAny_bind (listItems_at ho rfl ?_)
 refine wpAny_bind (listUpdate_at ho rfl ?_ (by rw [List.size_toArray]; omega) (Nat.zero_le _))
 refine wpAny_bind (seqEpoch_at ho1 rfl ?_)
 refine wpAny_bind (wpAny_newTuple ?_ (by show vs.length <= _; omega))
 refine wpAny_bind (wpAny_newList ?_ (Nat.zero_le _))
 refine wpAny_holding ?_
 have Fk : FpOk X pins H ((s.heap.update a (Obj.mapSeq fun _ => (#[] : Array Value))).push (seqObj "tuple" vs.toArray 0)).objs.size := I2.fpOk (Nat.le_refl _) (I2.hok.fresh (Nat.le_refl _))
 have hak : a ≠ ((s.heap.update a (Obj.mapSeq fun _ => (#[] : Array Value))).push (seqObj "tuple" vs.toArray 0)).objs.size := Nat.ne_of_lt (Heap.lt_size ho2)
 have I3 : Inv X pins σ H { s with heap := ((s.heap.update a (Obj.mapSeq fun _ => (#[] : Array Value))).push (seqObj "tuple" vs.toArray 0)).push (seqObj "list" #[] 0), toks := s.toks } := I2.kept fun c o q => Heap.get?_push_of_some _ q
 have I4 := (I3.pin1 Fa (Heap.get?_push_of_some _ ho2) fun v z => by cases z).pin1 (Fk.more (pl := [(a, seqObj "list" #[] e1)]) fun p hp => by rw [List.mem_singleton.mp hp]; exact hak) (Heap.get?_push_size _ rfl) fun v z => by cases z
 rw [List.append_assoc] at I4
 exact key_rest I4 Fa Fk hak hv h64 turn h
theorem sorted_key {tp q : Addr} {ot : Obj} {m : Nat} {Q : Value -> Shared -> Prop} (I : Inv X pins σ H s) (ht : s.heap.get? tp = some ot) (hc : ot.cls = .type "tuple") (hd : ot.data = .seq vs.toArray m) (hv : IntsAre vs ns) (h64 : ns.length < 64)
  (turn : ∀ (pl : List (Addr × Obj)) (z : Int) (t : Tok) (s' : Shared), z ∈ ns -> Inv X (pins ++ pl) σ H s' -> wpAny (model X.prog X.w) A.in1.in1 (call (.ref q) [.int z t]) (fun v s'' => ∃ t', v = .int (key z) t' /\ Inv X (pins ++ pl) σ H s'') (fun _ _ => False) s')
  (h : ∀ s' a m out ms, FpOk X pins H a -> Inv X pins σ H s' -> s'.heap.get? a = some (seqObj "list" out m) -> IntsAre out.toList ms -> StabK key ns ms -> Q (.ref a) s') :
  wpAny (model X.prog X.w) A (call (.builtin "sorted") [.ref tp] [(Str.ofString "key", .ref q)]) Q E s := by
 have hsl : sizeLine = 16777216 := sizeLine_eq
 have hvl := hv.length
 refine call_function_entry_kw kind_sorted plain_sorted entry_sorted (ksk_s1 _ _) ?_
 unfold Builtin.«sorted»
 refine wpAny_bind (m := checkCount "sorted" 1 1 _) (wpAny_pure ?_)
 refine wpAny_bind (collect_tup ht hc hd (by omega) ?_)
 refine wpAny_bind (wpAny_newList ?_ (by omega))
 have hsz : ((s.heap.push (seqObj "list" #[] 0)).update s.heap.objs.size (Obj.mapSeq (· ++ vs.toArray))).objs.size = s.heap.objs.size + 1 := by
  rw [Heap.size_update, size_push']
 have hoL : (((s.heap.push (seqObj "list" #[] 0)).update s.heap.objs.size (Obj.mapSeq (· ++ vs.toArray))).push (seqObj "list" vs.toArray 0)).get? (s.heap.objs.size + 1) = some (seqObj "list" vs.toArray 0) := by
  rw [<- hsz]; exact Heap.get?_push_size _ rfl
 have keep : ∀ b o, s.heap.get? b = some o -> (((s.heap.push (seqObj "list" #[] 0)).update s.heap.objs.size (Obj.mapSeq (· ++ vs.toArray))).push (seqObj "list" vs.toArray 0)).get? b = some o := fun b o q => by
  have hlt : b < s.heap.objs.size := Heap.lt_size q
  exact Heap.get?_push_of_some _ ((Heap.get?_update_other _ _ (Nat.ne_of_gt hlt)).trans (Heap.get?_push_of_some _ q))
 show wpAny _ _ _ _ _ { s with heap := ((s.heap.push (seqObj "list" #[] 0)).update s.heap.objs.size (Obj.mapSeq (· ++ vs.toArray))).push (seqObj "list" vs.toArray 0) }
 rw [hsz]
 have Fa : FpOk X pins H (s.heap.objs.size + 1) := I.fpOk (Nat.le_succ _) (I.hok.fresh (Nat.le_succ _))
 refine wpAny_bind (wpAny_holding (wpAny_call_entry_kw slot_list_sort ⟨_, hoL, rfl⟩ entry_list_sort ?body (ksk_l1 _ _)))
 show wpAny (model X.prog X.w) A.in1.in1 (Builtin.«list.sort» ⟨[.ref (s.heap.objs.size + 1)], [(Str.ofString "key", .ref q)]⟩) _ _ _
 rw [ksk_t1]
 refine key_sort (s := { s with heap := ((s.heap.push (seqObj "list" #[] 0)).update s.heap.objs.size (Obj.mapSeq (· ++ vs.toArray))).push (seqObj "list" vs.toArray 0), toks := s.toks }) (I.kept keep) Fa hoL hv h64 turn fun s' m out ms J e hi hs => ⟨_, rfl, ?_⟩
 exact wpAny_pure ⟨_, rfl, h s' _ m out ms Fa J e hi hs⟩
end
def CdO (c : Addr) (qual : Str) : HO := .ext fun h => h.CodeRec (.ref c) qual
def TabH (H : Hp) (Pt : Addr) (pos : Pos) (qual : Str) : Prop := ∃ ps : Array Value, H Pt = some (.tbl ps) /\ TriplesOk ps.toList /\ (codeAmong pos ps.toList = none \/ ∃ c, codeAmong pos ps.toList = some (.ref c) /\ H c = some (CdO c qual))
def SameX (Pt : Addr) (H H' : Hp) : Prop := ∀ b o, b ≠ Pt -> H b = some o -> H' b = some o
theorem codeRec_stay {c : Addr} {qual : Str} (h1 h2 : Heap) (r : h1.CodeRec (.ref c) qual) (k : ∀ o, h1.get? c = some o -> h2.get? c = some o) : h2.CodeRec (.ref c) qual := by
 obtain ⟨c2, o, vs, t, e, g, r⟩ := r
 cases e
 exact ⟨c, o, vs, t, rfl, k _ g, r⟩
section
variable {X : Cx} {pins : List (Addr × Obj)} {σ : St} {H : Hp} {s : Shared} {c Pt cc : Addr} {x : Str} {params : Arguments} {body : Expr} {scope : Scope} {pos : Pos} {E : Value -> Shared -> Prop} {Q : Value -> Shared -> Prop}
theorem Inv.builtinsAt (I : Inv X pins σ H s) (hB : X.base.BuiltinsAt X.mg Pt) : s.heap.BuiltinsAt X.mg Pt := by
 obtain ⟨bm, o, h1, h2, h3, h4, h5, h6⟩ := hB
 exact ⟨bm, o, h1, h2, h3, h4, I.bk _ _ h5, h6⟩
theorem lam_made (I : Inv X pins σ H s) (hcode : X.env.code = .ref c) (hC : codeHdIn X.K c Pt = true) (hB : X.base.BuiltinsAt X.mg Pt) (hT : TabH H Pt pos (X.env.qual ++ Str.ofString "<lambda>")) (hcl : closureFor scope X.env = pure [(x, cc)]) (hdef : defaultsOf params X.env = ([], [])) (hPg : mainGlobals ≠ Pt)
  (h : ∀ f c' pm ctv s' H', SameX Pt H H' -> TabH H' Pt pos (X.env.qual ++ Str.ofString "<lambda>") -> FpOk X pins H' f -> Inv X pins σ H' s' -> s'.heap.get? f = some (kla_obj (Str.ofString "<lambda>") (X.env.qual ++ Str.ofString "<lambda>") params body scope [(x, cc)] pm c' ctv) -> H' c' = some (CdO c' (X.env.qual ++ Str.ofString "<lambda>")) -> Q (.ref f) s') :
  wpAny (model X.prog X.w) X.A (eval (.Lambda params body scope pos) X.env) Q E s := by
 obtain ⟨ps, hP, htr, hcase⟩ := hT
 have hPo : s.heap.get? Pt = some (tabObj ps) := I.hok Pt _ hP
 have hns : s.heap.Ns mainGlobals X.mg := I.mod.glob.keeps I.bk
 have hHd := codeHd_of_K I.kIn hC
 refine kla_eval hdef ?_
 rcases hcase with hnf | ⟨c', hf, hc'⟩
 ·refine kla_makeFunction hcl I.ok.glob hns hcode hHd hPo htr hnf hPg (I.builtinsAt hB) fun c' ctv h' tk hx hge hlt hrec htb => ?_
  have hPl : Pt < s.heap.objs.size := Heap.lt_size hPo
  have hcn : H c' = none := I.hok.fresh hge
  have hcP : c' ≠ Pt := Nat.ne_of_gt (Nat.lt_of_lt_of_le hPl hge)
  have keep : ∀ b o, b ≠ Pt -> s.heap.get? b = some o -> (h'.push (kla_obj (Str.ofString "<lambda>") (X.env.qual ++ Str.ofString "<lambda>") params body scope [(x, cc)] ((X.mg "__name__").getD .none) c' ctv)).get? b = some o := fun b o hb e => Heap.get?_push_of_some _ (hx b o hb e)
  have sx : SameX Pt H (upd (upd H Pt (.tbl (ps ++ #[rawInt pos.line, rawInt pos.col, .ref c']))) c' (CdO c' (X.env.qual ++ Str.ofString "<lambda>"))) := fun b o hb e => by
   rw [upd_ne (ne_of_none e hcn), upd_ne hb]
   exact e
  have tb : TabH (upd (upd H Pt (.tbl (ps ++ #[rawInt pos.line, rawInt pos.col, .ref c']))) c' (CdO c' (X.env.qual ++ Str.ofString "<lambda>"))) Pt pos (X.env.qual ++ Str.ofString "<lambda>") := by
   have et : (ps ++ #[rawInt pos.line, rawInt pos.col, Value.ref c']).toList = ps.toList ++ [rawInt pos.line, rawInt pos.col, .ref c'] := by simp
   refine ⟨ps ++ #[rawInt pos.line, rawInt pos.col, .ref c'], by rw [upd_ne (Ne.symm hcP), upd_same], by rw [et]; exact TriplesOk_snoc _ _ _ _ htr, .inr ⟨c', by rw [et]; exact codeAmong_snoc _ htr hnf, upd_same⟩⟩
  have notP : ∀ b, H b = none -> b ≠ Pt := fun b n z => by rw [z, hP] at n; cases n
  refine h h'.objs.size c' _ ctv _ _ sx tb ?_ (I.un ⟨fun b o e n _ _ => keep b o (notP b n) e, fun b o e n _ _ => ⟨o.slots, keep b o (notP b n) e⟩, fun b o e n _ => ?_, fun b o e _ => ?_, fun b xs e => ?_, fun b o u e => ?_, fun b qs e => ?_⟩ fun b u e => ?_) (Heap.get?_push_size _ rfl) upd_same
  ·have hfs : s.heap.objs.size <= h'.objs.size := by omega
   refine I.fpOk hfs ?_
   rw [upd_ne (Nat.ne_of_gt hlt), upd_ne (Nat.ne_of_gt (Nat.lt_of_lt_of_le hPl hfs))]
   exact I.hok.fresh hfs
  ·rw [upd_ne (Nat.ne_of_lt (Nat.lt_of_lt_of_le (Heap.lt_size e) hge)), upd_ne (notP b n)]
   exact n
  ·by_cases hb : b = Pt
   ·rw [hb]; exact ⟨_, Heap.get?_push_of_some _ htb⟩
   ·exact ⟨o, keep b o hb e⟩
  ·exact sx b _ (fun z => by rw [z, hP] at e; cases e) e
  ·exact sx b _ (fun z => by rw [z, hP] at e; cases e) e
  ·by_cases hb : b = Pt
   ·subst hb
    rw [hP] at e
    obtain rfl : ps = qs := by cases e; rfl
    exact ⟨#[rawInt pos.line, rawInt pos.col, .ref c'], by rw [upd_ne (Ne.symm hcP), upd_same]⟩
   ·exact ⟨#[], by rw [sx b _ hb e]; simp⟩
  ·by_cases hb : b = c'
   ·subst hb
    rw [upd_same] at e
    cases e
    refine ⟨codeRec_stay _ _ hrec fun o g => Heap.get?_push_of_some _ g, ?_, codeRec_stay⟩
    obtain ⟨c2, o, _, _, e2, g, _⟩ := hrec
    cases e2
    exact ⟨o, Heap.get?_push_of_some _ g⟩
   ·rw [upd_ne hb] at e
    by_cases hb2 : b = Pt
    ·subst hb2
     rw [upd_same] at e
     cases e
     exact Heap.get?_push_of_some _ htb
    ·rw [upd_ne hb2] at e
     refine (I.hok b u e).stay (fun d o hd g => keep d o (fun z => ?_) g) (fun d g => sx d _ (fun z => by rw [z, hP] at g; cases g) g) fun d xs g => sx d _ (fun z => by rw [z, hP] at g; cases g) g
     rcases hd with hd | hd
     ·exact hb2 (hd.symm.trans z)
     ·rw [z, hP] at hd; cases hd
 ·refine kla_makeFunctionHit hcl I.ok.glob hns hcode hHd hPo htr hf (I.builtinsAt hB) fun ctv h' tk hk hsz => ?_
  refine h h'.objs.size c' _ ctv _ H (fun _ _ _ e => e) ⟨ps, hP, htr, .inr ⟨c', hf, hc'⟩⟩ (I.fpOk hsz (I.hok.fresh hsz)) (I.kept fun b o e => Heap.get?_push_of_some _ (hk b o e)) (Heap.get?_push_size _ rfl) hc'
end
def tSortK (K : PySem.W.Frag) (Pt : Addr) (lpos : Pos) (qual : Str) (i : Nat) (te tb : TE) : TE := fun σ H Q => te σ H fun y H1 => ∃ (p : Addr) (ns : List Int) (vx : V) (key : Int -> Int), y = .ref p /\ SqT K H1 p (ns.map V.int) /\ ns.length < 64 /\ TabH H1 Pt lpos qual /\ σ[i]? = some (some vx) /\
 (∀ H2, SameX Pt H1 H2 -> ∀ z ∈ ns, tb [some (.int z), some vx] H2 fun r H3 => r = .int (key z) /\ H3 = H2) /\
 ∀ (ms : List Int) (l : Addr) (H2 : Hp), StabK key ns ms -> SameX Pt H1 H2 -> TabH H2 Pt lpos qual -> H2 l = none -> Q (.ref l) (upd H2 l (.lst (ms.map V.int)))
section
variable {X : Cx} {p kp pos lpos : Pos} {e body : Expr} {params : Arguments} {scope : Scope} {te tb : TE} {v x : Str} {i k : Nat} {c Pt cc : Addr}
theorem SqT.samex {K : PySem.W.Frag} {H H2 : Hp} {a : Addr} {xs : List V} {qual : Str} (h : SqT K H a xs) (t : TabH H Pt lpos qual) (sx : SameX Pt H H2) : SqT K H2 a xs := by
 obtain ⟨ps, hP, _⟩ := t
 rcases h with (h | ⟨o, h⟩) | h
 ·exact .inl (.inl (sx _ _ (fun z => by rw [z, hP] at h; cases h) h))
 ·exact .inl (.inr ⟨o, sx _ _ (fun z => by rw [z, hP] at h; cases h) h⟩)
 ·exact .inr h
theorem pe_sortedK (he : PE X e te) (hg : Gl X (Str.ofString "sorted")) (hm : X.mg (Str.ofString "sorted") = none) (hr : Room (k + 3) X.A) (hex : X.ex = []) (hcode : X.env.code = .ref c) (hC : codeHdIn X.K c Pt = true) (hB : X.base.BuiltinsAt X.mg Pt) (hPg : mainGlobals ≠ Pt)
  (S : LamScope v x scope) (hcl : closureFor scope X.env = pure [(x, cc)]) (hdef : defaultsOf params X.env = ([], [])) (hbind : ∀ (c' : Addr) (pm ctv u : Value), bindArgs (kla_fn (Str.ofString "<lambda>") (X.env.qual ++ Str.ofString "<lambda>") params body scope [(x, cc)] pm (.ref c') ctv) ⟨[u], []⟩ = pure [(v, u)])
  (hi : X.N[i]? = some x) (hkx : X.env.kindOf x = some .cell) (hcx : X.env.cells.lookup x = some cc)
  (hb : ∀ (f c' : Addr) (A : Around) (outer : List Env) (s : Shared) (H : Hp), Room k (A.deeper (envX (X.env.qual ++ Str.ofString "<lambda>") scope s.heap.objs.size f (.ref c') [(x, cc)])) -> PE (cxLam X.prog X.w X.K X.mg X.base [v, x] (X.env.qual ++ Str.ofString "<lambda>") scope f (.ref c') [(x, cc)] A outer s H) body tb) (hs : starEach [e] X.env = [(false, eval e X.env)] := by rfl) :
  PE X (.Call (.Name (Str.ofString "sorted") p) [e] [⟨some (Str.ofString "key"), .Lambda params body scope lpos, kp⟩] pos) (tSortK X.K Pt lpos (X.env.qual ++ Str.ofString "<lambda>") i te tb) := by
 intro pins s σ H Q I h
 refine wpAny_Call_Name_kw (ld_blt I hg hm Boot.«sorted» ?_ (by decide) (by decide))
 have ha : PA X [e] (tCons te tNil) := pa_cons he pa_nil hs
 refine callWith_kw (thn (ha pos pins s σ H (fun vs H1 => match vs with
  | [y] => ∃ (p : Addr) (ns : List Int) (vx : V) (key : Int -> Int), y = .ref p /\ SqT X.K H1 p (ns.map V.int) /\ ns.length < 64 /\ TabH H1 Pt lpos (X.env.qual ++ Str.ofString "<lambda>") /\ σ[i]? = some (some vx) /\
   (∀ H2, SameX Pt H1 H2 -> ∀ z ∈ ns, tb [some (.int z), some vx] H2 fun r H3 => r = .int (key z) /\ H3 = H2) /\
   ∀ (ms : List Int) (l : Addr) (H2 : Hp), StabK key ns ms -> SameX Pt H1 H2 -> TabH H2 Pt lpos (X.env.qual ++ Str.ofString "<lambda>") -> H2 l = none -> Q (.ref l) (upd H2 l (.lst (ms.map V.int)))
  | _ => False) I h) fun us s1 hh => ?_) (by rw [hs]; rfl) (by rw [hs]; rfl) rfl rfl
 obtain ⟨vs, H1, I1, r, q⟩ := hh
 match vs, r, q with
 | [], _, q => exact False.elim q
 | _ :: _ :: _, _, q => exact False.elim q
 | [y], r, q =>
  obtain ⟨p2, ns, vx, key, rfl, hq, h64, hT, hσ, hk, q⟩ := q
  obtain ⟨u, rfl, ru⟩ := vals1 r
  obtain rfl : u = Value.ref p2 := ru
  refine kws_cons (lam_made I1 hcode hC hB hT hcl hdef hPg fun f c' pm ctv s2 H2 sx tab F I2 hf hc' => kws_nil ?_)
  have I3 := I2.pin1 F hf fun v z => by cases z
  have hq2 := SqT.samex hq hT sx
  obtain ⟨its, rv, ⟨ot, g1, g2, m, g3⟩, hz⟩ := I2.tuple hq2
  have hv := ints_of_vals rv
  refine sorted_key I3 g1 g2 g3 hv h64 (key := key) (fun pl z t s3 hmem J => ?_) fun s3 a m out ms Fa J hg2 hout hst => ?_
  ·-- the lambda called
   have hob : s3.heap.get? f = some (kla_obj (Str.ofString "<lambda>") (X.env.qual ++ Str.ofString "<lambda>") params body scope [(x, cc)] pm c' ctv) := (J.pin (f, _) (List.mem_append_right _ (List.mem_append_left _ (List.mem_append_right _ List.mem_cons_self)))).1
   obtain ⟨mm, _, hloc⟩ := J.loc
   obtain ⟨ux, rx, hlook⟩ := hloc i x vx hi hσ (.inr (.inl hkx))
   have hcell : s3.heap.IsCell cc (some ux) := by
    rcases hlook with ⟨kz, _⟩ | ⟨_, c2, e2, hc2⟩
    ·rw [hkx] at kz; cases kz
    ·rw [hcx] at e2; cases e2; exact hc2
   have hrec : s3.heap.CodeRec (.ref c') (X.env.qual ++ Str.ofString "<lambda>") := (J.hok c' _ hc').1
   have hr2 : Room (k + 1) X.A.in1.in1 := (hr.in1).in1
   refine wpAny_call (codeAny_mono (lam_run (u := .int z t) (vv := .int z) S hr2 J.env0.in1.in1 hob hrec (hbind c' pm ctv _) hcell rx (J.freeC x cc hcx) ⟨t, rfl⟩ (hb f c' _ _ s3 H2 (hr2.deeper _)) (hk H2 sx z hmem)) fun rr s4 hh => ?_)
   obtain ⟨u', rfl, ce⟩ := hh
   obtain ⟨v', H', J', rv', e1, e2⟩ := J.after ce
   subst e1 e2
   obtain ⟨t', rfl⟩ := rv'
   exact ⟨t', rfl, J'⟩
  ·have J0 : Inv X pins σ H2 s3 := J.unpinned
   have Fa0 : FpOk X pins H2 a := ⟨Fa.1, Fa.2.1, Fa.2.2.1, Fa.2.2.2.1, Fa.2.2.2.2.1, fun p hp => Fa.2.2.2.2.2 p (by
    rcases List.mem_append.mp hp with hp | hp
    ·exact List.mem_append_left _ hp
    ·exact List.mem_append_right _ (List.mem_append_left _ hp))⟩
   have hml : ms.length = ns.length := by
    obtain ⟨pp, h1, _, rfl⟩ := hst
    rw [List.length_map, h1.length_eq, List.length_range]
   refine ⟨.ref a, _, J0.adopt hex Fa0 (u := .lst (ms.map V.int)) ⟨?_, out.toList, m, vals_of_ints hout, by simpa using hg2⟩, rfl, q ms a H2 hst sx tab Fa.1⟩
   rw [List.length_map, hml]
   have : sizeLine = 16777216 := sizeLine_eq
   omega
end
def OnlyT (Pt : Addr) (H : Hp) : Prop := H Pt = some (.tbl #[]) /\ ∀ b, b = Pt \/ H b = none \/ ∃ o xs, H b = some (.frz o (.lst xs))
theorem law_callT {P : Program} {w : World} {K : PySem.W.Frag} {mg mb : Str -> Option Value} {CX : CXT} {k : Nat} {fa a Pt c : Addr} {fd : FuncData} {x : Str} {sp : Sp} {s₁ : Shared} {vs : List Value} {ns : List Int}
  (KX : K.In s₁.heap) (hns : s₁.heap.Ns mainGlobals mg) (hb : s₁.heap.Ns builtinsNs mb) (hbb : ∀ x : Str, x ≠ "__name__" -> mb x = bootBuiltins x) (hlim : s₁.heap.NoLimit) (hg : s₁.gens = #[])
  (hT : s₁.heap.get? Pt = some (tabObj #[])) (hC : codeHdIn K c Pt = true) (hKP : K.lookup Pt = none) (hbm : ∃ bm ob, mg (Str.ofString "__builtins__") = some (.ref bm) /\ bm ≠ builtinsNs /\ s₁.heap.get? bm = some ob /\ ob.cls = .type "module" /\ ob.dict = some builtinsNs /\ ob.data = .plain)
  (ha : s₁.heap.get? a = some { cls := .type "list", data := .seq vs.toArray }) (hi : IntsAre vs ns) (hl : ns.length <= sizeLine) (hr : Room k callerA)
  (F : ∀ base : Heap, K.In base -> base.Ns mainGlobals mg -> base.BuiltinsAt mg Pt -> FnOk P w K mg base CX k fa fd [x] sp) (hbind : ∀ (s : Shared) (u : Value), BindsTo s fd ⟨[u], []⟩ [(x, u)])
  (hsp : ∀ H : Hp, OnlyT Pt H -> SqL K H a (ns.map V.int) -> sp [.ref a] H (fun v _ => v = .bl true) fun _ _ _ => False)
  (hCX : ∀ H e s', CX [] H s₁ (fun _ _ _ => False) e s' -> False) :
  codeAny (model P w) callerA (.call (.ref fa) ⟨[.ref a], []⟩) (fun r s' => r = .ok (.ret (.bool true)) /\ OldK s₁.heap s'.heap /\ s'.os = s₁.os /\ AllBare s'.gens) s₁ := by
 have rv := vals_ints hi
 have lenV := hi.length
 have haP : a ≠ Pt := fun z => by rw [z, hT] at ha; cases ha
 have core : ∀ H : Hp, OnlyT Pt H -> SqL K H a (ns.map V.int) -> HOk P w H s₁.heap -> (∀ b, H b ≠ none -> b = a \/ b = Pt) -> (H a ≠ none -> K.lookup a = none) ->
   codeAny (model P w) callerA (.call (.ref fa) ⟨[.ref a], []⟩) (fun r s' => r = .ok (.ret (.bool true)) /\ OldK s₁.heap s'.heap /\ s'.os = s₁.os /\ AllBare s'.gens) s₁ := by
  intro H hO hS hok hA hK
  have base_of : ∀ {b : Addr} {o : Obj}, s₁.heap.get? b = some o -> H b = none -> (hidT s₁.heap H).get? b = some o := fun e n => hidT_get e n
  have free : ∀ {b : Addr} {o : Obj}, s₁.heap.get? b = some o -> (∀ its n, o.data ≠ .seq its n) -> (∀ vs, o.data ≠ .fields vs) -> H b = none := fun {b o} e d1 d2 => by
   cases q : H b with
   | none => rfl
   | some u =>
    rcases hA b (by rw [q]; simp) with e' | e'
    ·subst e'
     rw [ha] at e; cases e
     exact absurd rfl (d1 _ _)
    ·subst e'
     rw [hT] at e; cases e
     exact absurd rfl (d2 _)
  have nsK : ∀ {b : Addr} {m : Str -> Option Value}, s₁.heap.Ns b m -> (hidT s₁.heap H).Ns b m := fun {b m} ⟨o, es, ep, e, d, r⟩ => ⟨o, es, ep, base_of e (free e (fun _ _ z => by rw [d] at z; cases z) fun _ z => by rw [d] at z; cases z), d, r⟩
  have hKb : K.In (hidT s₁.heap H) := fun b o e => base_of (KX b o e) (by
   cases q : H b with
   | none => rfl
   | some u =>
    rcases hA b (by rw [q]; simp) with e' | e'
    ·subst e'
     rw [hK (by rw [q]; simp)] at e; cases e
    ·subst e'
     rw [hKP] at e; cases e)
  have hM : Mod K mg (hidT s₁.heap H) := ⟨hKb, nsK hns, ⟨mb, nsK hb, hbb⟩, let ⟨mc, h1, h2⟩ := hlim; ⟨mc, nsK h1, h2⟩⟩
  have hB : (hidT s₁.heap H).BuiltinsAt mg Pt := by
   obtain ⟨bm, ob, b1, b2, b3, b4, b5, b6⟩ := hbm
   refine ⟨bm, ob, b1, b2, fun z => ?_, fun z => ?_, base_of b3 (free b3 (fun _ _ z => by rw [b6] at z; cases z) fun _ z => by rw [b6] at z; cases z), b4, b5, b6⟩
   ·obtain ⟨o, es, ep, e, d, _⟩ := hns
    rw [z, e] at b3; cases b3; rw [d] at b6; cases b6
   ·rw [z, hT] at b3; cases b3; cases b4
  have e0 : Env0 P w K mg (hidT s₁.heap H) callerA [] s₁ H := ⟨rfl, hM, fun b o e => of_hidT e, Nat.le_of_eq (hidT_size _ _), trivial, fun b hb => absurd (show b ∈ ([] : List Addr) from hb) (by simp), hok, .of_eq hg⟩
  refine codeAny_mono ((F _ hKb (nsK hns) hB).run callerA [] s₁ H ⟨[.ref a], []⟩ [.ref a] [.ref a] _ _ hr e0 (hbind s₁ (.ref a)) (.cons rfl .nil) (hsp H hO hS)) fun r s' h => ?_
  cases r with
  | error e => exact (hCX H e s' h).elim
  | ok fl =>
   cases fl with
   | next => exact False.elim h
   | brk => exact False.elim h
   | cont => exact False.elim h
   | ret u =>
    obtain ⟨v, H', os, bare, un, hok', r', q⟩ := h
    have q' : v = .bl true := q
    subst q'
    obtain rfl : u = Value.bool true := r'
    obtain ⟨more, eP⟩ := un.tbls Pt #[] hO.1
    have hP' : s'.heap.get? Pt = some { cls := .none, data := .fields (#[] ++ more) } := hok' Pt _ eP
    have kept : ∀ b o, b ≠ Pt -> s₁.heap.get? b = some o -> s'.heap.get? b = some o := fun b o hbP e => by
     cases q : H b with
     | none => exact un.keep b o e q (by intro z; exact absurd (show b ∈ ([] : List Addr) from z) (by simp)) (by simp)
     | some u =>
      rcases hO.2 b with z | z | ⟨ob, xs, z⟩
      ·exact absurd z hbP
      ·rw [q] at z; cases z
      ·have z2 := un.frzs b ob _ z
       obtain ⟨e1, _⟩ := hok b _ z
       obtain ⟨e2, _⟩ := hok' b _ z2
       rw [e] at e1; cases e1
       exact e2
    refine ⟨rfl, ⟨fun b o e => ?_, fun b o e => ?_⟩, os, bare⟩
    ·by_cases hbP : b = Pt
     ·subst hbP
      rw [hT] at e
      obtain rfl := Option.some.inj e
      obtain ⟨oc, vsc, _, _, _, _, _, _, _, c1, c2, c3, c4, _⟩ := codeHd_of_K KX hC
      exact .inr (.inl ⟨⟨c, oc, vsc, c1, c2, c3, c4⟩, rfl, #[], more, rfl, hP'⟩)
     ·exact .inl (kept b o hbP e)
    ·by_cases hbP : b = Pt
     ·rw [hbP]; exact ⟨_, hP'⟩
     ·exact ⟨o, kept b o hbP e⟩
 cases hk : K.lookup a with
 | some o =>
  have e := KX a o hk
  rw [ha] at e
  cases e
  refine core (fun b => if b = Pt then some (.tbl #[]) else none) ⟨if_pos rfl, fun b => ?_⟩ (.inr ⟨_, vs.toArray, _, hk, rfl, rfl, rfl, by rw [List.size_toArray, lenV]; exact hl, by simpa using rv⟩) (fun b u z => ?_) (fun b z => ?_) fun z => absurd (if_neg haP) z
  ·by_cases hbP : b = Pt
   ·exact .inl hbP
   ·exact .inr (.inl (if_neg hbP))
  ·by_cases hbP : b = Pt
   ·have z' := (if_pos hbP).symm.trans z
    cases z'
    subst hbP
    exact hT
   ·have z' := (if_neg hbP).symm.trans z
    cases z'
  ·by_cases hbP : b = Pt
   ·exact .inr hbP
   ·exact absurd (if_neg hbP) z
 | none =>
  refine core (fun b => if b = Pt then some (.tbl #[]) else if b = a then some (.frz { cls := .type "list", data := .seq vs.toArray } (.lst (ns.map V.int))) else none) ⟨if_pos rfl, fun b => ?_⟩ (.inl (.inr ⟨{ cls := .type "list", data := .seq vs.toArray }, (if_neg haP).trans (if_pos rfl)⟩)) (fun b u z => ?_) (fun b z => ?_) fun _ => hk
  ·by_cases hbP : b = Pt
   ·exact .inl hbP
   ·by_cases hb : b = a
    ·exact .inr (.inr ⟨_, _, (if_neg hbP).trans (if_pos hb)⟩)
    ·exact .inr (.inl ((if_neg hbP).trans (if_neg hb)))
  ·by_cases hbP : b = Pt
   ·have z' := (if_pos hbP).symm.trans z
    cases z'
    subst hbP
    exact hT
   ·by_cases hb : b = a
    ·have z' := ((if_neg hbP).trans (if_pos hb)).symm.trans z
     cases z'
     subst hb
     exact ⟨ha, by rw [List.length_map]; exact hl, vs, _, rv, ha⟩
    ·have z' := ((if_neg hbP).trans (if_neg hb)).symm.trans z
     cases z'
  ·by_cases hbP : b = Pt
   ·exact .inr hbP
   ·by_cases hb : b = a
    ·exact .inl hb
    ·exact absurd ((if_neg hbP).trans (if_neg hb)) z
theorem walk_ofT {l : PySem.W.OpenLaw} {n k : Nat} {q : Program} {loose : List Str} {XP : (Str -> Option Value) -> Heap -> Prop} {YP : World -> Heap -> Prop} {d : DefRec} {K : Params -> PySem.W.Frag} {CX : CXT} {sp : PySem.W.Frag -> Sp} {x : Str} {c Pt : Addr}
  (hn : l.most = some n) (hn2 : n <= sizeLine) (hdf : d.params.defaults = []) (hr : Room k callerA)
  (hY : ∀ (w : World) (h : Heap), YP w h -> (K w.params).In h /\ h.get? Pt = some (tabObj #[])) (hC : ∀ w : World, codeHdIn (K w.params) c Pt = true) (hKP : ∀ w : World, (K w.params).lookup Pt = none)
  (F : ∀ (w : World) (mg : Str -> Option Value) (fa : Addr) (h : Heap), (K w.params).In h -> h.Ns mainGlobals mg -> mg d.name = some (.ref fa) ->
   ∃ fd : FuncData, (∀ (s : Shared) (u : Value), BindsTo s fd ⟨[u], []⟩ [(x, u)]) /\
    ∀ base : Heap, (K w.params).In base -> base.Ns mainGlobals mg -> base.BuiltinsAt mg Pt -> FnOk l.prog w (K w.params) mg base CX k fa fd [x] (sp (K w.params)))
  (hsp : ∀ (w : World) (H : Hp) (a : Addr) (ns : List Int), ns.length <= n -> OnlyT Pt H -> SqL (K w.params) H a (ns.map V.int) -> sp (K w.params) [.ref a] H (fun v _ => v = .bl true) fun _ _ _ => False)
  (hCX : ∀ (H : Hp) (s : Shared) (e : Value) (s' : Shared), CX [] H s (fun _ _ _ => False) e s' -> False) :
  PySem.W.WalkO q loose XP YP l.row.toRowW d [] (fun f vs => PySem.call f vs) := by
 refine Att.attach_call hn hdf fun w s₀ s₁ mg mb fa o pm cd doc a vs ns G Y ho hd hcd hmg hobj hints hlen hg => ?_
 obtain ⟨KX, hT⟩ := hY w _ Y
 obtain ⟨fd, hb, hF⟩ := F w mg fa _ KX G.T.g hmg
 exact law_callT KX G.T.g G.T.b G.T.builtins G.T.nolimit hg hT (hC w) (hKP w) G.T.bmain hobj hints (Nat.le_trans hlen hn2) hr hF hb (fun H hO hS => hsp w H a ns hlen hO hS) fun H e s' => hCX H s₁ e s'
def LamAt (K : PySem.W.Frag) (mg : Str -> Option Value) (base : Heap) (fd : FuncData) (Pt : Addr) : Prop := ∃ c, fd.code = .ref c /\ codeHdIn K c Pt = true /\ base.BuiltinsAt mg Pt /\ mainGlobals ≠ Pt
theorem LamScope.of {v x : Str} {sc : Scope} (h1 : sc.kind = .function) (h2 : sc.isCoroutine = false) (h3 : sc.isGenerator = false) (h4 : sc.names = [(v, .local), (x, .free)] \/ sc.names = [(x, .free), (v, .local)]) (hn : v ≠ x) : LamScope v x sc := by
 have b1 : (v == x) = false := beq_false_of_ne hn
 have b2 : (x == v) = false := beq_false_of_ne (Ne.symm hn)
 refine ⟨h1, h2, h3, fun y hy => ?_, ?_, ?_, fun y hy => ?_, hn⟩
 ·have l1 : NameKind.local ≠ NameKind.cell := by decide
  have l2 : NameKind.free ≠ NameKind.cell := by decide
  rcases h4 with e | e <;> rw [e] at hy <;> rcases List.mem_cons.mp hy with rfl | hy
  ·exact l1
  ·rw [List.mem_singleton.mp hy]; exact l2
  ·exact l2
  ·rw [List.mem_singleton.mp hy]; exact l1
 ·rcases h4 with e | e <;> rw [e] <;> simp [List.lookup, b1, b2]
 ·rcases h4 with e | e <;> rw [e] <;> simp [List.lookup, b1, b2]
 ·rcases h4 with e | e <;> rw [e] at hy <;> simp only [List.lookup] at hy
  ·split at hy
   ·cases hy
   ·split at hy
    ·rename_i q; exact beq_iff_eq.mp q
    ·cases hy
  ·split at hy
   ·rename_i q; exact beq_iff_eq.mp q
   ·split at hy
    ·cases hy
    ·cases hy
section
variable {P : Program} {w : World} {K : PySem.W.Frag} {mg : Str -> Option Value} {base : Heap}
theorem Fun.okL {x qual : Str} {st : Stmt} {f c : Addr} {fd : FuncData} {N ps : List Str} {k : Nat} {sp : Sp} (F : Fun K x qual st f fd) (hc : fd.code = .ref c) (S : FnScope N ps (defScope st)) (len : ∀ vs H Q E, sp vs H Q E -> vs.length = ps.length)
  (hbody : ∀ (A : Around) (outer : List Env) (s : Shared) (H : Hp) (vs : List V) (Q : VK) (E : XK), Room k (A.deeper (envOfC qual (defScope st) s.heap.objs.size f (.ref c))) -> sp vs H Q E ->
   ∃ t, PSs (cxOf CX0 P w K mg base N qual (defScope st) f (.ref c) A outer s H E).nox (defBody st) t /\ t { nx := fun _ H' => Q .non H', rt := Q } (start N vs) H) : FnOk P w K mg base CX0 (k + 1) f fd ps sp := by
 obtain ⟨oc, od, kV, doc, pm, an, cdv, ct, osl, rfl, lk, hcd⟩ := F.ex
 obtain rfl : cdv = .ref c := hc
 refine fn_of lk hcd S len fun A outer s H vs Q E hr hsp => ?_
 obtain ⟨t, h, q⟩ := hbody A outer s H vs Q E hr hsp
 exact ⟨t, h.nox, q⟩
end
end L2
namespace My
open PySem L2
def FXL (K : PySem.W.Frag) (mg : Str -> Option Value) (x qual : Str) (st : Stmt) (Pt : Addr) : Prop := ∃ (f : Addr) (fd : FuncData) (c : Addr), mg x = some (.ref f) /\ Fun K x qual st f fd /\ fd.code = .ref c /\ PySem.W.codeHdIn K c Pt = true
theorem fxl_mk {K : PySem.W.Frag} {h : Heap} {mg : Str -> Option Value} {x : Str} {st : Stmt} {f cA Pt : Addr} {oc : Value} {od an : Option Addr} {osl : Array (Option Value)} {kV doc pm ct : Value} (X : K.In h) (G : h.Ns mainGlobals mg)
  (a : PySem.W.nsIn K mainGlobals x = some (some (.ref f))) (l : K.lookup f = some ⟨oc, od, .func (PySem.W.fnOf x x (defArgs st) (defBody st) (defScope st) .none kV doc pm an (.ref cA) ct), osl⟩) (c : PySem.W.codeIn K (.ref cA) x = true) (k : PySem.W.keepIn K (.ref f) = true) (z : PySem.W.codeHdIn K cA Pt = true) : FXL K mg x x st Pt :=
 ⟨f, _, cA, PySem.W.mg_of X G a, fun_mk l c k, rfl, z⟩
end My
namespace L2
open PySem PySem.Spec PyProof.Rows PySem.MeetsSeq
theorem rem_loop (l : Addr) (xs : Array Value) (n : Nat) (v : Value) (g : Value -> Bool) (j : Nat) (hj : j < xs.size) (yes : g xs[j] = true) (hz : xs.size <= sizeLine) : ∀ (k i : Nat), j - i = k -> i <= j -> (∀ m (hm : m < xs.size), i <= m -> m < j -> g xs[m] = false) ->
  Meets (Builtin.«list.remove.loop» ⟨[.ref l, v, rawInt i], []⟩) (fun A R s => s.heap.get? l = some { cls := .type "list", dict := none, data := .seq xs n, slots := #[] } /\ (∀ y, y ∈ xs -> SeqAt.EqAt A.in1 s y v (g y)) /\ R (.ok (.ret .none)) { s with heap := s.heap.update l (Obj.mapSeq fun ys => ys.eraseIdxIfInBounds j) }) := by
 intro k
 induction k with
 | zero =>
  intro i e1 e2 no prog w A R s h
  obtain ⟨hp, gs, d, tk, os⟩ := s
  obtain ⟨ho, he, h⟩ := h
  obtain rfl : i = j := by omega
  wp_walk using (wpAny_loadPart' ho)
  have at_ : xs[((i : Nat) : Int).toNat]? = some xs[i] := by simp [hj]
  rw [at_]
  refine wpAny_bind (he _ (Array.getElem_mem hj) prog w _ _ ?_)
  rw [yes]
  have hz2 : (xs.eraseIdxIfInBounds i).size <= sizeLine + 1 := Nat.le_trans (size_erased xs _) (Nat.le_succ_of_le hz)
  wp_walk using (wpAny_updateSeq ho rfl (hz := hz) (_hz' := hz2)), (wpAny_loadPart' ho)
  simpa using h
 | succ k ih =>
  intro i e1 e2 no prog w A R s h
  obtain ⟨hp, gs, d, tk, os⟩ := s
  obtain ⟨ho, he, h⟩ := h
  have lt : i < xs.size := by omega
  wp_walk using (wpAny_loadPart' ho)
  have at_ : xs[((i : Nat) : Int).toNat]? = some xs[i] := by simp [lt]
  have nx : ((i : Int) + 1) = ((i + 1 : Nat) : Int) := by push_cast; rfl
  rw [at_]
  refine wpAny_bind (he _ (Array.getElem_mem lt) prog w _ _ ?_)
  rw [no i lt (Nat.le_refl _) (by omega)]
  wp_walk
  rw [nx]
  refine ⟨plainId_quiet plain_remove_loop _, codeAny_builtin entry_remove_loop ?_⟩
  rw [Around.under_plainId plain_remove_loop _]
  exact ih (i + 1) (by omega) (by omega) (fun m hm a b => no m hm (by omega) b) prog w A R _ ⟨ho, he, h⟩
theorem rem_meets (l : Addr) (xs : Array Value) (n : Nat) (v : Value) (g : Value -> Bool) (j : Nat) (hj : j < xs.size) (yes : g xs[j] = true) (no : ∀ m (hm : m < xs.size), m < j -> g xs[m] = false) (hz : xs.size <= sizeLine) :
  Meets (Builtin.«list.remove» ⟨[.ref l, v], []⟩) (fun A R s => s.heap.get? l = some { cls := .type "list", dict := none, data := .seq xs n, slots := #[] } /\ (∀ y, y ∈ xs -> SeqAt.EqAt A.in1 s y v (g y)) /\ R (.ok (.ret .none)) { s with heap := s.heap.update l (Obj.mapSeq fun ys => ys.eraseIdxIfInBounds j) }) := by
 intro prog w A R s h
 obtain ⟨hp, gs, d, tk, os⟩ := s
 obtain ⟨ho, he, h⟩ := h
 wp_walk using (wpAny_loadPart' ho)
 refine ⟨plainId_quiet plain_remove_loop _, codeAny_builtin entry_remove_loop ?_⟩
 rw [Around.under_plainId plain_remove_loop _]
 exact rem_loop l xs n v g j hj yes hz _ 0 rfl (Nat.zero_le _) (fun m hm _ b => no m hm b) prog w A R _ ⟨ho, he, h⟩
section
variable {X : Cx}
def rRemove (K : PySem.W.Frag) : V -> List V -> Hp -> VK -> Prop := fun x vs H Q => ∃ (n : Nat) (l : Addr) (xs : List V) (y : V) (e : Addr -> Bool) (j : Nat) (a : Addr), x = .ref l /\ vs = [y] /\ H l = some (.lst xs) /\ n <= 6 /\ (∀ v ∈ xs, ∃ a, v = .ref a /\ EqD K H n v y (e a)) /\ xs[j]? = some (.ref a) /\ e a = true /\ (∀ m b, m < j -> xs[m]? = some (.ref b) -> e b = false) /\ Q .non (upd H l (.lst (xs.eraseIdx j)))
theorem Vals.erase {xs : List V} {us : List Value} (r : Vals xs us) (j : Nat) : Vals (xs.eraseIdx j) (us.eraseIdx j) := by
 rw [List.eraseIdx_eq_take_drop_succ, List.eraseIdx_eq_take_drop_succ]
 exact (r.take _).append (r.drop _)
theorem mt_removeR (K : PySem.W.Frag) (hu : X.A.units + 8 < cLine) (hk : X.K = K := by rfl) : MtM X "list.remove" (rRemove K) := by
 subst hk
 intro pins s σ H x vs v us Q I rx rv h
 obtain ⟨n, l, xs, y, e, j, a, rfl, rfl, hH, hn, he, hj, hy, hno, q⟩ := h
 cases rx
 obtain ⟨u, rfl, ru⟩ := rv.one
 obtain ⟨z, its, m, r, hl, ho⟩ := I.lstM hH
 have hjl : j < xs.length := (List.getElem?_eq_some_iff.mp hj).1
 have at_ : ∀ (i : Nat) (hi : i < its.toArray.size), ∃ b, xs[i]? = some (.ref b) /\ its.toArray[i] = .ref b := fun i hi => by
  have hi2 : i < its.length := by simpa using hi
  obtain ⟨w, ew, rw'⟩ := r.at hi2
  obtain ⟨b, rfl, _⟩ := he w (List.mem_of_getElem? ew)
  have e3 : its[i] = Value.ref b := rw'
  exact ⟨b, ew, by simpa using e3⟩
 have hjs : j < its.toArray.size := by rw [List.size_toArray]; omega
 refine call_meets F.slot_list_remove ⟨_, ho, rfl⟩ F.entry_list_remove (F.args_list_remove_2 _ _) (rem_meets l its.toArray m u (fun w => match w with | .ref b => e b | _ => false) j hjs ?_ ?_ (by rw [List.size_toArray]; omega)) ⟨ho, fun w hw => ?_, ?_⟩
 ·obtain ⟨b, e1, e2⟩ := at_ j hjs
  rw [hj] at e1
  cases e1
  rw [e2]
  exact hy
 ·intro i hi hij
  obtain ⟨b, e1, e2⟩ := at_ i hi
  rw [e2]
  exact hno i b hij e1
 ·exact mem_refB I (by show X.A.units + 1 + n < cLine; omega) ru r he w (by simpa using hw)
 ·refine ⟨.non, _, I.lset (its' := its.eraseIdx j) hH ho ?_ (r.erase j) ?_, rfl, q⟩
  ·rw [Array.eraseIdxIfInBounds_eq, dif_pos hjs]
   apply Array.ext'
   simp
  ·rw [List.length_eraseIdx, if_pos hjl]
   omega
end
end L2
namespace My
open PySem L2
def ClsT (n : Int) (ps : List (Int × Int)) (I O W : List Int) : Prop := IsTree n ps W /\ (∀ z ∈ I, z ∈ W) /\ ∀ z ∈ O, z ∉ W
def pl (ls T U : List Int) : Prop := HT.ltP (sumL ls T, T) (sumL ls U, U) = true
theorem pl_iff {ls T U : List Int} : pl ls T U ↔ sumL ls T < sumL ls U \/ (sumL ls T = sumL ls U /\ HT.lexLt T U = true) := HT.ltP_iff
theorem pl.trans {ls T U W : List Int} (h1 : pl ls T U) (h2 : pl ls U W) : pl ls T W := HT.ltP_trans h1 h2
theorem pl_irrefl {ls T : List Int} : ¬ pl ls T T := fun h => by
 have := HT.ltP_irrefl (sumL ls T, T)
 unfold pl at h
 rw [this] at h
 cases h
def OrdL (ls : List Int) (m : Nat) (os : List Int) : Prop := os.Perm (rgL m) /\ os.Pairwise fun x y => lnz ls x < lnz ls y \/ (lnz ls x = lnz ls y /\ x < y)
theorem tree_eqs {n : Int} {ps : List (Int × Int)} {T W : List Int} (g : GoodW n ps) (hT : IsTree n ps T) (hW : IsTree n ps W) (h : ∀ z ∈ T, z ∈ W) : T = W :=
 asc_ext (tree_asc hT) (tree_asc hW) fun z => (tree_sub g hT hW h).mem_iff
section
variable {n : Int} {ps : List (Int × Int)} {ls os I O ms : List Int} (g : GoodW n ps) (ho : OrdL ls ps.length os)
include g ho
theorem ord_all {z : Int} : z ∈ os ↔ 0 <= z /\ z < (ps.length : Int) := by rw [ho.1.mem_iff, rgL_mem]
theorem gr_all (hI : ∀ z ∈ I, 0 <= z /\ z < (ps.length : Int)) : ∀ z ∈ I ++ os.filter fun z => decide (z ∉ O), 0 <= z /\ z < (ps.length : Int) := fun z hz => by
 rcases List.mem_append.mp hz with hz | hz
 ·exact hI z hz
 ·exact (ord_all g ho).mp (List.mem_filter.mp hz).1
theorem cls_in {W : List Int} (hW : ClsT n ps I O W) : ∀ z ∈ W, z ∈ I ++ os.filter fun z => decide (z ∉ O) := fun z hz =>
 List.mem_append_right _ (List.mem_filter.mpr ⟨(ord_all g ho).mpr (hW.1.1.all z hz), decide_eq_true fun h => hW.2.2 z h hz⟩)
theorem gr_none (hI : ∀ z ∈ I, 0 <= z /\ z < (ps.length : Int)) (hn : I.Nodup) (h : ¬ ((grw n.toNat ps (I ++ os.filter fun z => decide (z ∉ O))).take I.length = I /\ ¬ ((grw n.toNat ps (I ++ os.filter fun z => decide (z ∉ O))).length : Int) < n - 1)) (W : List Int) : ¬ ClsT n ps I O W := fun hW =>
 h (grow_ok g hW.1 hn hW.2.1 (cls_in g ho hW) (gr_all g ho hI))
theorem gr_best (hI : ∀ z ∈ I, 0 <= z /\ z < (ps.length : Int)) (hIO : ∀ z ∈ I, z ∉ O) (h1 : (grw n.toNat ps (I ++ os.filter fun z => decide (z ∉ O))).take I.length = I) (h2 : ¬ ((grw n.toNat ps (I ++ os.filter fun z => decide (z ∉ O))).length : Int) < n - 1)
  (hp : ms.Perm (grw n.toNat ps (I ++ os.filter fun z => decide (z ∉ O)))) (hs : ms.Pairwise (· <= ·)) : ClsT n ps I O ms /\ ∀ W, ClsT n ps I O W -> W = ms \/ pl ls ms W := by
 have hb := gr_all (O := O) g ho hI
 have hT := grw_is_tree g hb h2 hp hs
 have hin : ∀ z ∈ ms, z ∈ I ++ os.filter fun z => decide (z ∉ O) := fun z hz => (grw_sub _ _ _).subset (hp.mem_iff.mp hz)
 have hIm : ∀ z ∈ I, z ∈ ms := fun z hz => hp.mem_iff.mpr (List.mem_of_mem_take (h1.symm ▸ hz))
 have hOm : ∀ z ∈ O, z ∉ ms := fun z hz hm => by
  rcases List.mem_append.mp (hin z hm) with h | h
  ·exact hIO z h hz
  ·exact of_decide_eq_true (List.mem_filter.mp h).2 hz
 have before : ∀ z y, z ∉ I -> y ∉ ms -> y ∉ O -> exg n ps ms z y -> lnz ls z < lnz ls y \/ (lnz ls z = lnz ls y /\ z < y) := fun z y hzI hym hyO hx => by
  obtain ⟨hzm, _, y0, y1, _⟩ := (exg_iff g hT).mp hx
  have hyd : y ∈ os.filter fun z => decide (z ∉ O) := List.mem_filter.mpr ⟨(ord_all g ho).mpr ⟨y0, y1⟩, decide_eq_true hyO⟩
  obtain ⟨as, bs, ed⟩ := List.append_of_mem hyd
  have hb' : ∀ z ∈ I ++ as, 0 <= z /\ z < (ps.length : Int) := fun z hz => hb z ((List.mem_append.mp hz).elim (fun h => List.mem_append_left _ h) fun h => List.mem_append_right _ (by rw [ed]; exact List.mem_append_left _ h))
  have hyG : y ∉ grw n.toNat ps ((I ++ as) ++ y :: bs) := by
   rw [List.append_assoc, <- ed]
   exact fun h => hym (hp.mem_iff.mpr h)
  have c := grw_left g hb' y0 y1 hyG
  have hz2 : z ∈ grw n.toNat ps (I ++ as) := Classical.byContradiction fun hno => (cutT_mem g hT y0 y1).mp hx.2.2 (c.mono (ends_sub fun x hxx => wo_mem.mpr ⟨hp.mem_iff.mpr (by
   have := grw_mono (bs := y :: bs) hxx
   rw [List.append_assoc, <- ed] at this
   exact this), fun e => hno (by rw [<- e]; exact hxx)⟩))
  have hza : z ∈ as := (List.mem_append.mp ((grw_sub _ _ _).subset hz2)).resolve_left hzI
  have pw := ho.2.sublist (List.filter_sublist (p := fun z => decide (z ∉ O)))
  rw [ed] at pw
  exact (List.pairwise_append.mp pw).2.2 z hza y List.mem_cons_self
 refine ⟨⟨hT, hIm, hOm⟩, ?_⟩
 have main : ∀ (k : Nat) (W : List Int), ClsT n ps I O W -> (W.filter fun z => decide (z ∉ ms)).length = k -> W = ms \/ pl ls ms W := by
  intro k
  induction k with
  | zero =>
   intro W hW hk
   have hsub : ∀ z ∈ W, z ∈ ms := fun z hz => Classical.byContradiction fun hn => by
    have : z ∈ W.filter fun z => decide (z ∉ ms) := List.mem_filter.mpr ⟨hz, decide_eq_true hn⟩
    rw [List.length_eq_zero_iff.mp hk] at this
    cases this
   exact .inl (tree_eqs g hW.1 hT hsub)
  | succ k ih =>
   intro W hW hk
   obtain ⟨y, hy⟩ : ∃ y, y ∈ W.filter fun z => decide (z ∉ ms) := List.exists_mem_of_length_pos (by omega)
   obtain ⟨hyW, hym⟩ := List.mem_filter.mp hy
   have hym := of_decide_eq_true hym
   obtain ⟨z, e1, e2⟩ := partner_ex g hW.1 hT hyW hym
   have hzW : z ∉ W := ((exg_iff g hW.1).mp e1).2.1
   have hzm : z ∈ ms := e2.1
   have hord := before z y (fun h => hzW (hW.2.1 z h)) hym (fun h => hW.2.2 y h hyW) e2
   obtain ⟨M, hM1, hM2⟩ := sort_ex (wo W y ++ [z])
   have tM := exg_tree g hW.1 e1 hM1 hM2
   have sM := sumL_exch (ls := ls) hW.1.1.nodup hyW hM1
   have mem : ∀ x, x ∈ M ↔ (x ∈ W /\ x ≠ y) \/ x = z := fun x => exg_mem g hW.1 e1 hM1 hM2
   have cM : ClsT n ps I O M := ⟨tM, fun x hx => (mem x).mpr (.inl ⟨hW.2.1 x hx, fun e => hym (e ▸ hIm x hx)⟩), fun x hx h => by
    rcases (mem x).mp h with h | h
    ·exact hW.2.2 x hx h.1
    ·exact hOm x hx (h ▸ hzm)⟩
   have lM : pl ls M W := by
    rw [pl_iff]
    rcases hord with h | ⟨h, h'⟩
    ·exact .inl (by omega)
    ·refine .inr ⟨by omega, (lex_first (isSet_iff.mp tM.1).2 (isSet_iff.mp hW.1.1).2 (by have := tM.2.1; have := hW.1.2.1; omega)).mpr ⟨z, (mem z).mpr (.inr rfl), hzW, fun s hs => ?_⟩⟩
     rw [mem]
     constructor
     ·rintro (q | q)
      ·exact q.1
      ·omega
     ·exact fun q => .inl ⟨q, by omega⟩
   have hk2 : (M.filter fun z => decide (z ∉ ms)).length = k := by
    have hx : ∀ x, x ∈ y :: (M.filter fun z => decide (z ∉ ms)) ↔ x ∈ W.filter fun z => decide (z ∉ ms) := fun x => by
     rw [List.mem_cons, List.mem_filter, List.mem_filter, mem]
     constructor
     ·rintro (q | ⟨q | q, q2⟩)
      ·rw [q]; exact ⟨hyW, decide_eq_true hym⟩
      ·exact ⟨q.1, q2⟩
      ·exact absurd (q ▸ hzm) (of_decide_eq_true q2)
     ·rintro ⟨q1, q2⟩
      by_cases c : x = y
      ·exact .inl c
      ·exact .inr ⟨.inl ⟨q1, c⟩, q2⟩
    have nd : (y :: (M.filter fun z => decide (z ∉ ms))).Nodup := List.nodup_cons.mpr ⟨fun h => by
     rcases (mem y).mp (List.mem_filter.mp h).1 with q | q
     ·exact q.2 rfl
     ·exact hym (q ▸ hzm), tM.1.nodup.filter _⟩
    have l1 := sub_len nd fun x h => (hx x).mp h
    have l2 := sub_len (hW.1.1.nodup.filter fun z => decide (z ∉ ms)) fun x h => (hx x).mpr h
    rw [List.length_cons] at l1 l2
    omega
   rcases ih M cM hk2 with q | q
   ·exact .inr (q ▸ lM)
   ·exact .inr (q.trans lM)
 exact fun W hW => main _ W hW rfl
end
structure Ent where
 T : List Int
 I : List Int
 O : List Int
deriving DecidableEq
def ECl (n : Int) (ps : List (Int × Int)) (E : Ent) (W : List Int) : Prop := ClsT n ps E.I E.O W
structure EOk (n : Int) (ps : List (Int × Int)) (ls : List Int) (E : Ent) : Prop where
 own : ECl n ps E E.T
 min : ∀ W, ECl n ps E W -> W = E.T \/ pl ls E.T W
 iN : E.I.Nodup
 oN : E.O.Nodup
 oR : ∀ z ∈ E.O, 0 <= z /\ z < (ps.length : Int)
def Dsj (n : Int) (ps : List (Int × Int)) (E F : Ent) : Prop := ∀ W, ECl n ps E W -> ¬ ECl n ps F W
theorem Dsj.symm {n : Int} {ps : List (Int × Int)} {E F : Ent} (h : Dsj n ps E F) : Dsj n ps F E := fun W a b => h W b a
theorem EOk.iL {n : Int} {ps : List (Int × Int)} {ls : List Int} {E : Ent} (h : EOk n ps ls E) : E.I.length <= E.T.length := sub_len h.iN h.own.2.1
theorem EOk.oL {n : Int} {ps : List (Int × Int)} {ls : List Int} {E : Ent} (h : EOk n ps ls E) : E.O.length <= ps.length := by
 have := sub_len (m := rgL ps.length) h.oN fun z hz => rgL_mem.mpr (h.oR z hz)
 rw [rgL_length] at this
 exact this
structure FB (n : Int) (ps : List (Int × Int)) (ls : List Int) (E : Ent) (l : List Int) (Es : List Ent) : Prop where
 ok : ∀ F ∈ Es, EOk n ps ls F
 sub : ∀ F ∈ Es, ∀ W, ECl n ps F W -> ECl n ps E W
 cov : ∀ W, ECl n ps E W -> ((∃ t ∈ l, t ∉ W) ↔ ∃ F ∈ Es, ECl n ps F W)
 dsj : Es.Pairwise (Dsj n ps)
section
variable {n : Int} {ps : List (Int × Int)} {ls os : List Int} {E : Ent} {l : List Int} {Es : List Ent} {t : Int}
theorem FB.nil : FB n ps ls E [] [] := ⟨fun _ h => (by cases h), fun _ h => (by cases h), fun _ _ => ⟨fun ⟨_, h, _⟩ => (by cases h), fun ⟨_, h, _⟩ => (by cases h)⟩, .nil⟩
theorem FB.skip (h : FB n ps ls E l Es) (ht : t ∈ E.I) : FB n ps ls E (l ++ [t]) Es := ⟨h.ok, h.sub, fun W hW => (by
 rw [<- h.cov W hW]
 constructor
 ·rintro ⟨z, hz, hn⟩
  rcases List.mem_append.mp hz with hz | hz
  ·exact ⟨z, hz, hn⟩
  ·rw [List.mem_singleton.mp hz] at hn
   exact absurd (hW.2.1 t ht) hn
 ·rintro ⟨z, hz, hn⟩
  exact ⟨z, List.mem_append_left _ hz, hn⟩), h.dsj⟩
def insd (E : Ent) (l : List Int) : List Int := E.I ++ l.filter fun z => decide (z ∉ E.I)
theorem insd_mem {z : Int} : z ∈ insd E l ↔ z ∈ E.I \/ z ∈ l := by
 unfold insd
 rw [List.mem_append, List.mem_filter]
 constructor
 ·rintro (h | h)
  ·exact .inl h
  ·exact .inr h.1
 ·rintro (h | h)
  ·exact .inl h
  ·by_cases c : z ∈ E.I
   ·exact .inl c
   ·exact .inr ⟨h, decide_eq_true c⟩
theorem part_iff {W : List Int} : ClsT n ps (insd E l) (E.O ++ [t]) W ↔ ECl n ps E W /\ (∀ z ∈ l, z ∈ W) /\ t ∉ W := by
 constructor
 ·rintro ⟨h1, h2, h3⟩
  exact ⟨⟨h1, fun z hz => h2 z (insd_mem.mpr (.inl hz)), fun z hz => h3 z (List.mem_append_left _ hz)⟩, fun z hz => h2 z (insd_mem.mpr (.inr hz)), h3 t (List.mem_append_right _ (List.mem_singleton.mpr rfl))⟩
 ·rintro ⟨⟨h1, h2, h3⟩, h4, h5⟩
  refine ⟨h1, fun z hz => (insd_mem.mp hz).elim (h2 z) (h4 z), fun z hz => ?_⟩
  rcases List.mem_append.mp hz with hz | hz
  ·exact h3 z hz
  ·rw [List.mem_singleton.mp hz]; exact h5
theorem FB.none (h : FB n ps ls E l Es) (hno : ∀ W, ¬ ClsT n ps (insd E l) (E.O ++ [t]) W) : FB n ps ls E (l ++ [t]) Es := ⟨h.ok, h.sub, fun W hW => (by
 rw [<- h.cov W hW]
 constructor
 ·rintro ⟨z, hz, hn⟩
  refine Classical.byContradiction fun no => hno W (part_iff.mpr ⟨hW, fun y hy => Classical.byContradiction fun q => no ⟨y, hy, q⟩, ?_⟩)
  rcases List.mem_append.mp hz with hz | hz
  ·exact absurd ⟨z, hz, hn⟩ no
  ·rw [<- List.mem_singleton.mp hz]; exact hn
 ·rintro ⟨z, hz, hn⟩
  exact ⟨z, List.mem_append_left _ hz, hn⟩), h.dsj⟩
theorem FB.more {ms : List Int} (h : FB n ps ls E l Es) (hF : EOk n ps ls ⟨ms, insd E l, E.O ++ [t]⟩) : FB n ps ls E (l ++ [t]) (Es ++ [⟨ms, insd E l, E.O ++ [t]⟩]) where
 ok := fun F hF' => by
  rcases List.mem_append.mp hF' with q | q
  ·exact h.ok F q
  ·rw [List.mem_singleton.mp q]; exact hF
 sub := fun F hF' W hW => by
  rcases List.mem_append.mp hF' with q | q
  ·exact h.sub F q W hW
  ·rw [List.mem_singleton.mp q] at hW
   exact (part_iff.mp hW).1
 cov := fun W hW => by
  constructor
  ·rintro ⟨z, hz, hn⟩
   by_cases c : ∃ y ∈ l, y ∉ W
   ·obtain ⟨F, hF1, hF2⟩ := (h.cov W hW).mp c
    exact ⟨F, List.mem_append_left _ hF1, hF2⟩
   ·refine ⟨_, List.mem_append_right _ (List.mem_singleton.mpr rfl), part_iff.mpr ⟨hW, fun y hy => Classical.byContradiction fun q => c ⟨y, hy, q⟩, ?_⟩⟩
    rcases List.mem_append.mp hz with hz | hz
    ·exact absurd ⟨z, hz, hn⟩ c
    ·rw [<- List.mem_singleton.mp hz]; exact hn
  ·rintro ⟨F, hF', hW'⟩
   rcases List.mem_append.mp hF' with q | q
   ·obtain ⟨z, hz, hn⟩ := (h.cov W hW).mpr ⟨F, q, hW'⟩
    exact ⟨z, List.mem_append_left _ hz, hn⟩
   ·rw [List.mem_singleton.mp q] at hW'
    exact ⟨t, List.mem_append_right _ (List.mem_singleton.mpr rfl), (part_iff.mp hW').2.2⟩
 dsj := List.pairwise_append.mpr ⟨h.dsj, List.pairwise_singleton _ _, fun G hG F hF' W a b => by
  rw [List.mem_singleton.mp hF'] at b
  obtain ⟨b1, b2, _⟩ := part_iff.mp b
  obtain ⟨z, hz, hn⟩ := (h.cov W b1).mpr ⟨G, hG, a⟩
  exact hn (b2 z hz)⟩
theorem FB.all (g : GoodW n ps) (hE : EOk n ps ls E) (h : FB n ps ls E E.T Es) (W : List Int) (hW : ECl n ps E W) : W ≠ E.T ↔ ∃ F ∈ Es, ECl n ps F W := by
 rw [<- h.cov W hW]
 constructor
 ·intro hn
  refine Classical.byContradiction fun no => hn (tree_eqs g hE.own.1 hW.1 fun z hz => Classical.byContradiction fun q => no ⟨z, hz, q⟩).symm
 ·rintro ⟨z, hz, hn⟩ rfl
  exact hn hz
theorem part_ok {ms : List Int} (g : GoodW n ps) (ho : OrdL ls ps.length os) (hE : EOk n ps ls E) (hl : l.Nodup) (hlT : ∀ z ∈ l, z ∈ E.T) (ht : t ∈ E.T) (hti : t ∉ insd E l)
  (h1 : (grw n.toNat ps (insd E l ++ os.filter fun z => decide (z ∉ E.O ++ [t]))).take (insd E l).length = insd E l) (h2 : ¬ ((grw n.toNat ps (insd E l ++ os.filter fun z => decide (z ∉ E.O ++ [t]))).length : Int) < n - 1)
  (hp : ms.Perm (grw n.toNat ps (insd E l ++ os.filter fun z => decide (z ∉ E.O ++ [t])))) (hs : ms.Pairwise (· <= ·)) : EOk n ps ls ⟨ms, insd E l, E.O ++ [t]⟩ := by
 have hin : ∀ z ∈ insd E l, z ∈ E.T := fun z hz => (insd_mem.mp hz).elim (hE.own.2.1 z) (hlT z)
 obtain ⟨c1, c2⟩ := gr_best g ho (fun z hz => hE.own.1.1.all z (hin z hz)) (fun z hz hO => by
  rcases List.mem_append.mp hO with q | q
  ·exact hE.own.2.2 z q (hin z hz)
  ·exact hti ((List.mem_singleton.mp q) ▸ hz)) h1 h2 hp hs
 refine ⟨c1, c2, ?_, ?_, fun z hz => ?_⟩
 ·exact List.nodup_append.mpr ⟨hE.iN, hl.filter _, fun a ha b hb e => of_decide_eq_true (List.mem_filter.mp hb).2 (e ▸ ha)⟩
 ·exact List.nodup_append.mpr ⟨hE.oN, List.pairwise_singleton _ _, fun a ha b hb e => hE.own.2.2 a ha (by rw [e, List.mem_singleton.mp hb]; exact ht)⟩
 ·rcases List.mem_append.mp hz with q | q
  ·exact hE.oR z q
  ·rw [List.mem_singleton.mp q]; exact hE.own.1.1.all t ht
end
structure RI (n : Int) (ps : List (Int × Int)) (ls : List Int) (L : List (List Int)) (Es : List Ent) : Prop where
 tr : ∀ T ∈ L, IsTree n ps T
 asc : L.Pairwise (pl ls)
 ok : ∀ E ∈ Es, EOk n ps ls E
 cov : ∀ W, IsTree n ps W -> W ∈ L \/ ∃ E ∈ Es, ECl n ps E W
 beh : ∀ E ∈ Es, ∀ W, ECl n ps E W -> ∀ T ∈ L, pl ls T W
 dsj : Es.Pairwise (Dsj n ps)
theorem lex_tot : ∀ a b : List Int, a.length = b.length -> a ≠ b -> HT.lexLt a b = true \/ HT.lexLt b a = true
 | [], [], _, h => absurd rfl h
 | [], _ :: _, h, _ => by cases h
 | _ :: _, [], h, _ => by cases h
 | x :: a, y :: b, hl, h => by
  rw [HT.lexLt_cons, HT.lexLt_cons]
  by_cases c : x = y
  ·rw [if_pos c, if_pos c.symm]
   exact lex_tot a b (by simpa using hl) fun e => h (by rw [c, e])
  ·rw [if_neg c, if_neg (fun q => c q.symm), decide_eq_true_iff, decide_eq_true_iff]
   omega
theorem pl_tot {n : Int} {ps : List (Int × Int)} {ls T U : List Int} (hT : IsTree n ps T) (hU : IsTree n ps U) (h : T ≠ U) : pl ls T U \/ pl ls U T := by
 rw [pl_iff, pl_iff]
 rcases Int.lt_trichotomy (sumL ls T) (sumL ls U) with c | c | c
 ·exact .inl (.inl c)
 ·rcases lex_tot T U (by have := hT.2.1; have := hU.2.1; omega) h with q | q
  ·exact .inl (.inr ⟨c, q⟩)
  ·exact .inr (.inr ⟨c.symm, q⟩)
 ·exact .inr (.inl c)
section
variable {n : Int} {ps : List (Int × Int)} {ls : List Int} {L : List (List Int)} {Es Fs : List Ent}
theorem RI.apart (h : RI n ps ls L Es) {i j : Nat} {E F : Ent} (hE : Es[i]? = some E) (hF : Es[j]? = some F) (hne : i ≠ j) : Dsj n ps E F := by
 obtain ⟨hi, ei⟩ := List.getElem?_eq_some_iff.mp hE
 obtain ⟨hj, ej⟩ := List.getElem?_eq_some_iff.mp hF
 have pw := List.pairwise_iff_getElem.mp h.dsj
 by_cases c : i < j
 ·have := pw i j hi hj c
  rw [ei, ej] at this
  exact this
 ·have := pw j i hj hi (by omega)
  rw [ei, ej] at this
  exact this.symm
theorem RI.unlike (h : RI n ps ls L Es) {i j : Nat} {E F : Ent} (hE : Es[i]? = some E) (hF : Es[j]? = some F) (hne : i ≠ j) : E.T ≠ F.T := fun e =>
 h.apart hE hF hne E.T (h.ok E (List.mem_of_getElem? hE)).own (e ▸ (h.ok F (List.mem_of_getElem? hF)).own)
theorem RI.step (g : GoodW n ps) (h : RI n ps ls L Es) {j : Nat} {E : Ent} (hE : Es[j]? = some E) (hm : ∀ F ∈ Es, ¬ pl ls F.T E.T) (hF : FB n ps ls E E.T Fs) : RI n ps ls (L ++ [E.T]) (Es.eraseIdx j ++ Fs) := by
 have okE := h.ok E (List.mem_of_getElem? hE)
 have er : ∀ F ∈ Es.eraseIdx j, ∃ i, i ≠ j /\ Es[i]? = some F := fun F hF => by
  obtain ⟨i, hi, e⟩ := List.mem_eraseIdx_iff_getElem?.mp hF
  exact ⟨i, hi, e⟩
 have all := hF.all g okE
 refine ⟨fun T hT => ?_, ?_, fun F hF' => ?_, fun W hW => ?_, fun F hF' W hW T hT => ?_, ?_⟩
 ·rcases List.mem_append.mp hT with q | q
  ·exact h.tr T q
  ·rw [List.mem_singleton.mp q]; exact okE.own.1
 ·refine List.pairwise_append.mpr ⟨h.asc, List.pairwise_singleton _ _, fun T hT U hU => ?_⟩
  rw [List.mem_singleton.mp hU]
  exact h.beh E (List.mem_of_getElem? hE) E.T okE.own T hT
 ·rcases List.mem_append.mp hF' with q | q
  ·obtain ⟨i, _, e⟩ := er F q
   exact h.ok F (List.mem_of_getElem? e)
  ·exact hF.ok F q
 ·rcases h.cov W hW with q | ⟨F, q1, q2⟩
  ·exact .inl (List.mem_append_left _ q)
  ·obtain ⟨i, hi⟩ := List.getElem?_of_mem q1
   by_cases c : i = j
   ·subst c
    rw [hE] at hi
    obtain rfl := Option.some.inj hi
    by_cases c2 : W = E.T
    ·exact .inl (List.mem_append_right _ (List.mem_singleton.mpr c2))
    ·obtain ⟨G, g1, g2⟩ := (all W q2).mp c2
     exact .inr ⟨G, List.mem_append_right _ g1, g2⟩
   ·exact .inr ⟨F, List.mem_append_left _ (List.mem_eraseIdx_iff_getElem?.mpr ⟨i, c, hi⟩), q2⟩
 ·rcases List.mem_append.mp hF' with q | q
  ·obtain ⟨i, hi, e⟩ := er F q
   have okF := h.ok F (List.mem_of_getElem? e)
   rcases List.mem_append.mp hT with qT | qT
   ·exact h.beh F (List.mem_of_getElem? e) W hW T qT
   ·rw [List.mem_singleton.mp qT]
    have less := (pl_tot (ls := ls) okF.own.1 okE.own.1 (h.unlike e hE hi)).resolve_left (hm F (List.mem_of_getElem? e))
    rcases okF.min W hW with c | c
    ·rw [c]; exact less
    ·exact less.trans c
  ·have hWE := hF.sub F q W hW
   rcases List.mem_append.mp hT with qT | qT
   ·exact h.beh E (List.mem_of_getElem? hE) W hWE T qT
   ·rw [List.mem_singleton.mp qT]
    exact (okE.min W hWE).resolve_left ((all W hWE).mpr ⟨F, q, hW⟩)
 ·refine List.pairwise_append.mpr ⟨h.dsj.sublist (List.eraseIdx_sublist _ _), hF.dsj, fun F q G q2 W a b => ?_⟩
  obtain ⟨i, hi, e⟩ := er F q
  exact h.apart e hE hi W a (hF.sub G q2 W b)
end
structure Rkd (n : Int) (ps : List (Int × Int)) (ls : List Int) (most : Nat) (L : List (List Int)) : Prop where
 tr : ∀ T ∈ L, IsTree n ps T
 asc : L.Pairwise (pl ls)
 few : L.length <= most
 all : ∀ W, IsTree n ps W -> W ∈ L \/ (L.length = most /\ ∀ T ∈ L, pl ls T W)
end My
namespace L2
open PySem PySem.Spec PyProof.Rows PySem.W My
theorem SameX.same {Pt : Addr} {H H' : Hp} (s : Same H H') : SameX Pt H H' := fun b o _ e => s b o e
theorem SameX.trans {Pt : Addr} {H H1 H2 : Hp} (a : SameX Pt H H1) (b : SameX Pt H1 H2) : SameX Pt H H2 := fun c o hc e => b c o hc (a c o hc e)
theorem TabH.same {H H' : Hp} {Pt : Addr} {pos : Pos} {qual : Str} (t : TabH H Pt pos qual) (s : Same H H') : TabH H' Pt pos qual := by
 obtain ⟨ps, h1, h2, h3⟩ := t
 refine ⟨ps, s _ _ h1, h2, ?_⟩
 rcases h3 with h | ⟨c, h, h'⟩
 ·exact .inl h
 ·exact .inr ⟨c, h, s _ _ h'⟩
theorem TabH.ne {H : Hp} {Pt a : Addr} {pos : Pos} {qual : Str} {o : HO} (t : TabH H Pt pos qual) (h : H a = some o) (hn : ∀ ps, o ≠ .tbl ps) : a ≠ Pt := fun e => by
 obtain ⟨ps, h1, _⟩ := t
 rw [e, h1] at h
 exact hn ps (Option.some.inj h).symm
end L2
namespace My
open PySem L2
theorem rgL_getD {m i : Nat} (h : i < m) : (rgL m).getD i 0 = (i : Int) := by
 unfold rgL
 rw [List.getD_eq_getElem?_getD, List.getElem?_map, List.getElem?_range h]
 rfl
theorem stab_ord {ls ms : List Int} {m : Nat} (h : StabK (fun z => lnz ls z) (rgL m) ms) : OrdL ls m ms := by
 obtain ⟨p, hp, hw, rfl⟩ := h
 rw [rgL_length] at hp
 have hb : ∀ i ∈ p, i < m := fun i hi => List.mem_range.mp (hp.mem_iff.mp hi)
 have e : (p.map fun i => (rgL m).getD i 0) = p.map fun (i : Nat) => (i : Int) := List.map_congr_left fun i hi => rgL_getD (hb i hi)
 rw [e]
 refine ⟨hp.map _, ?_⟩
 rw [List.pairwise_map]
 refine hw.imp_of_mem fun {i j} hi hj h => ?_
 have h : lnz ls ((rgL m).getD i 0) < lnz ls ((rgL m).getD j 0) \/ (lnz ls ((rgL m).getD i 0) = lnz ls ((rgL m).getD j 0) /\ i < j) := h
 rw [rgL_getD (hb i hi), rgL_getD (hb j hj)] at h
 omega
theorem SqK.samex {kd : Bool} {K : PySem.W.Frag} {H H2 : Hp} {a Pt : Addr} {xs : List V} {pos : Pos} {qual : Str} (h : SqK kd K H a xs) (t : TabH H Pt pos qual) (sx : SameX Pt H H2) : SqK kd K H2 a xs := by
 cases kd with
 | true => exact SqT.samex (show SqT K H a xs from h) t sx
 | false =>
  rcases (show SqL K H a xs from h) with (h | ⟨o, h⟩) | h
  ·exact .inl (.inl (sx _ _ (t.ne h (by simp)) h))
  ·exact .inl (.inr ⟨o, sx _ _ (t.ne h (by simp)) h⟩)
  ·exact .inr h
theorem WebAt.samex {C w Pt : Addr} {H H2 : Hp} {n : Int} {ps : List (Int × Int)} {pos : Pos} {qual : Str} (h : WebAt C H w n ps) (t : TabH H Pt pos qual) (sx : SameX Pt H H2) : WebAt C H2 w n ps := by
 obtain ⟨dx, tl, xs, h1, h2, h3⟩ := h
 refine ⟨dx, tl, xs, sx _ _ (t.ne h1 (by simp)) h1, sx _ _ (t.ne h2 (by simp)) h2, h3.1, fun i p hp => ?_⟩
 obtain ⟨x, hx, q, e, hq⟩ := h3.2 i p hp
 exact ⟨x, hx, q, e, sx _ _ (t.ne hq (by simp)) hq⟩
end My
namespace L2
open PySem PySem.Spec PyProof.Rows My
section
variable {prog : Program} {w : World} {A : Around} {s : Shared}
end
section
variable {X : Cx}
end
end L2
namespace My
open PySem L2
end My
namespace HT
open PySem PyProof.Rows
section
open PySem.SeqAt
open PySem.AutoSeq1 (wpAny_loadPart')
open PySem.MeetsSeq PySem.MeetsSeq2 PySem.MeetsSeq3
theorem tuple_leAt (l b : Addr) (xs ys : Array Value) (n n2 : Nat) (dd dd2 : Option Addr) (sl sl2 : Array (Option Value)) (d : Nat) (r : Bool) (hd0 : d <= min xs.size ys.size) :
  Meets (Builtin.«tuple.__le__» ⟨[.ref l, .ref b], []⟩)
   (fun A R s => s.heap.get? l = some { cls := .type "tuple", dict := dd, data := .seq xs n, slots := sl } /\ s.heap.get? b = some { cls := .type "tuple", dict := dd2, data := .seq ys n2, slots := sl2 } /\
    (∀ j (h1 : j < xs.size) (h2 : j < ys.size), j <= d -> EqAt A.in1 s xs[j] ys[j] (decide (j ≠ d))) /\
    (∀ (h1 : d < xs.size) (h2 : d < ys.size) (prog : Program) (w : World) (E : Value -> Shared -> Prop) (Q : Value -> Shared -> Prop), Q (.bool r) s -> wpAny (model prog w) A.in1 (richCompare .LtE xs[d] ys[d]) Q E s) /\
    (d = min xs.size ys.size -> r = decide (xs.size <= ys.size)) /\ R (.ok (.ret (.bool r))) s) :=
 .of_wp fun prog w A R s h => by
  obtain ⟨hp, g, d1, tk, os⟩ := s
  obtain ⟨hl, hb, he, hlt, hfin, h⟩ := h
  have f2 := AutoSeq1.sub_tuple_tuple
  have hZ : (xs.toList.zip ys.toList).length = min xs.size ys.size := by simp
  wp_walk using wpAny_loadPart' hl, wpAny_loadPart' hb, wpAny_forIn_list _ (fun rest b s' => b.1 = none /\ s' = ⟨hp, g, d1, tk, os⟩ /\ ∃ i, i <= d /\ rest = (xs.toList.zip ys.toList).drop i) _
  case turn =>
   rintro ⟨y, x⟩ rest b s' ⟨hb', rfl, i, hid, hz⟩
   have hi : i < (xs.toList.zip ys.toList).length := by
    rcases Nat.lt_or_ge i (xs.toList.zip ys.toList).length with q | q
    ·exact q
    ·rw [List.drop_of_length_le q] at hz; cases hz
   have hm : i < min xs.size ys.size := hZ ▸ hi
   have h1 : i < xs.size := Nat.lt_of_lt_of_le hm (Nat.min_le_left _ _)
   have h2 : i < ys.size := Nat.lt_of_lt_of_le hm (Nat.min_le_right _ _)
   rw [List.drop_eq_getElem_cons hi] at hz
   injection hz with hyx hrest
   have hy : y = xs[i] := by have := congrArg Prod.fst hyx; simpa using this
   have hx : x = ys[i] := by have := congrArg Prod.snd hyx; simpa using this
   subst hy hx
   refine wpAny_bind (he i h1 h2 hid prog w _ _ ?_)
   by_cases c : i = d
   ·subst c
    rw [decide_eq_false (by simp)]
    have hri := hlt h1 h2 prog w
    wp_walk using hri
    exact ⟨_, rfl, by simpa using h⟩
   ·rw [decide_eq_true c]
    wp_walk
    exact ⟨rfl, rfl, i + 1, by omega, hrest⟩
  case fin =>
   rintro ⟨b1, b2⟩ s' ⟨hb', rfl, i, hid, hz⟩
   simp only at hb'
   subst hb'
   have hge : min xs.size ys.size <= i := by
    rcases Nat.lt_or_ge i (xs.toList.zip ys.toList).length with q | q
    ·rw [List.drop_eq_getElem_cons q] at hz; cases hz
    ·exact hZ ▸ q
   rw [hfin (by omega)] at h
   wp_walk
   exact ⟨_, rfl, by simpa [Builtin.Tuple.tupleCompareSizes] using h⟩
  case h => exact ⟨rfl, rfl, 0, Nat.zero_le _, rfl⟩
end
section
variable {prog : Program} {w : World} {A : Around} {E : Value -> Shared -> Prop} {s : Shared}
theorem le_tupAt {l b : Addr} {xs ys : Array Value} {d : Nat} {r : Bool} {Q : Value -> Shared -> Prop} (hl : IsTup s.heap l xs) (hb : IsTup s.heap b ys) (hd0 : d <= min xs.size ys.size) (hu : A.units < cLine)
  (he : ∀ j (h1 : j < xs.size) (h2 : j < ys.size), j <= d -> SeqAt.EqAt A.in1 s xs[j] ys[j] (decide (j ≠ d)))
  (hlt : ∀ (h1 : d < xs.size) (h2 : d < ys.size) (prog : Program) (w : World) (E : Value -> Shared -> Prop) (Q : Value -> Shared -> Prop), Q (.bool r) s -> wpAny (model prog w) A.in1 (richCompare .LtE xs[d] ys[d]) Q E s)
  (hfin : d = min xs.size ys.size -> r = decide (xs.size <= ys.size)) (h : Q (.bool r) s) : wpAny (model prog w) A (compareOp .LtE (.ref l) (.ref b)) Q E s := by
 obtain ⟨⟨cls, dd, data, sl⟩, ho, hc, n, hd⟩ := id hl
 obtain ⟨⟨cls2, dd2, data2, sl2⟩, ho2, hc2, n2, hd2⟩ := id hb
 simp only at hc hd hc2 hd2
 subst hc hd hc2 hd2
 exact richCompare_meets_room (op := .LtE) ⟨_, ho, rfl⟩ ⟨_, ho2, rfl⟩ PySem.F.slot_tuple_le PySem.F.entry_tuple_le (PySem.F.args_tuple_le_2 _ _) (tuple_leAt l b xs ys n n2 dd dd2 sl sl2 d r hd0)
  ⟨ho, ho2, he, hlt, hfin, show Value.bool r ≠ Value.notImplemented /\ Q (.bool r) s from ⟨(fun x => nomatch x), h⟩⟩ hu
theorem le_pair {l b p q : Addr} {a c : Int} {t u : Tok} {r1 r2 : List Value} {xs ys : Array Value} {ns ms : List Int} {Q : Value -> Shared -> Prop} (hl : IsTup s.heap l (.int a t :: .ref p :: r1).toArray) (hb : IsTup s.heap b (.int c u :: .ref q :: r2).toArray)
  (hp : IsTup s.heap p xs) (hq : IsTup s.heap q ys) (hi : IntsAre xs.toList ns) (hj : IntsAre ys.toList ms) (hr : a = c -> ns = ms -> r1 = [] /\ r2 = []) (hu : A.units + 2 < cLine) (h : Q (.bool (!ltP (c, ms) (a, ns))) s) : wpAny (model prog w) A (compareOp .LtE (.ref l) (.ref b)) Q E s := by
 have u1 : A.units < cLine := by omega
 have u2 : A.in1.units < cLine := by show A.units + 1 < cLine; omega
 by_cases c1 : a = c
 ·subst c1
  by_cases c2 : ns = ms
  ·obtain ⟨rfl, rfl⟩ := hr rfl c2
   have e : (!ltP (a, ms) (a, ns)) = true := by
    subst c2
    show (!(decide (a < a) || (decide (a = a) && lexLt ns ns))) = true
    rw [My.lex_irrefl]
    simp
   refine le_tupAt (d := 2) (r := !ltP (a, ms) (a, ns)) hl hb (by simp) u1 (fun j h1 h2 hj' => ?_) (fun h1 => absurd h1 (by simp)) (fun _ => by rw [e]; simp) h
   match j, h1, h2, hj' with
   | 0, _, _, _ => exact (show SeqAt.EqAt A.in1 s (.int a t) (.int a u) true from by have := SeqAt.EqAt.int_int (A := A.in1) (s := s) a t a u; simpa using this)
   | 1, _, _, _ => exact (show SeqAt.EqAt A.in1 s (.ref p) (.ref q) true from by have := eqAt_ints (A := A.in1) hp hq hi hj u2; rwa [decide_eq_true c2] at this)
   | j + 2, h1, _, _ => exact absurd h1 (by simp)
  ·have e : (!ltP (a, ms) (a, ns)) = lexLe ns ms := by
    rw [lexLe_lt]
    show (!(decide (a < a) || (decide (a = a) && lexLt ms ns))) = _
    simp
   rw [e] at h
   refine le_tupAt (d := 1) (r := lexLe ns ms) hl hb (by simp) u1 (fun j h1 h2 hj' => ?_) (fun h1 h2 prog w E Q hq' => ?_) (fun z => absurd z (by simp)) h
   ·match j, h1, h2, hj' with
    | 0, _, _, _ => exact (show SeqAt.EqAt A.in1 s (.int a t) (.int a u) true from by have := SeqAt.EqAt.int_int (A := A.in1) (s := s) a t a u; simpa using this)
    | 1, _, _, _ => exact (show SeqAt.EqAt A.in1 s (.ref p) (.ref q) false from by have := eqAt_ints (A := A.in1) hp hq hi hj u2; rwa [decide_eq_false c2] at this)
    | j + 2, _, _, z => omega
   ·exact (show wpAny (model prog w) A.in1 (compareOp .LtE (.ref p) (.ref q)) Q E s from le_tupInts hp hq hi hj u2 hq')
 ·have e : (!ltP (c, ms) (a, ns)) = decide (a <= c) := by
   show (!(decide (c < a) || (decide (c = a) && lexLt ms ns))) = _
   have c2 : ¬ c = a := fun z => c1 z.symm
   rw [decide_eq_false c2, Bool.false_and, Bool.or_false, Bool.eq_iff_iff]
   simp
  rw [e] at h
  refine le_tupAt (d := 0) (r := decide (a <= c)) hl hb (Nat.zero_le _) u1 (fun j h1 h2 hj' => ?_) (fun h1 h2 prog w E Q hq' => ?_) (fun z => absurd z (by simp)) h
  ·match j, h1, h2, hj' with
   | 0, _, _, _ => exact (show SeqAt.EqAt A.in1 s (.int a t) (.int c u) false from by have := SeqAt.EqAt.int_int (A := A.in1) (s := s) a t c u; rwa [show (a == c) = false by simpa using c1] at this)
   | j + 1, _, _, z => omega
  ·exact rcLe_int A.in1 s a t c u prog w E Q hq'
end
end HT
namespace L2
open PySem PySem.Spec PyProof.Rows
def PrT (K : PySem.W.Frag) (H : Hp) (v : V) (x : Int × List Int) : Prop := ∃ a q, v = .ref a /\ SqT K H a [.int x.1, .ref q] /\ SqT K H q (x.2.map V.int)
def rLtP (K : PySem.W.Frag) : R2 := fun v u H Q => ∃ x y, PrT K H v x /\ PrT K H u y /\ Q (.bl (HT.ltP x y)) H
def rLeP (K : PySem.W.Frag) : R2 := fun v u H Q => ∃ x y, PrT K H v x /\ PrT K H u y /\ Q (.bl (!HT.ltP y x)) H
section
variable {X : Cx} {pins : List (Addr × Obj)} {σ : St} {H : Hp} {s : Shared}
theorem PrT.at {v : V} {x : Int × List Int} {u : Value} (h : PrT X.K H v x) (I : Inv X pins σ H s) (r : RelV v u) : ∃ a q t xs, u = .ref a /\ IsTup s.heap a (Value.int x.1 t :: .ref q :: ([] : List Value)).toArray /\ IsTup s.heap q xs /\ IntsAre xs.toList x.2 := by
 obtain ⟨a, q, rfl, h1, h2⟩ := h
 obtain rfl : u = Value.ref a := r
 obtain ⟨i1, r1, g1, _⟩ := I.tuple h1
 obtain ⟨i2, r2, g2, _⟩ := I.tuple h2
 obtain ⟨u1, w1, rfl, ⟨t, rfl⟩, r1'⟩ := vals_cons r1
 obtain ⟨u2, rfl, ru2⟩ := vals1 r1'
 obtain rfl : u2 = Value.ref q := ru2
 exact ⟨a, q, t, _, rfl, g1, g2, by simpa using ints_of_vals r2⟩
theorem op_ltPK (K : PySem.W.Frag) (hu : X.A.units + 8 < cLine) (hk : X.K = K := by rfl) : OpR X (compareOp .Lt) (rLtP K) := by
 subst hk
 intro pins s σ H x y v u Q I rx ry h
 obtain ⟨a, b, h1, h2, q⟩ := h
 obtain ⟨l1, p1, t1, x1, rfl, g1, g2, g3⟩ := h1.at I rx
 obtain ⟨l2, p2, t2, x2, rfl, k1, k2, k3⟩ := h2.at I ry
 exact HT.lt_pair g1 k1 g2 k2 g3 k3 (fun _ _ => ⟨rfl, rfl⟩) (by omega) ⟨.bl _, H, I, rfl, q⟩
theorem op_lePK (K : PySem.W.Frag) (hu : X.A.units + 8 < cLine) (hk : X.K = K := by rfl) : OpR X (compareOp .LtE) (rLeP K) := by
 subst hk
 intro pins s σ H x y v u Q I rx ry h
 obtain ⟨a, b, h1, h2, q⟩ := h
 obtain ⟨l1, p1, t1, x1, rfl, g1, g2, g3⟩ := h1.at I rx
 obtain ⟨l2, p2, t2, x2, rfl, k1, k2, k3⟩ := h2.at I ry
 exact HT.le_pair g1 k1 g2 k2 g3 k3 (fun _ _ => ⟨rfl, rfl⟩) (by omega) ⟨.bl _, H, I, rfl, q⟩
end
end L2
namespace My
open PySem L2
def top (i : Nat) : Stmt := PySem.Challenge.pw_spanrow_k66_whole_ranked_of_great_webs.main.body.getD i (.Pass ⟨0, 0, 0, 0⟩)
abbrev s_refuse_not_square : Stmt := top 7
abbrev s_row_taken_off : Stmt := top 8
abbrev s_first_with_some : Stmt := top 9
abbrev s_determinant : Stmt := top 10
abbrev s_row_without : Stmt := top 11
abbrev s_table_without : Stmt := top 12
abbrev s_is_tie : Stmt := top 18
abbrev s_refuse_bad_web : Stmt := top 17
abbrev s_Web___init : Stmt := inClass (top 16) 0
abbrev s_refuse_bad_row : Stmt := top 19
abbrev s_all_ties : Stmt := top 20
abbrev s_is_set : Stmt := top 21
abbrev s_made_set : Stmt := top 22
abbrev s_merged_marks : Stmt := top 23
abbrev s_piece_marks : Stmt := top 24
abbrev s_grown_tree : Stmt := top 30
abbrev s_length_of : Stmt := top 32
abbrev s_weighted_table : Stmt := top 26
abbrev s_pull_table : Stmt := top 27
abbrev s_tree_count : Stmt := top 28
abbrev s_first_of : Stmt := top 34
abbrev s_firsts_behind : Stmt := top 35
abbrev s_ranked : Stmt := top 36
abbrev s_law_at : Stmt := top 38
abbrev s_law_stir : Stmt := top 39
abbrev s_law_numbers : Stmt := top 40
abbrev s_law_digits : Stmt := top 41
abbrev s_law_web : Stmt := top 42
abbrev s_law_lengths : Stmt := top 43
abbrev s_law_is_tree : Stmt := top 44
abbrev s_law_ring : Stmt := top 45
abbrev s_law_beside : Stmt := top 46
abbrev s_law : Stmt := top 47
structure Adr where
 a_refuse_not_square : Addr
 d_refuse_not_square : FuncData
 a_row_taken_off : Addr
 d_row_taken_off : FuncData
 a_first_with_some : Addr
 d_first_with_some : FuncData
 a_determinant : Addr
 d_determinant : FuncData
 a_row_without : Addr
 d_row_without : FuncData
 a_table_without : Addr
 d_table_without : FuncData
 a_is_tie : Addr
 d_is_tie : FuncData
 a_refuse_bad_web : Addr
 d_refuse_bad_web : FuncData
 a_Web___init : Addr
 d_Web___init : FuncData
 a_refuse_bad_row : Addr
 d_refuse_bad_row : FuncData
 a_all_ties : Addr
 d_all_ties : FuncData
 a_is_set : Addr
 d_is_set : FuncData
 a_made_set : Addr
 d_made_set : FuncData
 a_merged_marks : Addr
 d_merged_marks : FuncData
 a_piece_marks : Addr
 d_piece_marks : FuncData
 a_grown_tree : Addr
 d_grown_tree : FuncData
 a_length_of : Addr
 d_length_of : FuncData
 a_weighted_table : Addr
 d_weighted_table : FuncData
 a_pull_table : Addr
 d_pull_table : FuncData
 a_tree_count : Addr
 d_tree_count : FuncData
 a_first_of : Addr
 d_first_of : FuncData
 a_firsts_behind : Addr
 d_firsts_behind : FuncData
 a_ranked : Addr
 d_ranked : FuncData
 a_law_at : Addr
 d_law_at : FuncData
 a_law_stir : Addr
 d_law_stir : FuncData
 a_law_numbers : Addr
 d_law_numbers : FuncData
 a_law_digits : Addr
 d_law_digits : FuncData
 a_law_web : Addr
 d_law_web : FuncData
 a_law_lengths : Addr
 d_law_lengths : FuncData
 a_law_is_tree : Addr
 d_law_is_tree : FuncData
 a_law_ring : Addr
 d_law_ring : FuncData
 a_law_beside : Addr
 d_law_beside : FuncData
 a_law : Addr
 d_law : FuncData
 A_Web : Addr
structure Txt (K : PySem.W.Frag) (mg : Str -> Option Value) (t : Adr) : Prop where
 f_refuse_not_square : Fun K "refuse_not_square" "refuse_not_square" s_refuse_not_square t.a_refuse_not_square t.d_refuse_not_square
 b_refuse_not_square : Binds K t.d_refuse_not_square ["table"] []
 m_refuse_not_square : mg "refuse_not_square" = some (.ref t.a_refuse_not_square)
 f_row_taken_off : Fun K "row_taken_off" "row_taken_off" s_row_taken_off t.a_row_taken_off t.d_row_taken_off
 b_row_taken_off : Binds K t.d_row_taken_off ["row", "pivot", "last"] []
 m_row_taken_off : mg "row_taken_off" = some (.ref t.a_row_taken_off)
 f_first_with_some : Fun K "first_with_some" "first_with_some" s_first_with_some t.a_first_with_some t.d_first_with_some
 b_first_with_some : Binds K t.d_first_with_some ["rows"] []
 m_first_with_some : mg "first_with_some" = some (.ref t.a_first_with_some)
 f_determinant : Fun K "determinant" "determinant" s_determinant t.a_determinant t.d_determinant
 b_determinant : Binds K t.d_determinant ["table"] []
 m_determinant : mg "determinant" = some (.ref t.a_determinant)
 f_row_without : Fun K "row_without" "row_without" s_row_without t.a_row_without t.d_row_without
 b_row_without : Binds K t.d_row_without ["row", "number"] []
 m_row_without : mg "row_without" = some (.ref t.a_row_without)
 f_table_without : Fun K "table_without" "table_without" s_table_without t.a_table_without t.d_table_without
 b_table_without : Binds K t.d_table_without ["table", "number"] []
 m_table_without : mg "table_without" = some (.ref t.a_table_without)
 f_is_tie : Fun K "is_tie" "is_tie" s_is_tie t.a_is_tie t.d_is_tie
 b_is_tie : Binds K t.d_is_tie ["web", "number"] []
 m_is_tie : mg "is_tie" = some (.ref t.a_is_tie)
 f_refuse_bad_web : Fun K "refuse_bad_web" "refuse_bad_web" s_refuse_bad_web t.a_refuse_bad_web t.d_refuse_bad_web
 b_refuse_bad_web : Binds K t.d_refuse_bad_web ["places", "ties"] []
 m_refuse_bad_web : mg "refuse_bad_web" = some (.ref t.a_refuse_bad_web)
 f_Web___init : Fun K "__init__" "Web.__init__" s_Web___init t.a_Web___init t.d_Web___init
 b_Web___init : Binds K t.d_Web___init ["self", "places", "ties"] []
 f_refuse_bad_row : Fun K "refuse_bad_row" "refuse_bad_row" s_refuse_bad_row t.a_refuse_bad_row t.d_refuse_bad_row
 b_refuse_bad_row : Binds K t.d_refuse_bad_row ["web", "numbers"] []
 m_refuse_bad_row : mg "refuse_bad_row" = some (.ref t.a_refuse_bad_row)
 f_all_ties : Fun K "all_ties" "all_ties" s_all_ties t.a_all_ties t.d_all_ties
 b_all_ties : Binds K t.d_all_ties ["web"] []
 m_all_ties : mg "all_ties" = some (.ref t.a_all_ties)
 f_is_set : Fun K "is_set" "is_set" s_is_set t.a_is_set t.d_is_set
 b_is_set : Binds K t.d_is_set ["web", "ties"] []
 m_is_set : mg "is_set" = some (.ref t.a_is_set)
 f_made_set : Fun K "made_set" "made_set" s_made_set t.a_made_set t.d_made_set
 b_made_set : Binds K t.d_made_set ["web", "ties"] []
 m_made_set : mg "made_set" = some (.ref t.a_made_set)
 f_merged_marks : Fun K "merged_marks" "merged_marks" s_merged_marks t.a_merged_marks t.d_merged_marks
 b_merged_marks : Binds K t.d_merged_marks ["web", "marks", "ties"] []
 m_merged_marks : mg "merged_marks" = some (.ref t.a_merged_marks)
 f_piece_marks : Fun K "piece_marks" "piece_marks" s_piece_marks t.a_piece_marks t.d_piece_marks
 b_piece_marks : Binds K t.d_piece_marks ["web", "ties"] []
 m_piece_marks : mg "piece_marks" = some (.ref t.a_piece_marks)
 f_grown_tree : Fun K "grown_tree" "grown_tree" s_grown_tree t.a_grown_tree t.d_grown_tree
 b_grown_tree : Binds K t.d_grown_tree ["web", "inside", "order"] []
 m_grown_tree : mg "grown_tree" = some (.ref t.a_grown_tree)
 f_length_of : Fun K "length_of" "length_of" s_length_of t.a_length_of t.d_length_of
 b_length_of : Binds K t.d_length_of ["web", "lengths", "ties"] []
 m_length_of : mg "length_of" = some (.ref t.a_length_of)
 f_weighted_table : Fun K "weighted_table" "weighted_table" s_weighted_table t.a_weighted_table t.d_weighted_table
 b_weighted_table : Binds K t.d_weighted_table ["web", "weights"] []
 m_weighted_table : mg "weighted_table" = some (.ref t.a_weighted_table)
 f_pull_table : Fun K "pull_table" "pull_table" s_pull_table t.a_pull_table t.d_pull_table
 b_pull_table : Binds K t.d_pull_table ["web"] []
 m_pull_table : mg "pull_table" = some (.ref t.a_pull_table)
 f_tree_count : Fun K "tree_count" "tree_count" s_tree_count t.a_tree_count t.d_tree_count
 b_tree_count : Binds K t.d_tree_count ["web"] []
 m_tree_count : mg "tree_count" = some (.ref t.a_tree_count)
 f_first_of : Fun K "first_of" "first_of" s_first_of t.a_first_of t.d_first_of
 b_first_of : Binds K t.d_first_of ["web", "lengths", "order", "inside", "outside"] []
 m_first_of : mg "first_of" = some (.ref t.a_first_of)
 f_firsts_behind : Fun K "firsts_behind" "firsts_behind" s_firsts_behind t.a_firsts_behind t.d_firsts_behind
 b_firsts_behind : Binds K t.d_firsts_behind ["web", "lengths", "order", "taken"] []
 m_firsts_behind : mg "firsts_behind" = some (.ref t.a_firsts_behind)
 f_ranked : Fun K "ranked" "ranked" s_ranked t.a_ranked t.d_ranked
 b_ranked : Binds K t.d_ranked ["web", "lengths", "most"] []
 m_ranked : mg "ranked" = some (.ref t.a_ranked)
 f_law_at : Fun K "_law_at" "_law_at" s_law_at t.a_law_at t.d_law_at
 b_law_at : Binds K t.d_law_at ["script", "k"] []
 m_law_at : mg "_law_at" = some (.ref t.a_law_at)
 f_law_stir : Fun K "_law_stir" "_law_stir" s_law_stir t.a_law_stir t.d_law_stir
 b_law_stir : Binds K t.d_law_stir ["cell", "k"] []
 m_law_stir : mg "_law_stir" = some (.ref t.a_law_stir)
 f_law_numbers : Fun K "_law_numbers" "_law_numbers" s_law_numbers t.a_law_numbers t.d_law_numbers
 b_law_numbers : Binds K t.d_law_numbers ["script", "start", "most"] []
 m_law_numbers : mg "_law_numbers" = some (.ref t.a_law_numbers)
 f_law_digits : Fun K "_law_digits" "_law_digits" s_law_digits t.a_law_digits t.d_law_digits
 b_law_digits : Binds K t.d_law_digits ["cell", "most_places", "most_ties"] []
 m_law_digits : mg "_law_digits" = some (.ref t.a_law_digits)
 f_law_web : Fun K "_law_web" "_law_web" s_law_web t.a_law_web t.d_law_web
 b_law_web : Binds K t.d_law_web ["script", "most_places", "most_ties"] []
 m_law_web : mg "_law_web" = some (.ref t.a_law_web)
 f_law_lengths : Fun K "_law_lengths" "_law_lengths" s_law_lengths t.a_law_lengths t.d_law_lengths
 b_law_lengths : Binds K t.d_law_lengths ["script", "count"] []
 m_law_lengths : mg "_law_lengths" = some (.ref t.a_law_lengths)
 f_law_is_tree : Fun K "_law_is_tree" "_law_is_tree" s_law_is_tree t.a_law_is_tree t.d_law_is_tree
 b_law_is_tree : Binds K t.d_law_is_tree ["places", "ties", "tree"] []
 m_law_is_tree : mg "_law_is_tree" = some (.ref t.a_law_is_tree)
 f_law_ring : Fun K "_law_ring" "_law_ring" s_law_ring t.a_law_ring t.d_law_ring
 b_law_ring : Binds K t.d_law_ring ["places", "ties", "tree", "tie"] []
 m_law_ring : mg "_law_ring" = some (.ref t.a_law_ring)
 f_law_beside : Fun K "_law_beside" "_law_beside" s_law_beside t.a_law_beside t.d_law_beside
 b_law_beside : Binds K t.d_law_beside ["places", "ties", "lengths", "pair"] []
 m_law_beside : mg "_law_beside" = some (.ref t.a_law_beside)
 f_law : Fun K "law" "law" s_law t.a_law t.d_law
 b_law : Binds K t.d_law ["script"] []
 m_law : mg "law" = some (.ref t.a_law)
 c_Web : mg "Web" = some (.ref t.A_Web)
 cl_Web : Cls K t.A_Web
 k_Web : Mk K t.A_Web t.a_Web___init
 n_Web_places : NoAttr K t.A_Web "places"
 n_Web_ties : NoAttr K t.A_Web "ties"
 g_MOST_PLACES : ∃ tk, mg "MOST_PLACES" = some (.int 14 tk)
 g_MOST_TIES : ∃ tk, mg "MOST_TIES" = some (.int 30 tk)
 n_bool : mg "bool" = none
 n_enumerate : mg "enumerate" = none
 n_int : mg "int" = none
 n_isinstance : mg "isinstance" = none
 n_len : mg "len" = none
 n_list : mg "list" = none
 n_max : mg "max" = none
 n_min : mg "min" = none
 n_range : mg "range" = none
 n_sorted : mg "sorted" = none
 n_sum : mg "sum" = none
 n_tuple : mg "tuple" = none
 n_zip : mg "zip" = none
end My
namespace My
open PySem L2 PyProof.Rows
set_option maxHeartbeats 4000000
def sp_refuse_not_square (K : PySem.W.Frag) : Sp := fun vs H Q _ => ∃ (a : Addr) (kd : Bool) (xs : List V) (L : List (List Int)), vs = [.ref a] /\ SqK kd K H a xs /\ Bears (RowV K H) xs L /\
 ((∀ l ∈ L, l.length = L.length) -> Q .non H) /\ (¬ (∀ l ∈ L, l.length = L.length) -> False)
section
variable {P : Program} {w : World} {K : PySem.W.Frag} {mg : Str -> Option Value} {base : Heap} {t : Adr}
theorem sc_refuse_not_square : FnScope ["table", "row"] ["table"] (defScope s_refuse_not_square) := ⟨rfl, rfl, rfl, by decide +kernel, rfl, by decide +kernel, by decide +kernel⟩
theorem ok_refuse_not_square (T : Txt K mg t) : FnOk P w K mg base CX0 1 t.a_refuse_not_square t.d_refuse_not_square ["table"] (sp_refuse_not_square K) := by
 refine T.f_refuse_not_square.ok sc_refuse_not_square (fun vs H Q E h => ?_) (fun cdv A outer s H vs Q E hr h => ?_)
 ·obtain ⟨a, kd, xs, L, rfl, _⟩ := h
  rfl
 ·obtain ⟨a, kd, xs, L, rfl, hS, hB, q, qe⟩ := h
  refine ⟨_, (pss_one (ps_for PassesOwn.never rfl (pi_seqK K (pv 0)) (pg_name (i := 1) sc_refuse_not_square.nd rfl (Or.inl rfl))
   (pss_one (ps_if (pt_cmpR op_ne (pe_callB (call_lenK K) (by rfl) T.n_len Boot.«len» (pa_cons (pv 1) pa_nil)) (pe_callB (call_lenK K) (by rfl) T.n_len Boot.«len» (pa_cons (pv 0) pa_nil)) (nomark _))
   (pss_one ps_never)
   pss_nil)))), ?_⟩
  have hxl := hB.1
  refine ⟨_, rfl, a, rfl, for_seq (K := K) (k := kd) (a := a) (xs := xs) (fun i σ H2 => ∃ v1, σ = [some (.ref a), v1] /\ H2 = H /\ ∀ l ∈ L.take i, l.length = L.length) ⟨none, rfl, rfl, fun l h => (by cases h)⟩ (fun i σ H2 _ ⟨_, _, e, _⟩ => e ▸ hS) ?_ ?_⟩
  ·rintro i v σ H2 hi ⟨v1, rfl, rfl, hall⟩
   obtain ⟨l, hl, r, k, rfl, hr⟩ := hB.at hi
   refine nm ?_
   refine ⟨_, rfl, r, _, rfl, hr.or, _, rfl, a, xs, rfl, hS.or, rfl, _, rfl, ?_⟩
   rw [il_length, dec_int]
   refine itn2 (fun e => ?_) (fun e => ?_)
   ·refine ⟨_, rfl, rfl, fun m hm => ?_⟩
    rw [List.take_succ, hl] at hm
    rcases List.mem_append.mp hm with h | h
    ·exact hall m h
    ·have hm' : m = l := by simpa using h
     rw [hm']
     omega
   ·exact qe fun h => e (by rw [h l (List.mem_of_getElem? hl), hxl])
  ·rintro σ H2 ⟨v1, rfl, rfl, hall⟩
   rw [hxl, List.take_length] at hall
   exact q hall
end
set_option maxHeartbeats 4000000
def sp_row_taken_off (K : PySem.W.Frag) : Sp := fun vs H Q _ => ∃ (r p : Addr) (x y last : Int) (l q : List Int), vs = [.ref r, .ref p, .int last] /\ SqL K H r (IL (x :: l)) /\ SqL K H p (IL (y :: q)) /\ l.length = q.length /\ l.length <= 1000 /\ last ≠ 0 /\ last.natAbs < 2 ^ 9000 /\
 (∀ z ∈ x :: l, z.natAbs < 2 ^ 9000) /\ (∀ z ∈ y :: q, z.natAbs < 2 ^ 9000) /\ ∀ (c : Addr) (H' : Hp), Same H H' -> H c = none -> H' c = some (.lst (IL (tkn y q last (x :: l)))) -> Q (.ref c) H'
section
variable {P : Program} {w : World} {K : PySem.W.Frag} {mg : Str -> Option Value} {base : Heap} {t : Adr}
theorem sc_row_taken_off : FnScope ["row", "pivot", "last"] ["row", "pivot", "last"] (defScope s_row_taken_off) := ⟨rfl, rfl, rfl, by decide +kernel, rfl, by decide +kernel, by decide +kernel⟩
theorem ok_row_taken_off (T : Txt K mg t) : FnOk P w K mg base CX0 1 t.a_row_taken_off t.d_row_taken_off ["row", "pivot", "last"] (sp_row_taken_off K) := by
 refine T.f_row_taken_off.ok sc_row_taken_off (fun vs H Q E h => ?_) (fun cdv A outer s H vs Q E hr h => ?_)
 ·obtain ⟨r, p, x, y, last, l, q, rfl, _⟩ := h
  rfl
 ·obtain ⟨r, p, x, y, last, l, q', rfl, hR, hP, hlq, hl, l0, l1, hx, hy, q⟩ := h
  refine ⟨_, (pss_one (ps_ret (pe_lc rfl (sc0 := defScope s_row_taken_off) (N0 := ["row", "pivot", "last"]) (N' := ["own", "other", "pivot", "row", "last"]) (o := 2) (fr := [1, 0, 2]) ⟨rfl, by decide +kernel, by decide +kernel, by decide +kernel, rfl, by decide +kernel⟩ (pi_zip K rfl T.n_zip (pa_cons (pe_slice (sl_listK K) (pv 0) (po_some pe_int) po_none) (pa_cons (pe_slice (sl_listK K) (pv 1) (po_some pe_int) po_none) pa_nil))) (own_tup (own_cons (by decide) (own_cons (by decide) own_nil))) (fun _ _ _ _ => (pg_tupK (n := 2) K rfl (pgs_cons (pg_name (i := 0) (show List.Nodup (["own", "other", "pivot", "row", "last"] : List Str) by decide +kernel) rfl (Or.inl rfl)) (pgs_cons (pg_name (i := 1) (show List.Nodup (["own", "other", "pivot", "row", "last"] : List Str) by decide +kernel) rfl (Or.inl rfl)) pgs_nil)))) (fun _ _ _ _ => pts_nil) (fun _ _ _ _ => (pe_op op_fdivL (pe_op op_sub (pe_op op_mulL (pe_ix (ix_listK K) (pv 2) pe_int (fun _ _ => rfl)) (pv 0)) (pe_op op_mulL (pe_ix (ix_listK K) (pv 3) pe_int (fun _ _ => rfl)) (pv 1))) (pv 4)))))), ?_⟩
  refine ⟨_, rfl, _, rfl, r, _, rfl, hR, fun p1 hp1 => ?_⟩
  rw [cut_tail]
  have s1 := same_at (o := .lst (IL l)) hp1
  refine ⟨_, rfl, _, rfl, p, _, rfl, s1.seq hP, fun p2 hp2 => ?_⟩
  rw [cut_tail]
  have s2 := same_at (o := .lst (IL q')) hp2
  have s12 := s1.trans s2
  have h1 := s2 _ _ (upd_same (H := H) (a := p1) (o := .lst (IL l)))
  have h2 : (upd (upd H p1 (.lst (IL l))) p2 (.lst (IL q'))) p2 = some (.lst (IL q')) := upd_same
  generalize upd (upd H p1 (.lst (IL l))) p2 (.lst (IL q')) = H2 at *
  refine ⟨p1, p2, rfl, ⟨_, _, SqL.of h1, SqL.of h2⟩, lc_zip (K := K) (a := p1) (b := p2) (xs := IL l) (ys := IL q') (fun i zs H3 => Same H2 H3 /\ i <= l.length /\ zs = IL ((tkn y q' last (x :: l)).take i)) ⟨Same.refl _, Nat.zero_le _, rfl⟩ (by rw [il_length, il_length]; exact hlq) (small60' (by rw [il_length]; omega))
   (fun i zs H3 hi ⟨e, hi2, ez⟩ => ⟨SqL.of (e _ _ h1), SqL.of (e _ _ h2), by rw [ez, il_length, List.length_take]; omega⟩) ?_ ?_⟩
  ·rintro i u v zs H3 pt hpt hu hv ⟨s3, hil, rfl⟩ S hSS
   obtain ⟨own, rfl, ho⟩ := il_get hu
   obtain ⟨oth, rfl, ht⟩ := il_get hv
   have hil' := (List.getElem?_eq_some_iff.mp ho).1
   have s4 := same_at (o := .tup [.int own, .int oth]) hpt
   refine ⟨pt, _, rfl, SqT.of upd_same, rfl, _, _, rfl, _, _, rfl, rfl, ?_⟩
   have s34 := s12.trans (s3.trans s4)
   have a1 := hy y List.mem_cons_self
   have a2 := hx own (List.mem_cons_of_mem _ (List.mem_of_getElem? ho))
   have a3 := hx x List.mem_cons_self
   have a4 := hy oth (List.mem_cons_of_mem _ (List.mem_of_getElem? ht))
   refine ⟨_, rfl, p, _, 0, .int y, rfl, rfl, s34.seq hP, atI_of (n := 0) rfl rfl, _, rfl, _, _, rfl, rfl, ⟨a1, a2⟩, _, rfl, r, _, 0, .int x, rfl, rfl, s34.seq hR, atI_of (n := 0) rfl rfl, _, rfl, _, _, rfl, rfl, ⟨a3, a4⟩, _, _, rfl, rfl, _, rfl, _, _, rfl, rfl, ⟨l0, l1⟩, ?_⟩
   refine hSS _ _ ⟨s3.trans s4, hil', ?_⟩
   have e : (tkn y q' last (x :: l))[i]? = some ((y * own - x * oth).fdiv last) := by
    show (List.zipWith _ l q')[i]? = _
    rw [List.getElem?_zipWith, ho, ht]
    rfl
   rw [List.take_succ, e]
   exact (il_snoc _ _).symm
  ·rintro zs H3 ⟨s3, _, rfl⟩ c hc
   rw [il_length, List.take_of_length_le (by rw [tkn_len (by rw [List.length_cons, hlq])]; omega)]
   exact q c _ (s12.trans (s3.trans (same_at hc))) ((s12.trans s3).free hc) upd_same
end
set_option maxHeartbeats 4000000
def sp_first_with_some (K : PySem.W.Frag) : Sp := fun vs H Q _ => ∃ (a : Addr) (ys : List V) (R : List (List Int)), vs = [.ref a] /\ SqL K H a ys /\ Bears (ListV H) ys R /\ (∀ l ∈ R, 0 < l.length) /\
 (∀ H' : Hp, Same H H' -> (∀ i, i < R.length -> fnL R i 0 = 0) -> Q .non H') /\ (∀ (t : Nat) (H' : Hp), Same H H' -> t < R.length -> fnL R t 0 ≠ 0 -> Q (.int t) H')
section
variable {P : Program} {w : World} {K : PySem.W.Frag} {mg : Str -> Option Value} {base : Heap} {t : Adr}
theorem sc_first_with_some : FnScope ["rows", "at", "row"] ["rows"] (defScope s_first_with_some) := ⟨rfl, rfl, rfl, by decide +kernel, rfl, by decide +kernel, by decide +kernel⟩
theorem ok_first_with_some (T : Txt K mg t) : FnOk P w K mg base CX0 1 t.a_first_with_some t.d_first_with_some ["rows"] (sp_first_with_some K) := by
 refine T.f_first_with_some.ok sc_first_with_some (fun vs H Q E h => ?_) (fun cdv A outer s H vs Q E hr h => ?_)
 ·obtain ⟨a, ys, R, rfl, _⟩ := h
  rfl
 ·obtain ⟨a, ys, R, rfl, hS, hB, hp, q0, q1⟩ := h
  refine ⟨_, (pss_cons (ps_for PassesOwn.never rfl (pi_enumK K rfl T.n_enumerate (pa_cons (pv 0) pa_nil)) (pg_tupK (n := 2) K rfl (pgs_cons (pg_name (i := 1) sc_first_with_some.nd rfl (Or.inl rfl)) (pgs_cons (pg_name (i := 2) sc_first_with_some.nd rfl (Or.inl rfl)) pgs_nil)))
   (pss_one (ps_if (pt_cmpR op_ne (pe_ix (ix_listK K) (pv 2) pe_int (fun _ _ => rfl)) pe_int (nomark _))
   (pss_one (ps_ret (pv 1)))
   pss_nil)))
   (pss_one (ps_ret pe_non))), ?_⟩
  have hyl := hB.1
  refine ⟨_, rfl, a, rfl, ⟨_, hS⟩, for_enum (K := K) (a := a) (xs := ys) (fun i σ H2 => ∃ v1 v2, σ = [some (.ref a), v1, v2] /\ Same H H2 /\ ∀ j, j < i -> fnL R j 0 = 0) ⟨none, none, rfl, Same.refl _, fun j h => absurd h (Nat.not_lt_zero _)⟩ (fun i σ H2 _ ⟨_, _, _, e, _⟩ => e.seq hS) ?_ ?_⟩
  ·rintro i v σ H2 pt hpt hi ⟨v1, v2, rfl, s2, hz⟩
   obtain ⟨l, hl, r, rfl, hr⟩ := hB.at hi
   have hlp := hp l (List.mem_of_getElem? hl)
   obtain ⟨x, l', rfl⟩ : ∃ x l', l = x :: l' := by
    cases l with
    | nil => exact absurd hlp (Nat.lt_irrefl 0)
    | cons x l' => exact ⟨x, l', rfl⟩
   have e0 : fnL R i 0 = x := fnL_at hl rfl
   have s3 := s2.trans (same_at (o := .tup [.int i, .ref r]) hpt)
   refine ⟨pt, _, rfl, SqT.of upd_same, rfl, _, _, rfl, _, _, rfl, rfl, ?_⟩
   generalize upd H2 pt (.tup [.int i, .ref r]) = H3 at *
   refine ⟨_, rfl, r, _, 0, .int x, rfl, rfl, SqL.of (s3 _ _ hr), atI_of (n := 0) rfl rfl, rfl, _, rfl, ?_⟩
   rw [dec_int]
   refine itn2 (fun e => ?_) (fun e => ?_)
   ·refine ⟨_, _, rfl, s3, fun j hj => ?_⟩
    by_cases c : j = i
    ·rw [c, e0, e]
    ·exact hz j (by omega)
   ·exact ⟨_, rfl, q1 i H3 s3 (by have := (List.getElem?_eq_some_iff.mp hl).1; exact this) (by rw [e0]; exact e)⟩
  ·rintro σ H2 ⟨v1, v2, rfl, s2, hz⟩
   exact q0 H2 s2 fun i hi => hz i (by omega)
end
set_option maxHeartbeats 4000000
def sp_determinant (K : PySem.W.Frag) : Sp := fun vs H Q _ => ∃ (a : Addr) (kd : Bool) (xs : List V) (L : List (List Int)), vs = [.ref a] /\ SqK kd K H a xs /\ Bears (RowV K H) xs L /\ L.length <= 16 /\ (∀ i j, i < L.length -> j < L.length -> (fnL L i j).natAbs <= 2 ^ 400) /\
 ((∀ l ∈ L, l.length = L.length) -> ∀ H' : Hp, Same H H' -> Q (.int (det L.length (fnL L))) H') /\ (¬ (∀ l ∈ L, l.length = L.length) -> ∀ H' : Hp, Same H H' -> False)
theorem contS5 {s rest : TS} {D : Ends} {σ : L2.St} {H : Hp} (P : L2.St -> Hp -> Prop) (h1 : ∀ σ' H', P σ' H' -> rest D σ' H') (h2 : ∀ K : L2.St -> Hp -> Prop, (∀ σ' H', P σ' H' -> K σ' H') -> s { D with nx := K } σ H) : tSeq s rest D σ H := h2 _ h1
section
variable {P : Program} {w : World} {K : PySem.W.Frag} {mg : Str -> Option Value} {base : Heap} {t : Adr}
theorem sc_determinant : FnScope ["table", "rows", "sign", "last", "at", "pivot"] ["table"] (defScope s_determinant) := ⟨rfl, rfl, rfl, by decide +kernel, rfl, by decide +kernel, by decide +kernel⟩
theorem ok_determinant (T : Txt K mg t) : FnOk P w K mg base CX0 2 t.a_determinant t.d_determinant ["table"] (sp_determinant K) := by
 refine T.f_determinant.ok sc_determinant (fun vs H Q E h => ?_) (fun cdv A outer s H vs Q E hr h => ?_)
 ·obtain ⟨a, kd, xs, L, rfl, _⟩ := h
  rfl
 ·obtain ⟨a, kd, xs, L, rfl, hS, hB, hL16, hA0, q, qe⟩ := h
  refine ⟨_, (pss_cons (ps_expr (pe_call (ok_refuse_not_square T) (hr.mono (by decide)) rfl T.m_refuse_not_square T.f_refuse_not_square.kp T.b_refuse_not_square .nil pass0 (pa_cons (pv 0) pa_nil)))
   (pss_cons (ps_lc (i := 1) rfl sc_determinant.nd rfl rfl (sc0 := defScope s_determinant) (N0 := ["table", "rows", "sign", "last", "at", "pivot"]) (N' := ["row"]) (o := 1) (fr := []) ⟨rfl, by decide +kernel, by decide +kernel, by decide +kernel, rfl, by decide +kernel⟩ (pi_seqK K (pv 0)) (own_name (by decide)) (fun _ _ _ _ => (pg_name (i := 0) (show List.Nodup (["row"] : List Str) by decide +kernel) rfl (Or.inl rfl))) (fun _ _ _ _ => pts_nil) (fun _ _ _ _ => (pe_callTy (call_listK K) (by rfl) T.n_list Boot.«list» (pa_cons (pv 0) pa_nil))))
   (pss_cons (ps_set (i := 2) sc_determinant.nd rfl (Or.inl rfl) pe_int)
   (pss_cons (ps_set (i := 3) sc_determinant.nd rfl (Or.inr rfl) pe_int)
   (pss_cons (ps_while PassesOwn.never (pt_cmpR op_gt (pe_callB (call_lenK K) (by rfl) T.n_len Boot.«len» (pa_cons (pv 1) pa_nil)) pe_int (nomark _))
   (pss_cons (ps_set (i := 4) sc_determinant.nd rfl (Or.inl rfl) (pe_call (ok_first_with_some T) (hr.mono (by decide)) rfl T.m_first_with_some T.f_first_with_some.kp T.b_first_with_some .nil pass0 (pa_cons (pv 1) pa_nil)))
   (pss_cons (ps_if (pt_cmpR op_isN (pv 4) pe_non (nomark _))
   (pss_one (ps_ret pe_int))
   pss_nil)
   (pss_cons (ps_if (pt_cmpR op_eq (pe_op op_mod (pv 4) pe_int) pe_int (nomark _))
   (pss_one (ps_set (i := 2) sc_determinant.nd rfl (Or.inl rfl) (pe_un un_neg (pv 2))))
   pss_nil)
   (pss_cons (ps_set (i := 5) sc_determinant.nd rfl (Or.inr rfl) (pe_bmK K PySem.F.plainAttrs_list PySem.F.slot_list_pop PySem.F.type_list_pop mt_popAt (pv 1) (pa_cons (pv 4) pa_nil)))
   (pss_cons (ps_lc (i := 1) rfl sc_determinant.nd rfl rfl (sc0 := defScope s_determinant) (N0 := ["table", "rows", "sign", "last", "at", "pivot"]) (N' := ["row", "pivot", "last"]) (o := 1) (fr := [5, 3]) ⟨rfl, by decide +kernel, by decide +kernel, by decide +kernel, rfl, by decide +kernel⟩ (pi_listK K (pv 1)) (own_name (by decide)) (fun _ _ _ _ => (pg_name (i := 0) (show List.Nodup (["row", "pivot", "last"] : List Str) by decide +kernel) rfl (Or.inl rfl))) (fun _ _ _ _ => pts_nil) (fun _ _ _ _ => (pe_call (ok_row_taken_off T) (hr.mono (by decide)) rfl T.m_row_taken_off T.f_row_taken_off.kp T.b_row_taken_off .nil pass0 (pa_cons (pv 0) (pa_cons (pv 1) (pa_cons (pv 2) pa_nil))))))
   (pss_one (ps_set (i := 3) sc_determinant.nd rfl (Or.inr rfl) (pe_ix (ix_listK K) (pv 5) pe_int (fun _ _ => rfl))))))))))
   (pss_one (ps_ret (pe_op op_mulL (pv 2) (pv 3))))))))), ?_⟩
  have hxl := hB.1
  refine ⟨_, rfl, a, kd, xs, L, rfl, hS, hB, fun hsq => ?_, fun h => qe h H (Same.refl H)⟩
  have q := q hsq
  obtain ⟨n, hn⟩ : ∃ n, n = L.length := ⟨_, rfl⟩
  rw [<- hn] at q hsq hA0 hL16
  refine ⟨_, rfl, a, rfl, lc_seq (K := K) (k := kd) (a := a) (xs := xs) (fun i zs H2 => Same H H2 /\ i <= xs.length /\ Bears (ListV H2) zs (L.take i)) ⟨Same.refl _, Nat.zero_le _, ⟨rfl, fun i l e => by simp at e⟩⟩ (small60' (by omega)) (fun i zs H2 hi ⟨e, hi2, ez⟩ => ⟨hS.same e, by rw [ez.1, List.length_take]; omega⟩) ?_ ?_⟩
  ·rintro i v zs H2 hi ⟨s2, hil, hZ⟩ S hSS
   obtain ⟨l, hl, r, k, rfl, hr⟩ := hB.at hi
   have hil' := (List.getElem?_eq_some_iff.mp hi).1
   refine nm ?_
   refine ⟨_, rfl, r, _, rfl, (hr.same s2).or, fun c hc => hSS _ _ ⟨s2.trans (same_at hc), hil', ?_⟩⟩
   rw [List.take_succ, hl]
   refine (hZ.imp fun _ _ ⟨r', e, h⟩ => ⟨r', e, same_at hc _ _ h⟩).snoc ⟨c, rfl, upd_same⟩
  rintro zs H2 ⟨s2, _, hZ⟩ rA hrA
  rw [hxl, List.take_length] at hZ
  have s3 := s2.trans (same_at (o := .lst zs) hrA)
  refine ⟨fun m σ H4 => ∃ (A : Mx) (k : Nat) (rA : Addr) (ys : List V) (R : List (List Int)) (sgn last : Int) (v4 v5 : Option V), σ = [some (.ref a), some (.ref rA), some (.int sgn), some (.int last), v4, v5] /\ Same H H4 /\ H rA = none /\ H4 rA = some (.lst ys) /\ Bears (LiV rA H4) ys R /\ R.length = m /\ (∀ l ∈ R, l.length = m) /\ k + m = n /\ Bar A k m (fnL R) last /\ det n (fnL L) = sgn * det n A /\ (∀ i j, i < n -> j < n -> (A i j).natAbs <= 2 ^ 400) /\ (m = 0 -> last = det n A) /\ (sgn = 1 \/ sgn = -1) /\ last.natAbs < 2 ^ 9000, ⟨n, fnL L, 0, rA, zs, L, 1, 1, none, none, rfl, s3, s2.free hrA, upd_same, ?_, hn.symm, hsq, by omega, bar_start _ _, by omega, hA0, fun e => by rw [e]; rfl, .inl rfl, Nat.one_lt_two_pow (by decide)⟩, ?_⟩
  ·exact hZ.imp fun v l ⟨r, e, h⟩ => ⟨r, e, same_at hrA _ _ h, ne_of_none h hrA⟩
  rintro m σ H4 ⟨A, k, rA, ys, R, sgn, last, v4, v5, rfl, s4, hr0, hr4, hR, hRm, hRl, hkm, hBar, hdet, hAb, hfin, hsg, hlb⟩
  have hyl := hR.1
  refine ⟨_, rfl, rA, ys, rfl, .inl (SqL.of hr4), _, _, rfl, rfl, _, rfl, ?_⟩
  refine itd2 (fun hpos => ?_) (fun hpos => ?_)
  ·obtain ⟨M, rfl⟩ : ∃ M, m = M + 1 := ⟨m - 1, by omega⟩
   refine ⟨_, fun σ' H' h => ⟨M, Nat.lt_succ_self M, h⟩, ?_⟩
   have hsm : ∀ l ∈ R, ∀ z ∈ l, z.natAbs < 2 ^ 9000 := fun l hl z hz => by
    obtain ⟨i, hi⟩ := List.getElem?_of_mem hl
    obtain ⟨j, hj⟩ := List.getElem?_of_mem hz
    have h1 := (List.getElem?_eq_some_iff.mp hi).1
    have h2 := (List.getElem?_eq_some_iff.mp hj).1
    have h3 := hRl l hl
    have := bar_small hBar hkm hL16 hAb (i := i) (j := j) (by omega) (by omega)
    rw [fnL_at hi hj] at this
    exact this
   refine ⟨_, rfl, rA, ys, R, rfl, SqL.of hr4, hR.imp fun _ _ h => h.list, fun l hl => by rw [hRl l hl]; omega, fun H5 s5 h0 => ?_, fun t H5 s5 ht hne => ?_⟩
   ·refine ⟨_, rfl, rfl, _, rfl, ?_⟩
    refine itd (c := V.non = V.non) rfl ?_
    have z : det n A = 0 := by
     have := bar_none hBar fun i hi => h0 i (by omega)
     rw [show k + M + 1 = n by omega] at this
     exact this
    rw [hdet, z, Int.mul_zero] at q
    exact q H5 (s4.trans s5)
   refine ⟨_, rfl, rfl, _, rfl, ?_⟩
   refine itdn (c := V.int (t : Int) = V.non) (fun z => nomatch z) ?_
   refine nm ?_
   dsimp only
   refine contS5 (fun σ H6 => ∃ sgn' : Int, H6 = H5 /\ σ = [some (.ref a), some (.ref rA), some (.int sgn'), some (.int last), some (.int t), v5] /\ sgn' = sgn * sg t) ?_ ?_
   ·rintro σ H6 ⟨sgn', rfl, rfl, hsgn⟩
    have hr6 := s5 _ _ hr4
    have hR6 := hR.imp fun _ _ h => h.same s5
    obtain ⟨l, hl⟩ : ∃ l, R[t]? = some l := ⟨_, List.getElem?_eq_getElem ht⟩
    have hll := hRl l (List.mem_of_getElem? hl)
    obtain ⟨y, p', rfl⟩ : ∃ y p', l = y :: p' := by
     cases l with
     | nil => cases hll
     | cons y p' => exact ⟨y, p', rfl⟩
    have hpl : p'.length = M := by rw [List.length_cons] at hll; omega
    obtain ⟨v, hv, pA, rfl, hpA, hpn⟩ := hR6.2 t _ hl
    have hy0 : y ≠ 0 := by rw [fnL_at hl rfl] at hne; exact hne
    refine ⟨_, rfl, .inl ⟨rfl, _, SqL.of hr6⟩, _, rfl, rA, ys, (t : Int), t, .ref pA, rfl, rfl, hr6, by omega, by omega, by rw [seq_ix (by omega) (by omega), Int.toNat_natCast], hv, ?_⟩
    have hpA7 : (upd H6 rA (.lst (ys.eraseIdx t))) pA = some (.lst (IL (y :: p'))) := by rw [upd_ne hpn]; exact hpA
    have s7 : Same H (upd H6 rA (.lst (ys.eraseIdx t))) := same_upd hr0 (s4.trans s5)
    have hR7 : Bears (LiV rA (upd H6 rA (.lst (ys.eraseIdx t)))) (ys.eraseIdx t) (R.eraseIdx t) := (hR6.erase t).imp fun _ _ h => h.mut
    have hr7 : (upd H6 rA (.lst (ys.eraseIdx t))) rA = some (.lst (ys.eraseIdx t)) := upd_same
    generalize upd H6 rA (.lst (ys.eraseIdx t)) = H7 at *
    have eRl : (R.eraseIdx t).length = M := by rw [List.length_eraseIdx, if_pos ht]; omega
    have hRl7 : ∀ l ∈ R.eraseIdx t, l.length = M + 1 := fun l h => hRl l (List.mem_of_mem_eraseIdx h)
    have hy7 := hR7.1
    refine ⟨_, rfl, rA, rfl, ⟨_, SqL.of hr7⟩, lc_list (K := K) (a := rA) (xs := ys.eraseIdx t) (fun i zs H8 => Same H7 H8 /\ i <= (ys.eraseIdx t).length /\ Bears (ListV H8) zs (((R.eraseIdx t).take i).map (tkn y p' last))) ⟨Same.refl _, Nat.zero_le _, ⟨rfl, fun i l e => by simp at e⟩⟩ (small60' (by omega)) (fun i zs H8 hi ⟨e, hi2, ez⟩ => ⟨SqL.of (e _ _ hr7), by rw [ez.1, List.length_map, List.length_take]; omega⟩) ?_ ?_⟩
    ·rintro i v zs H8 hi ⟨s8, hil, hZ8⟩ S hSS
     obtain ⟨l, hli, r, rfl, hr, _⟩ := hR7.at hi
     have hil' := (List.getElem?_eq_some_iff.mp hi).1
     have hl2 := hRl7 l (List.mem_of_getElem? hli)
     obtain ⟨x, l', rfl⟩ : ∃ x l', l = x :: l' := by
      cases l with
      | nil => cases hl2
      | cons x l' => exact ⟨x, l', rfl⟩
     have hl' : l'.length = M := by rw [List.length_cons] at hl2; omega
     refine nm ?_
     refine ⟨_, rfl, _, rfl, _, rfl, r, pA, x, y, last, l', p', rfl, SqL.of (s8 _ _ hr), SqL.of (s8 _ _ hpA7), by omega, by omega, hBar.1, hlb, hsm _ (List.mem_of_mem_eraseIdx (List.mem_of_getElem? hli)), hsm _ (List.mem_of_getElem? hl), fun c H9 s9 hc0 hc => hSS _ _ ⟨s8.trans s9, hil', ?_⟩⟩
     rw [List.take_succ, hli, List.map_append]
     exact (hZ8.imp fun _ _ ⟨r', e, h⟩ => ⟨r', e, s9 _ _ h⟩).snoc ⟨c, rfl, hc⟩
    rintro zs H8 ⟨s8, _, hZ8⟩ cA hcA
    rw [hy7, List.take_length] at hZ8
    have s9 := same_at (o := .lst zs) hcA
    refine ⟨_, rfl, pA, _, 0, .int y, rfl, rfl, SqL.of (s9 _ _ (s8 _ _ hpA7)), atI_of (n := 0) rfl rfl, ?_⟩
    have hb1 : Bar (fun i => A (rotN k t i)) k (M + 1) (fnL ((y :: p') :: R.eraseIdx t)) last := by
     rw [rot_fnL hl]
     exact bar_rot hBar (by omega)
    have hb2 : Bar (fun i => A (rotN k t i)) (k + 1) M (fnL ((R.eraseIdx t).map (tkn y p' last))) y := bar_step hb1 hy0 fun i j hi hj => tkn_fnL hpl eRl hRl7 hi hj
    have hdr := det_rot (n := n) (k := k) (t := t) (A := A) (by omega)
    refine ⟨fun i => A (rotN k t i), k + 1, cA, zs, (R.eraseIdx t).map (tkn y p' last), sgn', y, _, _, rfl, s7.trans (s8.trans s9), (s7.trans s8).free hcA, upd_same, ?_, by rw [List.length_map]; exact eRl, fun l h => ?_, by omega, hb2, ?_, fun i j hi hj => hAb _ _ ?_ hj, fun e0 => ?_, ?_, hsm _ (List.mem_of_getElem? hl) y List.mem_cons_self⟩
    ·exact hZ8.imp fun v l ⟨r, e, h⟩ => ⟨r, e, s9 _ _ h, ne_of_none h hcA⟩
    ·obtain ⟨l0, h0, rfl⟩ := List.mem_map.mp h
     rw [tkn_len (by rw [hRl7 l0 h0, hpl]), hpl]
    ·rw [hdr, hdet, hsgn, Int.mul_assoc, <- Int.mul_assoc (sg t), sg_sq, Int.one_mul]
    ·unfold rotN
     split
     ·omega
     ·split
      ·omega
      ·split <;> omega
    ·subst e0
     have := bar_end hb1
     rw [show k + 1 = n by omega] at this
     exact this
    ·rw [hsgn]
     have hst : sg t = 1 \/ sg t = -1 := by
      unfold sg
      split
      ·exact .inl rfl
      ·exact .inr rfl
     rcases hsg with e | e <;> rcases hst with f | f <;> rw [e, f]
     ·exact .inl rfl
     ·exact .inr rfl
     ·exact .inr rfl
     ·exact .inl rfl
   ·intro Kn hK
    refine ⟨_, rfl, _, _, rfl, rfl, (by show (0 : Int) < 2; decide), rfl, _, rfl, ?_⟩
    rw [dec_int]
    refine itd2 (fun h1 => ?_) (fun h1 => ?_)
    ·refine ⟨_, rfl, _, rfl, hK _ _ ⟨-sgn, rfl, rfl, ?_⟩⟩
     have e : sg t = -1 := by unfold sg; rw [if_neg (by omega)]
     rw [e]
     omega
    ·refine hK _ _ ⟨sgn, rfl, rfl, ?_⟩
     have e : sg t = 1 := by unfold sg; rw [if_pos (by omega)]
     rw [e]
     omega
  ·have hm0 : m = 0 := by omega
   refine ⟨_, rfl, _, rfl, _, _, rfl, rfl, ⟨?_, hlb⟩, ?_⟩
   ·rcases hsg with e | e <;> rw [e] <;> exact Nat.one_lt_two_pow (by decide)
   ·rw [hfin hm0] at *
    rw [hdet] at q
    exact q H4 s4
end
set_option maxHeartbeats 4000000
def sp_row_without (K : PySem.W.Frag) : Sp := fun vs H Q _ => ∃ (a : Addr) (l : List Int) (i : Nat), vs = [.ref a, .int i] /\ SqL K H a (IL l) /\ l.length <= 1000 /\ ∀ (r : Addr) (H' : Hp), Same H H' -> H r = none -> H' r = some (.lst (IL (cutz l i))) -> Q (.ref r) H'
theorem il_cutz2 (l : List Int) (z : Int) : cutz (IL l) z = IL (cutz l z) := by
 unfold cutz
 show (l.map V.int).take _ ++ (l.map V.int).drop _ = (l.take _ ++ l.drop _).map V.int
 rw [List.map_append, List.map_take, List.map_drop]
section
variable {P : Program} {w : World} {K : PySem.W.Frag} {mg : Str -> Option Value} {base : Heap} {t : Adr}
theorem sc_row_without : FnScope ["row", "number"] ["row", "number"] (defScope s_row_without) := ⟨rfl, rfl, rfl, by decide +kernel, rfl, by decide +kernel, by decide +kernel⟩
theorem ok_row_without (T : Txt K mg t) : FnOk P w K mg base CX0 1 t.a_row_without t.d_row_without ["row", "number"] (sp_row_without K) := by
 refine T.f_row_without.ok sc_row_without (fun vs H Q E h => ?_) (fun cdv A outer s H vs Q E hr h => ?_)
 ·obtain ⟨a, l, i, rfl, _⟩ := h
  rfl
 ·obtain ⟨a, l, i, rfl, hA, hl, q⟩ := h
  refine ⟨_, (pss_one (ps_ret (pe_op op_cat (pe_callTy (call_listK K) (by rfl) T.n_list Boot.«list» (pa_cons (pe_slice (sl_listK K) (pv 0) po_none (po_some (pv 1))) pa_nil)) (pe_callTy (call_listK K) (by rfl) T.n_list Boot.«list» (pa_cons (pe_slice (sl_listK K) (pv 0) (po_some (pe_op op_add (pv 1) pe_int)) po_none) pa_nil))))), ?_⟩
  refine ⟨_, rfl, _, rfl, (i : Int), rfl, a, _, rfl, hA, fun p1 hp1 => ?_⟩
  have u1 := same_at (o := .lst (cutV (IL l) none (some (i : Int)))) hp1
  refine ⟨p1, _, rfl, .inl (SqL.of upd_same), fun p2 hp2 => ?_⟩
  have u2 := same_at (o := .lst (cutV (IL l) none (some (i : Int)))) hp2
  refine ⟨_, rfl, _, rfl, _, _, rfl, rfl, _, rfl, a, _, rfl, (u1.trans u2).seq hA, fun p3 hp3 => ?_⟩
  have u3 := same_at (o := .lst (cutV (IL l) (some ((i : Int) + 1)) none)) hp3
  refine ⟨p3, _, rfl, .inl (SqL.of upd_same), fun p4 hp4 => ?_⟩
  have u4 := same_at (o := .lst (cutV (IL l) (some ((i : Int) + 1)) none)) hp4
  have c1 := cutV_length (IL l) none (some (i : Int))
  have c2 := cutV_length (IL l) (some ((i : Int) + 1)) none
  rw [il_length] at c1 c2
  refine ⟨p2, p4, _, _, rfl, rfl, (u3.trans u4) _ _ upd_same, upd_same, small60 (by omega), fun p5 hp5 => ?_⟩
  have u14 := u1.trans (u2.trans (u3.trans u4))
  refine q p5 _ (u14.trans (same_at hp5)) (u14.free hp5) ?_
  rw [upd_same, cut_z (by omega), il_cutz2]
end
set_option maxHeartbeats 4000000
def sp_table_without (K : PySem.W.Frag) : Sp := fun vs H Q _ => ∃ (a : Addr) (ys : List V) (L : List (List Int)) (i : Nat), vs = [.ref a, .int i] /\ SqL K H a ys /\ Bears (ListV H) ys L /\ L.length <= 1000 /\ (∀ l ∈ L, l.length <= 1000) /\ i < L.length /\
 ∀ (r : Addr) (zs : List V) (H' : Hp), Same H H' -> H' r = some (.lst zs) -> Bears (ListV H') zs ((cutz L i).map fun l => cutz l (i : Int)) -> Q (.ref r) H'
theorem cutz_take {α : Type} {l : List α} {i j : Nat} {x : α} (hx : l[j]? = some x) : cutz (l.take (j + 1)) (i : Int) = cutz (l.take j) (i : Int) ++ (if j = i then [] else [x]) := by
 have hj := (List.getElem?_eq_some_iff.mp hx).1
 have e : l.take (j + 1) = l.take j ++ [x] := by rw [List.take_succ, hx]; rfl
 have hl : (l.take j).length = j := by rw [List.length_take]; omega
 have short : ∀ m : List α, m.length <= i -> cutz m (i : Int) = m := fun m hm => by
  unfold cutz
  rw [Int.toNat_natCast, List.take_of_length_le hm, List.drop_eq_nil_of_le (by omega), List.append_nil]
 rw [e]
 by_cases c : j = i
 ·subst c
  rw [if_pos rfl, List.append_nil, short (l.take j) (by omega)]
  unfold cutz
  rw [Int.toNat_natCast, List.take_append_of_le_length (by omega), List.drop_eq_nil_of_le (by rw [List.length_append, hl]; exact Nat.le_refl _), List.append_nil, List.take_of_length_le (by omega)]
 ·rw [if_neg c]
  by_cases d : j < i
  ·rw [short (l.take j ++ [x]) (by rw [List.length_append, hl]; exact d), short (l.take j) (by omega)]
  ·unfold cutz
   rw [Int.toNat_natCast, List.take_append_of_le_length (by omega), List.drop_append_of_le_length (by omega), List.append_assoc]
section
variable {P : Program} {w : World} {K : PySem.W.Frag} {mg : Str -> Option Value} {base : Heap} {t : Adr}
theorem sc_table_without : FnScope ["table", "number"] ["table", "number"] (defScope s_table_without) := ⟨rfl, rfl, rfl, by decide +kernel, rfl, by decide +kernel, by decide +kernel⟩
theorem ok_table_without (T : Txt K mg t) : FnOk P w K mg base CX0 2 t.a_table_without t.d_table_without ["table", "number"] (sp_table_without K) := by
 refine T.f_table_without.ok sc_table_without (fun vs H Q E h => ?_) (fun cdv A outer s H vs Q E hr h => ?_)
 ·obtain ⟨a, ys, L, i, rfl, _⟩ := h
  rfl
 ·obtain ⟨a, ys, L, i, rfl, hA, hB, hL, hLl, hi, q⟩ := h
  refine ⟨_, (pss_one (ps_ret (pe_lc rfl (sc0 := defScope s_table_without) (N0 := ["table", "number"]) (N' := ["at", "row", "number"]) (o := 2) (fr := [1]) ⟨rfl, by decide +kernel, by decide +kernel, by decide +kernel, rfl, by decide +kernel⟩ (pi_enumK K rfl T.n_enumerate (pa_cons (pv 0) pa_nil)) (own_tup (own_cons (by decide) (own_cons (by decide) own_nil))) (fun _ _ _ _ => (pg_tupK (n := 2) K rfl (pgs_cons (pg_name (i := 0) (show List.Nodup (["at", "row", "number"] : List Str) by decide +kernel) rfl (Or.inl rfl)) (pgs_cons (pg_name (i := 1) (show List.Nodup (["at", "row", "number"] : List Str) by decide +kernel) rfl (Or.inl rfl)) pgs_nil)))) (fun _ _ _ _ => (pts_one (pt_cmpR op_ne (pv 0) (pv 2) (nomark _)))) (fun _ _ _ _ => (pe_call (ok_row_without T) (hr.mono (by decide)) rfl T.m_row_without T.f_row_without.kp T.b_row_without .nil pass0 (pa_cons (pv 1) (pa_cons (pv 2) pa_nil))))))), ?_⟩
  have hyl := hB.1
  refine ⟨_, rfl, a, rfl, ⟨_, hA⟩, lc_enum (K := K) (a := a) (xs := ys) (fun j zs H2 => Same H H2 /\ j <= ys.length /\ Bears (ListV H2) zs ((cutz (L.take j) (i : Int)).map fun l => cutz l (i : Int))) ⟨Same.refl _, Nat.zero_le _, by rw [show (cutz (L.take 0) (i : Int)).map (fun l => cutz l (i : Int)) = [] by unfold cutz; simp]; exact ⟨rfl, fun i l e => by simp at e⟩⟩ (small60' (by omega)) (fun j zs H2 hj ⟨e, hj2, ez⟩ => ⟨e.seq hA, by
   rw [ez.1, List.length_map]
   refine Nat.le_trans (cutz_len _ _) ?_
   rw [List.length_take]
   omega⟩) ?_ ?_⟩
  ·rintro j v zs H2 pt hpt hj ⟨s2, hjl, hZ⟩ S hSS
   obtain ⟨l, hl, r, rfl, hr⟩ := hB.at hj
   have hjl' := (List.getElem?_eq_some_iff.mp hj).1
   have s3 := same_at (o := .tup [.int j, .ref r]) hpt
   refine ⟨pt, _, rfl, SqT.of upd_same, rfl, _, _, rfl, _, _, rfl, rfl, ?_⟩
   have hZ3 : Bears (ListV (upd H2 pt (.tup [.int j, .ref r]))) zs ((cutz (L.take j) (i : Int)).map fun l => cutz l (i : Int)) := hZ.imp fun _ _ ⟨r', e, h⟩ => ⟨r', e, s3 _ _ h⟩
   have s23 := s2.trans s3
   generalize upd H2 pt (.tup [.int j, .ref r]) = H3 at *
   refine ⟨_, rfl, _, rfl, rfl, _, rfl, ?_⟩
   rw [dec_int]
   refine itn2 (fun e => ?_) (fun e => ?_)
   ·refine hSS _ _ ⟨s23, hjl', ?_⟩
    rw [cutz_take hl, if_pos (by omega), List.append_nil]
    exact hZ3
   ·refine ⟨_, rfl, _, rfl, r, l, i, rfl, SqL.of (s23 _ _ hr), hLl l (List.mem_of_getElem? hl), fun c H4 s4 _ hc => hSS _ _ ⟨s23.trans s4, hjl', ?_⟩⟩
    rw [cutz_take hl, if_neg (by omega), List.map_append]
    exact (hZ3.imp fun _ _ ⟨r', e, h⟩ => ⟨r', e, s4 _ _ h⟩).snoc ⟨c, rfl, hc⟩
  ·rintro zs H2 ⟨s2, _, hZ⟩ p hp
   rw [hyl, List.take_length] at hZ
   exact q p zs _ (s2.trans (same_at hp)) upd_same (hZ.imp fun _ _ ⟨r', e, h⟩ => ⟨r', e, same_at hp _ _ h⟩)
end
set_option maxHeartbeats 4000000
def sp_is_tie (C : Addr) : Sp := fun vs H Q _ => ∃ (w : Addr) (n : Int) (ps : List (Int × Int)) (k : Int), vs = [.ref w, .int k] /\ WebAt C H w n ps /\ Q (.bl (decide (0 <= k /\ k < (ps.length : Int)))) H
section
variable {P : Program} {w : World} {K : PySem.W.Frag} {mg : Str -> Option Value} {base : Heap} {t : Adr}
theorem sc_is_tie : FnScope ["web", "number"] ["web", "number"] (defScope s_is_tie) := ⟨rfl, rfl, rfl, by decide +kernel, rfl, by decide +kernel, by decide +kernel⟩
theorem ok_is_tie (T : Txt K mg t) : FnOk P w K mg base CX0 1 t.a_is_tie t.d_is_tie ["web", "number"] (sp_is_tie t.A_Web) := by
 refine T.f_is_tie.ok sc_is_tie (fun vs H Q E h => ?_) (fun cdv A outer s H vs Q E hr h => ?_)
 ·obtain ⟨w, n, ps, k, rfl, _⟩ := h
  rfl
 ·obtain ⟨w, n, ps, k, rfl, ⟨dx, tl, xs, h1, h2, h3⟩, q⟩ := h
  refine ⟨_, (pss_one (ps_ret (pe_chain op_le op_lt pe_int (pv 1) (pe_callB (call_lenK K) (by rfl) T.n_len Boot.«len» (pa_cons (pe_fldK K (pv 0) rfl) pa_nil))))), ?_⟩
  refine ⟨_, rfl, _, _, rfl, rfl, _, rfl, ?_⟩
  refine ite2 (fun hc => ?_) (fun hc => ?_)
  ·refine ⟨_, rfl, w, _, dx, _, _, rfl, h1, T.cl_Web, T.n_Web_ties, wf_ties _ _, tl, xs, rfl, .inl (SqL.of h2), _, _, rfl, rfl, ?_⟩
   have hc := of_decide_eq_true hc
   show Q (.bl (decide (k < (xs.length : Int)))) H
   rw [h3.1, show decide (k < (ps.length : Int)) = decide (0 <= k /\ k < (ps.length : Int)) from by simp [hc]]
   exact q
  ·have hc : ¬ (0 <= k) := fun z => hc (decide_eq_true z)
   show Q (.bl false) H
   rw [show (false : Bool) = decide (0 <= k /\ k < (ps.length : Int)) from by simp; omega]
   exact q
end
set_option maxHeartbeats 4000000
def sp_refuse_bad_web (K : PySem.W.Frag) : Sp := fun vs H Q _ => ∃ (n : Int) (a : Addr) (kd : Bool) (xs : List V) (ps : List (Int × Int)), vs = [.int n, .ref a] /\ SqK kd K H a xs /\ PairsV H xs ps /\ GoodW n ps /\ Q .non H
section
variable {P : Program} {w : World} {K : PySem.W.Frag} {mg : Str -> Option Value} {base : Heap} {t : Adr}
theorem sc_refuse_bad_web : FnScope ["places", "ties", "ends", "end"] ["places", "ties"] (defScope s_refuse_bad_web) := ⟨rfl, rfl, rfl, by decide +kernel, rfl, by decide +kernel, by decide +kernel⟩
theorem ok_refuse_bad_web (T : Txt K mg t) : FnOk P w K mg base CX0 1 t.a_refuse_bad_web t.d_refuse_bad_web ["places", "ties"] (sp_refuse_bad_web K) := by
 refine T.f_refuse_bad_web.ok sc_refuse_bad_web (fun vs H Q E h => ?_) (fun cdv A outer s H vs Q E hr h => ?_)
 ·obtain ⟨n, a, kd, xs, ps, rfl, _⟩ := h
  rfl
 ·obtain ⟨n, a, kd, xs, ps, rfl, hS, hp, ⟨g1, g2, g3, g4⟩, q⟩ := h
  refine ⟨_, (pss_cons (ps_if (pt_not (pt_chain op_le op_le pe_int (pv 0) (pe_glob (v := V.int 14) rfl T.g_MOST_PLACES.choose_spec ⟨_, rfl⟩)))
   (pss_one ps_never)
   pss_nil)
   (pss_cons (ps_if (pt_cmpR op_gt (pe_callB (call_lenK K) (by rfl) T.n_len Boot.«len» (pa_cons (pv 1) pa_nil)) (pe_glob (v := V.int 30) rfl T.g_MOST_TIES.choose_spec ⟨_, rfl⟩) (nomark _))
   (pss_one ps_never)
   pss_nil)
   (pss_one (ps_for PassesOwn.never rfl (pi_seqK K (pv 1)) (pg_name (i := 2) sc_refuse_bad_web.nd rfl (Or.inl rfl))
   (pss_one (ps_for PassesOwn.never rfl (pi_tupK K (pv 2)) (pg_name (i := 3) sc_refuse_bad_web.nd rfl (Or.inl rfl))
   (pss_one (ps_if (pt_not (pt_chain op_le op_lt pe_int (pv 3) (pv 0)))
   (pss_one ps_never)
   pss_nil)))))))), ?_⟩
  refine ⟨_, rfl, _, _, rfl, rfl, _, rfl, ?_⟩
  refine itd g1 ?_
  refine ⟨_, _, rfl, rfl, _, rfl, ?_⟩
  refine itn g2 ?_
  refine ⟨_, rfl, a, xs, rfl, hS.or, _, _, rfl, rfl, _, rfl, ?_⟩
  refine itdn (by rw [hp.1]; omega) ?_
  refine ⟨_, rfl, a, rfl, for_seq (k := kd) (K := K) (xs := xs) (fun i σ H2 => ∃ v v2, σ = [some (.int n), some (.ref a), v, v2] /\ H2 = H) ⟨none, none, rfl, rfl⟩ (fun i σ H2 _ ⟨_, _, _, e⟩ => e ▸ hS) ?_ ?_⟩
  ·rintro i x σ H2 hi ⟨v, v2, rfl, rfl⟩
   obtain ⟨p, hpi, tt, rfl, ht⟩ := hp.at hi
   obtain ⟨e1, e2, e3, e4⟩ := g4 p (List.mem_of_getElem? hpi)
   refine ⟨_, rfl, tt, rfl, ⟨_, SqT.of ht⟩, for_tup (K := K) (a := tt) (xs := [.int p.1, .int p.2]) (fun j σ H3 => ∃ v v2, σ = [some (.int n), some (.ref a), v, v2] /\ H3 = H2) ⟨_, _, rfl, rfl⟩ (fun j σ H3 _ ⟨_, _, _, e⟩ => e ▸ SqT.of ht) ?_ ?_⟩
   ·rintro j y σ H3 hj ⟨v, v2, rfl, rfl⟩
    have hy : ∃ z : Int, y = .int z /\ 0 <= z /\ z < n := by
     match j, hj with
     | 0, hj => exact ⟨p.1, (Option.some.inj hj).symm, e1, e2⟩
     | 1, hj => exact ⟨p.2, (Option.some.inj hj).symm, e3, e4⟩
    obtain ⟨z, rfl, z1, z2⟩ := hy
    refine ⟨_, rfl, _, _, rfl, rfl, _, rfl, ?_⟩
    refine itd z1 ?_
    refine ⟨_, rfl, _, _, rfl, rfl, _, rfl, ?_⟩
    refine itn z2 ?_
    exact ⟨_, _, rfl, rfl⟩
   ·rintro σ H3 ⟨v, v2, rfl, rfl⟩
    exact ⟨_, _, rfl, rfl⟩
  ·rintro σ H2 ⟨v, v2, rfl, rfl⟩
   exact q
end
set_option maxHeartbeats 4000000
def sp_Web_init (K : PySem.W.Frag) (C : Addr) : Sp := fun vs H Q _ => ∃ (w dx : Addr) (n : Int) (a : Addr) (kd : Bool) (xs : List V) (ps : List (Int × Int)), vs = [.ref w, .int n, .ref a] /\ H w = some (.ins C dx []) /\ (∀ o, SqK kd K (upd H w o) a xs) /\ PairsV H xs ps /\ GoodW n ps /\
 ∀ H' : Hp, WebAt C H' w n ps -> (∀ b o, H b = some o -> b ≠ w -> H' b = some o) -> Q .non H'
section
variable {P : Program} {w : World} {K : PySem.W.Frag} {mg : Str -> Option Value} {base : Heap} {t : Adr}
theorem sc_Web___init : FnScope ["self", "places", "ties"] ["self", "places", "ties"] (defScope s_Web___init) := ⟨rfl, rfl, rfl, by decide +kernel, rfl, by decide +kernel, by decide +kernel⟩
theorem ok_Web___init (T : Txt K mg t) : FnOk P w K mg base CX0 2 t.a_Web___init t.d_Web___init ["self", "places", "ties"] (sp_Web_init K t.A_Web) := by
 refine T.f_Web___init.ok sc_Web___init (fun vs H Q E h => ?_) (fun cdv A outer s H vs Q E hr h => ?_)
 ·obtain ⟨w, dx, n, a, kd, xs, ps, rfl, _⟩ := h
  rfl
 ·obtain ⟨w, dx, n, a, kd, xs, ps, rfl, hw, hS, hp, g, q⟩ := h
  have eH : upd H w (.ins t.A_Web dx []) = H := by
   funext b
   by_cases hb : b = w
   ·subst hb; rw [upd_same, hw]
   ·rw [upd_ne hb]
  have hS0 : SqK kd K H a xs := by have z := hS (.ins t.A_Web dx []); rw [eH] at z; exact z
  refine ⟨_, (pss_cons (ps_expr (pe_call (ok_refuse_bad_web T) (hr.mono (by decide)) rfl T.m_refuse_bad_web T.f_refuse_bad_web.kp T.b_refuse_bad_web .nil pass0 (pa_cons (pv 1) (pa_cons (pv 2) pa_nil))))
   (pss_cons (ps_fld (pv 0) (pv 1) rfl)
   (pss_one (ps_fld (pv 0) (pe_lc rfl (sc0 := defScope s_Web___init) (N0 := ["self", "places", "ties"]) (N' := ["ends"]) (o := 1) (fr := []) ⟨rfl, by decide +kernel, by decide +kernel, by decide +kernel, rfl, by decide +kernel⟩ (pi_seqK K (pv 2)) (own_name (by decide)) (fun _ _ _ _ => (pg_name (i := 0) (show List.Nodup (["ends"] : List Str) by decide +kernel) rfl (Or.inl rfl))) (fun _ _ _ _ => pts_nil) (fun _ _ _ _ => (pe_tup (pa_cons (pe_ix (ix_tupK K) (pv 0) pe_int (fun _ _ => rfl)) (pa_cons (pe_ix (ix_tupK K) (pv 0) pe_int (fun _ _ => rfl)) pa_nil))))) rfl)))), ?_⟩
  refine ⟨_, rfl, _, rfl, n, a, kd, xs, ps, rfl, hS0, hp, g, ?_⟩
  refine ⟨_, rfl, _, rfl, w, _, dx, [], rfl, hw, T.cl_Web, T.n_Web_places, (by show 0 < 1000; decide), ?_⟩
  have hp1 : PairsV (upd H w (.ins t.A_Web dx (putF "places" (.int n) []))) xs ps := ⟨hp.1, fun i p e => by
   obtain ⟨v, e1, tt, e2, e3⟩ := hp.2 i p e
   exact ⟨v, e1, tt, e2, by rw [upd_ne (ne_of e3 hw (fun z => nomatch z))]; exact e3⟩⟩
  have sx : xs.length < sizeLine := small60' (by rw [hp.1]; have := g.2.2.1; omega)
  refine ⟨_, rfl, a, rfl, lc_seq (k := kd) (K := K) (xs := xs) (fun i ys H2 => i <= xs.length /\ ys.length = i /\ Same (upd H w (.ins t.A_Web dx (putF "places" (.int n) []))) H2 /\ PairsV H2 ys (ps.take i)) ⟨Nat.zero_le _, rfl, Same.refl _, PairsV.nil⟩ sx
   (fun i ys H2 _ ⟨_, hl, s2, _⟩ => ⟨(hS _).same s2, Nat.le_of_eq hl⟩) ?_ ?_⟩
  ·rintro i x ys H2 hi ⟨h1, hl, s2, hy⟩ S hSS
   obtain ⟨p, hpi, tt, rfl, ht⟩ := hp1.at hi
   have ht2 := s2 _ _ ht
   refine nmY ?_
   refine ⟨_, rfl, tt, _, 0, .int p.1, rfl, rfl, SqT.of ht2, rfl, _, rfl, tt, _, 1, .int p.2, rfl, rfl, SqT.of ht2, rfl, (by show 2 <= sizeLine; decide), fun q hq => ?_⟩
   have hil : i < xs.length := (List.getElem?_eq_some_iff.mp hi).1
   refine hSS _ _ ⟨hil, by rw [List.length_append, hl]; rfl, same_new s2 hq, ?_⟩
   rw [List.take_succ, hpi]
   exact (hy.same (same_at hq)).snoc ⟨q, rfl, upd_same⟩
  ·rintro ys H2 ⟨_, hl, s2, hy⟩ tl htl
   have hw2 := s2 w _ upd_same
   have nwt : w ≠ tl := ne_of_none hw2 htl
   refine ⟨_, rfl, w, _, dx, _, rfl, (by rw [upd_ne nwt]; exact hw2), T.cl_Web, T.n_Web_ties, (by show 1 < 1000; decide), ?_⟩
   refine q _ ⟨dx, tl, ys, upd_same, by rw [upd_ne (Ne.symm nwt), upd_same], ?_⟩ fun b ob e hb => ?_
   ·have e1 : ps.take xs.length = ps := List.take_of_length_le (by rw [hp.1]; exact Nat.le_refl _)
    rw [e1] at hy
    refine ⟨hy.1, fun i p e => ?_⟩
    obtain ⟨v, e2, tt, e3, e4⟩ := hy.2 i p e
    exact ⟨v, e2, tt, e3, by rw [upd_ne (ne_of e4 hw2 (fun z => nomatch z)), upd_ne (ne_of_none e4 htl)]; exact e4⟩
   ·have e2 := s2 b ob (by rw [upd_ne hb]; exact e)
    rw [upd_ne hb, upd_ne (ne_of_none e2 htl)]
    exact e2
end
set_option maxHeartbeats 4000000
def sp_refuse_bad_row (K : PySem.W.Frag) (C : Addr) : Sp := fun vs H Q _ => ∃ (w a : Addr) (n : Int) (ps : List (Int × Int)) (kd : Bool) (ws : List Int), vs = [.ref w, .ref a] /\ WebAt C H w n ps /\ SqK kd K H a (IL ws) /\
 (ws.length = ps.length -> Q .non H) /\ (ws.length ≠ ps.length -> False)
section
variable {P : Program} {w : World} {K : PySem.W.Frag} {mg : Str -> Option Value} {base : Heap} {t : Adr}
theorem sc_refuse_bad_row : FnScope ["web", "numbers"] ["web", "numbers"] (defScope s_refuse_bad_row) := ⟨rfl, rfl, rfl, by decide +kernel, rfl, by decide +kernel, by decide +kernel⟩
theorem ok_refuse_bad_row (T : Txt K mg t) : FnOk P w K mg base CX0 1 t.a_refuse_bad_row t.d_refuse_bad_row ["web", "numbers"] (sp_refuse_bad_row K t.A_Web) := by
 refine T.f_refuse_bad_row.ok sc_refuse_bad_row (fun vs H Q E h => ?_) (fun cdv A outer s H vs Q E hr h => ?_)
 ·obtain ⟨w, a, n, ps, kd, ws, rfl, _⟩ := h
  rfl
 ·obtain ⟨w, a, n, ps, kd, ws, rfl, ⟨dx, tl, xs, h1, h2, h3⟩, hS, q, qe⟩ := h
  refine ⟨_, (pss_one (ps_if (pt_cmpR op_ne (pe_callB (call_lenK K) (by rfl) T.n_len Boot.«len» (pa_cons (pv 1) pa_nil)) (pe_callB (call_lenK K) (by rfl) T.n_len Boot.«len» (pa_cons (pe_fldK K (pv 0) rfl) pa_nil)) (nomark _))
   (pss_one ps_never)
   pss_nil)), ?_⟩
  have hl := h3.1
  refine ⟨_, rfl, a, _, rfl, hS.or, _, rfl, w, _, dx, _, _, rfl, h1, T.cl_Web, T.n_Web_ties, wf_ties _ _, tl, xs, rfl, .inl (SqL.of h2), rfl, _, rfl, ?_⟩
  rw [dec_int, il_length]
  refine itn2 (fun hc => ?_) (fun hc => ?_)
  ·exact q (by omega)
  ·exact qe (by omega)
end
set_option maxHeartbeats 4000000
def sp_all_ties (K : PySem.W.Frag) (C : Addr) : Sp := fun vs H Q _ => ∃ (w : Addr) (n : Int) (ps : List (Int × Int)), vs = [.ref w] /\ WebAt C H w n ps /\ ps.length <= 1000 /\
 ∀ (r : Addr) (H' : Hp), Same H H' -> H r = none -> H' r = some (.tup (IL (rgL ps.length))) -> Q (.ref r) H'
section
variable {P : Program} {w : World} {K : PySem.W.Frag} {mg : Str -> Option Value} {base : Heap} {t : Adr}
theorem sc_all_ties : FnScope ["web"] ["web"] (defScope s_all_ties) := ⟨rfl, rfl, rfl, by decide +kernel, rfl, by decide +kernel, by decide +kernel⟩
theorem ok_all_ties (T : Txt K mg t) : FnOk P w K mg base CX0 1 t.a_all_ties t.d_all_ties ["web"] (sp_all_ties K t.A_Web) := by
 refine T.f_all_ties.ok sc_all_ties (fun vs H Q E h => ?_) (fun cdv A outer s H vs Q E hr h => ?_)
 ·obtain ⟨w, n, ps, rfl, _⟩ := h
  rfl
 ·obtain ⟨w, n, ps, rfl, ⟨dx, tl, xs, h1, h2, h3⟩, hl, q⟩ := h
  refine ⟨_, (pss_one (ps_ret (pe_callTy (call_tuple_rng rfl) (by rfl) T.n_tuple Boot.«tuple» (pa_cons (pe_callTy call_rng1 (by rfl) T.n_range Boot.«range» (pa_cons (pe_callB (call_lenK K) (by rfl) T.n_len Boot.«len» (pa_cons (pe_fldK K (pv 0) rfl) pa_nil)) pa_nil)) pa_nil)))), ?_⟩
  have hx := h3.1
  refine ⟨_, rfl, w, _, dx, _, _, rfl, h1, T.cl_Web, T.n_Web_ties, wf_ties _ _, tl, xs, rfl, .inl (SqL.of h2), _, rfl, fun r hr => ⟨r, 0, _, rfl, upd_same, ⟨by decide, by decide, by omega, by omega⟩, by omega, fun l hl => ?_⟩⟩
  refine q l _ (same_new (same_at hr) hl) ((same_at hr).free hl) ?_
  rw [upd_same, hx, rngI_rgL]
end
set_option maxHeartbeats 4000000
def sp_is_set (K : PySem.W.Frag) (C : Addr) : Sp := fun vs H Q _ => ∃ (w a : Addr) (n : Int) (ps : List (Int × Int)) (kd : Bool) (ns : List Int), vs = [.ref w, .ref a] /\ WebAt C H w n ps /\ SqK kd K H a (IL ns) /\ ∀ b : Bool, (b = true ↔ IsSet ps.length ns) -> Q (.bl b) H
section
variable {P : Program} {w : World} {K : PySem.W.Frag} {mg : Str -> Option Value} {base : Heap} {t : Adr}
theorem sc_is_set : FnScope ["web", "ties", "last", "tie"] ["web", "ties"] (defScope s_is_set) := ⟨rfl, rfl, rfl, by decide +kernel, rfl, by decide +kernel, by decide +kernel⟩
theorem ok_is_set (T : Txt K mg t) : FnOk P w K mg base CX0 2 t.a_is_set t.d_is_set ["web", "ties"] (sp_is_set K t.A_Web) := by
 refine T.f_is_set.ok sc_is_set (fun vs H Q E h => ?_) (fun cdv A outer s H vs Q E hr h => ?_)
 ·obtain ⟨w, a, n, ps, kd, ns, rfl, _⟩ := h
  rfl
 ·obtain ⟨w, a, n, ps, kd, ns, rfl, hW, hS, q⟩ := h
  refine ⟨_, (pss_cons (ps_set (i := 2) sc_is_set.nd rfl (Or.inl rfl) (pe_un un_neg pe_int))
   (pss_cons (ps_for PassesOwn.never rfl (pi_seqK K (pv 1)) (pg_name (i := 3) sc_is_set.nd rfl (Or.inl rfl))
   (pss_cons (ps_if (PW.pt (pw_or (pt_cmpR op_le (pv 3) (pv 2) (nomark _)) (pw_or1 (pt_not (pt_val (pe_call (ok_is_tie T) (hr.mono (by decide)) rfl T.m_is_tie T.f_is_tie.kp T.b_is_tie .nil pass0 (pa_cons (pv 0) (pa_cons (pv 3) pa_nil))))))))
   (pss_one (ps_ret pe_bl))
   pss_nil)
   (pss_one (ps_set (i := 2) sc_is_set.nd rfl (Or.inl rfl) (pv 3)))))
   (pss_one (ps_ret pe_bl)))), ?_⟩
  refine ⟨_, rfl, ?_⟩
  refine ⟨_, rfl, a, rfl, for_seq (k := kd) (K := K) (xs := IL ns) (fun i σ H2 => ∃ (l : Int) (v : Option V), σ = [some (.ref w), some (.ref a), some (.int l), v] /\ H2 = H /\ (i = 0 -> l = -1) /\ (i ≠ 0 -> ns[i - 1]? = some l) /\ ∀ j z, j < i -> ns[j]? = some z -> 0 <= z /\ z < (ps.length : Int) /\ ∀ y, j ≠ 0 -> ns[j - 1]? = some y -> y < z)
   ⟨-1, none, rfl, rfl, fun _ => rfl, fun z => absurd rfl z, fun j z hj => absurd hj (Nat.not_lt_zero j)⟩ (fun i σ H2 _ ⟨_, _, _, e, _⟩ => e ▸ hS) ?_ ?_⟩
  ·rintro i x σ H2 hi ⟨l, v, rfl, rfl, hl0, hl1, hp⟩
   obtain ⟨z, rfl, hz⟩ := il_get hi
   refine ⟨_, rfl, _, rfl, _, _, rfl, rfl, _, rfl, ?_⟩
   refine itd2 (fun hc => ?_) (fun hc => ?_)
   ·-- tie <= last
    refine iteT ?_
    refine q false ⟨fun z => (nomatch z), fun hs => ?_⟩
    obtain ⟨b1, b2, b3⟩ := hs i z hz
    by_cases h0 : i = 0
    ·have := hl0 h0; omega
    ·have := b3 l h0 (hl1 h0); omega
   ·refine ⟨_, rfl, _, rfl, w, n, ps, z, rfl, hW, _, rfl, ?_⟩
    refine itn2 (fun hc2 => ?_) (fun hc2 => ?_)
    ·refine ⟨_, rfl, ?_⟩
     refine ⟨z, _, rfl, rfl, fun e => (nomatch e), fun _ => by simpa using hz, fun j y hj ey => ?_⟩
     by_cases hji : j < i
     ·exact hp j y hji ey
     ·have e : j = i := by omega
      subst e
      rw [hz] at ey
      cases ey
      refine ⟨hc2.1, hc2.2, fun y h0 ey => ?_⟩
      rw [hl1 h0] at ey
      cases ey
      omega
    ·refine q false ⟨fun z => (nomatch z), fun hs => ?_⟩
     obtain ⟨b1, b2, b3⟩ := hs i z hz
     exact absurd ⟨b1, b2⟩ hc2
  ·rintro σ H2 ⟨l, v, rfl, rfl, hl0, hl1, hp⟩
   refine q true ⟨fun _ i z hz => ?_, fun _ => rfl⟩
   have hi : i < (IL ns).length := by rw [il_length]; exact (List.getElem?_eq_some_iff.mp hz).1
   exact hp i z hi hz
end
set_option maxHeartbeats 4000000
def sp_made_set (K : PySem.W.Frag) (C : Addr) : Sp := fun vs H Q _ => ∃ (w a : Addr) (n : Int) (ps : List (Int × Int)) (kd : Bool) (ns : List Int), vs = [.ref w, .ref a] /\ WebAt C H w n ps /\ SqK kd K H a (IL ns) /\ IsSet ps.length ns /\
 ∀ (r : Addr) (H' : Hp), Same H H' -> SqT K H' r (IL ns) -> Q (.ref r) H'
section
variable {P : Program} {w : World} {K : PySem.W.Frag} {mg : Str -> Option Value} {base : Heap} {t : Adr}
theorem sc_made_set : FnScope ["web", "ties"] ["web", "ties"] (defScope s_made_set) := ⟨rfl, rfl, rfl, by decide +kernel, rfl, by decide +kernel, by decide +kernel⟩
theorem ok_made_set (T : Txt K mg t) : FnOk P w K mg base CX0 3 t.a_made_set t.d_made_set ["web", "ties"] (sp_made_set K t.A_Web) := by
 refine T.f_made_set.ok sc_made_set (fun vs H Q E h => ?_) (fun cdv A outer s H vs Q E hr h => ?_)
 ·obtain ⟨w, a, n, ps, kd, ns, rfl, _⟩ := h
  rfl
 ·obtain ⟨w, a, n, ps, kd, ns, rfl, hW, hS, hI, q⟩ := h
  refine ⟨_, (pss_cons (ps_if (pt_not (pt_val (pe_call (ok_is_set T) (hr.mono (by decide)) rfl T.m_is_set T.f_is_set.kp T.b_is_set .nil pass0 (pa_cons (pv 0) (pa_cons (pv 1) pa_nil)))))
   (pss_one ps_never)
   pss_nil)
   (pss_one (ps_ret (pe_callTy (call_tupleK K) (by rfl) T.n_tuple Boot.«tuple» (pa_cons (pv 1) pa_nil))))), ?_⟩
  refine ⟨_, rfl, _, rfl, w, a, n, ps, kd, ns, rfl, hW, hS, fun b hb => ⟨_, rfl, ?_⟩⟩
  refine itnb (fun _ => ?_) (fun z => ?_)
  ·refine ⟨_, rfl, a, IL ns, rfl, ?_⟩
   cases kd with
   | false => exact .inl ⟨hS, fun l hl => q l _ (same_at hl) (SqT.of upd_same)⟩
   | true => exact .inr ⟨hS, q a H (Same.refl H) hS⟩
  ·rw [hb.mpr hI] at z
   cases z
end
set_option maxHeartbeats 4000000
def sp_merged_marks (K : PySem.W.Frag) (C : Addr) : Sp := fun vs H Q _ => ∃ (w m a : Addr) (n : Int) (ps : List (Int × Int)) (M : List Int) (kd : Bool) (ns : List Int), vs = [.ref w, .ref m, .ref a] /\ WebAt C H w n ps /\ GoodW n ps /\ H m = some (.lst (IL M)) /\ M.length = n.toNat /\ SqK kd K H a (IL ns) /\ (∀ z ∈ ns, 0 <= z /\ z < (ps.length : Int)) /\
 ∀ (m' : Addr) (H' : Hp), Same H H' -> (m' = m \/ H m' = none) -> H' m' = some (.lst (IL (pmf M (endsOf ps ns)))) -> Q (.ref m') H'
section
variable {P : Program} {w : World} {K : PySem.W.Frag} {mg : Str -> Option Value} {base : Heap} {t : Adr}
theorem sc_merged_marks : FnScope ["web", "marks", "ties", "tie", "ends", "low", "high"] ["web", "marks", "ties"] (defScope s_merged_marks) := ⟨rfl, rfl, rfl, by decide +kernel, rfl, by decide +kernel, by decide +kernel⟩
theorem ok_merged_marks (T : Txt K mg t) : FnOk P w K mg base CX0 1 t.a_merged_marks t.d_merged_marks ["web", "marks", "ties"] (sp_merged_marks K t.A_Web) := by
 refine T.f_merged_marks.ok sc_merged_marks (fun vs H Q E h => ?_) (fun cdv A outer s H vs Q E hr h => ?_)
 ·obtain ⟨w, m, a, n, ps, M, kd, ns, rfl, _⟩ := h
  rfl
 ·obtain ⟨w, m0, a, n, ps, M0, kd, ns, rfl, ⟨dx, tl, xs, h1, h2, h3⟩, ⟨g1, g2, g3, g4⟩, hm, hlM, hS, hI, q⟩ := h
  refine ⟨_, (pss_cons (ps_for PassesOwn.never rfl (pi_seqK K (pv 2)) (pg_name (i := 3) sc_merged_marks.nd rfl (Or.inl rfl))
   (pss_cons (ps_set (i := 4) sc_merged_marks.nd rfl (Or.inl rfl) (pe_ix (ix_listK K) (pe_fldK K (pv 0) rfl) (pv 3) (fun _ _ => rfl)))
   (pss_cons (ps_set (i := 5) sc_merged_marks.nd rfl (Or.inr rfl) (pe_callB (call_min2 rfl) (by rfl) T.n_min Boot.«min» (pa_cons (pe_ix (ix_listK K) (pv 1) (pe_ix (ix_tupK K) (pv 4) pe_int (fun _ _ => rfl)) (fun _ _ => rfl)) (pa_cons (pe_ix (ix_listK K) (pv 1) (pe_ix (ix_tupK K) (pv 4) pe_int (fun _ _ => rfl)) (fun _ _ => rfl)) pa_nil))))
   (pss_cons (ps_set (i := 6) sc_merged_marks.nd rfl (Or.inr rfl) (pe_callB (call_max2 rfl) (by rfl) T.n_max Boot.«max» (pa_cons (pe_ix (ix_listK K) (pv 1) (pe_ix (ix_tupK K) (pv 4) pe_int (fun _ _ => rfl)) (fun _ _ => rfl)) (pa_cons (pe_ix (ix_listK K) (pv 1) (pe_ix (ix_tupK K) (pv 4) pe_int (fun _ _ => rfl)) (fun _ _ => rfl)) pa_nil))))
   (pss_one (ps_if (pt_cmpR op_lt (pv 5) (pv 6) (nomark _))
   (pss_one (ps_lc (i := 1) rfl sc_merged_marks.nd rfl rfl (sc0 := defScope s_merged_marks) (N0 := ["web", "marks", "ties", "tie", "ends", "low", "high"]) (N' := ["mark", "high", "low"]) (o := 1) (fr := [6, 5]) ⟨rfl, by decide +kernel, by decide +kernel, by decide +kernel, rfl, by decide +kernel⟩ (pi_listK K (pv 1)) (own_name (by decide)) (fun _ _ _ _ => (pg_name (i := 0) (show List.Nodup (["mark", "high", "low"] : List Str) by decide +kernel) rfl (Or.inl rfl))) (fun _ _ _ _ => pts_nil) (fun _ _ _ _ => (pe_ifExp (pt_cmpR op_eq (pv 0) (pv 1) (nomark _)) (pv 2) (pv 0)))))
   pss_nil))))))
   (pss_one (ps_ret (pv 1)))), ?_⟩
  refine ⟨_, rfl, a, rfl, for_seq (k := kd) (K := K) (a := a) (xs := IL ns) (fun i σ H2 => ∃ (m : Addr) (v3 v4 v5 v6 : Option V), σ = [some (.ref w), some (.ref m), some (.ref a), v3, v4, v5, v6] /\ Same H H2 /\ (m = m0 \/ H m = none) /\ H2 m = some (.lst (IL (pmf M0 (endsOf ps (ns.take i))))))
   ⟨m0, none, none, none, none, rfl, Same.refl _, .inl rfl, hm⟩ (fun i σ H2 _ ⟨_, _, _, _, _, _, s2, _⟩ => hS.same s2) ?_ ?_⟩
  ·rintro i x σ H2 hi ⟨m, v3, v4, v5, v6, rfl, s2, hm0, hm2⟩
   obtain ⟨z, rfl, hz⟩ := il_get hi
   obtain ⟨z0, z1⟩ := hI z (List.mem_of_getElem? hz)
   obtain ⟨p, hp⟩ : ∃ p, ps[z.toNat]? = some p := ⟨_, List.getElem?_eq_getElem (by omega)⟩
   obtain ⟨v, hv, tt, rfl, htt⟩ := h3.2 z.toNat p hp
   obtain ⟨e1, e2, e3, e4⟩ := g4 p (List.mem_of_getElem? hp)
   have ed : ps.getD z.toNat (0, 0) = p := getD_of hp
   refine ⟨_, rfl, w, _, dx, _, _, rfl, s2 _ _ h1, T.cl_Web, T.n_Web_ties, wf_ties _ _, _, rfl, tl, xs, z, .ref tt, rfl, rfl, SqL.of (s2 _ _ h2), atI_of (n := z.toNat) (by omega) hv, ?_⟩
   have ht2 := s2 _ _ htt
   have hl : (pmf M0 (endsOf ps (ns.take i))).length = n.toNat := (pmf_length _ _).trans hlM
   generalize hM : pmf M0 (endsOf ps (ns.take i)) = M at *
   have ha : M[p.1.toNat]? = some (mk M p.1.toNat) := mk_some (by omega)
   have hb : M[p.2.toNat]? = some (mk M p.2.toNat) := mk_some (by omega)
   have iA : atI (IL M) p.1 = some (.int (mk M p.1.toNat)) := atI_of (n := p.1.toNat) (by omega) (by rw [List.getElem?_map, ha]; rfl)
   have iB : atI (IL M) p.2 = some (.int (mk M p.2.toNat)) := atI_of (n := p.2.toNat) (by omega) (by rw [List.getElem?_map, hb]; rfl)
   have t0 : atI ([.int p.1, .int p.2] : List V) 0 = some (.int p.1) := rfl
   have t1 : atI ([.int p.1, .int p.2] : List V) 1 = some (.int p.2) := rfl
   refine ⟨_, rfl, _, rfl, tt, _, 0, _, rfl, rfl, SqT.of ht2, t0, m, _, p.1, _, rfl, rfl, SqL.of hm2, iA, _, rfl, _, rfl, tt, _, 1, _, rfl, rfl, SqT.of ht2, t1, m, _, p.2, _, rfl, rfl, SqL.of hm2, iB, _, _, rfl, ?_⟩
   refine ⟨_, rfl, _, rfl, tt, _, 0, _, rfl, rfl, SqT.of ht2, t0, m, _, p.1, _, rfl, rfl, SqL.of hm2, iA, _, rfl, _, rfl, tt, _, 1, _, rfl, rfl, SqT.of ht2, t1, m, _, p.2, _, rfl, rfl, SqL.of hm2, iB, _, _, rfl, ?_⟩
   have eL : (if mk M p.2.toNat < mk M p.1.toNat then mk M p.2.toNat else mk M p.1.toNat) = min (mk M p.1.toNat) (mk M p.2.toNat) := by
    rw [Int.min_def]; split <;> split <;> omega
   have eH : (if mk M p.2.toNat > mk M p.1.toNat then mk M p.2.toNat else mk M p.1.toNat) = max (mk M p.1.toNat) (mk M p.2.toNat) := by
    rw [Int.max_def]; split <;> split <;> omega
   refine ⟨_, rfl, _, rfl, _, _, rfl, rfl, _, rfl, ?_⟩
   rw [eL, eH]
   have step : pmf M0 (endsOf ps (ns.take (i + 1))) = pm M p.1.toNat p.2.toNat := by rw [endsOf_snoc hz, pmf_snoc, hM, ed]
   refine itd2 (fun hc => ?_) (fun hc => ?_)
   ·refine ⟨_, rfl, m, rfl, ⟨_, SqL.of hm2⟩, lc_list (K := K) (a := m) (xs := IL M) (fun j ys H3 => H3 = H2 /\ j <= M.length /\ ys = IL ((M.take j).map fun k => if k = max (mk M p.1.toNat) (mk M p.2.toNat) then min (mk M p.1.toNat) (mk M p.2.toNat) else k)) ⟨rfl, Nat.zero_le _, rfl⟩ (small60' (by rw [il_length]; omega))
     (fun j ys H3 hj ⟨e, hjl, ey⟩ => ⟨e ▸ SqL.of hm2, by rw [ey, il_length, List.length_map, List.length_take]; omega⟩) ?_ ?_⟩
    ·rintro j y ys H3 hj ⟨rfl, hjl, rfl⟩ S hSS
     obtain ⟨k, rfl, hk⟩ := il_get hj
     refine nmY ?_
     refine ⟨_, rfl, _, rfl, rfl, _, rfl, ?_⟩
     have hjl' : j < M.length := (List.getElem?_eq_some_iff.mp hk).1
     have app : ∀ r : Int, r = (if k = max (mk M p.1.toNat) (mk M p.2.toNat) then min (mk M p.1.toNat) (mk M p.2.toNat) else k) ->
       IL ((M.take j).map fun k => if k = max (mk M p.1.toNat) (mk M p.2.toNat) then min (mk M p.1.toNat) (mk M p.2.toNat) else k) ++ [.int r] = IL ((M.take (j + 1)).map fun k => if k = max (mk M p.1.toNat) (mk M p.2.toNat) then min (mk M p.1.toNat) (mk M p.2.toNat) else k) := by
      intro r er
      rw [List.take_succ, hk, er]
      simp
     refine itd2 (fun he => ?_) (fun he => ?_)
     ·refine ⟨_, rfl, hSS _ _ ⟨rfl, hjl', app _ ?_⟩⟩
      rw [if_pos (V.int.inj he)]
     ·refine ⟨_, rfl, hSS _ _ ⟨rfl, hjl', app _ ?_⟩⟩
      rw [if_neg fun z => he (congrArg V.int z)]
    ·rintro ys H3 ⟨rfl, _, rfl⟩ p' hp'
     refine ⟨p', _, _, _, _, rfl, same_new s2 hp', .inr (s2.free hp'), ?_⟩
     rw [upd_same, step, il_length, List.take_length]
     unfold pm
     rw [if_pos hc]
   ·refine ⟨m, _, _, _, _, rfl, s2, hm0, ?_⟩
    rw [hm2, step]
    unfold pm
    rw [if_neg hc]
  ·rintro σ H2 ⟨m, v3, v4, v5, v6, rfl, s2, hm0, hm2⟩
   rw [il_length, List.take_length] at hm2
   exact ⟨_, rfl, q m H2 s2 hm0 hm2⟩
end
set_option maxHeartbeats 4000000
def sp_piece_marks (K : PySem.W.Frag) (C : Addr) : Sp := fun vs H Q _ => ∃ (w a : Addr) (n : Int) (ps : List (Int × Int)) (ns : List Int), vs = [.ref w, .ref a] /\ WebAt C H w n ps /\ GoodW n ps /\ SqT K H a (IL ns) /\ (∀ z ∈ ns, 0 <= z /\ z < (ps.length : Int)) /\
 ∀ (m : Addr) (H' : Hp), Same H H' -> H m = none -> H' m = some (.lst (IL (pms n.toNat (endsOf ps ns)))) -> Q (.ref m) H'
section
variable {P : Program} {w : World} {K : PySem.W.Frag} {mg : Str -> Option Value} {base : Heap} {t : Adr}
theorem sc_piece_marks : FnScope ["web", "ties"] ["web", "ties"] (defScope s_piece_marks) := ⟨rfl, rfl, rfl, by decide +kernel, rfl, by decide +kernel, by decide +kernel⟩
theorem ok_piece_marks (T : Txt K mg t) : FnOk P w K mg base CX0 2 t.a_piece_marks t.d_piece_marks ["web", "ties"] (sp_piece_marks K t.A_Web) := by
 refine T.f_piece_marks.ok sc_piece_marks (fun vs H Q E h => ?_) (fun cdv A outer s H vs Q E hr h => ?_)
 ·obtain ⟨w, a, n, ps, ns, rfl, _⟩ := h
  rfl
 ·obtain ⟨w, a, n, ps, ns, rfl, hW, hG, hS, hI, q⟩ := h
  refine ⟨_, (pss_one (ps_ret (pe_call (ok_merged_marks T) (hr.mono (by decide)) rfl T.m_merged_marks T.f_merged_marks.kp T.b_merged_marks .nil pass0 (pa_cons (pv 0) (pa_cons (pe_callTy (call_list_rng rfl) (by rfl) T.n_list Boot.«list» (pa_cons (pe_callTy call_rng1 (by rfl) T.n_range Boot.«range» (pa_cons (pe_fldK K (pv 0) rfl) pa_nil)) pa_nil)) (pa_cons (pv 1) pa_nil)))))), ?_⟩
  obtain ⟨dx, tl, xs, h1, h2, h3⟩ := id hW
  obtain ⟨g1, g2, g3, g4⟩ := id hG
  refine ⟨_, rfl, _, rfl, w, _, dx, _, _, rfl, h1, T.cl_Web, T.n_Web_places, wf_places _ _, n, rfl, fun r hr0 => ⟨r, 0, n, rfl, upd_same, ⟨by decide, by decide, by omega, by omega⟩, by omega, fun m hm => ?_⟩⟩
  have sm : Same H (upd (upd H r (.rng 0 n)) m (.lst ((rngI 0 n).map V.int))) := same_new (same_at hr0) hm
  refine ⟨_, rfl, w, m, a, n, ps, (List.range n.toNat).map (fun (i : Nat) => (i : Int)), true, ns, rfl, hW.same sm, hG, ?_, by simp, sqT_same sm hS, hI, fun m' H' s' hf hm' => ?_⟩
  ·rw [upd_same, rngI_zero]
  ·refine q m' H' (sm.trans s') ?_ hm'
   rcases hf with rfl | hf
   ·exact (same_at hr0).free hm
   ·exact sm.free hf
end
set_option maxHeartbeats 4000000
def sp_grown_tree (K : PySem.W.Frag) (C : Addr) : Sp := fun vs H Q _ => ∃ (w a b : Addr) (n : Int) (ps : List (Int × Int)) (ka kb : Bool) (ns os : List Int), vs = [.ref w, .ref a, .ref b] /\ WebAt C H w n ps /\ GoodW n ps /\ SqK ka K H a (IL ns) /\ SqK kb K H b (IL os) /\ ns.length <= 1000 /\ os.length <= 1000 /\ (∀ z ∈ ns ++ os, 0 <= z /\ z < (ps.length : Int)) /\
 (((grw n.toNat ps (ns ++ os)).take ns.length ≠ ns \/ ((grw n.toNat ps (ns ++ os)).length : Int) < n - 1) -> ∀ H' : Hp, Same H H' -> Q .non H') /\
 ((grw n.toNat ps (ns ++ os)).take ns.length = ns -> ¬ ((grw n.toNat ps (ns ++ os)).length : Int) < n - 1 -> ∀ (r : Addr) (ms : List Int) (H' : Hp), ms.Perm (grw n.toNat ps (ns ++ os)) -> ms.Pairwise (· <= ·) -> Same H H' -> H r = none -> H' r = some (.tup (IL ms)) -> Q (.ref r) H')
section
variable {P : Program} {w : World} {K : PySem.W.Frag} {mg : Str -> Option Value} {base : Heap} {t : Adr}
theorem sc_grown_tree : FnScope ["web", "inside", "order", "marks", "grown", "tie", "ends"] ["web", "inside", "order"] (defScope s_grown_tree) := ⟨rfl, rfl, rfl, by decide +kernel, rfl, by decide +kernel, by decide +kernel⟩
theorem ok_grown_tree (T : Txt K mg t) : FnOk P w K mg base CX0 3 t.a_grown_tree t.d_grown_tree ["web", "inside", "order"] (sp_grown_tree K t.A_Web) := by
 refine T.f_grown_tree.ok sc_grown_tree (fun vs H Q E h => ?_) (fun cdv A outer s H vs Q E hr h => ?_)
 ·obtain ⟨w, a, b, n, ps, ka, kb, ns, os, rfl, _⟩ := h
  rfl
 ·obtain ⟨w, a, b, n, ps, ka, kb, ns, os, rfl, hW, hG, hS, hS2, hnl, hol, hI, q0, q1⟩ := h
  refine ⟨_, (pss_cons (ps_set (i := 3) sc_grown_tree.nd rfl (Or.inl rfl) (pe_call (ok_piece_marks T) (hr.mono (by decide)) rfl T.m_piece_marks T.f_piece_marks.kp T.b_piece_marks .nil pass0 (pa_cons (pv 0) (pa_cons (pe_tup pa_nil) pa_nil))))
   (pss_cons (ps_set (i := 4) sc_grown_tree.nd rfl (Or.inl rfl) (pe_lst pa_nil))
   (pss_cons (ps_for PassesOwn.never rfl (pi_listK K (pe_op op_cat (pe_callTy (call_listK K) (by rfl) T.n_list Boot.«list» (pa_cons (pv 1) pa_nil)) (pe_callTy (call_listK K) (by rfl) T.n_list Boot.«list» (pa_cons (pv 2) pa_nil)))) (pg_name (i := 5) sc_grown_tree.nd rfl (Or.inl rfl))
   (pss_cons (ps_set (i := 6) sc_grown_tree.nd rfl (Or.inl rfl) (pe_ix (ix_listK K) (pe_fldK K (pv 0) rfl) (pv 5) (fun _ _ => rfl)))
   (pss_one (ps_if (pt_cmpR op_ne (pe_ix (ix_listK K) (pv 3) (pe_ix (ix_tupK K) (pv 6) pe_int (fun _ _ => rfl)) (fun _ _ => rfl)) (pe_ix (ix_listK K) (pv 3) (pe_ix (ix_tupK K) (pv 6) pe_int (fun _ _ => rfl)) (fun _ _ => rfl)) (nomark _))
   (pss_cons (ps_set (i := 3) sc_grown_tree.nd rfl (Or.inl rfl) (pe_call (ok_merged_marks T) (hr.mono (by decide)) rfl T.m_merged_marks T.f_merged_marks.kp T.b_merged_marks .nil pass0 (pa_cons (pv 0) (pa_cons (pv 3) (pa_cons (pe_tup (pa_cons (pv 5) pa_nil)) pa_nil)))))
   (pss_one (ps_expr (pe_bmK K PySem.F.plainAttrs_list PySem.F.slot_list_append PySem.F.type_list_append mt_append (pv 4) (pa_cons (pv 5) pa_nil)))))
   pss_nil))))
   (pss_cons (ps_if (PW.pt (pw_or (pt_cmpR (op_neDK K (hu8 hr)) (pe_slice (sl_listK K) (pv 4) po_none (po_some (pe_callB (call_lenK K) (by rfl) T.n_len Boot.«len» (pa_cons (pv 1) pa_nil)))) (pe_callTy (call_listK K) (by rfl) T.n_list Boot.«list» (pa_cons (pv 1) pa_nil)) (nomark _)) (pw_or1 (pt_cmpR op_lt (pe_callB (call_lenK K) (by rfl) T.n_len Boot.«len» (pa_cons (pv 4) pa_nil)) (pe_op op_sub (pe_fldK K (pv 0) rfl) pe_int) (nomark _)))))
   (pss_one (ps_ret pe_non))
   pss_nil)
   (pss_one (ps_ret (pe_callTy (call_tupleK K) (by rfl) T.n_tuple Boot.«tuple» (pa_cons (pe_callB (call_sortedK K) (by rfl) T.n_sorted Boot.«sorted» (pa_cons (pv 4) pa_nil)) pa_nil)))))))), ?_⟩
  obtain ⟨g1, g2, g3, g4⟩ := id hG
  have one : 1 <= sizeLine := by decide
  refine ⟨_, rfl, Nat.zero_le _, fun r0 hr0 => ?_⟩
  have s0 := same_at (o := .tup []) hr0
  refine ⟨w, r0, n, ps, [], rfl, hW.same s0, hG, SqT.of upd_same, fun _ e => (nomatch e), fun m H1 s1 hm0 hm1 => ?_⟩
  have s01 := s0.trans s1
  have hmf := s0.free hm0
  refine ⟨Nat.zero_le _, fun gl hgl => ?_⟩
  have s2 := same_at (o := .lst []) hgl
  have s02 := s01.trans s2
  have hgf := s01.free hgl
  refine ⟨_, rfl, a, _, rfl, (hS.same s02).or, fun l1 hl1 => ?_⟩
  have s3 := same_at (o := .lst (IL ns)) hl1
  have s03 := s02.trans s3
  refine ⟨_, rfl, b, _, rfl, (hS2.same s03).or, fun l2 hl2 => ?_⟩
  have s4 := same_at (o := .lst (IL os)) hl2
  have s04 := s03.trans s4
  refine ⟨l1, l2, _, _, rfl, rfl, s4 _ _ upd_same, upd_same, small60 (by rw [il_length, il_length]; omega), fun cl hcl => ?_⟩
  have s5 := same_at (o := .lst (IL ns ++ IL os)) hcl
  have s05 := s04.trans s5
  have eI : IL ns ++ IL os = IL (ns ++ os) := (il_append _ _).symm
  have hgl5 := s5 _ _ (s4 _ _ (s3 _ _ (upd_same (H := H1) (a := gl) (o := .lst []))))
  have hm5 := s5 _ _ (s4 _ _ (s3 _ _ (s2 _ _ hm1)))
  have hcl5 := upd_same (H := upd (upd (upd H1 gl (.lst [])) l1 (.lst (IL ns))) l2 (.lst (IL os))) (a := cl) (o := .lst (IL ns ++ IL os))
  have ncg : cl ≠ gl := fun e => by rw [e] at hcl; exact absurd ((s4 _ _ (s3 _ _ (upd_same (H := H1) (a := gl) (o := .lst [])))).symm.trans hcl) (by simp)
  have nmg : m ≠ gl := fun e => by rw [e] at hm1; exact absurd (hm1.symm.trans hgl) (by simp)
  rw [eI] at s5 s05 hgl5 hm5 hcl5 ⊢
  generalize upd (upd (upd (upd H1 gl (.lst [])) l1 (.lst (IL ns))) l2 (.lst (IL os))) cl (.lst (IL (ns ++ os))) = H5 at *
  refine ⟨cl, rfl, ⟨_, SqL.of hcl5⟩, for_list (K := K) (a := cl) (xs := IL (ns ++ os)) (fun i σ H2 => ∃ (mc : Addr) (v5 v6 : Option V), σ = [some (.ref w), some (.ref a), some (.ref b), some (.ref mc), some (.ref gl), v5, v6] /\ Same H H2 /\ mc ≠ gl /\
    H2 cl = some (.lst (IL (ns ++ os))) /\ H2 mc = some (.lst (IL (pms n.toNat (endsOf ps (grw n.toNat ps ((ns ++ os).take i)))))) /\ H2 gl = some (.lst (IL (grw n.toNat ps ((ns ++ os).take i)))))
   ⟨m, none, none, rfl, s05, nmg, hcl5, hm5, hgl5⟩ (fun i σ H2 _ ⟨_, _, _, _, _, _, e, _⟩ => SqL.of e) ?_ ?_⟩
  ·rintro i x σ H2 hi ⟨mc, v5, v6, rfl, s2, hne, hc2, hm2, hg2⟩
   obtain ⟨z, rfl, hz⟩ := il_get hi
   obtain ⟨z0, z1⟩ := hI z (List.mem_of_getElem? hz)
   have hIt : ∀ y ∈ (ns ++ os).take i, 0 <= y /\ y < (ps.length : Int) := fun y hy => hI y (List.mem_of_mem_take hy)
   have est : (ns ++ os).take (i + 1) = (ns ++ os).take i ++ [z] := by rw [List.take_succ, hz]; rfl
   have eG : grw n.toNat ps ((ns ++ os).take (i + 1)) = gst n.toNat ps (grw n.toNat ps ((ns ++ os).take i)) z := by rw [est, grw_snoc]
   have hin := grw_in hG hIt
   have hgl14 := grw_len hG hIt
   generalize grw n.toNat ps ((ns ++ os).take i) = G at *
   obtain ⟨dx, tl, xs, h1, h2, h3⟩ := hW.same s2
   obtain ⟨p, hp⟩ : ∃ p, ps[z.toNat]? = some p := ⟨_, List.getElem?_eq_getElem (by omega)⟩
   obtain ⟨v, hv, tt, rfl, htt⟩ := h3.2 z.toNat p hp
   obtain ⟨e1, e2, e3, e4⟩ := g4 p (List.mem_of_getElem? hp)
   have ed : endOf ps z = (p.1.toNat, p.2.toNat) := by unfold endOf; rw [getD_of hp]
   have hl : (pms n.toNat (endsOf ps G)).length = n.toNat := pms_length _ _
   have iA : atI (IL (pms n.toNat (endsOf ps G))) p.1 = some (.int (mk (pms n.toNat (endsOf ps G)) p.1.toNat)) := atI_of (n := p.1.toNat) (by omega) (il_at (mk_some (by omega)))
   have iB : atI (IL (pms n.toNat (endsOf ps G))) p.2 = some (.int (mk (pms n.toNat (endsOf ps G)) p.2.toNat)) := atI_of (n := p.2.toNat) (by omega) (il_at (mk_some (by omega)))
   have t0 : atI ([.int p.1, .int p.2] : List V) 0 = some (.int p.1) := rfl
   have t1 : atI ([.int p.1, .int p.2] : List V) 1 = some (.int p.2) := rfl
   have key : mk (pms n.toNat (endsOf ps G)) p.1.toNat = mk (pms n.toNat (endsOf ps G)) p.2.toNat ↔ mk (lms n.toNat (endsOf ps G)) (endOf ps z).1 = mk (lms n.toNat (endsOf ps G)) (endOf ps z).2 := by
    rw [ed, pms_iff hin (by omega) (by omega), lms_iff hin (by omega) (by omega)]
   refine ⟨_, rfl, w, _, dx, _, _, rfl, h1, T.cl_Web, T.n_Web_ties, wf_ties _ _, _, rfl, tl, xs, z, .ref tt, rfl, rfl, SqL.of h2, atI_of (n := z.toNat) (by omega) hv, ?_⟩
   refine ⟨_, rfl, _, rfl, tt, _, 0, _, rfl, rfl, SqT.of htt, t0, mc, _, p.1, _, rfl, rfl, SqL.of hm2, iA, _, rfl, _, rfl, tt, _, 1, _, rfl, rfl, SqT.of htt, t1, mc, _, p.2, _, rfl, rfl, SqL.of hm2, iB, rfl, _, rfl, ?_⟩
   rw [dec_int]
   refine itn2 (fun he => ?_) (fun he => ?_)
   ·refine ⟨mc, _, _, rfl, s2, hne, hc2, ?_, ?_⟩
    ·rw [eG]; unfold gst; rw [if_pos (key.mp he)]; exact hm2
    ·rw [eG]; unfold gst; rw [if_pos (key.mp he)]; exact hg2
   ·have eG2 : grw n.toNat ps ((ns ++ os).take (i + 1)) = G ++ [z] := by rw [eG]; unfold gst; rw [if_neg (fun e => he (key.mpr e))]
    refine ⟨_, rfl, _, rfl, _, rfl, one, fun p2 hp2 => ?_⟩
    have s6 := same_at (o := .tup [.int z]) hp2
    refine ⟨w, mc, p2, n, ps, _, true, [z], rfl, (hW.same s2).same s6, hG, s6 _ _ hm2, hl, SqT.of upd_same, fun y hy => by rw [List.mem_singleton.mp hy]; exact ⟨z0, z1⟩, fun m' H7 s7 hf hm7 => ?_⟩
    have s67 := s6.trans s7
    have hg7 := s67 _ _ hg2
    have hc7 := s67 _ _ hc2
    have nm' : m' ≠ gl := by
     rcases hf with rfl | hf
     ·exact hne
     ·exact fun e => absurd ((s6 _ _ hg2).symm.trans (e ▸ hf)) (by simp)
    refine ⟨_, rfl, .inl ⟨rfl, _, SqL.of hg7⟩, _, rfl, gl, _, _, rfl, rfl, hg7, small60' (by rw [il_length]; omega), ?_⟩
    refine ⟨m', _, _, rfl, same_upd hgf (s2.trans s67), nm', ?_, ?_, ?_⟩
    ·rw [upd_ne ncg]; exact hc7
    ·rw [upd_ne nm', hm7, eG2, ends_snoc, pms_snoc]
     rfl
    ·rw [upd_same, eG2, il_snoc]
  ·rintro σ H2 ⟨mc, v5, v6, rfl, s2, hne, hc2, hm2, hg2⟩
   rw [il_length, List.take_length] at hg2
   have hgl14 := grw_len hG hI
   generalize grw n.toNat ps (ns ++ os) = G at *
   refine ⟨_, rfl, _, rfl, a, _, rfl, (hS.same s2).or, _, rfl, gl, _, rfl, SqL.of hg2, fun r1 hr1 => ?_⟩
   have ec : cutV (IL G) none (some ((IL ns).length : Int)) = IL (G.take ns.length) := by rw [cut_upto (by omega), Int.toNat_natCast, il_length, il_take]
   rw [ec]
   have s3 := same_at (o := .lst (IL (G.take ns.length))) hr1
   refine ⟨_, rfl, a, _, rfl, (hS.same (s2.trans s3)).or, fun r2 hr2 => ?_⟩
   have s4 := same_at (o := .lst (IL ns)) hr2
   refine ⟨1, _, r1, r2, rfl, rfl, by decide, eqd_ints (SqL.of (s4 _ _ upd_same)) (SqL.of upd_same), _, rfl, ?_⟩
   have s24 := s2.trans (s3.trans s4)
   refine itn2 (fun he => ?_) (fun he => ?_)
   ·obtain ⟨dx, tl, xs, h1, h2, h3⟩ := hW.same s24
    have hg4 := s4 _ _ (s3 _ _ hg2)
    refine ⟨_, rfl, gl, _, rfl, .inl (SqL.of hg4), _, rfl, w, _, dx, _, _, rfl, h1, T.cl_Web, T.n_Web_places, wf_places _ _, _, _, rfl, rfl, _, _, rfl, rfl, _, rfl, ?_⟩
    rw [il_length]
    refine itd2 (fun hc => ?_) (fun hc => ?_)
    ·exact q0 (.inr hc) _ s24
    ·refine ⟨_, rfl, gl, G, rfl, SqL.of hg4, by omega, fun ms hp1 hp2 l hl => ?_⟩
     have s5 := same_at (o := .lst (IL ms)) hl
     refine ⟨l, _, rfl, .inl ⟨SqL.of upd_same, fun r hr => ?_⟩⟩
     exact q1 he hc r ms _ hp1 hp2 ((s24.trans s5).trans (same_at hr)) ((s24.trans s5).free hr) upd_same
   ·refine iteT ?_
    exact q0 (.inl he) _ s24
end
set_option maxHeartbeats 4000000
def smW (ls ns : List Int) : Int := (ns.map fun z => ls.getD z.toNat 0).sum
def sp_length_of (K : PySem.W.Frag) (C : Addr) : Sp := fun vs H Q _ => ∃ (w a b : Addr) (n : Int) (ps : List (Int × Int)) (kd ke : Bool) (ls ns : List Int), vs = [.ref w, .ref a, .ref b] /\ WebAt C H w n ps /\ ps.length <= 30 /\ SqK kd K H a (IL ls) /\ SqK ke K H b (IL ns) /\
 ls.length = ps.length /\ IsSet ps.length ns /\ ∀ H' : Hp, Same H H' -> Q (.int (smW ls ns)) H'
section
variable {P : Program} {w : World} {K : PySem.W.Frag} {mg : Str -> Option Value} {base : Heap} {t : Adr}
theorem sc_length_of : FnScope ["web", "lengths", "ties"] ["web", "lengths", "ties"] (defScope s_length_of) := ⟨rfl, rfl, rfl, by decide +kernel, rfl, by decide +kernel, by decide +kernel⟩
theorem ok_length_of (T : Txt K mg t) : FnOk P w K mg base CX0 4 t.a_length_of t.d_length_of ["web", "lengths", "ties"] (sp_length_of K t.A_Web) := by
 refine T.f_length_of.ok sc_length_of (fun vs H Q E h => ?_) (fun cdv A outer s H vs Q E hr h => ?_)
 ·obtain ⟨w, a, b, n, ps, kd, ke, ls, ns, rfl, _⟩ := h
  rfl
 ·obtain ⟨w, a, b, n, ps, kd, ke, ls, ns, rfl, hW, p30, hA, hB, hl, hI, q⟩ := h
  refine ⟨_, (pss_cons (ps_expr (pe_call (ok_refuse_bad_row T) (hr.mono (by decide)) rfl T.m_refuse_bad_row T.f_refuse_bad_row.kp T.b_refuse_bad_row .nil pass0 (pa_cons (pv 0) (pa_cons (pv 1) pa_nil))))
   (pss_one (ps_ret (pe_callB (call_sumK K rfl) (by rfl) T.n_sum Boot.«sum» (pa_cons (pe_lc rfl (sc0 := defScope s_length_of) (N0 := ["web", "lengths", "ties"]) (N' := ["tie", "lengths"]) (o := 1) (fr := [1]) ⟨rfl, by decide +kernel, by decide +kernel, by decide +kernel, rfl, by decide +kernel⟩ (pi_tupK K (pe_call (ok_made_set T) (hr.mono (by decide)) rfl T.m_made_set T.f_made_set.kp T.b_made_set .nil pass0 (pa_cons (pv 0) (pa_cons (pv 2) pa_nil)))) (own_name (by decide)) (fun _ _ _ _ => (pg_name (i := 0) (show List.Nodup (["tie", "lengths"] : List Str) by decide +kernel) rfl (Or.inl rfl))) (fun _ _ _ _ => pts_nil) (fun _ _ _ _ => (pe_ix (ix_seqK K) (pv 1) (pv 0) (fun _ _ => rfl)))) pa_nil))))), ?_⟩
  refine ⟨_, rfl, _, rfl, w, a, n, ps, kd, ls, rfl, hW, hA, fun _ => ?_, fun h => absurd hl h⟩
  refine ⟨_, rfl, _, rfl, w, b, n, ps, ke, ns, rfl, hW, hB, hI, fun r H1 s1 hr => ?_⟩
  have hms := isSet_iff.mp hI
  have hlen := hI.len
  refine ⟨r, rfl, ⟨_, hr⟩, lc_tup (K := K) (a := r) (xs := IL ns) (fun i ws H2 => H2 = H1 /\ ws = IL ((ns.take i).map fun z => ls.getD z.toNat 0) /\ i <= ns.length) ⟨rfl, rfl, Nat.zero_le _⟩ (small60' (by rw [il_length]; omega)) (fun i ws H2 hi ⟨e, ew, hi2⟩ => ⟨e ▸ hr, by rw [ew, il_length, List.length_map, List.length_take]; omega⟩) ?_ ?_⟩
  ·rintro i v ws H2 hi ⟨rfl, rfl, hil⟩ S hSS
   obtain ⟨z, rfl, hz⟩ := il_get hi
   obtain ⟨z0, z1⟩ := hms.1 z (List.mem_of_getElem? hz)
   obtain ⟨y, hy⟩ : ∃ y, ls[z.toNat]? = some y := ⟨_, List.getElem?_eq_getElem (by omega)⟩
   refine nm ?_
   refine ⟨_, rfl, _, rfl, kd, a, _, _, .int y, rfl, rfl, hA.same s1, atI_of (n := z.toNat) (by omega) (il_at hy), ?_⟩
   refine hSS _ _ ⟨rfl, ?_, (List.getElem?_eq_some_iff.mp hz).1⟩
   have e : ls.getD z.toNat 0 = y := getD_of hy
   rw [List.take_succ, hz, List.map_append, <- e]
   exact (il_snoc _ _).symm
  ·rintro ws H2 ⟨rfl, rfl, _⟩ lA hlA
   refine ⟨lA, _, rfl, SqL.of upd_same, ?_⟩
   rw [il_length, List.take_length]
   exact q _ (s1.trans (same_at hlA))
end
set_option maxHeartbeats 4000000
def sp_weighted_table (K : PySem.W.Frag) (C : Addr) : Sp := fun vs H Q _ => ∃ (w b : Addr) (n : Int) (ps : List (Int × Int)) (ws : List Int), vs = [.ref w, .ref b] /\ WebAt C H w n ps /\ GoodW n ps /\ SqL K H b (IL ws) /\ ws.length = ps.length /\
 ∀ (r : Addr) (ys : List V) (L : List (List Int)) (H' : Hp), Same H H' -> H r = none -> TabAt H r n.toNat H' ys L -> (∀ i j, i < n.toNat -> j < n.toNat -> fnL L i j = lapE (edsOf ps ws) i j) -> Q (.ref r) H'
theorem rep_one2 (x : V) (k : Nat) : (List.replicate k [x]).flatten = List.replicate k x := by
 induction k with
 | zero => rfl
 | succ k ih => rw [List.replicate_succ, List.flatten_cons, ih, List.replicate_succ]; rfl
theorem fnL_abs0 (n i j : Nat) : fnL (List.replicate n (List.replicate n 0)) i j = 0 := by
 unfold fnL
 cases h : (List.replicate n (List.replicate n (0 : Int)))[i]? with
 | none =>
  have e : (List.replicate n (List.replicate n (0 : Int))).getD i [] = [] := by rw [List.getD_eq_getElem?_getD, h]; rfl
  rw [e]
  rfl
 | some l =>
  have e : (List.replicate n (List.replicate n (0 : Int))).getD i [] = l := by rw [List.getD_eq_getElem?_getD, h]; rfl
  rw [e, List.eq_of_mem_replicate (List.mem_of_getElem? h), List.getD_eq_getElem?_getD, List.getElem?_replicate]
  split <;> rfl
theorem TabAt.get {H0 H : Hp} {r : Addr} {n : Nat} {ys : List V} {L : List (List Int)} (h : TabAt H0 r n H ys L) {i j : Nat} (hi : i < n) (hj : j < n) : ∃ (A : Addr) (l : List Int) (x : Int), ys[i]? = some (.ref A) /\ H A = some (.lst (IL l)) /\ l[j]? = some x /\ l.length = n /\ x = fnL L i j /\ H0 A = none /\ ∀ y : Int, ∃ L' : List (List Int), TabAt H0 r n (upd H A (.lst ((IL l).set j (.int y)))) ys L' /\ ∀ a b, fnL L' a b = if a = i /\ b = j then y else fnL L a b := by
 obtain ⟨A, l, y1, z1, hA, hl, hn, hr⟩ := h.at hi
 obtain ⟨x, hx⟩ : ∃ x, l[j]? = some x := ⟨_, List.getElem?_eq_getElem (by omega)⟩
 refine ⟨A, l, x, y1, hA, hx, hl, (fnL_at z1 hx).symm, hn, fun y => ⟨L.set i (l.set j y), ?_, fnL_put z1 (by omega)⟩⟩
 have e : (IL l).set j (.int y) = IL (l.set j y) := (List.map_set ..).symm
 rw [e]
 exact h.put y1 z1 hr (by rw [List.length_set]; exact hl)
theorem ixN_of {xs : List V} {i : Int} (h0 : 0 <= i) (h1 : i < (xs.length : Int)) : ixN xs.length i = some i.toNat := by
 unfold ixN
 rw [if_pos h0, if_pos (by omega)]
section
variable {P : Program} {w : World} {K : PySem.W.Frag} {mg : Str -> Option Value} {base : Heap} {t : Adr}
theorem sc_weighted_table : FnScope ["web", "weights", "table", "ends", "weight", "one", "other"] ["web", "weights"] (defScope s_weighted_table) := ⟨rfl, rfl, rfl, by decide +kernel, rfl, by decide +kernel, by decide +kernel⟩
theorem ok_weighted_table (T : Txt K mg t) : FnOk P w K mg base CX0 1 t.a_weighted_table t.d_weighted_table ["web", "weights"] (sp_weighted_table K t.A_Web) := by
 refine T.f_weighted_table.ok sc_weighted_table (fun vs H Q E h => ?_) (fun cdv A outer s H vs Q E hr h => ?_)
 ·obtain ⟨w, b, n, ps, ws, rfl, _⟩ := h
  rfl
 ·obtain ⟨w, b, n, ps, ws, rfl, hW, hG, hS, hwl, q⟩ := h
  refine ⟨_, (pss_cons (ps_lc (i := 2) rfl sc_weighted_table.nd rfl rfl (sc0 := defScope s_weighted_table) (N0 := ["web", "weights", "table", "ends", "weight", "one", "other"]) (N' := ["place", "web"]) (o := 1) (fr := [0]) ⟨rfl, by decide +kernel, by decide +kernel, by decide +kernel, rfl, by decide +kernel⟩ (pi_range1 rfl T.n_range (pa_cons (pe_fldK K (pv 0) rfl) pa_nil)) (own_name (by decide)) (fun _ _ _ _ => (pg_name (i := 0) (show List.Nodup (["place", "web"] : List Str) by decide +kernel) rfl (Or.inl rfl))) (fun _ _ _ _ => pts_nil) (fun _ _ _ _ => (pe_op op_rep (pe_lst (pa_cons pe_int pa_nil)) (pe_fldK K (pv 1) rfl))))
   (pss_cons (ps_for PassesOwn.never rfl (pi_zip K rfl T.n_zip (pa_cons (pe_fldK K (pv 0) rfl) (pa_cons (pv 1) pa_nil))) (pg_tupK (n := 2) K rfl (pgs_cons (pg_name (i := 3) sc_weighted_table.nd rfl (Or.inl rfl)) (pgs_cons (pg_name (i := 4) sc_weighted_table.nd rfl (Or.inl rfl)) pgs_nil)))
   (pss_cons (ps_set (i := 5) sc_weighted_table.nd rfl (Or.inl rfl) (pe_ix (ix_tupK K) (pv 3) pe_int (fun _ _ => rfl)))
   (pss_cons (ps_set (i := 6) sc_weighted_table.nd rfl (Or.inl rfl) (pe_ix (ix_tupK K) (pv 3) pe_int (fun _ _ => rfl)))
   (pss_one (ps_if (pt_cmpR op_ne (pv 5) (pv 6) (nomark _))
   (pss_cons (ps_augS (pe_ix (ix_listK K) (pv 2) (pv 5) (fun _ _ => rfl)) (pv 5) (get_listK K) (pv 4) ip_add set_list)
   (pss_cons (ps_augS (pe_ix (ix_listK K) (pv 2) (pv 6) (fun _ _ => rfl)) (pv 6) (get_listK K) (pv 4) ip_add set_list)
   (pss_cons (ps_augS (pe_ix (ix_listK K) (pv 2) (pv 5) (fun _ _ => rfl)) (pv 6) (get_listK K) (pv 4) ip_sub set_list)
   (pss_one (ps_augS (pe_ix (ix_listK K) (pv 2) (pv 6) (fun _ _ => rfl)) (pv 5) (get_listK K) (pv 4) ip_sub set_list)))))
   pss_nil)))))
   (pss_one (ps_ret (pv 2))))), ?_⟩
  obtain ⟨dx, tl, xs, h1, h2, h3⟩ := id hW
  have hl := h3.1
  obtain ⟨g1, g2, g3, g4⟩ := id hG
  have one : 1 <= sizeLine := by decide
  refine ⟨_, rfl, w, _, dx, _, _, rfl, h1, T.cl_Web, T.n_Web_places, wf_places _ _, n, rfl, by omega, by omega, lc_range (lo := 0) (n := n.toNat) (fun i zs H2 => Same H H2 /\ Bears (ListV H2) zs (List.replicate i (List.replicate n.toNat 0)) /\ zs.Nodup /\ ∀ A, V.ref A ∈ zs -> H A = none /\ ∃ o, H2 A = some o) ⟨Same.refl _, ⟨rfl, fun i l e => by simp at e⟩, .nil, fun A h => (by cases h)⟩ (small60' (by omega)) (fun i zs H2 _ ⟨_, e, _⟩ => by rw [e.1, List.length_replicate]; exact Nat.le_refl _) ?_ ?_⟩
  ·rintro i zs H2 hi ⟨s2, hZ, hnd, hnew⟩ S hSS
   refine nm ?_
   refine ⟨one, fun p1 hp1 => ?_⟩
   have u1 := same_at (o := .lst [.int 0]) hp1
   refine ⟨_, rfl, w, _, dx, _, _, rfl, u1 _ _ (s2 _ _ h1), T.cl_Web, T.n_Web_places, wf_places _ _, p1, n, _, rfl, rfl, upd_same, by omega, by omega, small60 (by show 1 * n.toNat <= _; omega), fun p2 hp2 => ?_⟩
   have e0 : (List.replicate n.toNat [V.int 0]).flatten = IL (List.replicate n.toNat 0) := by rw [rep_one2]; show _ = (List.replicate n.toNat 0).map V.int; rw [List.map_replicate]
   rw [e0]
   have u2 := u1.trans (same_at (o := .lst (IL (List.replicate n.toNat 0))) hp2)
   have hp20 : H2 p2 = none := (same_at hp1).free hp2
   refine hSS _ _ ⟨s2.trans u2, ?_, ?_, fun A hA => ?_⟩
   ·rw [List.replicate_succ']
    exact (hZ.imp fun _ _ ⟨r', e, h⟩ => ⟨r', e, u2 _ _ h⟩).snoc ⟨p2, rfl, upd_same⟩
   ·refine List.nodup_append.mpr ⟨hnd, by simp, fun x hx y hy e => ?_⟩
    rw [List.mem_singleton.mp hy] at e
    obtain ⟨_, o, ho⟩ := hnew p2 (e ▸ hx)
    rw [hp20] at ho
    cases ho
   ·rcases List.mem_append.mp hA with e | e
    ·obtain ⟨a1, o, a2⟩ := hnew A e
     exact ⟨a1, o, u2 _ _ a2⟩
    ·have e' : A = p2 := by simpa using e
     rw [e']
     exact ⟨s2.free hp20, _, upd_same⟩
  rintro zs H2 ⟨s2, hZ, hnd, hnew⟩ tA htA
  have s3 := s2.trans (same_at (o := .lst zs) htA)
  have htA0 : H tA = none := s2.free htA
  have hT : TabAt H tA n.toNat (upd H2 tA (.lst zs)) zs (List.replicate n.toNat (List.replicate n.toNat 0)) := ⟨upd_same, hZ.imp fun _ _ ⟨r', e, h⟩ => ⟨r', e, same_at htA _ _ h, ne_of_none h htA⟩, List.length_replicate, fun l h => by rw [List.eq_of_mem_replicate h]; exact List.length_replicate, hnd, fun A h => (hnew A h).1⟩
  have hzero : ∀ i j, fnL (List.replicate n.toNat (List.replicate n.toNat 0)) i j = 0 := fun i j => by
   have := fnL_abs0 n.toNat i j
   exact this
  generalize upd H2 tA (.lst zs) = H3 at *
  generalize List.replicate n.toNat (List.replicate n.toNat (0 : Int)) = L0 at *
  refine ⟨_, rfl, w, _, dx, _, _, rfl, s3 _ _ h1, T.cl_Web, T.n_Web_ties, wf_ties _ _, _, rfl, tl, b, rfl, ⟨_, _, SqL.of (s3 _ _ h2), s3.seq hS⟩, for_zip (K := K) (a := tl) (b := b) (xs := xs) (ys := IL ws) (by rw [il_length]; omega) (fun i σ H4 => ∃ (L : List (List Int)) (v3 v4 v5 v6 : Option V), σ = [some (.ref w), some (.ref b), some (.ref tA), v3, v4, v5, v6] /\ Same H H4 /\ TabAt H tA n.toNat H4 zs L /\ ∀ x y, x < n.toNat -> y < n.toNat -> fnL L x y = lapE (edsOf (ps.take i) (ws.take i)) x y) ⟨L0, none, none, none, none, rfl, s3, hT, fun x y _ _ => hzero x y⟩ (fun i σ H4 _ ⟨_, _, _, _, _, _, e, _⟩ => ⟨SqL.of (e _ _ h2), e.seq hS⟩) ?_ ?_⟩
  ·rintro i v v' σ H4 pt hpt hi hi' ⟨L, v3, v4, v5, v6, rfl, s4, hT4, hlap⟩
   obtain ⟨p, hp, tt, rfl, htt⟩ := h3.at hi
   obtain ⟨wt, rfl, hwt⟩ := il_get hi'
   obtain ⟨e1, e2, e3, e4⟩ := g4 p (List.mem_of_getElem? hp)
   have u1 := same_at (o := .tup [.ref tt, .int wt]) hpt
   refine ⟨pt, _, rfl, SqT.of upd_same, rfl, _, _, rfl, _, _, rfl, rfl, ?_⟩
   have hT5 := hT4.same u1
   have s5 := s4.trans u1
   generalize upd H4 pt (.tup [.ref tt, .int wt]) = H5 at *
   refine ⟨_, rfl, tt, _, 0, .int p.1, rfl, rfl, SqT.of (s5 _ _ htt), rfl, ?_⟩
   refine ⟨_, rfl, tt, _, 1, .int p.2, rfl, rfl, SqT.of (s5 _ _ htt), rfl, ?_⟩
   refine ⟨_, rfl, _, rfl, rfl, _, rfl, ?_⟩
   rw [dec_int]
   have esn := eds_snoc hp hwt
   refine itn2 (fun heq => ?_) (fun hne => ?_)
   ·refine ⟨L, _, _, _, _, rfl, s5, hT5, fun x y hx hy => ?_⟩
    rw [esn, lapE_loop (by show p.1.toNat = p.2.toNat; rw [heq])]
    exact hlap x y hx hy
   have hne' : p.1.toNat ≠ p.2.toNat := fun e => hne (by omega)
   obtain ⟨A1, l1, x1, y1, hA1, hx1, hl1, ex1, hn1, put1⟩ := hT5.get (i := p.1.toNat) (j := p.1.toNat) (by omega) (by omega)
   refine ⟨_, rfl, _, rfl, tA, zs, p.1, .ref A1, rfl, rfl, SqL.of hT5.tab, atI_of (n := p.1.toNat) (by omega) y1, _, rfl, A1, _, p.1, .int x1, rfl, rfl, SqL.of hA1, by omega, il_at hx1, _, rfl, _, _, rfl, rfl, A1, _, p.1, p.1.toNat, rfl, rfl, hA1, ixN_of (by omega) (by rw [il_length]; omega), ?_⟩
   obtain ⟨L1, hT6, hf1⟩ := put1 (x1 + wt)
   have s6 : Same H (upd H5 A1 (.lst ((IL l1).set p.1.toNat (.int (x1 + wt))))) := same_upd hn1 s5
   generalize upd H5 A1 (.lst ((IL l1).set p.1.toNat (.int (x1 + wt)))) = H6 at *
   rw [ex1] at hf1
   obtain ⟨A2, l2, x2, y2, hA2, hx2, hl2, ex2, hn2, put2⟩ := hT6.get (i := p.2.toNat) (j := p.2.toNat) (by omega) (by omega)
   refine ⟨_, rfl, _, rfl, tA, zs, p.2, .ref A2, rfl, rfl, SqL.of hT6.tab, atI_of (n := p.2.toNat) (by omega) y2, _, rfl, A2, _, p.2, .int x2, rfl, rfl, SqL.of hA2, by omega, il_at hx2, _, rfl, _, _, rfl, rfl, A2, _, p.2, p.2.toNat, rfl, rfl, hA2, ixN_of (by omega) (by rw [il_length]; omega), ?_⟩
   obtain ⟨L2, hT7, hf2⟩ := put2 (x2 + wt)
   have s7 : Same H (upd H6 A2 (.lst ((IL l2).set p.2.toNat (.int (x2 + wt))))) := same_upd hn2 s6
   generalize upd H6 A2 (.lst ((IL l2).set p.2.toNat (.int (x2 + wt)))) = H7 at *
   rw [ex2] at hf2
   obtain ⟨A3, l3, x3, y3, hA3, hx3, hl3, ex3, hn3, put3⟩ := hT7.get (i := p.1.toNat) (j := p.2.toNat) (by omega) (by omega)
   refine ⟨_, rfl, _, rfl, tA, zs, p.1, .ref A3, rfl, rfl, SqL.of hT7.tab, atI_of (n := p.1.toNat) (by omega) y3, _, rfl, A3, _, p.2, .int x3, rfl, rfl, SqL.of hA3, by omega, il_at hx3, _, rfl, _, _, rfl, rfl, A3, _, p.2, p.2.toNat, rfl, rfl, hA3, ixN_of (by omega) (by rw [il_length]; omega), ?_⟩
   obtain ⟨L3, hT8, hf3⟩ := put3 (x3 - wt)
   have s8 : Same H (upd H7 A3 (.lst ((IL l3).set p.2.toNat (.int (x3 - wt))))) := same_upd hn3 s7
   generalize upd H7 A3 (.lst ((IL l3).set p.2.toNat (.int (x3 - wt)))) = H8 at *
   rw [ex3] at hf3
   obtain ⟨A4, l4, x4, y4, hA4, hx4, hl4, ex4, hn4, put4⟩ := hT8.get (i := p.2.toNat) (j := p.1.toNat) (by omega) (by omega)
   refine ⟨_, rfl, _, rfl, tA, zs, p.2, .ref A4, rfl, rfl, SqL.of hT8.tab, atI_of (n := p.2.toNat) (by omega) y4, _, rfl, A4, _, p.1, .int x4, rfl, rfl, SqL.of hA4, by omega, il_at hx4, _, rfl, _, _, rfl, rfl, A4, _, p.1, p.1.toNat, rfl, rfl, hA4, ixN_of (by omega) (by rw [il_length]; omega), ?_⟩
   obtain ⟨L4, hT9, hf4⟩ := put4 (x4 - wt)
   have s9 : Same H (upd H8 A4 (.lst ((IL l4).set p.1.toNat (.int (x4 - wt))))) := same_upd hn4 s8
   generalize upd H8 A4 (.lst ((IL l4).set p.1.toNat (.int (x4 - wt)))) = H9 at *
   rw [ex4] at hf4
   refine ⟨L4, _, _, _, _, rfl, s9, hT9, fun x y hx hy => ?_⟩
   rw [esn, lapE_snoc, <- hlap x y hx hy]
   exact four hne' x y hf1 hf2 hf3 hf4
  ·rintro σ H4 ⟨L, v3, v4, v5, v6, rfl, s4, hT4, hlap⟩
   rw [hl, List.take_length, <- hwl, List.take_length] at hlap
   exact ⟨_, rfl, q tA zs L H4 s4 htA0 hT4 hlap⟩
end
set_option maxHeartbeats 4000000
def sp_pull_table (K : PySem.W.Frag) (C : Addr) : Sp := fun vs H Q _ => ∃ (w : Addr) (n : Int) (ps : List (Int × Int)), vs = [.ref w] /\ WebAt C H w n ps /\ GoodW n ps /\
 ∀ (r : Addr) (ys : List V) (L : List (List Int)) (H' : Hp), Same H H' -> H r = none -> TabAt H r n.toNat H' ys L -> (∀ i j, i < n.toNat -> j < n.toNat -> fnL L i j = lapE (edsOf ps (List.replicate ps.length 1)) i j) -> Q (.ref r) H'
section
variable {P : Program} {w : World} {K : PySem.W.Frag} {mg : Str -> Option Value} {base : Heap} {t : Adr}
theorem sc_pull_table : FnScope ["web"] ["web"] (defScope s_pull_table) := ⟨rfl, rfl, rfl, by decide +kernel, rfl, by decide +kernel, by decide +kernel⟩
theorem ok_pull_table (T : Txt K mg t) : FnOk P w K mg base CX0 2 t.a_pull_table t.d_pull_table ["web"] (sp_pull_table K t.A_Web) := by
 refine T.f_pull_table.ok sc_pull_table (fun vs H Q E h => ?_) (fun cdv A outer s H vs Q E hr h => ?_)
 ·obtain ⟨w, n, ps, rfl, _⟩ := h
  rfl
 ·obtain ⟨w, n, ps, rfl, hW, hG, q⟩ := h
  refine ⟨_, (pss_one (ps_ret (pe_call (ok_weighted_table T) (hr.mono (by decide)) rfl T.m_weighted_table T.f_weighted_table.kp T.b_weighted_table .nil pass0 (pa_cons (pv 0) (pa_cons (pe_op op_rep (pe_lst (pa_cons pe_int pa_nil)) (pe_callB (call_lenK K) (by rfl) T.n_len Boot.«len» (pa_cons (pe_fldK K (pv 0) rfl) pa_nil))) pa_nil))))), ?_⟩
  obtain ⟨dx, tl, xs, h1, h2, h3⟩ := id hW
  have hl := h3.1
  have g3 := hG.2.2.1
  refine ⟨_, rfl, (by show 1 <= sizeLine; decide), fun p1 hp1 => ?_⟩
  have u1 := same_at (o := .lst [.int 1]) hp1
  refine ⟨_, rfl, w, _, dx, _, _, rfl, u1 _ _ h1, T.cl_Web, T.n_Web_ties, wf_ties _ _, tl, xs, rfl, .inl (SqL.of (u1 _ _ h2)), p1, (xs.length : Int), _, rfl, rfl, upd_same, by omega, by omega, small60 (by show 1 * _ <= _; omega), fun p2 hp2 => ?_⟩
  have e0 : (List.replicate (xs.length : Int).toNat [V.int 1]).flatten = IL (List.replicate ps.length 1) := by
   rw [Int.toNat_natCast, hl, rep_one2]
   show _ = (List.replicate ps.length 1).map V.int
   rw [List.map_replicate]
  rw [e0]
  have u2 := u1.trans (same_at (o := .lst (IL (List.replicate ps.length 1))) hp2)
  refine ⟨w, p2, n, ps, List.replicate ps.length 1, rfl, hW.same u2, hG, SqL.of upd_same, List.length_replicate, fun r ys L H' s hr hT hf => ?_⟩
  exact q r ys L H' (u2.trans s) (u2.free hr) ⟨hT.tab, hT.rows, hT.len, hT.all, hT.nd, fun A h => u2.free (hT.new A h)⟩ hf
end
set_option maxHeartbeats 4000000
def sp_tree_count (K : PySem.W.Frag) (C : Addr) : Sp := fun vs H Q _ => ∃ (w : Addr) (n : Int) (ps : List (Int × Int)), vs = [.ref w] /\ WebAt C H w n ps /\ GoodW n ps /\ ∀ (c : Nat) (H' : Hp), TC n ps c -> Same H H' -> Q (.int c) H'
theorem ind_abs (u v i : Nat) : (ind u v i).natAbs <= 1 := by
 unfold ind
 split <;> split <;> decide
theorem lap_abs : ∀ {E : List Ed}, (∀ e ∈ E, e.2.2 = 1) -> ∀ i j, (lapE E i j).natAbs <= E.length
 | [], _, i, j => Nat.le_refl 0
 | e :: E, h, i, j => by
  have ih := lap_abs (fun f hf => h f (List.mem_cons_of_mem _ hf)) i j
  have h1 := ind_abs e.1 e.2.1 i
  have h2 := ind_abs e.1 e.2.1 j
  have h3 : (ind e.1 e.2.1 i * ind e.1 e.2.1 j).natAbs <= 1 := by rw [Int.natAbs_mul]; exact Nat.mul_le_mul h1 h2
  show (e.2.2 * (ind e.1 e.2.1 i * ind e.1 e.2.1 j) + lapE E i j).natAbs <= (e :: E).length
  rw [h e List.mem_cons_self, Int.one_mul, List.length_cons]
  have := Int.natAbs_add_le (ind e.1 e.2.1 i * ind e.1 e.2.1 j) (lapE E i j)
  omega
theorem cutz_snd {α : Type} {l : List α} {i : Nat} (hi : l.length = i + 1) : cutz l (i : Int) = l.take i := by
 unfold cutz
 rw [Int.toNat_natCast, List.drop_eq_nil_of_le (by omega), List.append_nil]
section
variable {P : Program} {w : World} {K : PySem.W.Frag} {mg : Str -> Option Value} {base : Heap} {t : Adr}
theorem sc_tree_count : FnScope ["web"] ["web"] (defScope s_tree_count) := ⟨rfl, rfl, rfl, by decide +kernel, rfl, by decide +kernel, by decide +kernel⟩
theorem ok_tree_count (T : Txt K mg t) : FnOk P w K mg base CX0 3 t.a_tree_count t.d_tree_count ["web"] (sp_tree_count K t.A_Web) := by
 refine T.f_tree_count.ok sc_tree_count (fun vs H Q E h => ?_) (fun cdv A outer s H vs Q E hr h => ?_)
 ·obtain ⟨w, n, ps, rfl, _⟩ := h
  rfl
 ·obtain ⟨w, n, ps, rfl, hW, hG, q⟩ := h
  refine ⟨_, (pss_one (ps_ret (pe_call (ok_determinant T) (hr.mono (by decide)) rfl T.m_determinant T.f_determinant.kp T.b_determinant .nil pass0 (pa_cons (pe_call (ok_table_without T) (hr.mono (by decide)) rfl T.m_table_without T.f_table_without.kp T.b_table_without .nil pass0 (pa_cons (pe_call (ok_pull_table T) (hr.mono (by decide)) rfl T.m_pull_table T.f_pull_table.kp T.b_pull_table .nil pass0 (pa_cons (pv 0) pa_nil)) (pa_cons (pe_op op_sub (pe_fldK K (pv 0) rfl) pe_int) pa_nil))) pa_nil)))), ?_⟩
  obtain ⟨g1, g2, g3, g4⟩ := id hG
  refine ⟨_, rfl, w, n, ps, rfl, hW, hG, fun r ys L H1 s1 hr hT hf => ?_⟩
  obtain ⟨dx, tl, xs, h1, h2, h3⟩ := id hW
  refine ⟨_, rfl, w, _, dx, _, _, rfl, s1 _ _ h1, T.cl_Web, T.n_Web_places, wf_places _ _, _, _, rfl, rfl, ?_⟩
  obtain ⟨k, hk⟩ : ∃ k : Nat, n - 1 = (k : Int) := ⟨(n - 1).toNat, by omega⟩
  have hnk : n.toNat = k + 1 := by omega
  have hLl := hT.len
  have hTB : Bears (ListV H1) ys L := hT.rows.imp fun _ _ h => h.list
  refine ⟨r, ys, L, k, ?_, SqL.of hT.tab, hTB, by omega, fun l h => by rw [hT.all l h]; omega, by omega, fun r2 zs H2 s2 hr2 hZ => ?_⟩
  ·show [V.ref r, V.int (n - 1)] = _
   rw [hk]
  have w1 : ∀ e ∈ edsOf ps (List.replicate ps.length (1 : Int)), e.2.2 = 1 := fun e he => by
   unfold edsOf at he
   obtain ⟨i, hi⟩ := List.getElem?_of_mem he
   rw [List.getElem?_zipWith] at hi
   cases h1 : ps[i]? with
   | none => rw [h1] at hi; cases hi
   | some p =>
    cases h2 : (List.replicate ps.length (1 : Int))[i]? with
    | none => rw [h1, h2] at hi; cases hi
    | some w =>
     rw [h1, h2] at hi
     obtain rfl := Option.some.inj hi
     exact List.eq_of_mem_replicate (List.mem_of_getElem? h2)
  have el : (edsOf ps (List.replicate ps.length (1 : Int))).length <= 30 := by
   unfold edsOf
   rw [List.length_zipWith, List.length_replicate]
   omega
  have hM : (cutz L (k : Int)).map (fun l => cutz l (k : Int)) = (L.take k).map fun l => l.take k := by
   rw [cutz_snd (by omega)]
   exact List.map_congr_left fun l hl => cutz_snd (by rw [hT.all l (List.mem_of_mem_take hl)]; omega)
  rw [hM] at hZ
  have hMl : ((L.take k).map fun l => l.take k).length = k := by rw [List.length_map, List.length_take]; omega
  have hfn : ∀ i j, i < k -> j < k -> fnL ((L.take k).map fun l => l.take k) i j = lapE (edsOf ps (List.replicate ps.length 1)) i j := fun i j hi hj => by
   rw [<- hf i j (by omega) (by omega)]
   obtain ⟨l, hl⟩ : ∃ l, L[i]? = some l := ⟨_, List.getElem?_eq_getElem (by omega)⟩
   have hll := hT.all l (List.mem_of_getElem? hl)
   obtain ⟨x, hx⟩ : ∃ x, l[j]? = some x := ⟨_, List.getElem?_eq_getElem (by omega)⟩
   rw [fnL_at hl hx]
   exact fnL_at (l := l.take k) (by rw [List.getElem?_map, List.getElem?_take, if_pos hi, hl]; rfl) (by rw [List.getElem?_take, if_pos hj]; exact hx)
  refine ⟨r2, false, zs, (L.take k).map fun l => l.take k, rfl, SqL.of hr2, hZ.imp (fun _ _ ⟨r', e, h⟩ => ⟨r', false, e, SqL.of h⟩), by rw [hMl]; omega, fun i j hi hj => ?_, fun _ H3 s3 => ?_, fun h => absurd (fun l hl => ?_) h⟩
  ·rw [hMl] at hi hj
   rw [hfn i j hi hj]
   exact Nat.le_trans (lap_abs w1 i j) (Nat.le_trans el (Nat.le_trans (by decide : 30 <= 2 ^ 5) (Nat.pow_le_pow_right (by decide) (by decide))))
  ·have hd : det ((L.take k).map fun l => l.take k).length (fnL ((L.take k).map fun l => l.take k)) = det (n - 1).toNat (lapE (edsOf ps (List.replicate ps.length 1))) := by
    rw [hMl, show (n - 1).toNat = k by omega]
    exact det_congr fun i j hi hj => hfn i j hi hj
   obtain ⟨c, M, a1, a2, a3⟩ : ∃ c, TC n ps c := by
    obtain ⟨M, a1, a2, _⟩ := matrix_tree _ (n - 1).toNat (edsOf ps (List.replicate ps.length 1)) rfl (eds_in hG _)
    exact ⟨M.length, M, a1, fun l => by rw [a2, isT_web g1 List.length_replicate], rfl⟩
   rw [hd, tree_det hG a1 a2, a3]
   exact q c H3 ⟨M, a1, a2, a3⟩ (s1.trans (s2.trans s3))
  ·obtain ⟨l0, h0, rfl⟩ := List.mem_map.mp hl
   rw [hMl, List.length_take, hT.all l0 (List.mem_of_mem_take h0)]
   omega
end
set_option maxHeartbeats 4000000
def grO (n : Int) (ps : List (Int × Int)) (os ins outs : List Int) : List Int := grw n.toNat ps (ins ++ os.filter fun z => decide (z ∉ outs))
def sp_first_of (K : PySem.W.Frag) (C : Addr) : Sp := fun vs H Q _ => ∃ (w a o i u : Addr) (n : Int) (ps : List (Int × Int)) (kd : Bool) (ls os ins outs : List Int), vs = [.ref w, .ref a, .ref o, .ref i, .ref u] /\ WebAt C H w n ps /\ GoodW n ps /\ SqK kd K H a (IL ls) /\ ls.length = ps.length /\ SqL K H o (IL os) /\ os.length <= 100 /\ os.Nodup /\ (∀ z ∈ os, 0 <= z /\ z < (ps.length : Int)) /\ SqT K H i (IL ins) /\ SqT K H u (IL outs) /\ ins.length <= 100 /\ outs.length <= 10000 /\ (∀ z ∈ ins, 0 <= z /\ z < (ps.length : Int)) /\ (grO n ps os ins outs).Nodup /\
 (¬ ((grO n ps os ins outs).take ins.length = ins /\ ¬ ((grO n ps os ins outs).length : Int) < n - 1) -> ∀ (r : Addr) (H' : Hp), Same H H' -> H r = none -> H' r = some (.lst []) -> Q (.ref r) H') /\
 ((grO n ps os ins outs).take ins.length = ins -> ¬ ((grO n ps os ins outs).length : Int) < n - 1 -> ∀ (ms : List Int) (r tp tr : Addr) (H' : Hp), ms.Perm (grO n ps os ins outs) -> ms.Pairwise (· <= ·) -> Same H H' -> H r = none -> H tp = none -> H' r = some (.lst [.ref tp]) -> H' tp = some (.tup [.int (smW ls ms), .ref tr, .ref i, .ref u]) -> H' tr = some (.tup (IL ms)) -> Q (.ref r) H')
section
variable {P : Program} {w : World} {K : PySem.W.Frag} {mg : Str -> Option Value} {base : Heap} {t : Adr}
theorem sc_first_of : FnScope ["web", "lengths", "order", "inside", "outside", "tree"] ["web", "lengths", "order", "inside", "outside"] (defScope s_first_of) := ⟨rfl, rfl, rfl, by decide +kernel, rfl, by decide +kernel, by decide +kernel⟩
theorem ok_first_of (T : Txt K mg t) : FnOk P w K mg base CX0 5 t.a_first_of t.d_first_of ["web", "lengths", "order", "inside", "outside"] (sp_first_of K t.A_Web) := by
 refine T.f_first_of.ok sc_first_of (fun vs H Q E h => ?_) (fun cdv A outer s H vs Q E hr h => ?_)
 ·obtain ⟨w, a, o, i, u, n, ps, kd, ls, os, ins, outs, rfl, _⟩ := h
  rfl
 ·obtain ⟨w, a, o, i, u, n, ps, kd, ls, os, ins, outs, rfl, hW, hG, hA, hll, hO, hol, hon, hoz, hI, hU, hil, hul, hiz, hgn, q0, q1⟩ := h
  refine ⟨_, (pss_cons (ps_set (i := 5) sc_first_of.nd rfl (Or.inl rfl) (pe_call (ok_grown_tree T) (hr.mono (by decide)) rfl T.m_grown_tree T.f_grown_tree.kp T.b_grown_tree .nil pass0 (pa_cons (pv 0) (pa_cons (pv 3) (pa_cons (pe_lc rfl (sc0 := defScope s_first_of) (N0 := ["web", "lengths", "order", "inside", "outside", "tree"]) (N' := ["tie", "outside"]) (o := 1) (fr := [4]) ⟨rfl, by decide +kernel, by decide +kernel, by decide +kernel, rfl, by decide +kernel⟩ (pi_listK K (pv 2)) (own_name (by decide)) (fun _ _ _ _ => (pg_name (i := 0) (show List.Nodup (["tie", "outside"] : List Str) by decide +kernel) rfl (Or.inl rfl))) (fun _ _ _ _ => (pts_one (pt_cmpR (op_notInK K) (pv 0) (pv 1) rfl))) (fun _ _ _ _ => (pv 0))) pa_nil)))))
   (pss_cons (ps_if (pt_cmpR op_isN (pv 5) pe_non (nomark _))
   (pss_one (ps_ret (pe_lst pa_nil)))
   pss_nil)
   (pss_one (ps_ret (pe_lst (pa_cons (pe_tup (pa_cons (pe_call (ok_length_of T) (hr.mono (by decide)) rfl T.m_length_of T.f_length_of.kp T.b_length_of .nil pass0 (pa_cons (pv 0) (pa_cons (pv 1) (pa_cons (pv 5) pa_nil)))) (pa_cons (pv 5) (pa_cons (pv 3) (pa_cons (pv 4) pa_nil))))) pa_nil)))))), ?_⟩
  have one : 1 <= sizeLine := by decide
  have four : 4 <= sizeLine := by decide
  have fl : ∀ l : List Int, (l.filter fun z => decide (z ∉ outs)).length <= l.length := fun l => List.length_filter_le _ _
  refine ⟨_, rfl, _, rfl, _, rfl, o, rfl, ⟨_, hO⟩, lc_list (K := K) (a := o) (xs := IL os) (fun j ys H2 => H2 = H /\ j <= os.length /\ ys = IL ((os.take j).filter fun z => decide (z ∉ outs))) ⟨rfl, Nat.zero_le _, rfl⟩ (small60' (by rw [il_length]; omega)) (fun j ys H2 hj ⟨e, hj2, ey⟩ => ⟨e ▸ hO, by rw [ey, il_length]; exact Nat.le_trans (fl _) (by rw [List.length_take]; omega)⟩) ?_ ?_⟩
  ·rintro j v ys H2 hj ⟨rfl, hjl, rfl⟩ S hSS
   obtain ⟨z, rfl, hz⟩ := il_get hj
   have hj' : j < os.length := (List.getElem?_eq_some_iff.mp hz).1
   refine nm ?_
   refine ⟨_, rfl, _, rfl, u, _, rfl, .inr hU, rfl, flat_ints outs, _, rfl, ?_⟩
   rw [inV_ints]
   have et : os.take (j + 1) = os.take j ++ [z] := by rw [List.take_succ, hz]; rfl
   refine itn2 (fun hc => ?_) (fun hc => ?_)
   ·refine hSS _ _ ⟨rfl, hj', ?_⟩
    rw [et, List.filter_append, List.filter_cons_of_neg (by simp [hc]), List.filter_nil, List.append_nil]
   ·refine ⟨_, rfl, hSS _ _ ⟨rfl, hj', ?_⟩⟩
    rw [et, List.filter_append, List.filter_cons_of_pos (by simp [hc]), List.filter_nil, il_snoc]
  rintro ys H2 ⟨rfl, _, rfl⟩ d hd
  rw [il_length, List.take_length]
  have s1 := same_at (o := .lst (IL (os.filter fun z => decide (z ∉ outs)))) hd
  have h1 : (upd H2 d (.lst (IL (os.filter fun z => decide (z ∉ outs))))) d = some (.lst (IL (os.filter fun z => decide (z ∉ outs)))) := upd_same
  generalize upd H2 d (.lst (IL (os.filter fun z => decide (z ∉ outs)))) = H1 at *
  have hall : ∀ z ∈ ins ++ os.filter fun z => decide (z ∉ outs), 0 <= z /\ z < (ps.length : Int) := fun z hz => by
   rcases List.mem_append.mp hz with hz | hz
   ·exact hiz z hz
   ·exact hoz z (List.mem_filter.mp hz).1
  refine ⟨w, i, d, n, ps, true, false, ins, os.filter fun z => decide (z ∉ outs), rfl, hW.same s1, hG, SqK.same (k := true) s1 hI, SqL.of h1, by omega, Nat.le_trans (fl os) (by omega), hall, fun hno H3 s3 => ?_, fun h2 h3 r ms H3 hp hs s3 hr0 hr3 => ?_⟩
  ·refine nm ?_
   dsimp only
   refine ⟨_, rfl, rfl, _, rfl, ?_⟩
   refine itd rfl ?_
   refine ⟨Nat.zero_le _, fun r hr => ?_⟩
   refine q0 (fun ⟨h2, h3⟩ => ?_) r _ ((s1.trans s3).trans (same_at hr)) ((s1.trans s3).free hr) upd_same
   rcases hno with h | h
   ·exact h h2
   ·exact h3 h
  ·refine nm ?_
   dsimp only
   refine ⟨_, rfl, rfl, _, rfl, ?_⟩
   refine itdn (fun z => by cases z) ?_
   have s13 := s1.trans s3
   have hsub : ∀ z ∈ ms, z ∈ grO n ps os ins outs := fun z hz => hp.mem_iff.mp hz
   have hset : IsSet ps.length ms := isSet_iff.mpr ⟨fun z hz => grw_all hall z (hsub z hz), ?_⟩
   ·refine ⟨_, rfl, _, rfl, _, rfl, w, a, r, n, ps, kd, true, ls, ms, rfl, hW.same s13, hG.2.2.1, hA.same s13, SqT.of hr3, hll, hset, fun H4 s4 => ?_⟩
    refine ⟨_, rfl, _, rfl, _, rfl, four, fun tp htp => ?_⟩
    have s14 := s13.trans s4
    have u5 := same_at (o := .tup [.int (smW ls ms), .ref r, .ref i, .ref u]) htp
    refine ⟨one, fun l hl => ?_⟩
    have u6 := same_at (o := .lst [.ref tp]) hl
    exact q1 h2 h3 ms l tp r _ hp hs ((s14.trans u5).trans u6) ((s14.trans u5).free hl) (s14.free htp) upd_same (u6 _ _ upd_same) ((u5.trans u6) _ _ (s4 _ _ hr3))
   ·have hnd : ms.Nodup := hp.nodup_iff.mpr hgn
    exact (hs.and hnd).imp fun ⟨x, y⟩ => by omega
end
set_option maxHeartbeats 4000000
def EV (K : PySem.W.Frag) (H : Hp) (ls : List Int) (v : V) (E : Ent) : Prop := ∃ tp tr ti to : Addr, v = .ref tp /\ H tp = some (.tup [.int (sumL ls E.T), .ref tr, .ref ti, .ref to]) /\ H tr = some (.tup (IL E.T)) /\ SqT K H ti (IL E.I) /\ SqT K H to (IL E.O)
theorem EV.same {K : PySem.W.Frag} {H H' : Hp} {ls : List Int} {v : V} {E : Ent} (s : Same H H') (h : EV K H ls v E) : EV K H' ls v E := by
 obtain ⟨tp, tr, ti, to, e, h1, h2, h3, h4⟩ := h
 exact ⟨tp, tr, ti, to, e, s _ _ h1, s _ _ h2, SqK.same (k := true) s h3, SqK.same (k := true) s h4⟩
theorem sqT_put {K : PySem.W.Frag} {H : Hp} {r a : Addr} {xs zs : List V} {o : HO} (hr : H r = some (.lst zs)) (h : SqT K H a xs) : SqT K (upd H r o) a xs := by
 rcases h with (h | ⟨u, h⟩) | h
 ·exact .inl (.inl (by rw [upd_ne (ne_of h hr (by simp))]; exact h))
 ·exact .inl (.inr ⟨u, by rw [upd_ne (ne_of h hr (by simp))]; exact h⟩)
 ·exact .inr h
theorem EV.put {K : PySem.W.Frag} {H : Hp} {ls : List Int} {v : V} {E : Ent} {r : Addr} {zs : List V} {o : HO} (hr : H r = some (.lst zs)) (h : EV K H ls v E) : EV K (upd H r o) ls v E := by
 obtain ⟨tp, tr, ti, to, e, h1, h2, h3, h4⟩ := h
 exact ⟨tp, tr, ti, to, e, by rw [upd_ne (ne_of h1 hr (by simp))]; exact h1, by rw [upd_ne (ne_of h2 hr (by simp))]; exact h2, sqT_put hr h3, sqT_put hr h4⟩
theorem cat_any {K : PySem.W.Frag} {H : Hp} {a b : Addr} {xs ys : List V} {Q : VK} (ha : SqT K H a xs) (hb : SqT K H b ys) (hy : ys ≠ []) (hz : xs.length + ys.length <= sizeLine) (q : ∀ (p : Addr) (H' : Hp), Same H H' -> SqT K H' p (xs ++ ys) -> Q (.ref p) H') : rCatU K (.ref a) (.ref b) H Q :=
 ⟨a, b, xs, ys, rfl, rfl, ha, hb, hz, fun e => q b H (Same.refl _) (by rw [e]; exact hb), fun _ e => absurd e hy, fun _ _ p hp => q p _ (same_at hp) (SqT.of upd_same)⟩
def sp_firsts_behind (K : PySem.W.Frag) (C : Addr) : Sp := fun vs H Q _ => ∃ (w a o tk : Addr) (n : Int) (ps : List (Int × Int)) (kd : Bool) (ls os : List Int) (E : Ent), vs = [.ref w, .ref a, .ref o, .ref tk] /\ WebAt C H w n ps /\ GoodW n ps /\ SqK kd K H a (IL ls) /\ ls.length = ps.length /\ SqL K H o (IL os) /\ OrdL ls ps.length os /\ EV K H ls (.ref tk) E /\ EOk n ps ls E /\
 ∀ (ys : List V) (Es : List Ent) (r : Addr) (H' : Hp), FB n ps ls E E.T Es -> Es.length <= 14 -> Bears (EV K H' ls) ys Es -> Same H H' -> H r = none -> H' r = some (.lst ys) -> Q (.ref r) H'
section
variable {P : Program} {w : World} {K : PySem.W.Frag} {mg : Str -> Option Value} {base : Heap} {t : Adr}
theorem sc_firsts_behind : FnScope ["web", "lengths", "order", "taken", "inside", "outside", "firsts", "tie"] ["web", "lengths", "order", "taken"] (defScope s_firsts_behind) := ⟨rfl, rfl, rfl, by decide +kernel, rfl, by decide +kernel, by decide +kernel⟩
theorem ok_firsts_behind (T : Txt K mg t) : FnOk P w K mg base CX0 6 t.a_firsts_behind t.d_firsts_behind ["web", "lengths", "order", "taken"] (sp_firsts_behind K t.A_Web) := by
 refine T.f_firsts_behind.ok sc_firsts_behind (fun vs H Q E h => ?_) (fun cdv A outer s H vs Q E hr h => ?_)
 ·obtain ⟨w, a, o, tk, n, ps, kd, ls, os, E, rfl, _⟩ := h
  rfl
 ·obtain ⟨w, a, o, tk, n, ps, kd, ls, os, E, rfl, hW, hG, hA, hll, hO, ho, hV, hE, q⟩ := h
  refine ⟨_, (pss_cons (ps_set (i := 4) sc_firsts_behind.nd rfl (Or.inl rfl) (pe_ix (ix_tupK K) (pv 3) pe_int (fun _ _ => rfl)))
   (pss_cons (ps_set (i := 5) sc_firsts_behind.nd rfl (Or.inl rfl) (pe_ix (ix_tupK K) (pv 3) pe_int (fun _ _ => rfl)))
   (pss_cons (ps_set (i := 6) sc_firsts_behind.nd rfl (Or.inl rfl) (pe_lst pa_nil))
   (pss_cons (ps_for PassesOwn.never rfl (pi_tupK K (pe_ix (ix_tupK K) (pv 3) pe_int (fun _ _ => rfl))) (pg_name (i := 7) sc_firsts_behind.nd rfl (Or.inl rfl))
   (pss_one (ps_if (pt_cmpR (op_notInK K) (pv 7) (pv 4) rfl)
   (pss_cons (ps_expr (pe_bmK K PySem.F.plainAttrs_list PySem.F.slot_list_extend PySem.F.type_list_extend mt_extend (pv 6) (pa_cons (pe_call (ok_first_of T) (hr.mono (by decide)) rfl T.m_first_of T.f_first_of.kp T.b_first_of .nil pass0 (pa_cons (pv 0) (pa_cons (pv 1) (pa_cons (pv 2) (pa_cons (pv 4) (pa_cons (pe_op (op_catU K) (pv 5) (pe_tup (pa_cons (pv 7) pa_nil))) pa_nil)))))) pa_nil)))
   (pss_one (ps_set (i := 4) sc_firsts_behind.nd rfl (Or.inl rfl) (pe_op (op_catU K) (pv 4) (pe_tup (pa_cons (pv 7) pa_nil))))))
   pss_nil)))
   (pss_one (ps_ret (pv 6))))))), ?_⟩
  obtain ⟨tp, tr, ti, to, e, h1, h2, h3, h4⟩ := hV
  cases e
  refine ⟨_, rfl, tk, _, 2, .ref ti, rfl, rfl, SqT.of h1, rfl, ?_⟩
  refine nm ?_
  dsimp only
  refine ⟨_, rfl, tk, _, 3, .ref to, rfl, rfl, SqT.of h1, rfl, ?_⟩
  refine nm ?_
  dsimp only
  refine ⟨Nat.zero_le _, fun r hr => ?_⟩
  have u0 := same_at (o := .lst []) hr
  have hTl : (E.T.length : Int) = n - 1 := hE.own.1.2.1
  have hG2 := hG.2.1
  have hps := hG.2.2.1
  have one : 1 <= sizeLine := by decide
  have z1 : 100000 <= sizeLine := by decide
  have hnd : E.T.Nodup := hE.own.1.1.nodup
  have hol : os.length = ps.length := by rw [ho.1.length_eq, rgL_length]
  have hon : os.Nodup := ho.2.imp fun h e => by rw [e] at h; omega
  refine nm ?_
  dsimp only
  refine ⟨_, rfl, tk, _, 1, .ref tr, rfl, rfl, SqT.of (u0 _ _ h1), rfl, tr, rfl, ⟨_, SqT.of (u0 _ _ h2)⟩, for_tup (K := K) (a := tr) (xs := IL E.T) (fun j σ H2 => ∃ (iA : Addr) (v7 : Option V) (ys : List V) (Es : List Ent), σ = [some (.ref w), some (.ref a), some (.ref o), some (.ref tk), some (.ref iA), some (.ref to), some (.ref r), v7] /\ j <= E.T.length /\ Same H H2 /\ SqT K H2 iA (IL (insd E (E.T.take j))) /\ H2 r = some (.lst ys) /\ Bears (EV K H2 ls) ys Es /\ FB n ps ls E (E.T.take j) Es /\ Es.length <= j) ⟨ti, none, [], [], rfl, Nat.zero_le _, u0, ?_, upd_same, ⟨rfl, fun i a h => by cases h⟩, FB.nil, Nat.le_refl _⟩ (fun j σ H2 _ ⟨_, _, _, _, _, _, s2, _⟩ => SqT.of (s2 _ _ h2)) ?_ ?_⟩
  ·rw [show insd E (E.T.take 0) = E.I by unfold insd; rw [List.take_zero, List.filter_nil, List.append_nil]]
   exact SqK.same (k := true) u0 h3
  rotate_left
  ·rintro σ H2 ⟨iA, v7, ys, Es, rfl, _, s2, _, hr2, hB, hF, hlen⟩
   rw [il_length, List.take_length] at hF
   exact ⟨_, rfl, q ys Es r H2 hF (by rw [il_length] at hlen; omega) hB s2 hr hr2⟩
  rintro j v σ H2 hj ⟨iA, v7, ys, Es, rfl, hjl, s2, hiA, hr2, hB, hF, hlen⟩
  obtain ⟨z, rfl, hz⟩ := il_get hj
  have hj' : j < E.T.length := (List.getElem?_eq_some_iff.mp hz).1
  have et : E.T.take (j + 1) = E.T.take j ++ [z] := by rw [List.take_succ, hz]; rfl
  have hzT : z ∈ E.T := List.mem_of_getElem? hz
  have hzl : z ∉ E.T.take j := fun hm => by
   have := hnd.sublist (List.take_sublist (j + 1) E.T)
   rw [et] at this
   exact (List.nodup_append.mp this).2.2 z hm z (List.mem_singleton.mpr rfl) rfl
  have hb := hE.own.1.1.all z hzT
  refine nm ?_
  dsimp only
  refine ⟨_, rfl, _, rfl, iA, _, rfl, .inr hiA, rfl, flat_ints _, _, rfl, ?_⟩
  rw [inV_ints]
  refine itn2 (fun hc => ?_) (fun hc => ?_)
  ·have hzI : z ∈ E.I := (insd_mem.mp hc).resolve_right hzl
   show (_ : Prop)
   refine ⟨iA, _, ys, Es, rfl, hj', s2, ?_, hr2, hB, ?_, by omega⟩
   ·have ei : insd E (E.T.take (j + 1)) = insd E (E.T.take j) := by
     unfold insd
     rw [et, List.filter_append, List.filter_cons_of_neg (by simp [hzI]), List.filter_nil, List.append_nil]
    rw [ei]
    exact hiA
   ·rw [et]
    exact hF.skip hzI
  ·have hzI : z ∉ E.I := fun h => hc (insd_mem.mpr (.inl h))
   have ei : insd E (E.T.take (j + 1)) = insd E (E.T.take j) ++ [z] := by
    unfold insd
    rw [et, List.filter_append, List.filter_cons_of_pos (by simp [hzI]), List.filter_nil, List.append_assoc]
   have hIr : ∀ y ∈ insd E (E.T.take j), 0 <= y /\ y < (ps.length : Int) := fun y hy => hE.own.1.1.all y ((insd_mem.mp hy).elim (hE.own.2.1 y) fun h => List.mem_of_mem_take h)
   have hIl : (insd E (E.T.take j)).length <= 100 := by
    have := hE.iL
    unfold insd
    rw [List.length_append]
    have := List.length_filter_le (fun z => decide (z ∉ E.I)) (E.T.take j)
    rw [List.length_take] at this
    omega
   have hOl := hE.oL
   have fin : ∀ (zs : List V) (Fs : List Ent) (H4 : Hp) (r3 : Addr), Same H2 H4 -> H4 r3 = some (.lst zs) -> zs.length <= 1 -> Bears (EV K H4 ls) zs Fs -> FB n ps ls E (E.T.take j ++ [z]) (Es ++ Fs) -> Fs.length <= 1 ->
     rExtend (.ref r) [.ref r3] H4 fun _ H5 => tAsg (tOp (rCatU K) (tVar 4) (tTup (tCons (tVar 7) tNil))) (gName 4) { nx := fun σ H' => ∃ (iA : Addr) (v7 : Option V) (ys : List V) (Es : List Ent), σ = [some (.ref w), some (.ref a), some (.ref o), some (.ref tk), some (.ref iA), some (.ref to), some (.ref r), v7] /\ j + 1 <= E.T.length /\ Same H H' /\ SqT K H' iA (IL (insd E (E.T.take (j + 1)))) /\ H' r = some (.lst ys) /\ Bears (EV K H' ls) ys Es /\ FB n ps ls E (E.T.take (j + 1)) Es /\ Es.length <= j + 1, rt := Q } [some (.ref w), some (.ref a), some (.ref o), some (.ref tk), some (.ref iA), some (.ref to), some (.ref r), some (.int z)] H5 := by
    intro zs Fs H4 r3 s4 hr3 hz1 hBz hF2 hFl
    have hyl : ys.length = Es.length := hB.1
    refine ⟨r, r3, ys, zs, rfl, rfl, s4 _ _ hr2, hr3, by omega, ?_⟩
    refine ⟨_, rfl, _, rfl, one, fun t2 ht2 => ?_⟩
    have hiA4 : SqT K (upd H4 r (.lst (ys ++ zs))) iA (IL (insd E (E.T.take j))) := sqT_put (s4 _ _ hr2) (SqK.same (k := true) s4 hiA)
    have u2 := same_at (o := .tup (IL [z])) ht2
    refine cat_any (SqK.same (k := true) u2 hiA4) (SqT.of upd_same) (by simp) (by rw [il_length]; show _ + 1 <= _; omega) fun p2 H6 s6 hp2 => ?_
    refine nm ?_
    have s5 : Same H (upd H4 r (.lst (ys ++ zs))) := same_upd hr (s2.trans s4)
    have s56 := u2.trans s6
    refine ⟨p2, _, ys ++ zs, Es ++ Fs, rfl, hj', s5.trans s56, ?_, s56 _ _ upd_same, ?_, by rw [et]; exact hF2, by rw [List.length_append]; omega⟩
    ·rw [ei, il_snoc]
     exact hp2
    ·exact ((hB.imp fun _ _ h => h.same s4).app hBz).imp fun _ _ h => (EV.put (s4 _ _ hr2) h).same s56
   refine ⟨_, rfl, .inl ⟨rfl, _, SqL.of hr2⟩, _, rfl, _, rfl, _, rfl, _, rfl, _, rfl, _, rfl, one, fun t1 ht1 => ?_⟩
   have u1 := same_at (o := .tup (IL [z])) ht1
   refine cat_any (SqK.same (k := true) (s2.trans u1) h4) (SqT.of upd_same) (by simp) (by rw [il_length]; show _ + 1 <= _; omega) fun p1 H3 s3 hp1 => ?_
   have s13 := u1.trans s3
   have s23 := s2.trans s13
   have hp1 : SqT K H3 p1 (IL (E.O ++ [z])) := by rw [il_snoc]; exact hp1
   refine ⟨w, a, o, iA, p1, n, ps, kd, ls, os, insd E (E.T.take j), E.O ++ [z], rfl, hW.same s23, hG, hA.same s23, hll, SqK.same (k := false) s23 hO, by omega, hon, fun y hy => (ord_all hG ho).mp hy, SqK.same (k := true) s13 hiA, hp1, hIl, by rw [List.length_append]; show _ + 1 <= _; omega, hIr, grw_nodup hG _ (gr_all hG ho hIr), fun hno r3 H4 s4 hr30 hr3 => ?_, fun g1 g2 ms r3 tp2 tr2 H4 hp hs s4 hr30 htp0 hr3 htp htr => ?_⟩
   ·have hd : insd E (E.T.take j) = _ := rfl
    refine fin [] [] H4 r3 (s13.trans s4) hr3 (Nat.zero_le _) ⟨rfl, fun i a h => by cases h⟩ ?_ (Nat.zero_le _)
    rw [List.append_nil]
    refine hF.none (gr_none hG ho hIr ?_ hno)
    exact List.nodup_append.mpr ⟨hE.iN, (hnd.sublist (List.take_sublist _ _)).filter _, fun a ha b hb e => of_decide_eq_true (List.mem_filter.mp hb).2 (e ▸ ha)⟩
   ·refine fin [.ref tp2] [⟨ms, insd E (E.T.take j), E.O ++ [z]⟩] H4 r3 (s13.trans s4) hr3 (Nat.le_refl _) ⟨rfl, fun i a h => ?_⟩ (hF.more (part_ok hG ho hE (hnd.sublist (List.take_sublist _ _)) (fun y hy => List.mem_of_mem_take hy) hzT hc g1 g2 hp hs)) (Nat.le_refl _)
    match i, h with
    | 0, h =>
     obtain rfl := Option.some.inj h
     exact ⟨_, rfl, tp2, tr2, iA, p1, rfl, htp, htr, SqK.same (k := true) (s13.trans s4) hiA, SqK.same (k := true) s4 hp1⟩
    | i + 1, h => cases h
end
set_option maxHeartbeats 4000000
def lamPos (st : Stmt) : Pos := match (defBody st).getD 1 (.Pass ⟨0, 0, 0, 0⟩) with
 | .Assign _ (.Call _ _ [k] _) _ => (match k.value with
  | .Lambda _ _ _ p => p
  | _ => ⟨0, 0, 0, 0⟩)
 | _ => ⟨0, 0, 0, 0⟩
def qualR : Str := Str.ofString "ranked" ++ Str.ofString ".<locals>." ++ Str.ofString "<lambda>"
abbrev TabR (H : Hp) (Pt : Addr) : Prop := TabH H Pt (lamPos s_ranked) qualR
def PV (H : Hp) (ls : List Int) (v : V) (T : List Int) : Prop := ∃ tp tr : Addr, v = .ref tp /\ H tp = some (.tup [.int (sumL ls T), .ref tr]) /\ H tr = some (.tup (IL T))
theorem PV.same {H H' : Hp} {ls : List Int} {v : V} {T : List Int} (s : Same H H') (h : PV H ls v T) : PV H' ls v T := by
 obtain ⟨tp, tr, e, h1, h2⟩ := h
 exact ⟨tp, tr, e, s _ _ h1, s _ _ h2⟩
theorem PV.put {H : Hp} {ls : List Int} {v : V} {T : List Int} {r : Addr} {zs : List V} {o : HO} (hr : H r = some (.lst zs)) (h : PV H ls v T) : PV (upd H r o) ls v T := by
 obtain ⟨tp, tr, e, h1, h2⟩ := h
 exact ⟨tp, tr, e, by rw [upd_ne (ne_of h1 hr (by simp))]; exact h1, by rw [upd_ne (ne_of h2 hr (by simp))]; exact h2⟩
theorem eqd_ent {K : PySem.W.Frag} {H : Hp} {ls : List Int} {v u : V} {E F : Ent} (h1 : EV K H ls v E) (h2 : EV K H ls u F) : EqD K H 2 v u (decide (E = F)) := by
 obtain ⟨tp, tr, ti, to, rfl, a1, a2, a3, a4⟩ := h1
 obtain ⟨tp', tr', ti', to', rfl, b1, b2, b3, b4⟩ := h2
 have e : ((List.range (min [V.int (sumL ls E.T), .ref tr, .ref ti, .ref to].length [V.int (sumL ls F.T), .ref tr', .ref ti', .ref to'].length)).all (fun i => match i with
   | 0 => decide (sumL ls E.T = sumL ls F.T)
   | 1 => decide (E.T = F.T)
   | 2 => decide (E.I = F.I)
   | _ => decide (E.O = F.O)) && [V.int (sumL ls E.T), .ref tr, .ref ti, .ref to].length == [V.int (sumL ls F.T), .ref tr', .ref ti', .ref to'].length) = decide (E = F) := by
  show (decide (sumL ls E.T = sumL ls F.T) && (decide (E.T = F.T) && (decide (E.I = F.I) && (decide (E.O = F.O) && true))) && true) = decide (E = F)
  obtain ⟨T1, I1, O1⟩ := E
  obtain ⟨T2, I2, O2⟩ := F
  rw [Bool.eq_iff_iff]
  simp only [Bool.and_true, Bool.and_eq_true, decide_eq_true_eq, Ent.mk.injEq]
  constructor
  ·rintro ⟨_, h1, h2, h3⟩
   exact ⟨h1, h2, h3⟩
  ·rintro ⟨h1, h2, h3⟩
   exact ⟨by rw [h1], h1, h2, h3⟩
 rw [<- e]
 refine EqD.tups (SqT.of a1) (SqT.of b1) fun i x y hx hy => ?_
 match i, hx, hy with
 | 0, hx, hy =>
  obtain rfl := Option.some.inj hx
  obtain rfl := Option.some.inj hy
  exact eqd_int rfl rfl
 | 1, hx, hy =>
  obtain rfl := Option.some.inj hx
  obtain rfl := Option.some.inj hy
  exact eqd_tints (SqT.of a2) (SqT.of b2)
 | 2, hx, hy =>
  obtain rfl := Option.some.inj hx
  obtain rfl := Option.some.inj hy
  exact eqd_tints a3 b3
 | 3, hx, hy =>
  obtain rfl := Option.some.inj hx
  obtain rfl := Option.some.inj hy
  exact eqd_tints a4 b4
 | i + 4, hx, _ => cases hx
def sp_ranked (K : PySem.W.Frag) (C Pt : Addr) : Sp := fun vs H Q _ => ∃ (w a : Addr) (n most : Int) (ps : List (Int × Int)) (kd : Bool) (ls : List Int), vs = [.ref w, .ref a, .int most] /\ WebAt C H w n ps /\ GoodW n ps /\ SqK kd K H a (IL ls) /\ ls.length = ps.length /\ 0 <= most /\ most <= 1000 /\ TabR H Pt /\
 ∀ (ys : List V) (L : List (List Int)) (r : Addr) (H' : Hp), Rkd n ps ls most.toNat L -> Bears (PV H' ls) ys L -> SameX Pt H H' -> TabR H' Pt -> H r = none -> H' r = some (.lst ys) -> Q (.ref r) H'
section
variable {P : Program} {w : World} {K : PySem.W.Frag} {mg : Str -> Option Value} {base : Heap} {t : Adr}
theorem sc_ranked : FnScope ["web", "lengths", "most", "order", "waiting", "told", "taken"] ["web", "lengths", "most"] (defScope s_ranked) := ⟨rfl, rfl, rfl, by decide +kernel, rfl, by decide +kernel, by decide +kernel⟩
theorem ok_ranked {Pt : Addr} (T : Txt K mg t) (hB : LamAt K mg base t.d_ranked Pt) : FnOk P w K mg base CX0 8 t.a_ranked t.d_ranked ["web", "lengths", "most"] (sp_ranked K t.A_Web Pt) := by
 obtain ⟨cA, hcode, hC, hBa, hPg⟩ := hB
 refine T.f_ranked.okL hcode sc_ranked (fun vs H Q E h => ?_) (fun A outer s H vs Q E hr h => ?_)
 ·obtain ⟨w, a, n, most, ps, kd, ls, rfl, _⟩ := h
  rfl
 ·obtain ⟨w, a, n, most, ps, kd, ls, rfl, hW, hG, hA, hll, hm0, hm1, hT, q⟩ := h
  refine ⟨_, (pss_cons (ps_expr (pe_call (ok_refuse_bad_row T) (hr.mono (by decide)) rfl T.m_refuse_bad_row T.f_refuse_bad_row.kp T.b_refuse_bad_row .nil pass0 (pa_cons (pv 0) (pa_cons (pv 1) pa_nil))))
   (pss_cons (ps_set (i := 3) sc_ranked.nd rfl (Or.inl rfl) (pe_sortedK (k := 0) (i := 1) (v := "tie") (x := "lengths") (pe_call (ok_all_ties T) (hr.mono (by decide)) rfl T.m_all_ties T.f_all_ties.kp T.b_all_ties .nil pass0 (pa_cons (pv 0) pa_nil)) (by rfl) T.n_sorted (hr.mono (by decide)) rfl rfl hC hBa hPg (LamScope.of rfl rfl rfl (by first | exact .inl rfl | exact .inr rfl) (by decide)) rfl rfl (fun _ _ _ _ => rfl) rfl rfl rfl (fun _ _ _ _ _ _ hr => (pe_ix (ix_seqK K) (pv 1) (pv 0) (fun _ _ => rfl)))))
   (pss_cons (ps_set (i := 4) sc_ranked.nd rfl (Or.inl rfl) (pe_call (ok_first_of T) (hr.mono (by decide)) rfl T.m_first_of T.f_first_of.kp T.b_first_of .nil pass0 (pa_cons (pv 0) (pa_cons (pv 1) (pa_cons (pv 3) (pa_cons (pe_tup pa_nil) (pa_cons (pe_tup pa_nil) pa_nil)))))))
   (pss_cons (ps_set (i := 5) sc_ranked.nd rfl (Or.inl rfl) (pe_lst pa_nil))
   (pss_cons (ps_while PassesOwn.never (PW.pt (pw_and (pt_cmpR op_gt (pe_callB (call_lenK K) (by rfl) T.n_len Boot.«len» (pa_cons (pv 4) pa_nil)) pe_int (nomark _)) (pw_and1 (pt_cmpR op_lt (pe_callB (call_lenK K) (by rfl) T.n_len Boot.«len» (pa_cons (pv 5) pa_nil)) (pv 2) (nomark _)))))
   (pss_cons (ps_set (i := 6) sc_ranked.nd rfl (Or.inl rfl) (pe_callB (call_minPT K rfl (hu8 hr)) (by rfl) T.n_min Boot.«min» (pa_cons (pv 4) pa_nil)))
   (pss_cons (ps_expr (pe_bmK K PySem.F.plainAttrs_list PySem.F.slot_list_remove PySem.F.type_list_remove (mt_removeR K (hu8 hr)) (pv 4) (pa_cons (pv 6) pa_nil)))
   (pss_cons (ps_expr (pe_bmK K PySem.F.plainAttrs_list PySem.F.slot_list_append PySem.F.type_list_append mt_append (pv 5) (pa_cons (pe_tup (pa_cons (pe_ix (ix_tupK K) (pv 6) pe_int (fun _ _ => rfl)) (pa_cons (pe_ix (ix_tupK K) (pv 6) pe_int (fun _ _ => rfl)) pa_nil))) pa_nil)))
   (pss_one (ps_expr (pe_bmK K PySem.F.plainAttrs_list PySem.F.slot_list_extend PySem.F.type_list_extend mt_extend (pv 4) (pa_cons (pe_call (ok_firsts_behind T) (hr.mono (by decide)) rfl T.m_firsts_behind T.f_firsts_behind.kp T.b_firsts_behind .nil pass0 (pa_cons (pv 0) (pa_cons (pv 1) (pa_cons (pv 3) (pa_cons (pv 6) pa_nil))))) pa_nil))))))))
   (pss_one (ps_ret (pv 5)))))))), ?_⟩
  have hps := hG.2.2.1
  have hG2 := hG.2.1
  refine ⟨_, rfl, _, rfl, w, a, n, ps, kd, ls, rfl, hW, hA, fun _ => ?_, fun h => absurd hll h⟩
  refine ⟨_, rfl, w, n, ps, rfl, hW, by omega, fun p1 H1 s1 hp10 hp1 => ?_⟩
  have hT1 : TabR H1 Pt := hT.same s1
  refine ⟨p1, rgL ps.length, .ref a, fun z => lnz ls z, rfl, SqT.of hp1, by rw [rgL_length]; omega, hT1, rfl, fun H2 sx z hz => ?_, fun os l H2 hst sx tab hl2 => ?_⟩
  ·have hb := rgL_mem.mp hz
   obtain ⟨y, hy⟩ : ∃ y, ls[z.toNat]? = some y := ⟨_, List.getElem?_eq_getElem (by omega)⟩
   have e : lnz ls z = y := getD_of hy
   refine ⟨_, rfl, _, rfl, kd, a, _, _, .int y, rfl, rfl, (hA.same s1).samex hT1 sx, atI_of (n := z.toNat) (by omega) (il_at hy), ?_, rfl⟩
   show V.int y = V.int (lnz ls z)
   rw [e]
  have hO2 : OrdL ls ps.length os := stab_ord hst
  have s3 := same_at (o := .lst (IL os)) hl2
  have h3l : (upd H2 l (.lst (IL os))) l = some (.lst (IL os)) := upd_same
  have sx3 : SameX Pt H (upd H2 l (.lst (IL os))) := (SameX.same s1).trans (sx.trans (SameX.same s3))
  have tab3 : TabR (upd H2 l (.lst (IL os))) Pt := tab.same s3
  refine nm ?_
  dsimp only
  change tSeq _ _ _ _ (upd H2 l (.lst (IL os)))
  generalize upd H2 l (.lst (IL os)) = H3 at *
  have hW3 := hW.samex hT sx3
  have hA3 := hA.samex hT sx3
  have hol : os.length = ps.length := by rw [hO2.1.length_eq, rgL_length]
  have hon : os.Nodup := hO2.2.imp fun h e => by rw [e] at h; omega
  refine contS (fun σ H4 => ∃ (wt : Addr) (ys : List V) (Es : List Ent), σ = [some (.ref w), some (.ref a), some (.int most), some (.ref l), some (.ref wt), none, none] /\ Same H3 H4 /\ H3 wt = none /\ H4 wt = some (.lst ys) /\ Bears (EV K H4 ls) ys Es /\ RI n ps ls [] Es /\ Es.length <= 1) ?_ ?_
  rotate_left
  ·intro K' hK'
   refine ⟨_, rfl, _, rfl, _, rfl, Nat.zero_le _, fun i0 hi0 => ⟨Nat.zero_le _, fun u0 hu0 => ?_⟩⟩
   have v1 := same_at (o := .tup (IL [])) hi0
   have v2 := same_at (o := .tup (IL [])) hu0
   have v12 := v1.trans v2
   refine ⟨w, a, l, i0, u0, n, ps, kd, ls, os, [], [], rfl, hW3.same v12, hG, hA3.same v12, hll, SqL.of (v12 _ _ h3l), by omega, hon, fun y hy => (ord_all hG hO2).mp hy, SqT.of (v2 _ _ upd_same), SqT.of upd_same, Nat.zero_le _, Nat.zero_le _, fun y hy => (by cases hy), grw_nodup hG _ (gr_all hG hO2 fun y hy => by cases hy), fun hno r H' s' hr0 hr' => ?_, fun g1 g2 ms r tp tr H' hp hs s' hr0 htp0 hr' htp htr => ?_⟩
   ·refine nm ?_
    refine hK' _ _ ⟨r, [], [], rfl, v12.trans s', v12.free hr0, hr', ⟨rfl, fun i a h => by cases h⟩, ⟨fun _ h => (by cases h), .nil, fun _ h => (by cases h), fun W hW => ?_, fun _ h => (by cases h), .nil⟩, Nat.zero_le _⟩
    exact absurd ⟨hW, fun z hz => (by cases hz), fun z hz => (by cases hz)⟩ (gr_none hG hO2 (I := []) (O := []) (fun y hy => by cases hy) .nil hno W)
   ·refine nm ?_
    obtain ⟨b1, b2⟩ := gr_best hG hO2 (I := []) (O := []) (fun y hy => by cases hy) (fun y hy => by cases hy) g1 g2 hp hs
    have eok : EOk n ps ls ⟨ms, [], []⟩ := ⟨b1, b2, .nil, .nil, fun z hz => by cases hz⟩
    refine hK' _ _ ⟨r, [.ref tp], [⟨ms, [], []⟩], rfl, v12.trans s', v12.free hr0, hr', ⟨rfl, fun i b h => ?_⟩, ⟨fun _ h => (by cases h), .nil, fun F hF => (by rw [List.mem_singleton.mp hF]; exact eok), fun W hW => .inr ⟨_, List.mem_singleton.mpr rfl, hW, fun z hz => (by cases hz), fun z hz => (by cases hz)⟩, fun _ _ _ _ _ h => (by cases h), List.pairwise_singleton _ _⟩, Nat.le_refl _⟩
    match i, h with
    | 0, h =>
     obtain rfl := Option.some.inj h
     exact ⟨_, rfl, tp, tr, i0, u0, rfl, htp, htr, SqT.of (s' _ _ (v2 _ _ upd_same)), SqT.of (s' _ _ upd_same)⟩
    | i + 1, h => cases h
  rintro σ H4 ⟨wt, ys, Es, rfl, s4, hwt3, hwt4, hB, hR, hEl⟩
  refine ⟨Nat.zero_le _, fun td htd => ?_⟩
  refine nm ?_
  dsimp only
  have htd3 : H3 td = none := s4.free htd
  have u5 := same_at (o := .lst []) htd
  have nwt : wt ≠ td := ne_of_none hwt4 htd
  have h5w : (upd H4 td (.lst [])) wt = some (.lst ys) := u5 _ _ hwt4
  refine ⟨fun m σ H6 => ∃ (v6 : Option V) (ys zs : List V) (Es : List Ent) (L : List (List Int)), σ = [some (.ref w), some (.ref a), some (.int most), some (.ref l), some (.ref wt), some (.ref td), v6] /\ Same H3 H6 /\ H6 wt = some (.lst ys) /\ H6 td = some (.lst zs) /\ Bears (EV K H6 ls) ys Es /\ Bears (PV H6 ls) zs L /\ RI n ps ls L Es /\ L.length + m = most.toNat /\ Es.length <= 1 + 14 * L.length, ⟨most.toNat, none, ys, [], Es, [], rfl, s4.trans u5, h5w, upd_same, hB.imp fun _ _ h => h.same u5, ⟨rfl, fun i a h => by cases h⟩, hR, by simp, by simpa using hEl⟩, ?_⟩
  rintro m σ H6 ⟨v6, ys, zs, Es, L, rfl, s6, hw6, ht6, hBy, hBz, hRI, hm, hEs⟩
  have hyl : ys.length = Es.length := hBy.1
  have hzl : zs.length = L.length := hBz.1
  have done : (Es = [] \/ L.length = most.toNat) -> Q (.ref td) H6 := fun hd => by
   refine q zs L td H6 ⟨hRI.tr, hRI.asc, by omega, fun W hW => ?_⟩ hBz (sx3.trans (SameX.same s6)) (tab3.same s6) ?_ ht6
   ·rcases hRI.cov W hW with c | ⟨F, c1, c2⟩
    ·exact .inl c
    ·rcases hd with d | d
     ·rw [d] at c1; cases c1
     ·exact .inr ⟨d, hRI.beh F c1 W c2⟩
   ·cases hq : H td with
    | none => rfl
    | some u =>
     by_cases c : td = Pt
     ·obtain ⟨pt, e, _⟩ := tab3
      rw [c, e] at htd3
      cases htd3
     ·have := sx3 td u c hq
      rw [htd3] at this
      cases this
  refine ⟨_, rfl, wt, ys, rfl, .inl (SqL.of hw6), _, _, rfl, rfl, _, rfl, ?_⟩
  refine itd2 (fun hc => ?_) (fun hc => ?_)
  rotate_left
  ·refine iteF ?_
   refine ⟨_, rfl, done (.inl ?_)⟩
   exact List.length_eq_zero_iff.mp (by omega)
  refine ⟨_, rfl, td, zs, rfl, .inl (SqL.of ht6), _, rfl, _, _, rfl, rfl, _, rfl, ?_⟩
  refine itd2 (fun hc2 => ?_) (fun hc2 => ?_)
  rotate_left
  ·exact ⟨_, rfl, done (.inr (by omega))⟩
  refine ⟨_, fun σ' H' h => h, ?_⟩
  have nd : (Es.map fun E => (sumL ls E.T, E.T)).Nodup := by
   refine List.pairwise_iff_getElem.mpr fun i j hi hj hij e => ?_
   rw [List.getElem_map, List.getElem_map] at e
   rw [List.length_map] at hi hj
   exact hRI.unlike (List.getElem?_eq_getElem hi) (List.getElem?_eq_getElem hj) (Nat.ne_of_lt hij) (Prod.mk.inj e).2
  refine ⟨_, rfl, wt, ys, Es.map fun E => (sumL ls E.T, E.T), false, rfl, SqL.of hw6, by omega, by rw [List.length_map]; exact hyl, fun i x hx => ?_, fun _ => nd, fun i tp x hx hy hmin => ?_⟩
  ·rw [List.getElem?_map] at hx
   obtain ⟨E, hE, rfl⟩ := Option.map_eq_some_iff.mp hx
   obtain ⟨v, hv, tp, tr, ti, to, rfl, h1, h2, _⟩ := hBy.2 i E hE
   exact ⟨tp, tr, [.ref ti, .ref to], hv, SqT.of h1, SqT.of h2, fun z => by cases z⟩
  rw [List.getElem?_map] at hx
  obtain ⟨E, hE, rfl⟩ := Option.map_eq_some_iff.mp hx
  obtain ⟨v, hv, hEV⟩ := hBy.2 i E hE
  obtain rfl : v = .ref tp := Option.some.inj (hv.symm.trans hy)
  have hmn : ∀ F ∈ Es, ¬ pl ls F.T E.T := fun F hF h => by
   have := hmin _ (List.mem_map.mpr ⟨F, hF, rfl⟩)
   unfold pl at h
   rw [this] at h
   cases h
  have okE := hRI.ok E (List.mem_of_getElem? hE)
  have il : i < ys.length := (List.getElem?_eq_some_iff.mp hy).1
  have uniq : ∀ (k : Nat) (b : Addr) (F : Ent), ys[k]? = some (.ref b) -> Es[k]? = some F -> b = tp -> k = i := fun k b F hb hF e => Classical.byContradiction fun hn => by
   obtain ⟨v', hv', hF'⟩ := hBy.2 k F hF
   obtain rfl : v' = .ref b := Option.some.inj (hv'.symm.trans hb)
   subst e
   obtain ⟨_, r1, _, _, e1, a1, a2, _⟩ := hF'
   obtain ⟨_, r2, _, _, e2, b1, b2, _⟩ := hEV
   cases e1
   cases e2
   rw [a1] at b1
   have e3 := Option.some.inj b1
   injection e3 with e3
   injection e3 with _ e3
   injection e3 with e3 _
   injection e3 with e3
   subst e3
   rw [a2] at b2
   have e4 := Option.some.inj b2
   injection e4 with e4
   exact hRI.unlike hF hE hn ((List.map_inj_right (f := V.int) (fun x y h => by injection h)).mp e4)
  refine nm ?_
  dsimp only
  refine ⟨_, rfl, .inl ⟨rfl, _, SqL.of hw6⟩, _, rfl, 2, wt, ys, .ref tp, fun b => decide (b = tp), i, tp, rfl, rfl, hw6, by decide, fun v hv' => ?_, hy, decide_eq_true rfl, fun k b hk hb => ?_, ?_⟩
  ·obtain ⟨k, hk⟩ := List.getElem?_of_mem hv'
   obtain ⟨F, hF, hFV⟩ := hBy.at hk
   obtain ⟨b, rfl⟩ : ∃ b, v = .ref b := let ⟨b, _, _, _, e, _⟩ := hFV; ⟨b, e⟩
   refine ⟨b, rfl, ?_⟩
   have eb : decide (F = E) = decide (b = tp) := by
    rw [decide_eq_decide]
    constructor
    ·intro e
     have ki : k = i := Classical.byContradiction fun hn => hRI.unlike hF hE hn (by rw [e])
     subst ki
     rw [hy] at hk
     cases hk
     rfl
    ·intro e
     have ki := uniq k b F hk hF e
     subst ki
     rw [hF] at hE
     exact Option.some.inj hE
   show EqD K H6 2 (.ref b) (.ref tp) (decide (b = tp))
   rw [<- eb]
   exact eqd_ent hFV hEV
  ·obtain ⟨F, hF, _⟩ := hBy.at hb
   refine decide_eq_false fun e => ?_
   have := uniq k b F hb hF e
   omega
  have s7 : Same H3 (upd H6 wt (.lst (ys.eraseIdx i))) := same_upd hwt3 s6
  have hw7 : (upd H6 wt (.lst (ys.eraseIdx i))) wt = some (.lst (ys.eraseIdx i)) := upd_same
  have ht7 : (upd H6 wt (.lst (ys.eraseIdx i))) td = some (.lst zs) := by rw [upd_ne (Ne.symm nwt)]; exact ht6
  have hEV7 := EV.put (o := .lst (ys.eraseIdx i)) hw6 hEV
  have hBy7 : Bears (EV K (upd H6 wt (.lst (ys.eraseIdx i))) ls) (ys.eraseIdx i) (Es.eraseIdx i) := (hBy.erase i).imp fun _ _ h => EV.put hw6 h
  have hBz7 : Bears (PV (upd H6 wt (.lst (ys.eraseIdx i))) ls) zs L := hBz.imp fun _ _ h => PV.put hw6 h
  change tSeq _ _ _ _ (upd H6 wt (.lst (ys.eraseIdx i)))
  generalize upd H6 wt (.lst (ys.eraseIdx i)) = H7 at *
  obtain ⟨_, tr, ti, to, e0, c1, c2, c3, c4⟩ := id hEV7
  cases e0
  refine ⟨_, rfl, .inl ⟨rfl, _, SqL.of ht7⟩, _, rfl, tp, _, 0, .int (sumL ls E.T), rfl, rfl, SqT.of c1, rfl, _, rfl, tp, _, 1, .ref tr, rfl, rfl, SqT.of c1, rfl, (by decide : 2 <= sizeLine), fun t2 ht2 => ?_⟩
  have u8 := same_at (o := .tup [.int (sumL ls E.T), .ref tr]) ht2
  have ht8 := u8 _ _ ht7
  have z1 : 100000 <= sizeLine := by decide
  refine ⟨td, zs, .ref t2, rfl, rfl, ht8, by omega, ?_⟩
  have s9 : Same H3 (upd (upd H7 t2 (.tup [.int (sumL ls E.T), .ref tr])) td (.lst (zs ++ [.ref t2]))) := same_upd htd3 (s7.trans u8)
  have hw9 : (upd (upd H7 t2 (.tup [.int (sumL ls E.T), .ref tr])) td (.lst (zs ++ [.ref t2]))) wt = some (.lst (ys.eraseIdx i)) := by rw [upd_ne nwt]; exact u8 _ _ hw7
  have ht9 : (upd (upd H7 t2 (.tup [.int (sumL ls E.T), .ref tr])) td (.lst (zs ++ [.ref t2]))) td = some (.lst (zs ++ [.ref t2])) := upd_same
  have hEV9 := EV.put (o := .lst (zs ++ [.ref t2])) ht8 (hEV7.same u8)
  have hBy9 : Bears (EV K (upd (upd H7 t2 (.tup [.int (sumL ls E.T), .ref tr])) td (.lst (zs ++ [.ref t2]))) ls) (ys.eraseIdx i) (Es.eraseIdx i) := hBy7.imp fun _ _ h => EV.put ht8 (h.same u8)
  have hPV9 : PV (upd (upd H7 t2 (.tup [.int (sumL ls E.T), .ref tr])) td (.lst (zs ++ [.ref t2]))) ls (.ref t2) E.T := PV.put ht8 ⟨t2, tr, rfl, upd_same, u8 _ _ c2⟩
  have hBz9 : Bears (PV (upd (upd H7 t2 (.tup [.int (sumL ls E.T), .ref tr])) td (.lst (zs ++ [.ref t2]))) ls) (zs ++ [.ref t2]) (L ++ [E.T]) := (hBz7.imp fun _ _ h => PV.put ht8 (h.same u8)).snoc hPV9
  generalize upd (upd H7 t2 (.tup [.int (sumL ls E.T), .ref tr])) td (.lst (zs ++ [.ref t2])) = H9 at *
  refine ⟨_, rfl, .inl ⟨rfl, _, SqL.of hw9⟩, _, rfl, _, rfl, _, rfl, _, rfl, w, a, l, tp, n, ps, kd, ls, os, E, rfl, hW3.same s9, hG, hA3.same s9, hll, SqL.of (s9 _ _ h3l), hO2, hEV9, okE, fun ws Fs r H10 hFB hFl hBw s10 hr0 hr10 => ?_⟩
  have hwl : ws.length = Fs.length := hBw.1
  have hel : (ys.eraseIdx i).length = ys.length - 1 := by rw [List.length_eraseIdx, if_pos il]
  have hel2 : (Es.eraseIdx i).length = Es.length - 1 := by rw [List.length_eraseIdx, if_pos (by omega)]
  have hw10 := s10 _ _ hw9
  refine ⟨wt, r, _, ws, rfl, rfl, hw10, hr10, by omega, ?_⟩
  refine ⟨m - 1, by omega, _, ys.eraseIdx i ++ ws, zs ++ [.ref t2], Es.eraseIdx i ++ Fs, L ++ [E.T], rfl, same_upd hwt3 (s9.trans s10), upd_same, ?_, ?_, ?_, hRI.step hG hE hmn hFB, ?_, ?_⟩
  ·rw [upd_ne (Ne.symm nwt)]; exact s10 _ _ ht9
  ·exact ((hBy9.imp fun _ _ h => h.same s10).app hBw).imp fun _ _ h => EV.put hw10 h
  ·exact hBz9.imp fun _ _ h => PV.put hw10 (h.same s10)
  ·rw [List.length_append, List.length_singleton]; omega
  ·rw [List.length_append, List.length_append, List.length_singleton]; omega
end
set_option maxHeartbeats 4000000
def sp_law_at (K : PySem.W.Frag) : Sp := fun vs H Q _ => ∃ (a : Addr) (ns : List Int) (k : Int), vs = [.ref a, .int k] /\ SqL K H a (IL ns) /\ 0 <= k /\ ∀ r : Int, Q (.int r) H
section
variable {P : Program} {w : World} {K : PySem.W.Frag} {mg : Str -> Option Value} {base : Heap} {t : Adr}
theorem sc_law_at : FnScope ["script", "k"] ["script", "k"] (defScope s_law_at) := ⟨rfl, rfl, rfl, by decide +kernel, rfl, by decide +kernel, by decide +kernel⟩
theorem ok_law_at (T : Txt K mg t) : FnOk P w K mg base CX0 1 t.a_law_at t.d_law_at ["script", "k"] (sp_law_at K) := by
 refine T.f_law_at.ok sc_law_at (fun vs H Q E h => ?_) (fun cdv A outer s H vs Q E hr h => ?_)
 ·obtain ⟨a, ns, k, rfl, _⟩ := h
  rfl
 ·obtain ⟨a, ns, k, rfl, hS, hk, q⟩ := h
  refine ⟨_, (pss_cons (ps_if (pt_cmpR op_lt (pv 1) (pe_callB (call_lenK K) (by rfl) T.n_len Boot.«len» (pa_cons (pv 0) pa_nil)) (nomark _))
   (pss_one (ps_ret (pe_ix (ix_listK K) (pv 0) (pv 1) (fun _ _ => rfl))))
   pss_nil)
   (pss_one (ps_ret pe_int))), ?_⟩
  refine ⟨_, rfl, _, rfl, a, _, rfl, .inl hS, _, _, rfl, rfl, _, rfl, ?_⟩
  refine ite2 (fun hc => ?_) (fun _ => ?_)
  ·have hc := of_decide_eq_true hc
   rw [il_length] at hc
   obtain ⟨z, hz⟩ : ∃ z, ns[k.toNat]? = some z := ⟨_, List.getElem?_eq_getElem (by omega)⟩
   exact ⟨_, rfl, _, rfl, a, _, k, .int z, rfl, rfl, hS, atI_of (n := k.toNat) (by omega) (by rw [List.getElem?_map, hz]; rfl), q z⟩
  ·exact q 0
end
set_option maxHeartbeats 4000000
def sp_law_stir : Sp := fun vs H Q _ => ∃ (c k : Int), vs = [.int c, .int k] /\ ∀ r : Int, 0 <= r -> r < 2147483629 -> Q (.int r) H
section
variable {P : Program} {w : World} {K : PySem.W.Frag} {mg : Str -> Option Value} {base : Heap} {t : Adr}
theorem sc_law_stir : FnScope ["cell", "k", "m"] ["cell", "k"] (defScope s_law_stir) := ⟨rfl, rfl, rfl, by decide +kernel, rfl, by decide +kernel, by decide +kernel⟩
theorem ok_law_stir (T : Txt K mg t) : FnOk P w K mg base CX0 1 t.a_law_stir t.d_law_stir ["cell", "k"] sp_law_stir := by
 refine T.f_law_stir.ok sc_law_stir (fun vs H Q E h => ?_) (fun cdv A outer s H vs Q E hr h => ?_)
 ·obtain ⟨c, k, rfl, _⟩ := h
  rfl
 ·obtain ⟨c, k, rfl, q⟩ := h
  refine ⟨_, (pss_cons (ps_set (i := 2) sc_law_stir.nd rfl (Or.inl rfl) (pe_op op_mod (pe_op op_mul (pe_op op_add (pe_op op_add (pe_op op_mod (pv 0) (pe_op op_pow pe_int pe_int)) (pe_op op_mul pe_int (pv 1))) pe_int) pe_int) pe_int))
   (pss_cons (ps_set (i := 2) sc_law_stir.nd rfl (Or.inl rfl) (pe_op op_mod (pe_op op_mul (pv 2) (pv 2)) pe_int))
   (pss_one (ps_ret (pe_op op_fdiv (pe_op op_mod (pe_op op_mul (pe_op op_add (pv 2) (pe_op op_mul pe_int (pe_op op_add (pv 1) pe_int))) pe_int) pe_int) pe_int))))), ?_⟩
  have m0 : -(2 ^ 64) < (c % 10 ^ 60 + 977 * k + 1) * 48271 % 2147483647 := by omega
  have m1 : (c % 10 ^ 60 + 977 * k + 1) * 48271 % 2147483647 < 2 ^ 64 := by omega
  refine ⟨_, rfl, _, _, rfl, rfl, ⟨by decide, by decide, by decide⟩, _, _, rfl, rfl, (by show (0 : Int) < 10 ^ 60; decide), _, rfl, _, _, rfl, rfl, .inl ⟨by decide, by decide⟩, _, _, rfl, rfl, _, _, rfl, rfl, _, _, rfl, rfl, .inr ⟨by decide, by decide⟩, _, _, rfl, rfl, (by show (0 : Int) < 2147483647; decide), ?_⟩
  refine ⟨_, rfl, _, rfl, _, _, rfl, rfl, .inl ⟨m0, m1⟩, _, _, rfl, rfl, (by show (0 : Int) < 2147483629; decide), ?_⟩
  refine ⟨_, rfl, _, rfl, _, _, rfl, rfl, _, _, rfl, rfl, .inl ⟨by decide, by decide⟩, _, _, rfl, rfl, _, _, rfl, rfl, .inr ⟨by decide, by decide⟩, _, _, rfl, rfl, (by show (0 : Int) < 2147483629; decide), _, _, rfl, rfl, ⟨by decide, by decide⟩, ?_⟩
  refine q _ ?_ ?_
  ·refine Int.ediv_nonneg (Int.emod_nonneg _ (by decide)) (by decide)
  ·refine Int.lt_of_le_of_lt (Int.ediv_le_self _ (Int.emod_nonneg _ (by decide))) (Int.emod_lt_of_pos _ (by decide))
end
set_option maxHeartbeats 4000000
def sp_law_numbers (K : PySem.W.Frag) : Sp := fun vs H Q _ => ∃ (a : Addr) (ns : List Int) (st m : Nat), vs = [.ref a, .int st, .int m] /\ SqL K H a (IL ns) /\ ns.length <= 63 /\ st <= 63 /\ 1 <= m /\ m <= 30 /\ ∀ (r : Addr) (ms : List Int) (H' : Hp), Same H H' -> H r = none -> H' r = some (.lst (IL ms)) -> ms.length <= m -> Q (.ref r) H'
section
variable {P : Program} {w : World} {K : PySem.W.Frag} {mg : Str -> Option Value} {base : Heap} {t : Adr}
theorem sc_law_numbers : FnScope ["script", "start", "most", "told", "k", "cell"] ["script", "start", "most"] (defScope s_law_numbers) := ⟨rfl, rfl, rfl, by decide +kernel, rfl, by decide +kernel, by decide +kernel⟩
theorem ok_law_numbers (T : Txt K mg t) : FnOk P w K mg base CX0 1 t.a_law_numbers t.d_law_numbers ["script", "start", "most"] (sp_law_numbers K) := by
 refine T.f_law_numbers.ok sc_law_numbers (fun vs H Q E h => ?_) (fun cdv A outer s H vs Q E hr h => ?_)
 ·obtain ⟨a, ns, st, m, rfl, _⟩ := h
  rfl
 ·obtain ⟨a, ns, st, m, rfl, hS, hn, hst, m1, m30, q⟩ := h
  refine ⟨_, (pss_cons (ps_set (i := 3) sc_law_numbers.nd rfl (Or.inl rfl) (pe_lst pa_nil))
   (pss_cons (ps_for PassesOwn.never rfl (pi_range2 rfl T.n_range (pa_cons (pv 1) (pa_cons (pe_callB (call_lenK K) (by rfl) T.n_len Boot.«len» (pa_cons (pv 0) pa_nil)) pa_nil))) (pg_name (i := 4) sc_law_numbers.nd rfl (Or.inl rfl))
   (pss_cons (ps_set (i := 5) sc_law_numbers.nd rfl (Or.inl rfl) (pe_op op_mod (pe_ix (ix_listK K) (pv 0) (pv 4) (fun _ _ => rfl)) (pe_op op_pow pe_int pe_int)))
   (pss_one (ps_if (pt_cmpR op_lt (pe_callB (call_lenK K) (by rfl) T.n_len Boot.«len» (pa_cons (pv 3) pa_nil)) (pv 2) (nomark _))
   (pss_one (ps_expr (pe_bmK K PySem.F.plainAttrs_list PySem.F.slot_list_append PySem.F.type_list_append mt_append (pv 3) (pa_cons (pv 5) pa_nil))))
   (pss_one (ps_asg (pe_op op_mod (pe_op op_add (pe_op op_mul (pe_ix (ix_listK K) (pv 3) (pe_op op_mod (pv 4) (pv 2)) (fun _ _ => rfl)) pe_int) (pv 5)) (pe_op op_pow pe_int pe_int)) (pg_sub (pv 3) (pe_op op_mod (pv 4) (pv 2)) set_list)))))))
   (pss_one (ps_ret (pv 3))))), ?_⟩
  have P18 : (0 : Int) < 10 ^ (18 : Int).toNat := by decide
  have M0 : (0 : Int) < (m : Int) := by omega
  refine ⟨Nat.zero_le _, fun tA htA => ?_⟩
  have s0 := same_at (o := .lst []) htA
  refine ⟨_, rfl, _, rfl, a, _, rfl, .inl (s0.seq hS), (st : Int), ((IL ns).length : Int), rfl, ⟨by omega, by omega, by omega, by rw [il_length]; omega⟩, ?_⟩
  refine for_range (lo := (st : Int)) (n := (((IL ns).length : Int) - (st : Int)).toNat) (fun j σ H4 => ∃ (fs : List Int) (v4 v5 : Option V), σ = [some (.ref a), some (.int st), some (.int m), some (.ref tA), v4, v5] /\ Same H H4 /\ H4 tA = some (.lst (IL fs)) /\ fs.length <= m) ⟨[], none, none, rfl, s0, upd_same, Nat.zero_le _⟩ ?_ ?_
  ·rintro j σ H4 hj ⟨fs, v4, v5, rfl, s4, h4, eg⟩
   rw [il_length] at hj
   obtain ⟨z, hz⟩ : ∃ z, ns[st + j]? = some z := ⟨_, List.getElem?_eq_getElem (by omega)⟩
   refine ⟨_, rfl, _, rfl, a, _, _, _, rfl, rfl, s4.seq hS, atI_of (n := st + j) (by omega) (il_at hz), _, _, rfl, rfl, ⟨by decide, by decide, by decide⟩, _, _, rfl, rfl, P18, ?_⟩
   refine ⟨_, rfl, tA, _, rfl, .inl (SqL.of h4), _, rfl, _, _, rfl, rfl, _, rfl, ?_⟩
   rw [il_length]
   refine itd2 (fun hc => ?_) (fun hc => ?_)
   ·refine ⟨_, rfl, .inl ⟨rfl, _, SqL.of h4⟩, _, rfl, tA, _, _, rfl, rfl, h4, small60' (by rw [il_length]; omega), ?_⟩
    rw [<- il_snoc]
    exact ⟨fs ++ [_], _, _, rfl, same_upd htA s4, upd_same, by rw [List.length_append]; show fs.length + 1 <= m; omega⟩
   ·have x0 : 0 <= ((st : Int) + (j : Int)) % (m : Int) := Int.emod_nonneg _ (by omega)
    have x1 : ((st : Int) + (j : Int)) % (m : Int) < (m : Int) := Int.emod_lt_of_pos _ M0
    obtain ⟨f, hf⟩ : ∃ f, fs[(((st : Int) + (j : Int)) % (m : Int)).toNat]? = some f := ⟨_, List.getElem?_eq_getElem (by omega)⟩
    refine ⟨_, rfl, _, rfl, _, rfl, _, _, rfl, rfl, M0, tA, _, _, .int f, rfl, rfl, SqL.of h4, atI_of (n := (((st : Int) + (j : Int)) % (m : Int)).toNat) (by show _ = ((st : Int) + (j : Int)) % (m : Int); omega) (il_at hf), _, _, rfl, rfl, .inr ⟨by decide, by decide⟩, _, rfl, _, _, rfl, rfl, _, _, rfl, rfl, ⟨by decide, by decide, by decide⟩, _, _, rfl, rfl, P18, ?_⟩
    refine ⟨_, rfl, _, rfl, _, rfl, _, _, rfl, rfl, M0, tA, _, _, (((st : Int) + (j : Int)) % (m : Int)).toNat, rfl, rfl, h4, ?_, ?_⟩
    ·rw [il_length]
     unfold ixN
     rw [if_pos x0, if_pos (by omega)]
    ·refine ⟨fs.set (((st : Int) + (j : Int)) % (m : Int)).toNat ((f * 10007 + z % 10 ^ (18 : Int).toNat) % 10 ^ (18 : Int).toNat), _, _, rfl, same_upd htA s4, ?_, by rw [List.length_set]; exact eg⟩
     rw [upd_same]
     exact congrArg (fun l => some (HO.lst l)) (List.map_set ..).symm
  rintro σ H4 ⟨fs, v4, v5, rfl, s4, h4, eg⟩
  exact ⟨_, rfl, q tA fs H4 s4 htA h4 eg⟩
end
set_option maxHeartbeats 4000000
def sp_law_digits : Sp := fun vs H Q _ => ∃ (c mp mt : Int), vs = [.int c, .int mp, .int mt] /\ 1 <= mp /\ mp <= 14 /\ 0 <= mt /\ mt <= 30 /\
 ∀ (r l : Addr) (n : Int) (xs : List V) (ps : List (Int × Int)) (H' : Hp), Same H H' -> H' r = some (.tup [.int n, .ref l]) -> H l = none -> H' l = some (.lst xs) -> PairsV H' xs ps -> GoodW n ps -> n <= mp -> (ps.length : Int) <= mt -> Q (.ref r) H'
section
variable {P : Program} {w : World} {K : PySem.W.Frag} {mg : Str -> Option Value} {base : Heap} {t : Adr}
theorem sc_law_digits : FnScope ["cell", "most_places", "most_ties", "places", "whole", "ties", "rest", "k"] ["cell", "most_places", "most_ties"] (defScope s_law_digits) := ⟨rfl, rfl, rfl, by decide +kernel, rfl, by decide +kernel, by decide +kernel⟩
theorem ok_law_digits (T : Txt K mg t) : FnOk P w K mg base CX0 2 t.a_law_digits t.d_law_digits ["cell", "most_places", "most_ties"] sp_law_digits := by
 refine T.f_law_digits.ok sc_law_digits (fun vs H Q E h => ?_) (fun cdv A outer s H vs Q E hr h => ?_)
 ·obtain ⟨c, mp, mt, rfl, _⟩ := h
  rfl
 ·obtain ⟨c, mp, mt, rfl, p1, p14, t0, t30, q⟩ := h
  refine ⟨_, (pss_cons (ps_set (i := 3) sc_law_digits.nd rfl (Or.inl rfl) (pe_op op_add pe_int (pe_op op_mod (pv 0) (pv 1))))
   (pss_cons (ps_set (i := 4) sc_law_digits.nd rfl (Or.inl rfl) (pe_op op_fdiv (pv 0) (pv 1)))
   (pss_cons (ps_set (i := 5) sc_law_digits.nd rfl (Or.inl rfl) (pe_lst pa_nil))
   (pss_cons (ps_set (i := 6) sc_law_digits.nd rfl (Or.inl rfl) (pe_op op_fdiv (pv 4) (pe_op op_add (pv 2) pe_int)))
   (pss_cons (ps_for PassesOwn.never rfl (pi_range1 rfl T.n_range (pa_cons (pe_op op_mod (pv 4) (pe_op op_add (pv 2) pe_int)) pa_nil)) (pg_name (i := 7) sc_law_digits.nd rfl (Or.inl rfl))
   (pss_cons (ps_if (pt_cmpR (op_inK K) (pv 6) (pe_lst (pa_cons pe_int (pa_cons (pe_un un_neg pe_int) pa_nil))) rfl)
   (pss_one (ps_expr (pe_bmK K PySem.F.plainAttrs_list PySem.F.slot_list_append PySem.F.type_list_append mt_append (pv 5) (pa_cons (pe_tup (pa_cons (pe_op op_mod (pe_call (ok_law_stir T) (hr.mono (by decide)) rfl T.m_law_stir T.f_law_stir.kp T.b_law_stir .nil pass0 (pa_cons (pv 4) (pa_cons (pe_op op_mul pe_int (pv 7)) pa_nil))) (pv 3)) (pa_cons (pe_op op_mod (pe_call (ok_law_stir T) (hr.mono (by decide)) rfl T.m_law_stir T.f_law_stir.kp T.b_law_stir .nil pass0 (pa_cons (pv 4) (pa_cons (pe_op op_add (pe_op op_mul pe_int (pv 7)) pe_int) pa_nil))) (pv 3)) pa_nil))) pa_nil))))
   (pss_one (ps_expr (pe_bmK K PySem.F.plainAttrs_list PySem.F.slot_list_append PySem.F.type_list_append mt_append (pv 5) (pa_cons (pe_tup (pa_cons (pe_op op_mod (pv 6) (pv 3)) (pa_cons (pe_op op_mod (pe_op op_fdiv (pv 6) (pv 3)) (pv 3)) pa_nil))) pa_nil)))))
   (pss_one (ps_set (i := 6) sc_law_digits.nd rfl (Or.inl rfl) (pe_op op_fdiv (pv 6) (pe_op op_mul (pv 3) (pv 3)))))))
   (pss_one (ps_ret (pe_tup (pa_cons (pv 3) (pa_cons (pv 5) pa_nil)))))))))), ?_⟩
  have two : 2 <= sizeLine := by decide
  have c0 : 0 <= c % mp := Int.emod_nonneg _ (by omega)
  have c1 : c % mp < mp := Int.emod_lt_of_pos _ (by omega)
  refine ⟨_, rfl, _, rfl, _, _, rfl, rfl, (by show 0 < mp; omega), _, _, rfl, rfl, ?_⟩
  refine ⟨_, rfl, _, rfl, _, _, rfl, rfl, ⟨by show 0 < mp; omega, by show mp < 1073741824; omega⟩, ?_⟩
  refine ⟨Nat.zero_le _, fun l hl => ?_⟩
  refine ⟨_, rfl, _, rfl, _, _, rfl, rfl, _, _, rfl, rfl, ⟨by show 0 < mt + 1; omega, by show mt + 1 < 1073741824; omega⟩, ?_⟩
  have e0 : 0 <= c / mp % (mt + 1) := Int.emod_nonneg _ (by omega)
  have e1 : c / mp % (mt + 1) < mt + 1 := Int.emod_lt_of_pos _ (by omega)
  obtain ⟨n, hn⟩ : ∃ n, n = 1 + c % mp := ⟨_, rfl⟩
  have n1 : 1 <= n := by omega
  have n14 : n <= mp := by omega
  have nn1 : 0 < n * n := Int.mul_pos (by omega) (by omega)
  have nn2 : n * n <= 14 * 14 := Int.mul_le_mul (by omega) (by omega) (by omega) (by decide)
  refine ⟨_, rfl, _, rfl, _, _, rfl, rfl, _, _, rfl, rfl, (by show 0 < mt + 1; omega), c / mp % (mt + 1), rfl, by omega, by omega, for_range (lo := 0) (n := (c / mp % (mt + 1)).toNat) (fun i σ H2 => ∃ (z : Int) (xs : List V) (ps : List (Int × Int)) (v : Option V), σ = [some (.int c), some (.int mp), some (.int mt), some (.int n), some (.int (c / mp)), some (.ref l), some (.int z), v] /\ Same H H2 /\ H2 l = some (.lst xs) /\ PairsV H2 xs ps /\ ps.length = i /\ ∀ p ∈ ps, 0 <= p.1 /\ p.1 < n /\ 0 <= p.2 /\ p.2 < n)
   ⟨_, [], [], none, by rw [hn]; rfl, same_at hl, upd_same, PairsV.nil, rfl, fun _ h => (by cases h)⟩ ?_ ?_⟩
  ·rintro i σ H2 hi ⟨z, xs, ps, v, rfl, s2, h2, hP, hlp, hb⟩
   have xl : xs.length < sizeLine := small60' (by rw [hP.1]; omega)
   have put : ∀ (a b zz : Int) (H3 : Hp) (tp : Addr) (vv : Option V), Same H2 H3 -> H3 tp = none -> 0 <= a -> a < n -> 0 <= b -> b < n -> ∃ (z : Int) (xs2 : List V) (ps : List (Int × Int)) (v : Option V), [some (.int c), some (.int mp), some (.int mt), some (.int n), some (.int (c / mp)), some (.ref l), some (.int zz), vv] = [some (.int c), some (.int mp), some (.int mt), some (.int n), some (.int (c / mp)), some (.ref l), some (.int z), v] /\ Same H (upd (upd H3 tp (.tup [.int a, .int b])) l (.lst (xs ++ [.ref tp]))) /\ (upd (upd H3 tp (.tup [.int a, .int b])) l (.lst (xs ++ [.ref tp]))) l = some (.lst xs2) /\ PairsV (upd (upd H3 tp (.tup [.int a, .int b])) l (.lst (xs ++ [.ref tp]))) xs2 ps /\ ps.length = i + 1 /\ ∀ p ∈ ps, 0 <= p.1 /\ p.1 < n /\ 0 <= p.2 /\ p.2 < n := by
    intro a b zz H3 tp vv s3 htp a0 a1 b0 b1
    have s4 := same_at (o := .tup [.int a, .int b]) htp
    have hl4 := s4 _ _ (s3 _ _ h2)
    refine ⟨zz, xs ++ [.ref tp], ps ++ [(a, b)], vv, rfl, same_upd hl ((s2.trans s3).trans s4), upd_same, ?_, by rw [List.length_append, hlp]; rfl, fun p hp => ?_⟩
    ·exact (((hP.same s3).same s4).snoc ⟨tp, rfl, upd_same⟩).mut hl4
    ·rcases List.mem_append.mp hp with h | h
     ·exact hb p h
     ·rw [List.mem_singleton.mp h]; exact ⟨a0, a1, b0, b1⟩
   have md : ∀ z : Int, 0 <= z % n /\ z % n < n := fun z => ⟨Int.emod_nonneg _ (by omega), Int.emod_lt_of_pos _ (by omega)⟩
   have N0 : (0 : Int) < n := by omega
   have ND : (0 : Int) < n /\ n < 1073741824 := by omega
   have NN : (0 : Int) < n * n /\ n * n < 1073741824 := by omega
   have NM : -(2 ^ 64) < n /\ n < 2 ^ 64 := by omega
   refine ⟨_, rfl, _, rfl, two, fun lp hlp => ?_⟩
   have s3 := same_at (o := .lst [.int 0, .int (-1)]) hlp
   refine ⟨lp, _, rfl, .inl (SqL.of upd_same), rfl, rfl, _, rfl, ?_⟩
   have h3 := s3 _ _ h2
   refine itb (fun _ => ?_) (fun _ => ?_)
   ·refine ⟨_, rfl, .inl ⟨rfl, _, SqL.of h3⟩, ?_⟩
    refine ⟨_, rfl, _, rfl, _, _, rfl, rfl, .inl ⟨by decide, by decide⟩, _, _, rfl, fun r1 _ _ => ⟨_, rfl, _, _, rfl, rfl, N0, ?_⟩⟩
    refine ⟨_, rfl, _, rfl, _, _, rfl, rfl, .inl ⟨by decide, by decide⟩, _, _, rfl, rfl, _, _, rfl, fun r2 _ _ => ⟨_, rfl, _, _, rfl, rfl, N0, two, fun tp htp => ?_⟩⟩
    refine ⟨l, xs, _, rfl, rfl, (same_at htp) _ _ h3, xl, ?_⟩
    refine ⟨_, rfl, _, rfl, _, rfl, _, _, rfl, rfl, .inl NM, _, _, rfl, rfl, NN, ?_⟩
    exact put _ _ _ _ tp _ s3 htp (md _).1 (md _).2 (md _).1 (md _).2
   ·refine ⟨_, rfl, .inl ⟨rfl, _, SqL.of h3⟩, ?_⟩
    refine ⟨_, rfl, _, rfl, _, _, rfl, rfl, N0, _, rfl, _, rfl, _, _, rfl, rfl, ND, _, rfl, _, _, rfl, rfl, N0, two, fun tp htp => ?_⟩
    refine ⟨l, xs, _, rfl, rfl, (same_at htp) _ _ h3, xl, ?_⟩
    refine ⟨_, rfl, _, rfl, _, rfl, _, _, rfl, rfl, .inl NM, _, _, rfl, rfl, NN, ?_⟩
    exact put _ _ _ _ tp _ s3 htp (md _).1 (md _).2 (md _).1 (md _).2
  ·rintro σ H2 ⟨z, xs, ps, v, rfl, s2, h2, hP, hlp, hb⟩
   refine ⟨_, rfl, _, rfl, two, fun r hr => ?_⟩
   have s3 := same_at (o := .tup [.int n, .ref l]) hr
   exact q r l n xs ps _ (s2.trans s3) upd_same hl (s3 _ _ h2) (hP.same s3) ⟨by omega, by omega, by omega, hb⟩ (by omega) (by omega)
end
set_option maxHeartbeats 4000000
def sp_law_web (K : PySem.W.Frag) : Sp := fun vs H Q _ => ∃ (a : Addr) (ns : List Int) (mp : Int) (mt : Nat), vs = [.ref a, .int mp, .int mt] /\ SqL K H a (IL ns) /\ ns.length <= 63 /\ 1 <= mp /\ mp <= 14 /\ 1 <= mt /\ mt <= 30 /\
 ∀ (r l : Addr) (n : Int) (xs : List V) (ps : List (Int × Int)) (H' : Hp), Same H H' -> H' r = some (.tup [.int n, .ref l]) -> H l = none -> H' l = some (.lst xs) -> PairsV H' xs ps -> GoodW n ps -> n <= mp -> (ps.length : Int) <= mt -> Q (.ref r) H'
section
variable {P : Program} {w : World} {K : PySem.W.Frag} {mg : Str -> Option Value} {base : Heap} {t : Adr}
theorem sc_law_web : FnScope ["script", "most_places", "most_ties", "head", "places", "ties", "k", "number", "one", "other"] ["script", "most_places", "most_ties"] (defScope s_law_web) := ⟨rfl, rfl, rfl, by decide +kernel, rfl, by decide +kernel, by decide +kernel⟩
theorem ok_law_web (T : Txt K mg t) : FnOk P w K mg base CX0 3 t.a_law_web t.d_law_web ["script", "most_places", "most_ties"] (sp_law_web K) := by
 refine T.f_law_web.ok sc_law_web (fun vs H Q E h => ?_) (fun cdv A outer s H vs Q E hr h => ?_)
 ·obtain ⟨a, ns, mp, mt, rfl, _⟩ := h
  rfl
 ·obtain ⟨a, ns, mp, mt, rfl, hS, hn63, p1, p14, t1, t30, q⟩ := h
  refine ⟨_, (pss_cons (ps_set (i := 3) sc_law_web.nd rfl (Or.inl rfl) (pe_call (ok_law_at T) (hr.mono (by decide)) rfl T.m_law_at T.f_law_at.kp T.b_law_at .nil pass0 (pa_cons (pv 0) (pa_cons pe_int pa_nil))))
   (pss_cons (ps_if (pt_cmpR op_eq (pe_op op_mod (pv 3) pe_int) pe_int (nomark _))
   (pss_one (ps_ret (pe_call (ok_law_digits T) (hr.mono (by decide)) rfl T.m_law_digits T.f_law_digits.kp T.b_law_digits .nil pass0 (pa_cons (pe_call (ok_law_at T) (hr.mono (by decide)) rfl T.m_law_at T.f_law_at.kp T.b_law_at .nil pass0 (pa_cons (pv 0) (pa_cons pe_int pa_nil))) (pa_cons (pv 1) (pa_cons (pv 2) pa_nil))))))
   pss_nil)
   (pss_cons (ps_set (i := 4) sc_law_web.nd rfl (Or.inl rfl) (pe_op op_add pe_int (pe_op op_mod (pe_op op_fdiv (pv 3) pe_int) (pv 1))))
   (pss_cons (ps_set (i := 5) sc_law_web.nd rfl (Or.inl rfl) (pe_lst pa_nil))
   (pss_cons (ps_for PassesOwn.never rfl (pi_enumK K rfl T.n_enumerate (pa_cons (pe_call (ok_law_numbers T) (hr.mono (by decide)) rfl T.m_law_numbers T.f_law_numbers.kp T.b_law_numbers .nil pass0 (pa_cons (pv 0) (pa_cons pe_int (pa_cons (pv 2) pa_nil)))) pa_nil)) (pg_tupK (n := 2) K rfl (pgs_cons (pg_name (i := 6) sc_law_web.nd rfl (Or.inl rfl)) (pgs_cons (pg_name (i := 7) sc_law_web.nd rfl (Or.inl rfl)) pgs_nil)))
   (pss_cons (ps_set (i := 8) sc_law_web.nd rfl (Or.inl rfl) (pe_op op_mod (pe_call (ok_law_stir T) (hr.mono (by decide)) rfl T.m_law_stir T.f_law_stir.kp T.b_law_stir .nil pass0 (pa_cons (pv 7) (pa_cons pe_int pa_nil))) (pv 4)))
   (pss_cons (ps_set (i := 9) sc_law_web.nd rfl (Or.inl rfl) (pe_op op_mod (pe_call (ok_law_stir T) (hr.mono (by decide)) rfl T.m_law_stir T.f_law_stir.kp T.b_law_stir .nil pass0 (pa_cons (pv 7) (pa_cons pe_int pa_nil))) (pv 4)))
   (pss_cons (ps_if (PW.pt (pw_and (pt_cmpR op_lt (pe_op op_add (pv 6) pe_int) (pv 4) (nomark _)) (pw_and1 (pt_cmpR op_gt (pe_op op_mod (pe_call (ok_law_stir T) (hr.mono (by decide)) rfl T.m_law_stir T.f_law_stir.kp T.b_law_stir .nil pass0 (pa_cons (pv 7) (pa_cons pe_int pa_nil))) pe_int) pe_int (nomark _)))))
   (pss_cons (ps_set (i := 8) sc_law_web.nd rfl (Or.inl rfl) (pe_op op_mod (pe_call (ok_law_stir T) (hr.mono (by decide)) rfl T.m_law_stir T.f_law_stir.kp T.b_law_stir .nil pass0 (pa_cons (pv 7) (pa_cons pe_int pa_nil))) (pe_op op_add (pv 6) pe_int)))
   (pss_one (ps_set (i := 9) sc_law_web.nd rfl (Or.inl rfl) (pe_op op_add (pv 6) pe_int))))
   pss_nil)
   (pss_one (ps_expr (pe_bmK K PySem.F.plainAttrs_list PySem.F.slot_list_append PySem.F.type_list_append mt_append (pv 5) (pa_cons (pe_ix (ix_listK K) (pe_lst (pa_cons (pe_tup (pa_cons (pv 8) (pa_cons (pv 9) pa_nil))) (pa_cons (pe_tup (pa_cons (pv 9) (pa_cons (pv 8) pa_nil))) pa_nil))) (pe_op op_mod (pe_call (ok_law_stir T) (hr.mono (by decide)) rfl T.m_law_stir T.f_law_stir.kp T.b_law_stir .nil pass0 (pa_cons (pv 7) (pa_cons pe_int pa_nil))) pe_int) (fun _ _ => rfl)) pa_nil))))))))
   (pss_one (ps_ret (pe_tup (pa_cons (pv 4) (pa_cons (pv 5) pa_nil)))))))))), ?_⟩
  have two : 2 <= sizeLine := by decide
  refine ⟨_, rfl, a, ns, 0, rfl, hS, by decide, fun hd => ?_⟩
  refine ⟨_, rfl, _, _, rfl, rfl, (by show (0 : Int) < 2; decide), rfl, _, rfl, ?_⟩
  rw [dec_int]
  refine itd2 (fun _ => ?_) (fun _ => ?_)
  ·exact ⟨_, rfl, a, ns, 1, rfl, hS, by decide, fun c => ⟨_, rfl, _, rfl, c, mp, mt, rfl, p1, p14, by omega, by omega, q⟩⟩
  have c0 : 0 <= hd / 2 % mp := Int.emod_nonneg _ (by omega)
  have c1 : hd / 2 % mp < mp := Int.emod_lt_of_pos _ (by omega)
  refine ⟨_, rfl, _, _, rfl, rfl, ⟨by decide, by decide⟩, _, rfl, _, _, rfl, rfl, (by show 0 < mp; omega), _, _, rfl, rfl, ?_⟩
  obtain ⟨n, hn⟩ : ∃ n, n = 1 + hd / 2 % mp := ⟨_, rfl⟩
  have n1 : 1 <= n := by omega
  have n14 : n <= mp := by omega
  have N0 : (0 : Int) < n := by omega
  refine ⟨Nat.zero_le _, fun l hl => ?_⟩
  have s0 := same_at (o := .lst []) hl
  refine ⟨_, rfl, _, rfl, a, ns, 1, mt, rfl, s0.seq hS, hn63, by decide, t1, t30, fun m ms H1 s1 hm0 hm1 hml => ?_⟩
  have s01 := s0.trans s1
  have nml : m ≠ l := fun e => by rw [e, upd_same] at hm0; cases hm0
  refine ⟨m, rfl, ⟨_, SqL.of hm1⟩, ?_⟩
  refine for_enum (K := K) (a := m) (xs := IL ms) (fun i σ H2 => ∃ (xs : List V) (ps : List (Int × Int)) (v6 v7 v8 v9 : Option V), σ = [some (.ref a), some (.int mp), some (.int mt), some (.int hd), some (.int n), some (.ref l), v6, v7, v8, v9] /\ Same H H2 /\ H2 m = some (.lst (IL ms)) /\ H2 l = some (.lst xs) /\ PairsV H2 xs ps /\ ps.length = i /\ ∀ p ∈ ps, 0 <= p.1 /\ p.1 < n /\ 0 <= p.2 /\ p.2 < n)
   ⟨[], [], none, none, none, none, by rw [hn]; rfl, s01, hm1, s1 _ _ upd_same, PairsV.nil, rfl, fun _ h => (by cases h)⟩ (fun i σ H2 _ ⟨_, _, _, _, _, _, _, _, h, _⟩ => SqL.of h) ?_ ?_
  ·rintro i x σ H2 pt hpt hi ⟨xs, ps, v6, v7, v8, v9, rfl, s2, hm2, h2, hP, hlp, hb⟩
   obtain ⟨k, rfl, hk⟩ := il_get hi
   have hi30 := (List.getElem?_eq_some_iff.mp hk).1
   have xl : xs.length < sizeLine := small60' (by rw [hP.1]; omega)
   have s3 := same_at (o := .tup [.int i, .int k]) hpt
   have md : ∀ z : Int, 0 <= z % n /\ z % n < n := fun z => ⟨Int.emod_nonneg _ (by omega), Int.emod_lt_of_pos _ (by omega)⟩
   refine ⟨pt, _, rfl, SqT.of upd_same, rfl, _, _, rfl, _, _, rfl, rfl, ?_⟩
   generalize upd H2 pt (.tup [.int i, .int k]) = H3 at *
   have h3 := s3 _ _ h2
   refine ⟨_, rfl, _, _, rfl, fun r1 _ _ => ⟨_, rfl, _, _, rfl, rfl, N0, ?_⟩⟩
   refine ⟨_, rfl, _, _, rfl, fun r2 _ _ => ⟨_, rfl, _, _, rfl, rfl, N0, ?_⟩⟩
   refine nm ?_
   refine nx_mk ?_
   refine cont1 (fun σ H4 => ∃ (o1 o2 : Int), σ = [some (.ref a), some (.int mp), some (.int mt), some (.int hd), some (.int n), some (.ref l), some (.int i), some (.int k), some (.int o1), some (.int o2)] /\ H4 = H3 /\ 0 <= o1 /\ o1 < n /\ 0 <= o2 /\ o2 < n) ?_ ?_
   ·rintro σ H4 ⟨o1, o2, rfl, rfl, a0, a1, b0, b1⟩
    refine ⟨_, rfl, .inl ⟨rfl, _, SqL.of h3⟩, _, rfl, _, rfl, two, fun t1 ht1 => ⟨_, rfl, _, rfl, two, fun t2 ht2 => ⟨two, fun pl hpl => ?_⟩⟩⟩
    have y1 := same_at (o := .tup [.int o1, .int o2]) ht1
    have y2 := same_at (o := .tup [.int o2, .int o1]) ht2
    have y3 := same_at (o := .lst [.ref t1, .ref t2]) hpl
    have hx1 := y3 _ _ (y2 _ _ (upd_same (H := H4) (a := t1) (o := .tup [.int o1, .int o2])))
    have hx2 := y3 _ _ (upd_same (a := t2) (o := .tup [.int o2, .int o1]))
    have hx3 : (upd (upd (upd H4 t1 (.tup [.int o1, .int o2])) t2 (.tup [.int o2, .int o1])) pl (.lst [.ref t1, .ref t2])) pl = some (.lst [.ref t1, .ref t2]) := upd_same
    have y13 := (y1.trans y2).trans y3
    generalize upd (upd (upd H4 t1 (.tup [.int o1, .int o2])) t2 (.tup [.int o2, .int o1])) pl (.lst [.ref t1, .ref t2]) = H5 at *
    refine ⟨_, rfl, _, _, rfl, fun u u0 u1 => ?_⟩
    obtain ⟨tt, p, hidx, htt, hp⟩ : ∃ (tt : Addr) (p : Int × Int), atI ([.ref t1, .ref t2] : List V) (u % 2) = some (.ref tt) /\ H5 tt = some (.tup [.int p.1, .int p.2]) /\ (0 <= p.1 /\ p.1 < n /\ 0 <= p.2 /\ p.2 < n) := by
     rcases (by omega : u % 2 = 0 \/ u % 2 = 1) with e | e <;> rw [e]
     ·exact ⟨t1, (o1, o2), rfl, hx1, a0, a1, b0, b1⟩
     ·exact ⟨t2, (o2, o1), rfl, hx2, b0, b1, a0, a1⟩
    refine ⟨_, _, rfl, rfl, (by show (0 : Int) < 2; decide), pl, _, _, .ref tt, rfl, rfl, SqL.of hx3, hidx, l, xs, _, rfl, rfl, y13 _ _ h3, xl, ?_⟩
    have s35 := (s2.trans s3).trans y13
    refine ⟨xs ++ [.ref tt], ps ++ [p], _, _, _, _, rfl, same_upd hl s35, ?_, upd_same, ?_, by rw [List.length_append, hlp]; rfl, fun p' hp' => ?_⟩
    ·rw [upd_ne nml]
     exact y13 _ _ (s3 _ _ hm2)
    ·exact (((hP.same s3).same y13).snoc ⟨tt, rfl, htt⟩).mut (y13 _ _ h3)
    ·rcases List.mem_append.mp hp' with h | h
     ·exact hb p' h
     ·rw [List.mem_singleton.mp h]; exact hp
   ·intro Kn hK
    have alt : Kn [some (.ref a), some (.int mp), some (.int mt), some (.int hd), some (.int n), some (.ref l), some (.int i), some (.int k), some (.int (r1 % n)), some (.int (r2 % n))] H3 := hK _ _ ⟨_, _, rfl, rfl, (md _).1, (md _).2, (md _).1, (md _).2⟩
    refine ⟨_, rfl, _, _, rfl, rfl, _, rfl, _, _, rfl, rfl, _, rfl, ?_⟩
    refine itd2 (fun hc => ?_) (fun hc => alt)
    refine ⟨_, rfl, _, _, rfl, fun r3 _ _ => ⟨_, _, rfl, rfl, (by show (0 : Int) < 8; decide), _, _, rfl, rfl, _, rfl, ?_⟩⟩
    refine itd2 (fun hc2 => ?_) (fun hc2 => alt)
    have I0 : (0 : Int) < (i : Int) + 1 := by omega
    have g0 : ∀ z : Int, 0 <= z % ((i : Int) + 1) /\ z % ((i : Int) + 1) < (i : Int) + 1 := fun z => ⟨Int.emod_nonneg _ (by omega), Int.emod_lt_of_pos _ I0⟩
    refine ⟨_, rfl, _, _, rfl, fun r4 _ _ => ⟨_, rfl, _, _, rfl, rfl, _, _, rfl, rfl, I0, ?_⟩⟩
    refine ⟨_, rfl, _, _, rfl, rfl, ?_⟩
    exact hK _ _ ⟨r4 % ((i : Int) + 1), (i : Int) + 1, rfl, rfl, (g0 r4).1, by have := (g0 r4).2; omega, by omega, by omega⟩
  ·rintro σ H2 ⟨xs, ps, v6, v7, v8, v9, rfl, s2, hm2, h2, hP, hlp, hb⟩
   refine ⟨_, rfl, _, rfl, two, fun r hr => ?_⟩
   have s3 := same_at (o := .tup [.int n, .ref l]) hr
   rw [il_length] at hlp
   exact q r l n xs ps _ (s2.trans s3) upd_same hl (s3 _ _ h2) (hP.same s3) ⟨by omega, by omega, by omega, hb⟩ (by omega) (by omega)
end
set_option maxHeartbeats 4000000
theorem far_pow {k : Int} (h0 : 0 <= k) (h1 : k <= 30) : -(10 ^ 200) < (48271 + 2 * k) ^ (12 : Int).toNat /\ (48271 + 2 * k) ^ (12 : Int).toNat < 10 ^ 200 := by
 have h : ((48271 + 2 * k) ^ (12 : Int).toNat).natAbs <= 50000 ^ 12 := by
  rw [Int.natAbs_pow]
  exact Nat.pow_le_pow_left (by omega) 12
 have e : (50000 : Nat) ^ 12 < 10 ^ 100 := by decide
 generalize (48271 + 2 * k) ^ (12 : Int).toNat = x at *
 omega
def sp_law_lengths (K : PySem.W.Frag) : Sp := fun vs H Q _ => ∃ (a : Addr) (ns : List Int) (c : Nat), vs = [.ref a, .int c] /\ SqL K H a (IL ns) /\ c <= 30 /\ ∀ (r : Addr) (ls : List Int) (H' : Hp), Same H H' -> H r = none -> H' r = some (.lst (IL ls)) -> ls.length = c -> Q (.ref r) H'
section
variable {P : Program} {w : World} {K : PySem.W.Frag} {mg : Str -> Option Value} {base : Heap} {t : Adr}
theorem sc_law_lengths : FnScope ["script", "count", "head", "rest", "lengths", "k", "far"] ["script", "count"] (defScope s_law_lengths) := ⟨rfl, rfl, rfl, by decide +kernel, rfl, by decide +kernel, by decide +kernel⟩
theorem ok_law_lengths (T : Txt K mg t) : FnOk P w K mg base CX0 2 t.a_law_lengths t.d_law_lengths ["script", "count"] (sp_law_lengths K) := by
 refine T.f_law_lengths.ok sc_law_lengths (fun vs H Q E h => ?_) (fun cdv A outer s H vs Q E hr h => ?_)
 ·obtain ⟨a, ns, c, rfl, _⟩ := h
  rfl
 ·obtain ⟨a, ns, c, rfl, hS, c30, q⟩ := h
  refine ⟨_, (pss_cons (ps_set (i := 2) sc_law_lengths.nd rfl (Or.inl rfl) (pe_call (ok_law_at T) (hr.mono (by decide)) rfl T.m_law_at T.f_law_at.kp T.b_law_at .nil pass0 (pa_cons (pv 0) (pa_cons pe_int pa_nil))))
   (pss_cons (ps_set (i := 3) sc_law_lengths.nd rfl (Or.inl rfl) (pe_op op_fdiv (pv 2) pe_int))
   (pss_cons (ps_set (i := 4) sc_law_lengths.nd rfl (Or.inl rfl) (pe_lst pa_nil))
   (pss_cons (ps_for PassesOwn.never rfl (pi_range1 rfl T.n_range (pa_cons (pv 1) pa_nil)) (pg_name (i := 5) sc_law_lengths.nd rfl (Or.inl rfl))
   (pss_cons (ps_if (PW.pt (pw_and (pt_cmpR op_eq (pe_op op_mod (pv 2) pe_int) pe_int (nomark _)) (pw_and1 (pt_cmpR (op_inK K) (pv 3) (pe_lst (pa_cons pe_int (pa_cons (pe_un un_neg pe_int) pa_nil))) rfl))))
   (pss_one (ps_expr (pe_bmK K PySem.F.plainAttrs_list PySem.F.slot_list_append PySem.F.type_list_append mt_append (pv 4) (pa_cons (pe_op op_sub (pe_op op_mod (pe_call (ok_law_stir T) (hr.mono (by decide)) rfl T.m_law_stir T.f_law_stir.kp T.b_law_stir .nil pass0 (pa_cons (pv 2) (pa_cons (pe_op op_add pe_int (pv 5)) pa_nil))) pe_int) pe_int) pa_nil))))
   (pss_one (ps_if (pt_cmpR op_eq (pe_op op_mod (pv 2) pe_int) pe_int (nomark _))
   (pss_one (ps_expr (pe_bmK K PySem.F.plainAttrs_list PySem.F.slot_list_append PySem.F.type_list_append mt_append (pv 4) (pa_cons (pe_op op_sub (pe_op op_mod (pv 3) pe_int) pe_int) pa_nil))))
   (pss_one (ps_if (pt_cmpR op_eq (pe_op op_mod (pe_op op_fdiv (pv 2) pe_int) pe_int) pe_int (nomark _))
   (pss_cons (ps_set (i := 6) sc_law_lengths.nd rfl (Or.inl rfl) (pe_op op_mulC (pe_op op_add (pe_op op_add (pe_op op_mod (pv 2) (pe_op op_pow pe_int pe_int)) (pe_op op_mulC pe_int (pv 5))) pe_int) (pe_op op_pow (pe_op op_add pe_int (pe_op op_mulC pe_int (pv 5))) pe_int)))
   (pss_one (ps_expr (pe_bmK K PySem.F.plainAttrs_list PySem.F.slot_list_append PySem.F.type_list_append mt_append (pv 4) (pa_cons (pe_op op_sub (pe_op op_mod (pv 6) (pe_op op_pow pe_int pe_int)) (pe_op op_mulC pe_int (pe_op op_pow pe_int pe_int))) pa_nil)))))
   (pss_one (ps_expr (pe_bmK K PySem.F.plainAttrs_list PySem.F.slot_list_append PySem.F.type_list_append mt_append (pv 4) (pa_cons (pe_op op_sub (pe_op op_mod (pe_call (ok_law_stir T) (hr.mono (by decide)) rfl T.m_law_stir T.f_law_stir.kp T.b_law_stir .nil pass0 (pa_cons (pv 2) (pa_cons (pe_op op_add pe_int (pv 5)) pa_nil))) (pe_ix (ix_listK K) (pe_lst (pa_cons pe_int (pa_cons pe_int pa_nil))) (pe_op op_mod (pe_op op_fdiv (pv 2) pe_int) pe_int) (fun _ _ => rfl))) pe_int) pa_nil)))))))))
   (pss_one (ps_set (i := 3) sc_law_lengths.nd rfl (Or.inl rfl) (pe_op op_fdiv (pv 3) pe_int)))))
   (pss_one (ps_ret (pv 4))))))), ?_⟩
  have two : 2 <= sizeLine := by decide
  refine ⟨_, rfl, a, ns, 2, rfl, hS, by decide, fun hd => ?_⟩
  refine ⟨_, rfl, _, _, rfl, rfl, ⟨by decide, by decide⟩, ?_⟩
  refine ⟨Nat.zero_le _, fun l hl => ?_⟩
  refine ⟨_, rfl, c, rfl, by omega, by omega, for_range (lo := 0) (n := (c : Int).toNat) (fun i σ H2 => ∃ (z : Int) (W : List Int) (v5 v6 : Option V), σ = [some (.ref a), some (.int c), some (.int hd), some (.int z), some (.ref l), v5, v6] /\ W.length = i /\ Same H H2 /\ H2 l = some (.lst (IL W))) ⟨_, [], none, none, rfl, rfl, same_at hl, upd_same⟩ ?_ ?_⟩
  ·rintro i σ H2 hi ⟨z, W, v5, v6, rfl, hW, s2, h2⟩
   have wl : (IL W).length < sizeLine := small60' (by rw [il_length]; omega)
   have app : ∀ (H3 : Hp) (v : Int) (zz : Int) (w5 w6 : Option V), Same H2 H3 -> ∃ (z : Int) (W2 : List Int) (v5 v6 : Option V), [some (.ref a), some (.int c), some (.int hd), some (.int zz), some (.ref l), w5, w6] = [some (.ref a), some (.int c), some (.int hd), some (.int z), some (.ref l), v5, v6] /\ W2.length = i + 1 /\ Same H (upd H3 l (.lst (IL W ++ [.int v]))) /\ (upd H3 l (.lst (IL W ++ [.int v]))) l = some (.lst (IL W2)) := fun H3 v zz w5 w6 s3 =>
    ⟨zz, W ++ [v], w5, w6, rfl, by rw [List.length_append, hW]; rfl, same_upd hl (s2.trans s3), by rw [upd_same, il_snoc]⟩
   have P2 : (0 : Int) < 2 := by decide
   have P7 : (0 : Int) < 7 := by decide
   have D7 : (0 : Int) < 7 /\ (7 : Int) < 1073741824 := by decide
   have D2 : (0 : Int) < 2 /\ (2 : Int) < 1073741824 := by decide
   refine ⟨_, rfl, _, _, rfl, rfl, P2, rfl, _, rfl, ?_⟩
   rw [dec_int]
   refine itd2 (fun he => ?_) (fun he => ?_)
   ·refine ⟨_, rfl, _, rfl, two, fun lp hlp => ?_⟩
    have s3 := same_at (o := .lst [.int 0, .int (-1)]) hlp
    refine ⟨lp, _, rfl, .inl (SqL.of upd_same), rfl, rfl, _, rfl, ?_⟩
    have h3 := s3 _ _ h2
    refine itb (fun _ => ?_) (fun _ => ?_)
    ·refine ⟨_, rfl, .inl ⟨rfl, _, SqL.of h3⟩, _, rfl, _, rfl, _, _, rfl, rfl, _, _, rfl, fun r _ _ => ⟨_, _, rfl, rfl, P7, _, _, rfl, rfl, l, _, _, rfl, rfl, h3, wl, ?_⟩⟩
     refine ⟨_, rfl, _, _, rfl, rfl, D7, ?_⟩
     exact app _ _ _ _ _ s3
    ·refine ⟨_, rfl, _, _, rfl, rfl, P2, rfl, _, rfl, ?_⟩
     rw [dec_int]
     refine itd he ?_
     refine ⟨_, rfl, .inl ⟨rfl, _, SqL.of h3⟩, _, rfl, _, _, rfl, rfl, P7, _, _, rfl, rfl, l, _, _, rfl, rfl, h3, wl, ?_⟩
     refine ⟨_, rfl, _, _, rfl, rfl, D7, ?_⟩
     exact app _ _ _ _ _ s3
   ·refine ⟨_, rfl, _, _, rfl, rfl, P2, rfl, _, rfl, ?_⟩
    rw [dec_int]
    refine itdn he ?_
    refine ⟨_, rfl, _, _, rfl, rfl, D2, _, _, rfl, rfl, (by show (0 : Int) < 3; decide), rfl, _, rfl, ?_⟩
    rw [dec_int]
    refine itd2 (fun hf => ?_) (fun hf => ?_)
    ·have f0 : -(10 ^ 200) < hd % 10 ^ 60 + 7919 * (0 + (i : Int)) + 1 := by omega
     have f1 : hd % 10 ^ 60 + 7919 * (0 + (i : Int)) + 1 < 10 ^ 200 := by omega
     have k0 : -(10 ^ 200) < (0 + (i : Int)) /\ (0 + (i : Int)) < 10 ^ 200 := by omega
     have fp := far_pow (k := 0 + (i : Int)) (by omega) (by omega)
     have fa : (48271 + 2 * (0 + (i : Int))).natAbs < 2 ^ 64 := by omega
     refine ⟨_, rfl, _, _, rfl, rfl, ⟨by decide, by decide, by decide⟩, _, _, rfl, rfl, (by show (0 : Int) < 10 ^ 60; decide), _, rfl, _, _, rfl, rfl, ⟨⟨by decide, by decide⟩, k0⟩, _, _, rfl, rfl, _, _, rfl, rfl, _, rfl, _, _, rfl, rfl, ⟨⟨by decide, by decide⟩, k0⟩, _, _, rfl, rfl, _, _, rfl, rfl, ⟨by decide, by decide, fa⟩, _, _, rfl, rfl, ⟨⟨f0, f1⟩, fp⟩, ?_⟩
     refine ⟨_, rfl, .inl ⟨rfl, _, SqL.of h2⟩, _, rfl, _, _, rfl, rfl, ⟨by decide, by decide, by decide⟩, _, _, rfl, rfl, (by show (0 : Int) < 10 ^ 50; decide), _, _, rfl, rfl, ⟨by decide, by decide, by decide⟩, _, _, rfl, rfl, ⟨⟨by decide, by decide⟩, ⟨by decide, by decide⟩⟩, _, _, rfl, rfl, l, _, _, rfl, rfl, h2, wl, ?_⟩
     refine ⟨_, rfl, _, _, rfl, rfl, D7, ?_⟩
     exact app _ _ _ _ _ (Same.refl _)
    ·refine ⟨_, rfl, .inl ⟨rfl, _, SqL.of h2⟩, _, rfl, _, rfl, _, _, rfl, rfl, _, _, rfl, fun r _ _ => ⟨two, fun pl hpl => ?_⟩⟩
     have s3 := same_at (o := .lst [.int 3, .int 9]) hpl
     have h3 := s3 _ _ h2
     obtain ⟨w, hw, w0⟩ : ∃ w : Int, atI ([.int 3, .int 9] : List V) (hd / 6 % 2) = some (.int w) /\ 0 < w := by
      rcases (by omega : hd / 6 % 2 = 0 \/ hd / 6 % 2 = 1) with e | e <;> rw [e]
      ·exact ⟨3, rfl, by decide⟩
      ·exact ⟨9, rfl, by decide⟩
     refine ⟨_, rfl, _, _, rfl, rfl, ⟨by decide, by decide⟩, _, _, rfl, rfl, P2, pl, _, _, .int w, rfl, rfl, SqL.of upd_same, hw, _, _, rfl, rfl, w0, _, _, rfl, rfl, l, _, _, rfl, rfl, h3, wl, ?_⟩
     refine ⟨_, rfl, _, _, rfl, rfl, D7, ?_⟩
     exact app _ _ _ _ _ s3
  rintro σ H2 ⟨z, W, v5, v6, rfl, hW, s2, h2⟩
  exact ⟨_, rfl, q l W H2 s2 hl h2 (by omega)⟩
end
set_option maxHeartbeats 4000000
def sp_law_is_tree (K : PySem.W.Frag) : Sp := fun vs H Q _ => ∃ (n : Int) (a b : Addr) (xs : List V) (ps : List (Int × Int)) (U : List Int), vs = [.int n, .ref a, .ref b] /\ SqL K H a xs /\ PairsV H xs ps /\ GoodW n ps /\ H b = some (.tup (IL U)) /\ ∀ (r : Bool) (H' : Hp), (r = true ↔ IsTree n ps U) -> Same H H' -> Q (.bl r) H'
theorem notI {p : Prop} (h : ¬ p) : (false = true ↔ p) := ⟨fun z => (nomatch z), fun z => absurd z h⟩
section
variable {P : Program} {w : World} {K : PySem.W.Frag} {mg : Str -> Option Value} {base : Heap} {t : Adr}
theorem sc_law_is_tree : FnScope ["places", "ties", "tree", "heads", "ahead", "tie", "one", "other"] ["places", "ties", "tree"] (defScope s_law_is_tree) := ⟨rfl, rfl, rfl, by decide +kernel, rfl, by decide +kernel, by decide +kernel⟩
theorem ok_law_is_tree (T : Txt K mg t) : FnOk P w K mg base CX0 1 t.a_law_is_tree t.d_law_is_tree ["places", "ties", "tree"] (sp_law_is_tree K) := by
 refine T.f_law_is_tree.ok sc_law_is_tree (fun vs H Q E h => ?_) (fun cdv A outer s H vs Q E hr h => ?_)
 ·obtain ⟨n, a, b, xs, ps, U, rfl, _⟩ := h
  rfl
 ·obtain ⟨n, a, b, xs, ps, U, rfl, hA, hP, hG, hB, q⟩ := h
  refine ⟨_, (pss_cons (ps_if (PW.pt (pw_or (pt_not (pt_val (pe_callB (call_isiK K (T := "tuple")) (by rfl) T.n_isinstance Boot.«isinstance» (pa_cons (pv 2) (pa_cons (pe_bltn (v := V.ty "tuple") rfl T.n_tuple Boot.«tuple» rfl) pa_nil))))) (pw_or1 (pt_cmpR op_ne (pe_callB (call_lenK K) (by rfl) T.n_len Boot.«len» (pa_cons (pv 2) pa_nil)) (pe_op op_sub (pv 0) pe_int) (nomark _)))))
   (pss_one (ps_ret pe_bl))
   pss_nil)
   (pss_cons (ps_set (i := 3) sc_law_is_tree.nd rfl (Or.inl rfl) (pe_callTy (call_list_rng rfl) (by rfl) T.n_list Boot.«list» (pa_cons (pe_callTy call_rng1 (by rfl) T.n_range Boot.«range» (pa_cons (pv 0) pa_nil)) pa_nil)))
   (pss_cons (ps_set (i := 4) sc_law_is_tree.nd rfl (Or.inl rfl) (pe_un un_neg pe_int))
   (pss_cons (ps_for PassesOwn.never rfl (pi_tupK K (pv 2)) (pg_name (i := 5) sc_law_is_tree.nd rfl (Or.inl rfl))
   (pss_cons (ps_if (PW.pt (pw_or (pt_not (pt_val (pe_callB (call_isiK K (T := "int")) (by rfl) T.n_isinstance Boot.«isinstance» (pa_cons (pv 5) (pa_cons (pe_bltn (v := V.ty "int") rfl T.n_int Boot.«int» rfl) pa_nil))))) (pw_or (pt_val (pe_callB (call_isiK K (T := "bool")) (by rfl) T.n_isinstance Boot.«isinstance» (pa_cons (pv 5) (pa_cons (pe_bltn (v := V.ty "bool") rfl T.n_bool Boot.«bool» rfl) pa_nil)))) (pw_or (pt_cmpR op_le (pv 5) (pv 4) (nomark _)) (pw_or1 (pt_cmpR op_ge (pv 5) (pe_callB (call_lenK K) (by rfl) T.n_len Boot.«len» (pa_cons (pv 1) pa_nil)) (nomark _)))))))
   (pss_one (ps_ret pe_bl))
   pss_nil)
   (pss_cons (ps_set (i := 6) sc_law_is_tree.nd rfl (Or.inr rfl) (pe_ix (ix_listK K) (pv 3) (pe_ix (ix_tupK K) (pe_ix (ix_listK K) (pv 1) (pv 5) (fun _ _ => rfl)) pe_int (fun _ _ => rfl)) (fun _ _ => rfl)))
   (pss_cons (ps_set (i := 7) sc_law_is_tree.nd rfl (Or.inr rfl) (pe_ix (ix_listK K) (pv 3) (pe_ix (ix_tupK K) (pe_ix (ix_listK K) (pv 1) (pv 5) (fun _ _ => rfl)) pe_int (fun _ _ => rfl)) (fun _ _ => rfl)))
   (pss_cons (ps_if (pt_cmpR op_eq (pv 6) (pv 7) (nomark _))
   (pss_one (ps_ret pe_bl))
   pss_nil)
   (pss_cons (ps_lc (i := 3) rfl sc_law_is_tree.nd rfl rfl (sc0 := defScope s_law_is_tree) (N0 := ["places", "ties", "tree", "heads", "ahead", "tie", "one", "other"]) (N' := ["head", "other", "one"]) (o := 1) (fr := [7, 6]) ⟨rfl, by decide +kernel, by decide +kernel, by decide +kernel, rfl, by decide +kernel⟩ (pi_listK K (pv 3)) (own_name (by decide)) (fun _ _ _ _ => (pg_name (i := 0) (show List.Nodup (["head", "other", "one"] : List Str) by decide +kernel) rfl (Or.inl rfl))) (fun _ _ _ _ => pts_nil) (fun _ _ _ _ => (pe_ifExp (pt_cmpR op_eq (pv 0) (pv 1) (nomark _)) (pv 2) (pv 0))))
   (pss_one (ps_set (i := 4) sc_law_is_tree.nd rfl (Or.inl rfl) (pv 5)))))))))
   (pss_one (ps_ret pe_bl)))))), ?_⟩
  obtain ⟨g1, g2, g3, g4⟩ := id hG
  have hlx := hP.1
  refine ⟨_, rfl, _, _, _, rfl, TyOf.tup hB, kit_same, _, rfl, ?_⟩
  refine iteF ?_
  refine ⟨_, rfl, b, _, rfl, .inr (SqT.of hB), _, rfl, _, _, rfl, rfl, rfl, _, rfl, ?_⟩
  rw [il_length, dec_int]
  refine itn2 (fun hln => ?_) (fun hln => ?_)
  rotate_left
  ·exact q false H (notI fun h => hln h.2.1) (Same.refl _)
  refine ⟨_, rfl, n, rfl, fun rg hrg => ⟨rg, 0, n, rfl, upd_same, ⟨by decide, by decide, by omega, by omega⟩, by omega, fun m hm => ?_⟩⟩
  have s1 := same_new (o := .lst ((rngI 0 n).map V.int)) (same_at (o := .rng 0 n) hrg) hm
  have e0 : (rngI 0 n).map V.int = IL (lms n.toNat (endsOf ps [])) := by rw [rngI_zero]; rfl
  have hm1 := upd_same (H := upd H rg (.rng 0 n)) (a := m) (o := .lst ((rngI 0 n).map V.int))
  rw [e0] at hm1 s1
  refine nm ?_
  rw [e0]
  generalize upd (upd H rg (.rng 0 n)) m (.lst (IL (lms n.toNat (endsOf ps [])))) = H1 at *
  dsimp only
  refine ⟨_, rfl, ?_⟩
  refine nm ?_
  dsimp only
  have hB1 := s1 _ _ hB
  refine ⟨_, rfl, b, rfl, ⟨_, SqT.of hB1⟩, for_tup (K := K) (a := b) (xs := IL U) (fun i σ H2 => ∃ (mA : Addr) (ah : Int) (v5 v6 v7 : Option V), σ = [some (.int n), some (.ref a), some (.ref b), some (.ref mA), some (.int ah), v5, v6, v7] /\ Same H H2 /\ H2 mA = some (.lst (IL (lms n.toNat (endsOf ps (U.take i))))) /\ IsSet ps.length (U.take i) /\ Fr n.toNat ps (U.take i) = true /\ -1 <= ah /\ (∀ z ∈ U.take i, z <= ah) /\ (ah = -1 \/ ah ∈ U.take i))
   ⟨m, -1, none, none, none, rfl, s1, hm1, isSet_iff.mpr ⟨fun z h => (by cases h), .nil⟩, Fr.nil _ _, by omega, fun z h => (by cases h), .inl rfl⟩ (fun i σ H2 _ ⟨_, _, _, _, _, _, e, _⟩ => SqT.of (e _ _ hB)) ?_ ?_⟩
  ·rintro i v σ H2 hi ⟨mA, ah, v5, v6, v7, rfl, s2, hm2, hI, hF, a1, a2, a3⟩
   obtain ⟨z, rfl, hz⟩ := il_get hi
   have tk : U.take (i + 1) = U.take i ++ [z] := by rw [List.take_succ, hz]; rfl
   have ud : U = U.take i ++ [z] ++ U.drop (i + 1) := by rw [<- tk, List.take_append_drop]
   have pre : IsTree n ps U -> IsSet ps.length (U.take i ++ [z]) /\ Fr n.toNat ps (U.take i ++ [z]) = true := fun h => by
    obtain ⟨_, h2, h3⟩ := (tree_fr hG).mp h
    rw [ud] at h2 h3
    obtain ⟨b1, b2⟩ := isSet_iff.mp h2
    exact ⟨isSet_iff.mpr ⟨fun y hy => b1 y (List.mem_append_left _ hy), (List.pairwise_append.mp b2).1⟩, fr_take _ h3⟩
   refine nm ?_
   refine ⟨_, rfl, _, _, _, rfl, TyOf.int _, kit_same, _, rfl, ?_⟩
   refine iteF ?_
   refine ⟨_, rfl, _, _, _, rfl, TyOf.int _, kit_int_bool, _, rfl, ?_⟩
   refine iteF ?_
   refine ⟨_, rfl, _, rfl, _, _, rfl, rfl, _, rfl, ?_⟩
   refine itd2 (fun hle => ?_) (fun hle => ?_)
   ·refine iteT ?_
    refine q false H2 (notI fun h => ?_) s2
    obtain ⟨b1, b2⟩ := isSet_iff.mp (pre h).1
    rcases a3 with e | e
    ·have := b1 z (by simp)
     omega
    ·have := (List.pairwise_append.mp b2).2.2 ah e z (by simp)
     omega
   refine ⟨_, rfl, _, rfl, a, _, rfl, .inl (s2.seq hA), _, _, rfl, rfl, _, rfl, ?_⟩
   refine itd2 (fun hge => ?_) (fun hge => ?_)
   ·refine q false H2 (notI fun h => ?_) s2
    have := (pre h).1.all z (by simp)
    omega
   have zb : 0 <= z /\ z < (ps.length : Int) := by omega
   obtain ⟨p, hp⟩ : ∃ p, ps[z.toNat]? = some p := ⟨_, List.getElem?_eq_getElem (by omega)⟩
   obtain ⟨vv, hvv, tz, rfl, htz⟩ := hP.2 _ p hp
   have htz2 := s2 _ _ htz
   obtain ⟨b1, b2, b3, b4⟩ := g4 p (List.mem_of_getElem? hp)
   have lL : (lms n.toNat (endsOf ps (U.take i))).length = n.toNat := lms_length _ _
   have eo : endOf ps z = (p.1.toNat, p.2.toNat) := by unfold endOf; rw [getD_of hp]
   have lsn : lms n.toNat (endsOf ps (U.take (i + 1))) = lm (lms n.toNat (endsOf ps (U.take i))) p.1.toNat p.2.toNat := by rw [tk, ends_snoc, eo, lms_snoc]
   have frz := fr_snoc (n := n.toNat) (ps := ps) (l := U.take i) (z := z)
   rw [eo] at frz
   generalize lms n.toNat (endsOf ps (U.take i)) = M at *
   have iA : atI (IL M) p.1 = some (.int (mk M p.1.toNat)) := atI_of (n := p.1.toNat) (by omega) (il_at (mk_some (by omega)))
   have iB : atI (IL M) p.2 = some (.int (mk M p.2.toNat)) := atI_of (n := p.2.toNat) (by omega) (il_at (mk_some (by omega)))
   have hat : atI xs z = some (.ref tz) := atI_of (n := z.toNat) (by omega) hvv
   refine ⟨_, rfl, _, rfl, _, rfl, a, xs, z, .ref tz, rfl, rfl, s2.seq hA, hat, tz, _, 0, .int p.1, rfl, rfl, SqT.of htz2, rfl, mA, _, p.1, _, rfl, rfl, SqL.of hm2, iA, ?_⟩
   refine ⟨_, rfl, _, rfl, _, rfl, a, xs, z, .ref tz, rfl, rfl, s2.seq hA, hat, tz, _, 1, .int p.2, rfl, rfl, SqT.of htz2, rfl, mA, _, p.2, _, rfl, rfl, SqL.of hm2, iB, ?_⟩
   refine ⟨_, rfl, _, rfl, rfl, _, rfl, ?_⟩
   rw [dec_int]
   refine itd2 (fun heq => ?_) (fun hne => ?_)
   ·exact q false H2 (notI fun h => (frz.mp (pre h).2).2 heq) s2
   refine ⟨_, rfl, mA, rfl, ⟨_, SqL.of hm2⟩, lc_list (K := K) (a := mA) (xs := IL M) (fun w us H7 => H7 = H2 /\ w <= M.length /\ us = IL ((M.take w).map fun k => if k = mk M p.2.toNat then mk M p.1.toNat else k)) ⟨rfl, Nat.zero_le _, rfl⟩ (small60' (by rw [il_length]; omega))
    (fun w us H7 hw ⟨e, hw2, ey⟩ => ⟨e ▸ SqL.of hm2, by rw [ey, il_length, List.length_map, List.length_take]; omega⟩) ?_ ?_⟩
   ·rintro w v us H7 hw ⟨rfl, hwl, rfl⟩ S hSS
    obtain ⟨y, rfl, hy⟩ := il_get hw
    have hwl' := (List.getElem?_eq_some_iff.mp hy).1
    have app : ∀ v : Int, v = (if y = mk M p.2.toNat then mk M p.1.toNat else y) -> IL ((M.take w).map fun k => if k = mk M p.2.toNat then mk M p.1.toNat else k) ++ [.int v] = IL ((M.take (w + 1)).map fun k => if k = mk M p.2.toNat then mk M p.1.toNat else k) := fun v hv => by
     rw [List.take_succ, hy, List.map_append, hv]
     exact (il_snoc _ _).symm
    refine nm ?_
    refine ⟨_, rfl, _, rfl, rfl, _, rfl, ?_⟩
    rw [dec_int]
    refine itd2 (fun hc => ?_) (fun hc => ?_)
    ·exact ⟨_, rfl, hSS _ _ ⟨rfl, hwl', app _ (by rw [if_pos hc])⟩⟩
    ·exact ⟨_, rfl, hSS _ _ ⟨rfl, hwl', app _ (by rw [if_neg hc])⟩⟩
   rintro us H7 ⟨rfl, _, rfl⟩ la hla
   rw [il_length, List.take_length]
   have elm : (M.map fun k => if k = mk M p.2.toNat then mk M p.1.toNat else k) = lms n.toNat (endsOf ps (U.take (i + 1))) := by
    rw [lsn]
    unfold lm
    rw [if_pos hne]
   rw [elm]
   have w1 := same_at (o := .lst (IL (lms n.toNat (endsOf ps (U.take (i + 1)))))) hla
   refine ⟨_, rfl, ?_⟩
   refine ⟨la, z, _, _, _, rfl, s2.trans w1, upd_same, ?_, ?_, by omega, fun y hy => ?_, .inr (by rw [tk]; simp)⟩
   ·rw [tk]
    obtain ⟨b1, b2⟩ := isSet_iff.mp hI
    refine isSet_iff.mpr ⟨fun y hy => ?_, List.pairwise_append.mpr ⟨b2, List.pairwise_singleton _ _, fun y hy x hx => ?_⟩⟩
    ·rcases List.mem_append.mp hy with e | e
     ·exact b1 y e
     ·rw [List.mem_singleton.mp e]; exact zb
    ·rw [List.mem_singleton.mp hx]
     have := a2 y hy
     omega
   ·rw [tk]
    exact frz.mpr ⟨hF, hne⟩
   ·rw [tk] at hy
    rcases List.mem_append.mp hy with e | e
    ·have := a2 y e
     omega
    ·rw [List.mem_singleton.mp e]; exact Int.le_refl _
  ·rintro σ H2 ⟨mA, ah, v5, v6, v7, rfl, s2, hm2, hI, hF, a1, a2, a3⟩
   rw [il_length, List.take_length] at hI hF
   exact q true H2 ⟨fun _ => (tree_fr hG).mpr ⟨hln, hI, hF⟩, fun _ => rfl⟩ s2
end
set_option maxHeartbeats 4000000
theorem lm_all (M : List Int) (a b : Nat) : (M.map fun k => if k = mk M b then mk M a else k) = lm M a b := by
 unfold lm
 by_cases h : mk M a = mk M b
 ·rw [if_neg (fun z => z h), h]
  conv => rhs; rw [<- List.map_id M]
  refine List.map_congr_left fun k _ => ?_
  by_cases e : k = mk M b
  ·rw [if_pos e, e]; rfl
  ·rw [if_neg e]; rfl
 ·rw [if_pos h]
def sp_law_ring (K : PySem.W.Frag) : Sp := fun vs H Q _ => ∃ (n : Int) (a b : Addr) (xs : List V) (ps : List (Int × Int)) (ns : List Int) (z : Int), vs = [.int n, .ref a, .ref b, .int z] /\ SqL K H a xs /\ PairsV H xs ps /\ GoodW n ps /\ SqT K H b (IL ns) /\ IsSet ps.length ns /\ 0 <= z /\ z < (ps.length : Int) /\
 ∀ (r : Addr) (H' : Hp), Same H H' -> H r = none -> H' r = some (.lst (IL (ringA n ps ns z ns))) -> Q (.ref r) H'
section
variable {P : Program} {w : World} {K : PySem.W.Frag} {mg : Str -> Option Value} {base : Heap} {t : Adr}
theorem sc_law_ring : FnScope ["places", "ties", "tree", "tie", "told", "inner", "heads", "other", "one", "two"] ["places", "ties", "tree", "tie"] (defScope s_law_ring) := ⟨rfl, rfl, rfl, by decide +kernel, rfl, by decide +kernel, by decide +kernel⟩
theorem ok_law_ring (T : Txt K mg t) : FnOk P w K mg base CX0 1 t.a_law_ring t.d_law_ring ["places", "ties", "tree", "tie"] (sp_law_ring K) := by
 refine T.f_law_ring.ok sc_law_ring (fun vs H Q E h => ?_) (fun cdv A outer s H vs Q E hr h => ?_)
 ·obtain ⟨n, a, b, xs, ps, ns, z, rfl, _⟩ := h
  rfl
 ·obtain ⟨n, a, b, xs, ps, ns, z, rfl, hA, hP, hG, hS, hI, z0, z1, q⟩ := h
  refine ⟨_, (pss_cons (ps_set (i := 4) sc_law_ring.nd rfl (Or.inl rfl) (pe_lst pa_nil))
   (pss_cons (ps_for PassesOwn.never rfl (pi_tupK K (pv 2)) (pg_name (i := 5) sc_law_ring.nd rfl (Or.inl rfl))
   (pss_cons (ps_set (i := 6) sc_law_ring.nd rfl (Or.inl rfl) (pe_callTy (call_list_rng rfl) (by rfl) T.n_list Boot.«list» (pa_cons (pe_callTy call_rng1 (by rfl) T.n_range Boot.«range» (pa_cons (pv 0) pa_nil)) pa_nil)))
   (pss_cons (ps_for PassesOwn.never rfl (pi_tupK K (pv 2)) (pg_name (i := 7) sc_law_ring.nd rfl (Or.inl rfl))
   (pss_one (ps_if (pt_cmpR op_ne (pv 7) (pv 5) (nomark _))
   (pss_cons (ps_set (i := 8) sc_law_ring.nd rfl (Or.inr rfl) (pe_ix (ix_listK K) (pv 6) (pe_ix (ix_tupK K) (pe_ix (ix_listK K) (pv 1) (pv 7) (fun _ _ => rfl)) pe_int (fun _ _ => rfl)) (fun _ _ => rfl)))
   (pss_cons (ps_set (i := 9) sc_law_ring.nd rfl (Or.inr rfl) (pe_ix (ix_listK K) (pv 6) (pe_ix (ix_tupK K) (pe_ix (ix_listK K) (pv 1) (pv 7) (fun _ _ => rfl)) pe_int (fun _ _ => rfl)) (fun _ _ => rfl)))
   (pss_one (ps_lc (i := 6) rfl sc_law_ring.nd rfl rfl (sc0 := defScope s_law_ring) (N0 := ["places", "ties", "tree", "tie", "told", "inner", "heads", "other", "one", "two"]) (N' := ["head", "two", "one"]) (o := 1) (fr := [9, 8]) ⟨rfl, by decide +kernel, by decide +kernel, by decide +kernel, rfl, by decide +kernel⟩ (pi_listK K (pv 6)) (own_name (by decide)) (fun _ _ _ _ => (pg_name (i := 0) (show List.Nodup (["head", "two", "one"] : List Str) by decide +kernel) rfl (Or.inl rfl))) (fun _ _ _ _ => pts_nil) (fun _ _ _ _ => (pe_ifExp (pt_cmpR op_eq (pv 0) (pv 1) (nomark _)) (pv 2) (pv 0)))))))
   pss_nil)))
   (pss_one (ps_if (pt_cmpR op_ne (pe_ix (ix_listK K) (pv 6) (pe_ix (ix_tupK K) (pe_ix (ix_listK K) (pv 1) (pv 3) (fun _ _ => rfl)) pe_int (fun _ _ => rfl)) (fun _ _ => rfl)) (pe_ix (ix_listK K) (pv 6) (pe_ix (ix_tupK K) (pe_ix (ix_listK K) (pv 1) (pv 3) (fun _ _ => rfl)) pe_int (fun _ _ => rfl)) (fun _ _ => rfl)) (nomark _))
   (pss_one (ps_expr (pe_bmK K PySem.F.plainAttrs_list PySem.F.slot_list_append PySem.F.type_list_append mt_append (pv 4) (pa_cons (pv 5) pa_nil))))
   pss_nil)))))
   (pss_one (ps_ret (pv 4))))), ?_⟩
  obtain ⟨g1, g2, g3, g4⟩ := id hG
  have hln := hI.len
  have hlx := hP.1
  obtain ⟨pz, hpz⟩ : ∃ p, ps[z.toNat]? = some p := ⟨_, List.getElem?_eq_getElem (by omega)⟩
  have edz : ps.getD z.toNat (0, 0) = pz := getD_of hpz
  obtain ⟨y1, y2, y3, y4⟩ := g4 pz (List.mem_of_getElem? hpz)
  obtain ⟨vz, hvz, tz, rfl, htz⟩ := hP.2 _ pz hpz
  have hatz : atI xs z = some (.ref tz) := atI_of (n := z.toNat) (by omega) hvz
  have t0 : ∀ p : Int × Int, atI ([.int p.1, .int p.2] : List V) 0 = some (.int p.1) := fun _ => rfl
  have t1 : ∀ p : Int × Int, atI ([.int p.1, .int p.2] : List V) 1 = some (.int p.2) := fun _ => rfl
  refine ⟨Nat.zero_le _, fun td htd => ?_⟩
  have s0 := same_at (o := .lst []) htd
  refine ⟨_, rfl, b, rfl, ⟨_, sqT_same s0 hS⟩, for_tup (K := K) (a := b) (xs := IL ns) (fun i σ H2 => ∃ (v5 v6 v7 v8 v9 : Option V), σ = [some (.int n), some (.ref a), some (.ref b), some (.int z), some (.ref td), v5, v6, v7, v8, v9] /\ i <= ns.length /\ Same H H2 /\ H2 td = some (.lst (IL (ringA n ps ns z (ns.take i)))))
   ⟨none, none, none, none, none, rfl, Nat.zero_le _, s0, upd_same⟩ (fun i σ H2 _ ⟨_, _, _, _, _, _, _, e, _⟩ => sqT_same e hS) ?_ ?_⟩
  ·rintro i x σ H2 hi ⟨v5, v6, v7, v8, v9, rfl, hil, s2, htd2⟩
   obtain ⟨y, rfl, hy⟩ := il_get hi
   have hil' : i < ns.length := (List.getElem?_eq_some_iff.mp hy).1
   have hbw : ∀ u ∈ wo ns y, 0 <= u /\ u < (ps.length : Int) := fun u hu => hI.all u (wo_mem.mp hu).1
   refine ⟨_, rfl, n, rfl, fun r hr0 => ⟨r, 0, n, rfl, upd_same, ⟨by decide, by decide, by omega, by omega⟩, by omega, fun m hm => ?_⟩⟩
   have sm : Same H2 (upd (upd H2 r (.rng 0 n)) m (.lst ((rngI 0 n).map V.int))) := same_new (same_at hr0) hm
   have e0 : (rngI 0 n).map V.int = IL (lms n.toNat (endsOf ps (wo (ns.take 0) y))) := by rw [rngI_zero]; rfl
   refine ⟨_, rfl, b, rfl, ⟨_, sqT_same (s2.trans sm) hS⟩, for_tup (K := K) (a := b) (xs := IL ns) (fun j σ H3 => ∃ (m : Addr) (v7 v8 v9 : Option V), σ = [some (.int n), some (.ref a), some (.ref b), some (.int z), some (.ref td), some (.int y), some (.ref m), v7, v8, v9] /\ j <= ns.length /\ Same H2 H3 /\ H3 m = some (.lst (IL (lms n.toNat (endsOf ps (wo (ns.take j) y))))))
    ⟨m, _, _, _, rfl, Nat.zero_le _, sm, by rw [upd_same, e0]⟩ (fun j σ H3 _ ⟨_, _, _, _, _, _, e, _⟩ => sqT_same (s2.trans e) hS) ?_ ?_⟩
   ·rintro j x σ H3 hj ⟨m, v7, v8, v9, rfl, hjl, s3, hm3⟩
    obtain ⟨u, rfl, hu⟩ := il_get hj
    have hjl' : j < ns.length := (List.getElem?_eq_some_iff.mp hu).1
    obtain ⟨u0, u1⟩ := hI.all u (List.mem_of_getElem? hu)
    refine ⟨_, rfl, _, rfl, rfl, _, rfl, ?_⟩
    rw [dec_int]
    refine itn2 (fun he => ?_) (fun he => ?_)
    ·refine ⟨m, _, _, _, rfl, hjl', s3, ?_⟩
     rw [wo_take_succ hu, if_neg (by simpa using he), List.append_nil]
     exact hm3
    obtain ⟨p, hp⟩ : ∃ p, ps[u.toNat]? = some p := ⟨_, List.getElem?_eq_getElem (by omega)⟩
    obtain ⟨vv, hvv, tt, rfl, htt⟩ := hP.2 _ p hp
    obtain ⟨b1, b2, b3, b4⟩ := g4 p (List.mem_of_getElem? hp)
    have hat : atI xs u = some (.ref tt) := atI_of (n := u.toNat) (by omega) hvv
    have s23 := s2.trans s3
    have htt3 := s23 _ _ htt
    have eo : endOf ps u = (p.1.toNat, p.2.toNat) := by unfold endOf; rw [getD_of hp]
    have step : lms n.toNat (endsOf ps (wo (ns.take (j + 1)) y)) = lm (lms n.toNat (endsOf ps (wo (ns.take j) y))) p.1.toNat p.2.toNat := by
     rw [wo_take_succ hu, if_pos he, ends_snoc, eo, lms_snoc]
    have lM : (lms n.toNat (endsOf ps (wo (ns.take j) y))).length = n.toNat := lms_length _ _
    generalize lms n.toNat (endsOf ps (wo (ns.take j) y)) = M at *
    have iA : atI (IL M) p.1 = some (.int (mk M p.1.toNat)) := atI_of (n := p.1.toNat) (by omega) (il_at (mk_some (by omega)))
    have iB : atI (IL M) p.2 = some (.int (mk M p.2.toNat)) := atI_of (n := p.2.toNat) (by omega) (il_at (mk_some (by omega)))
    refine ⟨_, rfl, _, rfl, _, rfl, a, xs, u, .ref tt, rfl, rfl, s23.seq hA, hat, tt, _, 0, .int p.1, rfl, rfl, SqT.of htt3, rfl, m, _, p.1, _, rfl, rfl, SqL.of hm3, iA, ?_⟩
    refine ⟨_, rfl, _, rfl, _, rfl, a, xs, u, .ref tt, rfl, rfl, s23.seq hA, hat, tt, _, 1, .int p.2, rfl, rfl, SqT.of htt3, rfl, m, _, p.2, _, rfl, rfl, SqL.of hm3, iB, ?_⟩
    refine ⟨_, rfl, m, rfl, ⟨_, SqL.of hm3⟩, lc_list (K := K) (a := m) (xs := IL M) (fun w us H4 => H4 = H3 /\ w <= M.length /\ us = IL ((M.take w).map fun k => if k = mk M p.2.toNat then mk M p.1.toNat else k)) ⟨rfl, Nat.zero_le _, rfl⟩ (small60' (by rw [il_length]; omega))
     (fun w us H4 hw ⟨e, hw2, ey⟩ => ⟨e ▸ SqL.of hm3, by rw [ey, il_length, List.length_map, List.length_take]; omega⟩) ?_ ?_⟩
    ·rintro w v us H4 hw ⟨rfl, hwl, rfl⟩ S hSS
     obtain ⟨k, rfl, hk⟩ := il_get hw
     have hwl' := (List.getElem?_eq_some_iff.mp hk).1
     have app : ∀ v : Int, v = (if k = mk M p.2.toNat then mk M p.1.toNat else k) -> IL ((M.take w).map fun k => if k = mk M p.2.toNat then mk M p.1.toNat else k) ++ [.int v] = IL ((M.take (w + 1)).map fun k => if k = mk M p.2.toNat then mk M p.1.toNat else k) := fun v hv => by
      rw [List.take_succ, hk, List.map_append, hv]
      exact (il_snoc _ _).symm
     refine nm ?_
     refine ⟨_, rfl, _, rfl, rfl, _, rfl, ?_⟩
     rw [dec_int]
     refine itd2 (fun hc => ?_) (fun hc => ?_)
     ·exact ⟨_, rfl, hSS _ _ ⟨rfl, hwl', app _ (by rw [if_pos hc])⟩⟩
     ·exact ⟨_, rfl, hSS _ _ ⟨rfl, hwl', app _ (by rw [if_neg hc])⟩⟩
    rintro us H4 ⟨rfl, _, rfl⟩ la hla
    rw [il_length, List.take_length, lm_all, <- step]
    exact ⟨la, _, _, _, rfl, hjl', s3.trans (same_at hla), upd_same⟩
   ·rintro σ H3 ⟨m, v7, v8, v9, rfl, _, s3, hm3⟩
    rw [il_length, List.take_length] at hm3
    have s23 := s2.trans s3
    have htz3 := s23 _ _ htz
    have lM : (lms n.toNat (endsOf ps (wo ns y))).length = n.toNat := lms_length _ _
    have um := unlike_mem (M := lms n.toNat (endsOf ps (wo ns y))) (ps := ps) z0 z1
    rw [edz] at um
    have rs := ringA_succ (n := n) (ps := ps) (ns := ns) (z := z) hy
    generalize lms n.toNat (endsOf ps (wo ns y)) = M at *
    have iA : atI (IL M) pz.1 = some (.int (mk M pz.1.toNat)) := atI_of (n := pz.1.toNat) (by omega) (il_at (mk_some (by omega)))
    have iB : atI (IL M) pz.2 = some (.int (mk M pz.2.toNat)) := atI_of (n := pz.2.toNat) (by omega) (il_at (mk_some (by omega)))
    refine ⟨_, rfl, _, rfl, _, rfl, a, xs, z, .ref tz, rfl, rfl, s23.seq hA, hatz, tz, _, 0, .int pz.1, rfl, rfl, SqT.of htz3, rfl, m, _, pz.1, _, rfl, rfl, SqL.of hm3, iA, ?_⟩
    refine ⟨_, rfl, _, rfl, _, rfl, a, xs, z, .ref tz, rfl, rfl, s23.seq hA, hatz, tz, _, 1, .int pz.2, rfl, rfl, SqT.of htz3, rfl, m, _, pz.2, _, rfl, rfl, SqL.of hm3, iB, rfl, _, rfl, ?_⟩
    rw [dec_int]
    have htd3 := s3 _ _ htd2
    refine itn2 (fun he => ?_) (fun he => ?_)
    ·refine ⟨_, _, _, _, _, rfl, hil', s23, ?_⟩
     rw [rs, if_neg (fun h => um.mp h he), List.append_nil]
     exact htd3
    ·have rl : (ringA n ps ns z (ns.take i)).length <= 30 := Nat.le_trans (ringA_len ..) (by rw [List.length_take]; omega)
     refine ⟨_, rfl, .inl ⟨rfl, _, SqL.of htd3⟩, _, rfl, td, _, _, rfl, rfl, htd3, small60' (by rw [il_length]; omega), ?_⟩
     refine ⟨_, _, _, _, _, rfl, hil', same_upd htd s23, ?_⟩
     rw [upd_same, rs, if_pos (um.mpr he), <- il_snoc]
  ·rintro σ H2 ⟨v5, v6, v7, v8, v9, rfl, _, s2, htd2⟩
   rw [il_length, List.take_length] at htd2
   exact ⟨_, rfl, q td H2 s2 htd htd2⟩
end
set_option maxHeartbeats 4000000
def RkV (H : Hp) (v : V) (x : Int × List Int) : Prop := ∃ a q, v = .ref a /\ H a = some (.tup [.int x.1, .ref q]) /\ H q = some (.tup (IL x.2))
theorem RkV.same {H H' : Hp} {v : V} {x : Int × List Int} (s : Same H H') (h : RkV H v x) : RkV H' v x := by
 obtain ⟨a, q, e, h1, h2⟩ := h
 exact ⟨a, q, e, s _ _ h1, s _ _ h2⟩
theorem RkV.put {H : Hp} {v : V} {x : Int × List Int} {r : Addr} {zs : List V} {o : HO} (hr : H r = some (.lst zs)) (h : RkV H v x) : RkV (upd H r o) v x := by
 obtain ⟨a, q, e, h1, h2⟩ := h
 exact ⟨a, q, e, by rw [upd_ne (ne_of h1 hr (by simp))]; exact h1, by rw [upd_ne (ne_of h2 hr (by simp))]; exact h2⟩
def sp_law_beside (K : PySem.W.Frag) : Sp := fun vs H Q _ => ∃ (n : Int) (a b pA : Addr) (xs : List V) (ps : List (Int × Int)) (ls T : List Int), vs = [.int n, .ref a, .ref b, .ref pA] /\ SqL K H a xs /\ PairsV H xs ps /\ GoodW n ps /\ SqL K H b (IL ls) /\ ls.length = ps.length /\ RkV H (.ref pA) (sumL ls T, T) /\ IsTree n ps T /\
 ∀ (r : Addr) (ys : List V) (X : List (Int × List Int)) (H' : Hp), Same H H' -> H r = none -> H' r = some (.lst ys) -> Bears (RkV H') ys X -> (∀ x ∈ X, IsTree n ps x.2 /\ x.1 = sumL ls x.2) -> X.length <= 1000 -> Q (.ref r) H'
section
variable {P : Program} {w : World} {K : PySem.W.Frag} {mg : Str -> Option Value} {base : Heap} {t : Adr}
theorem sc_law_beside : FnScope ["places", "ties", "lengths", "pair", "told", "tie", "out", "tree"] ["places", "ties", "lengths", "pair"] (defScope s_law_beside) := ⟨rfl, rfl, rfl, by decide +kernel, rfl, by decide +kernel, by decide +kernel⟩
theorem ok_law_beside (T : Txt K mg t) : FnOk P w K mg base CX0 2 t.a_law_beside t.d_law_beside ["places", "ties", "lengths", "pair"] (sp_law_beside K) := by
 refine T.f_law_beside.ok sc_law_beside (fun vs H Q E h => ?_) (fun cdv A outer s H vs Q E hr h => ?_)
 ·obtain ⟨n, a, b, pA, xs, ps, ls, U, rfl, _⟩ := h
  rfl
 ·obtain ⟨n, a, b, pA, xs, ps, ls, U, rfl, hA, hP, hG, hB, hll, ⟨_, tr, e0, p1, p2⟩, hT, q⟩ := h
  refine ⟨_, (pss_cons (ps_set (i := 4) sc_law_beside.nd rfl (Or.inl rfl) (pe_lst pa_nil))
   (pss_cons (ps_for PassesOwn.never rfl (pi_range1 rfl T.n_range (pa_cons (pe_callB (call_lenK K) (by rfl) T.n_len Boot.«len» (pa_cons (pv 1) pa_nil)) pa_nil)) (pg_name (i := 5) sc_law_beside.nd rfl (Or.inl rfl))
   (pss_one (ps_if (pt_cmpR (op_notInK K) (pv 5) (pe_ix (ix_tupK K) (pv 3) pe_int (fun _ _ => rfl)) rfl)
   (pss_one (ps_for PassesOwn.never rfl (pi_listK K (pe_call (ok_law_ring T) (hr.mono (by decide)) rfl T.m_law_ring T.f_law_ring.kp T.b_law_ring .nil pass0 (pa_cons (pv 0) (pa_cons (pv 1) (pa_cons (pe_ix (ix_tupK K) (pv 3) pe_int (fun _ _ => rfl)) (pa_cons (pv 5) pa_nil)))))) (pg_name (i := 6) sc_law_beside.nd rfl (Or.inr rfl))
   (pss_cons (ps_set (i := 7) sc_law_beside.nd rfl (Or.inl rfl) (pe_callTy (call_tupleK K) (by rfl) T.n_tuple Boot.«tuple» (pa_cons (pe_callB (call_sortedK K) (by rfl) T.n_sorted Boot.«sorted» (pa_cons (pe_op op_cat (pe_lc rfl (sc0 := defScope s_law_beside) (N0 := ["places", "ties", "lengths", "pair", "told", "tie", "out", "tree"]) (N' := ["other", "out"]) (o := 1) (fr := [6]) ⟨rfl, by decide +kernel, by decide +kernel, by decide +kernel, rfl, by decide +kernel⟩ (pi_tupK K (pe_ix (ix_tupK K) (pv 3) pe_int (fun _ _ => rfl))) (own_name (by decide)) (fun _ _ _ _ => (pg_name (i := 0) (show List.Nodup (["other", "out"] : List Str) by decide +kernel) rfl (Or.inl rfl))) (fun _ _ _ _ => (pts_one (pt_cmpR op_ne (pv 0) (pv 1) (nomark _)))) (fun _ _ _ _ => (pv 0))) (pe_lst (pa_cons (pv 5) pa_nil))) pa_nil)) pa_nil)))
   (pss_one (ps_expr (pe_bmK K PySem.F.plainAttrs_list PySem.F.slot_list_append PySem.F.type_list_append mt_append (pv 4) (pa_cons (pe_tup (pa_cons (pe_op op_sub (pe_op op_add (pe_ix (ix_tupK K) (pv 3) pe_int (fun _ _ => rfl)) (pe_ix (ix_listK K) (pv 2) (pv 5) (fun _ _ => rfl))) (pe_ix (ix_listK K) (pv 2) (pv 6) (fun _ _ => rfl))) (pa_cons (pv 7) pa_nil))) pa_nil)))))))
   pss_nil)))
   (pss_one (ps_ret (pv 4))))), ?_⟩
  cases e0
  have one : 1 <= sizeLine := by decide
  have two : 2 <= sizeLine := by decide
  have z1 : 100000 <= sizeLine := by decide
  have hxl := hP.1
  have hps := hG.2.2.1
  have hTl : (U.length : Int) = n - 1 := hT.2.1
  have hG2 := hG.2.1
  refine ⟨Nat.zero_le _, fun r hr => ?_⟩
  have u0 := same_at (o := .lst []) hr
  refine nm ?_
  dsimp only
  refine ⟨_, rfl, a, _, rfl, .inl (u0.seq hA), _, rfl, by omega, by omega, for_range (lo := 0) (n := (xs.length : Int).toNat) (fun i σ H2 => ∃ (v5 v6 v7 : Option V) (ys : List V) (X : List (Int × List Int)), σ = [some (.int n), some (.ref a), some (.ref b), some (.ref pA), some (.ref r), v5, v6, v7] /\ Same H H2 /\ H2 r = some (.lst ys) /\ Bears (RkV H2) ys X /\ (∀ x ∈ X, IsTree n ps x.2 /\ x.1 = sumL ls x.2) /\ X.length <= 14 * i) ⟨none, none, none, [], [], rfl, u0, upd_same, ⟨rfl, fun i a h => by cases h⟩, fun x hx => (by cases hx), Nat.zero_le _⟩ ?_ ?_⟩
  rotate_left
  ·rintro σ H2 ⟨v5, v6, v7, ys, X, rfl, s2, hr2, hX, hok, hXl⟩
   exact ⟨_, rfl, q r ys X H2 s2 hr hr2 hX hok (by omega)⟩
  rintro i σ H2 hi ⟨v5, v6, v7, ys, X, rfl, s2, hr2, hX, hok, hXl⟩
  refine nm ?_
  dsimp only
  have p12 := s2 _ _ p1
  refine ⟨_, rfl, _, rfl, pA, _, 1, .ref tr, rfl, rfl, SqT.of p12, rfl, tr, _, rfl, .inr (SqT.of (s2 _ _ p2)), rfl, flat_ints U, _, rfl, ?_⟩
  rw [inV_ints]
  refine itn2 (fun hc => ?_) (fun hc => ?_)
  ·show (_ : Prop)
   exact ⟨_, _, _, ys, X, rfl, s2, hr2, hX, hok, by omega⟩
  have hz0 : (0 : Int) <= 0 + (i : Int) := by omega
  have hz1 : 0 + (i : Int) < (ps.length : Int) := by omega
  refine ⟨_, rfl, _, rfl, _, rfl, pA, _, 1, .ref tr, rfl, rfl, SqT.of p12, rfl, _, rfl, n, a, tr, xs, ps, U, 0 + (i : Int), rfl, s2.seq hA, hP.same s2, hG, SqT.of (s2 _ _ p2), hT.1, hz0, hz1, fun rg H3 s3 hrg0 hrg => ?_⟩
  have s23 := s2.trans s3
  have rl := ringA_len n ps U (0 + (i : Int)) U
  refine ⟨rg, rfl, ⟨_, SqL.of hrg⟩, for_list (K := K) (a := rg) (xs := IL (ringA n ps U (0 + (i : Int)) U)) (fun j σ H4 => ∃ (v6 v7 : Option V) (ys : List V) (X : List (Int × List Int)), σ = [some (.int n), some (.ref a), some (.ref b), some (.ref pA), some (.ref r), some (.int (0 + (i : Int))), v6, v7] /\ Same H H4 /\ H4 rg = some (.lst (IL (ringA n ps U (0 + (i : Int)) U))) /\ H4 r = some (.lst ys) /\ Bears (RkV H4) ys X /\ (∀ x ∈ X, IsTree n ps x.2 /\ x.1 = sumL ls x.2) /\ X.length <= 14 * i + j) ⟨v6, v7, ys, X, rfl, s23, hrg, s3 _ _ hr2, hX.imp fun _ _ h => h.same s3, hok, by omega⟩ (fun j σ H4 _ ⟨_, _, _, _, _, _, h, _⟩ => SqL.of h) ?_ ?_⟩
  rotate_left
  ·rintro σ H4 ⟨v6, v7, ys, X, rfl, s4, _, hr4, hX, hok, hXl⟩
   rw [il_length] at hXl
   exact ⟨_, _, _, ys, X, rfl, s4, hr4, hX, hok, by omega⟩
  rintro j v σ H4 hj ⟨w6, w7, ys4, X4, rfl, s4, hrg4, hr4, hX4, hok4, hXl4⟩
  obtain ⟨o, rfl, ho⟩ := il_get hj
  have hex : exg n ps U o (0 + (i : Int)) := by
   obtain ⟨h1, h2⟩ := ringA_mem.mp (List.mem_of_getElem? ho)
   exact ⟨h1, fun e => hc (e ▸ h1), h2⟩
  refine nm ?_
  dsimp only
  have p14 := s4 _ _ p1
  have p24 := s4 _ _ p2
  have hoU := hex.1
  obtain ⟨o0, o1⟩ := hT.1.all o hoU
  have hj' : j < (ringA n ps U (0 + (i : Int)) U).length := (List.getElem?_eq_some_iff.mp ho).1
  refine ⟨_, rfl, pA, _, 1, .ref tr, rfl, rfl, SqT.of p14, rfl, tr, rfl, ⟨_, SqT.of p24⟩, lc_tup (K := K) (a := tr) (xs := IL U) (fun k ws H5 => H5 = H4 /\ k <= U.length /\ ws = IL (wo (U.take k) o)) ⟨rfl, Nat.zero_le _, rfl⟩ (small60' (by rw [il_length]; omega)) (fun k ws H5 hk ⟨e, hk2, ew⟩ => ⟨e ▸ SqT.of p24, by rw [ew, il_length]; exact Nat.le_trans (wo_len _ _) (by rw [List.length_take]; omega)⟩) ?_ ?_⟩
  ·rintro k v ws H5 hk ⟨rfl, hkl, rfl⟩ S hSS
   obtain ⟨y, rfl, hy⟩ := il_get hk
   have hk' : k < U.length := (List.getElem?_eq_some_iff.mp hy).1
   refine nm ?_
   refine ⟨_, rfl, _, rfl, rfl, _, rfl, ?_⟩
   rw [dec_int]
   refine itn2 (fun he => ?_) (fun he => ?_)
   ·refine hSS _ _ ⟨rfl, hk', ?_⟩
    rw [wo_take_succ hy, if_neg (by simpa using he), List.append_nil]
   ·refine ⟨_, rfl, hSS _ _ ⟨rfl, hk', ?_⟩⟩
    rw [wo_take_succ hy, if_pos he, il_snoc]
  rintro ws H5 ⟨rfl, _, rfl⟩ d1 hd1
  rw [il_length, List.take_length]
  have w1 := same_at (o := .lst (IL (wo U o))) hd1
  have wl := wo_len U o
  refine ⟨_, rfl, one, fun d2 hd2 => ?_⟩
  have w2 := same_at (o := .lst (IL [0 + (i : Int)])) hd2
  refine ⟨d1, d2, _, IL [0 + (i : Int)], rfl, rfl, w2 _ _ upd_same, upd_same, (by rw [il_length]; show _ + 1 <= _; omega), fun d3 hd3 => ?_⟩
  have ea : IL (wo U o) ++ IL [0 + (i : Int)] = IL (wo U o ++ [0 + (i : Int)]) := (List.map_append ..).symm
  rw [ea]
  have w3 := same_at (o := .lst (IL (wo U o ++ [0 + (i : Int)]))) hd3
  refine ⟨d3, wo U o ++ [0 + (i : Int)], rfl, SqL.of upd_same, by rw [List.length_append, List.length_singleton]; omega, fun ms hp hs d4 hd4 => ?_⟩
  have w4 := same_at (o := .lst (IL ms)) hd4
  refine ⟨d4, _, rfl, .inl ⟨SqL.of upd_same, fun d5 hd5 => ?_⟩⟩
  have w5 := same_at (o := .tup (IL ms)) hd5
  have ww := (((w1.trans w2).trans w3).trans w4).trans w5
  have s5 := s4.trans ww
  have tM := exg_tree hG hT hex hp hs
  have sM := sumL_exch (ls := ls) hT.1.nodup hoU hp
  obtain ⟨y1, hy1⟩ : ∃ y, ls[(0 + (i : Int)).toNat]? = some y := ⟨_, List.getElem?_eq_getElem (by omega)⟩
  obtain ⟨y2, hy2⟩ : ∃ y, ls[o.toNat]? = some y := ⟨_, List.getElem?_eq_getElem (by omega)⟩
  have e1 : lnz ls (0 + (i : Int)) = y1 := getD_of hy1
  have e2 : lnz ls o = y2 := getD_of hy2
  refine nm ?_
  dsimp only
  have hr5 := ww _ _ hr4
  refine ⟨_, rfl, .inl ⟨rfl, _, SqL.of hr5⟩, _, rfl, pA, _, 0, .int (sumL ls U), rfl, rfl, SqT.of (s5 _ _ p1), rfl, _, rfl, _, rfl, b, _, _, .int y1, rfl, rfl, s5.seq hB, atI_of (n := (0 + (i : Int)).toNat) (by omega) (il_at hy1), _, _, rfl, rfl, _, rfl, _, rfl, b, _, _, .int y2, rfl, rfl, s5.seq hB, atI_of (n := o.toNat) (by omega) (il_at hy2), _, _, rfl, rfl, _, rfl, two, fun d6 hd6 => ?_⟩
  have w6 := same_at (o := .tup [.int (sumL ls U + y1 - y2), .ref d5]) hd6
  have hr6 := w6 _ _ hr5
  have hyl : ys4.length = X4.length := hX4.1
  refine ⟨r, ys4, .ref d6, rfl, rfl, hr6, by omega, ?_⟩
  refine ⟨_, _, ys4 ++ [.ref d6], X4 ++ [(sumL ls U + y1 - y2, ms)], rfl, same_upd hr (s5.trans w6), ?_, upd_same, ?_, fun x hx => ?_, by rw [List.length_append, List.length_singleton]; omega⟩
  ·have nr : rg ≠ r := fun e => by rw [e, hr2] at hrg0; cases hrg0
   rw [upd_ne nr]
   exact (ww.trans w6) _ _ hrg4
  ·exact ((hX4.imp fun _ _ h => (h.same ww).same w6).snoc ⟨d6, d5, rfl, upd_same, w6 _ _ upd_same⟩).imp fun _ _ h => RkV.put hr6 h
  ·rcases List.mem_append.mp hx with h | h
   ·exact hok4 x h
   ·rw [List.mem_singleton.mp h]
    exact ⟨tM, by show sumL ls U + y1 - y2 = sumL ls ms; omega⟩
end
set_option maxHeartbeats 4000000
def sp_law (K : PySem.W.Frag) (Pt : Addr) : Sp := fun vs H Q _ => ∃ (a : Addr) (ns : List Int), vs = [.ref a] /\ SqL K H a (IL ns) /\ ns.length <= 63 /\ TabR H Pt /\ ∀ H', Q (.bl true) H'
theorem tst66 {K : PySem.W.Frag} {s0 s1 s2 s3 s4 s5 s9 : Option V} {H : Hp} {Q : Bool -> Hp -> Prop} {r2 tp : Addr} {fs : List V} {i : Nat} {y : Int × List Int} (hL : SqL K H r2 fs) (hy : PrT K H (.ref tp) y) (hp : ∀ j, i = j + 1 -> ∃ v x, fs[j]? = some v /\ PrT K H v x /\ HT.ltP x y = true) (q : Q false H) : tAnd (tTest (tOp (rI0 fun i j => V.bl (decide (j < i))) (tVar 7) (tC (V.int 0)))) (tNot (tTest (tOp (rLtP K) (tOp (rIxL K) (tVar 6) (tOp (rI0 fun i j => V.int (i - j)) (tVar 7) (tC (V.int 1)))) (tVar 8)))) [s0, s1, s2, s3, s4, s5, some (.ref r2), some (.int i), some (.ref tp), s9] H Q := by
 rcases i with _ | j
 ·refine ⟨_, rfl, _, _, rfl, rfl, _, rfl, ?_⟩
  exact q
 ·obtain ⟨v, x, hv, hx, hlt⟩ := hp j rfl
  refine ⟨_, rfl, _, _, rfl, rfl, _, rfl, ?_⟩
  rw [show decide ((0 : Int) < ((j + 1 : Nat) : Int)) = true from decide_eq_true (by omega)]
  refine iteT ?_
  refine ⟨_, rfl, _, rfl, _, _, rfl, rfl, r2, _, _, v, rfl, rfl, hL, atI_of (n := j) (by omega) hv, _, rfl, x, y, hx, hy, _, rfl, ?_⟩
  rw [hlt]
  exact q
theorem eqd_rk {K : PySem.W.Frag} {H : Hp} {v u : V} {x y : Int × List Int} (h1 : RkV H v x) (h2 : RkV H u y) : EqD K H 2 v u (decide (x = y)) := by
 obtain ⟨tp, tr, rfl, a1, a2⟩ := h1
 obtain ⟨tp', tr', rfl, b1, b2⟩ := h2
 have e : ((List.range (min [V.int x.1, .ref tr].length [V.int y.1, .ref tr'].length)).all (fun i => match i with
   | 0 => decide (x.1 = y.1)
   | _ => decide (x.2 = y.2)) && [V.int x.1, .ref tr].length == [V.int y.1, .ref tr'].length) = decide (x = y) := by
  show (decide (x.1 = y.1) && (decide (x.2 = y.2) && true) && true) = decide (x = y)
  rw [Bool.eq_iff_iff]
  simp only [Bool.and_true, Bool.and_eq_true, decide_eq_true_eq, Prod.ext_iff]
 rw [<- e]
 refine EqD.tups (SqT.of a1) (SqT.of b1) fun i p q hx hy => ?_
 match i, hx, hy with
 | 0, hx, hy =>
  obtain rfl := Option.some.inj hx
  obtain rfl := Option.some.inj hy
  exact eqd_int rfl rfl
 | 1, hx, hy =>
  obtain rfl := Option.some.inj hx
  obtain rfl := Option.some.inj hy
  exact eqd_tints (SqT.of a2) (SqT.of b2)
 | i + 2, hx, _ => cases hx
open Classical in
theorem rk_any {K : PySem.W.Frag} {H : Hp} {x : V} {xs : List V} {M : List (Int × List Int)} {y : Int × List Int} (hx : RkV H x y) (hP : Bears (RkV H) xs M) : ∃ e : Addr -> Bool, (∀ v ∈ xs, ∃ a, v = .ref a /\ EqD K H 2 v x (e a)) /\ xs.any (refB e) = decide (y ∈ M) := by
 have key : ∀ {v : V} {w : Int × List Int}, RkV H v w -> (RkV H v y ↔ w = y) := by
  rintro v ⟨w1, w2⟩ ⟨t, q, rfl, h1, h2⟩
  constructor
  ·rintro ⟨t', q', e, h3, h4⟩
   cases e
   rw [h1] at h3
   injection h3 with h3
   injection h3 with h3
   injection h3 with h5 h6
   injection h5 with h5
   injection h6 with h6
   injection h6 with h6
   subst h6
   rw [h2] at h4
   injection h4 with h4
   injection h4 with h4
   exact Prod.ext h5 ((List.map_inj_right (fun _ _ h => by injection h)).mp h4)
  ·rintro rfl
   exact ⟨_, _, rfl, h1, h2⟩
 refine ⟨fun a => decide (RkV H (.ref a) y), fun v hv => ?_, ?_⟩
 ·obtain ⟨i, hi⟩ := List.getElem?_of_mem hv
  obtain ⟨w, hw, hr⟩ := hP.at hi
  have k := key hr
  obtain ⟨t, q, rfl, h1, h2⟩ := id hr
  refine ⟨t, rfl, ?_⟩
  show EqD K H 2 (V.ref t) x (decide (RkV H (V.ref t) y))
  rw [show decide (RkV H (.ref t) y) = decide (w = y) by rw [decide_eq_decide]; exact k]
  exact eqd_rk hr hx
 ·rw [Bool.eq_iff_iff, List.any_eq_true, decide_eq_true_iff]
  constructor
  ·rintro ⟨v, hv, hb⟩
   obtain ⟨i, hi⟩ := List.getElem?_of_mem hv
   obtain ⟨w, hw, hr⟩ := hP.at hi
   have k := key hr
   obtain ⟨t, q, rfl, h1, h2⟩ := id hr
   have hb : decide (RkV H (.ref t) y) = true := hb
   rw [decide_eq_true_iff, k] at hb
   rw [<- hb]
   exact List.mem_of_getElem? hw
  ·intro hz
   obtain ⟨i, hi⟩ := List.getElem?_of_mem hz
   obtain ⟨v, hv, hr⟩ := hP.2 i y hi
   obtain ⟨t, q, rfl, h1, h2⟩ := id hr
   exact ⟨_, List.mem_of_getElem? hv, decide_eq_true hr⟩
theorem pv_rk {H : Hp} {ls : List Int} {ys : List V} {L : List (List Int)} (h : Bears (PV H ls) ys L) : Bears (RkV H) ys (L.map fun T => (sumL ls T, T)) := by
 refine ⟨by rw [List.length_map]; exact h.1, fun i x e => ?_⟩
 rw [List.getElem?_map] at e
 obtain ⟨T, hT, rfl⟩ := Option.map_eq_some_iff.mp e
 obtain ⟨v, hv, r⟩ := h.2 i T hT
 exact ⟨v, hv, r⟩
theorem RkV.prt {K : PySem.W.Frag} {H : Hp} {v : V} {x : Int × List Int} (h : RkV H v x) : PrT K H v x := by
 obtain ⟨a, q, e, h1, h2⟩ := h
 exact ⟨a, q, e, SqT.of h1, SqT.of h2⟩
theorem tst66b {K : PySem.W.Frag} {s0 s1 s2 s3 s4 s5 : Option V} {H : Hp} {Q : Bool -> Hp -> Prop} {r2 tp : Addr} {fs : List V} {M : List (Int × List Int)} {i : Nat} {v : V} {y z w : Int × List Int} {lv : V} (hL : SqL K H r2 fs) (hM : Bears (RkV H) fs M) (hv : RkV H v y) (hz : RkV H (.ref tp) z) (hl : atI fs (-1) = some lv) (hw : RkV H lv w) (c1 : HT.ltP w y = true \/ y ∈ M) (c2 : i = 0 -> HT.ltP y z = false) (q : Q false H) : tOr
    (tAnd (tTest (tOp (rLeP K) (tVar 9) (tOp (rIxL K) (tVar 6) (tUn (rU fun i => V.int (-i)) (tC (V.int 1))))))
     (tTest (tOp (rNotInR K) (tVar 9) (tVar 6))))
    (tAnd (tTest (tOp rEq (tVar 7) (tC (V.int 0)))) (tTest (tOp (rLtP K) (tVar 9) (tVar 8)))) [s0, s1, s2, s3, s4, s5, some (.ref r2), some (.int i), some (.ref tp), some v] H Q := by
 have B : tAnd (tTest (tOp rEq (tVar 7) (tC (V.int 0)))) (tTest (tOp (rLtP K) (tVar 9) (tVar 8))) [s0, s1, s2, s3, s4, s5, some (.ref r2), some (.int i), some (.ref tp), some v] H Q := by
  refine ⟨_, rfl, rfl, _, rfl, ?_⟩
  rw [dec_int]
  rcases Nat.eq_zero_or_pos i with h | h
  ·rw [decide_eq_true (by omega)]
   refine iteT ?_
   refine ⟨_, rfl, _, rfl, y, z, hv.prt, hz.prt, _, rfl, ?_⟩
   rw [c2 h]
   exact q
  ·rw [decide_eq_false (by omega)]
   exact q
 refine ⟨_, rfl, _, rfl, _, rfl, r2, _, _, lv, rfl, rfl, hL, hl, y, w, hv.prt, hw.prt, _, rfl, ?_⟩
 rcases c1 with c | c
 ·rw [c]
  exact B
 ·cases HT.ltP w y
  ·refine iteT ?_
   obtain ⟨e, h1, h2⟩ := rk_any (K := K) hv hM
   refine ⟨_, rfl, _, rfl, 2, r2, fs, e, rfl, hL, by decide, h1, _, rfl, ?_⟩
   rw [h2, decide_eq_true c]
   exact B
  ·exact B
section
variable {P : Program} {w : World} {K : PySem.W.Frag} {mg : Str -> Option Value} {base : Heap} {t : Adr}
theorem sc_law : FnScope ["script", "places", "ties", "web", "lengths", "most", "found", "k", "pair", "other"] ["script"] (defScope s_law) := ⟨rfl, rfl, rfl, by decide +kernel, rfl, by decide +kernel, by decide +kernel⟩
theorem ok_law {Pt : Addr} (T : Txt K mg t) (hB : LamAt K mg base t.d_ranked Pt) : FnOk P w K mg base CX0 12 t.a_law t.d_law ["script"] (sp_law K Pt) := by
 refine T.f_law.ok sc_law (fun vs H Q E h => ?_) (fun cdv A outer s H vs Q E hr h => ?_)
 ·obtain ⟨a, ns, rfl, _⟩ := h
  rfl
 ·obtain ⟨a, ns, rfl, hS, hn63, hTb, k⟩ := h
  refine ⟨_, (pss_cons (ps_asg (pe_call (ok_law_web T) (hr.mono (by decide)) rfl T.m_law_web T.f_law_web.kp T.b_law_web .nil pass0 (pa_cons (pv 0) (pa_cons pe_int (pa_cons pe_int pa_nil)))) (pg_tupK (n := 2) K rfl (pgs_cons (pg_name (i := 1) sc_law.nd rfl (Or.inl rfl)) (pgs_cons (pg_name (i := 2) sc_law.nd rfl (Or.inl rfl)) pgs_nil))))
   (pss_cons (ps_set (i := 3) sc_law.nd rfl (Or.inl rfl) (pe_make T.k_Web (ok_Web___init T) (hr.mono (by decide)) rfl T.c_Web T.b_Web___init .nil pass0 (pa_cons (pv 1) (pa_cons (pe_callTy (call_listK K) (by rfl) T.n_list Boot.«list» (pa_cons (pv 2) pa_nil)) pa_nil))))
   (pss_cons (ps_set (i := 4) sc_law.nd rfl (Or.inr rfl) (pe_call (ok_law_lengths T) (hr.mono (by decide)) rfl T.m_law_lengths T.f_law_lengths.kp T.b_law_lengths .nil pass0 (pa_cons (pv 0) (pa_cons (pe_callB (call_lenK K) (by rfl) T.n_len Boot.«len» (pa_cons (pv 2) pa_nil)) pa_nil))))
   (pss_cons (ps_set (i := 5) sc_law.nd rfl (Or.inl rfl) (pe_op op_add pe_int (pe_op op_mod (pe_call (ok_law_at T) (hr.mono (by decide)) rfl T.m_law_at T.f_law_at.kp T.b_law_at .nil pass0 (pa_cons (pv 0) (pa_cons pe_int pa_nil))) pe_int)))
   (pss_cons (ps_set (i := 6) sc_law.nd rfl (Or.inl rfl) (pe_call (ok_ranked T hB) (hr.mono (by decide)) rfl T.m_ranked T.f_ranked.kp T.b_ranked .nil pass0 (pa_cons (pv 3) (pa_cons (pv 4) (pa_cons (pv 5) pa_nil)))))
   (pss_cons (ps_if (PW.pt (pw_or (pt_not (pt_val (pe_callB (call_isiK K (T := "list")) (by rfl) T.n_isinstance Boot.«isinstance» (pa_cons (pv 6) (pa_cons (pe_bltn (v := V.ty "list") rfl T.n_list Boot.«list» rfl) pa_nil))))) (pw_or1 (pt_cmpR op_ne (pe_callB (call_lenK K) (by rfl) T.n_len Boot.«len» (pa_cons (pv 6) pa_nil)) (pe_callB (call_min2 rfl) (by rfl) T.n_min Boot.«min» (pa_cons (pv 5) (pa_cons (pe_call (ok_tree_count T) (hr.mono (by decide)) rfl T.m_tree_count T.f_tree_count.kp T.b_tree_count .nil pass0 (pa_cons (pv 3) pa_nil)) pa_nil))) (nomark _)))))
   (pss_one (ps_ret pe_bl))
   pss_nil)
   (pss_cons (ps_for PassesOwn.never rfl (pi_enumK K rfl T.n_enumerate (pa_cons (pv 6) pa_nil)) (pg_tupK (n := 2) K rfl (pgs_cons (pg_name (i := 7) sc_law.nd rfl (Or.inl rfl)) (pgs_cons (pg_name (i := 8) sc_law.nd rfl (Or.inl rfl)) pgs_nil)))
   (pss_cons (ps_if (PW.pt (pw_or (pt_not (pt_val (pe_callB (call_isiK K (T := "tuple")) (by rfl) T.n_isinstance Boot.«isinstance» (pa_cons (pv 8) (pa_cons (pe_bltn (v := V.ty "tuple") rfl T.n_tuple Boot.«tuple» rfl) pa_nil))))) (pw_or (pt_cmpR op_ne (pe_callB (call_lenK K) (by rfl) T.n_len Boot.«len» (pa_cons (pv 8) pa_nil)) pe_int (nomark _)) (pw_or1 (pt_not (pt_val (pe_call (ok_law_is_tree T) (hr.mono (by decide)) rfl T.m_law_is_tree T.f_law_is_tree.kp T.b_law_is_tree .nil pass0 (pa_cons (pv 1) (pa_cons (pv 2) (pa_cons (pe_ix (ix_tupK K) (pv 8) pe_int (fun _ _ => rfl)) pa_nil))))))))))
   (pss_one (ps_ret pe_bl))
   pss_nil)
   (pss_cons (ps_if (PW.pt (pw_or (pt_cmpR op_ne (pe_ix (ix_tupK K) (pv 8) pe_int (fun _ _ => rfl)) (pe_callB (call_sumK K rfl) (by rfl) T.n_sum Boot.«sum» (pa_cons (pe_lc rfl (sc0 := defScope s_law) (N0 := ["script", "places", "ties", "web", "lengths", "most", "found", "k", "pair", "other"]) (N' := ["tie", "lengths"]) (o := 1) (fr := [4]) ⟨rfl, by decide +kernel, by decide +kernel, by decide +kernel, rfl, by decide +kernel⟩ (pi_tupK K (pe_ix (ix_tupK K) (pv 8) pe_int (fun _ _ => rfl))) (own_name (by decide)) (fun _ _ _ _ => (pg_name (i := 0) (show List.Nodup (["tie", "lengths"] : List Str) by decide +kernel) rfl (Or.inl rfl))) (fun _ _ _ _ => pts_nil) (fun _ _ _ _ => (pe_ix (ix_listK K) (pv 1) (pv 0) (fun _ _ => rfl)))) pa_nil)) (nomark _)) (pw_or1 (PW.pt (pw_and (pt_cmpR op_gt (pv 7) pe_int (nomark _)) (pw_and1 (pt_not (pt_cmpR (op_ltPK K (hu8 hr)) (pe_ix (ix_listK K) (pv 6) (pe_op op_sub (pv 7) pe_int) (fun _ _ => rfl)) (pv 8) (nomark _)))))))))
   (pss_one (ps_ret pe_bl))
   pss_nil)
   (pss_one (ps_for PassesOwn.never rfl (pi_listK K (pe_call (ok_law_beside T) (hr.mono (by decide)) rfl T.m_law_beside T.f_law_beside.kp T.b_law_beside .nil pass0 (pa_cons (pv 1) (pa_cons (pv 2) (pa_cons (pv 4) (pa_cons (pv 8) pa_nil)))))) (pg_name (i := 9) sc_law.nd rfl (Or.inl rfl))
   (pss_one (ps_if (PW.pt (pw_or (PW.pt (pw_and (pt_cmpR (op_lePK K (hu8 hr)) (pv 9) (pe_ix (ix_listK K) (pv 6) (pe_un un_neg pe_int) (fun _ _ => rfl)) (nomark _)) (pw_and1 (pt_cmpR (op_notInR K (hu8 hr)) (pv 9) (pv 6) rfl)))) (pw_or1 (PW.pt (pw_and (pt_cmpR op_eq (pv 7) pe_int (nomark _)) (pw_and1 (pt_cmpR (op_ltPK K (hu8 hr)) (pv 9) (pv 8) (nomark _))))))))
   (pss_one (ps_ret pe_bl))
   pss_nil)))))))
   (pss_one (ps_ret pe_bl))))))))), ?_⟩
  have two : 2 <= sizeLine := by decide
  refine ⟨_, rfl, a, ns, 10, 20, rfl, hS, hn63, by decide, by decide, by decide, by decide, fun r l n xs ps H1 s1 hr1 hl0 hl1 hP hG hnm hcc => ?_⟩
  refine ⟨r, _, rfl, SqT.of hr1, rfl, _, _, rfl, _, _, rfl, rfl, ?_⟩
  have hlx := hP.1
  obtain ⟨g1, g2, g3, g4⟩ := id hG
  refine ⟨_, rfl, _, rfl, l, _, rfl, .inl (SqL.of hl1), fun lc hlc => ?_⟩
  have t0 := same_at (o := .lst xs) hlc
  have hlc2 : (upd H1 lc (.lst xs)) lc = some (.lst xs) := upd_same
  generalize upd H1 lc (.lst xs) = H2 at *
  intro x dx nx ndx nex
  have t1 : Same H2 (upd (upd H2 dx (.own x)) x (.ins t.A_Web dx [])) := same_new (same_at ndx) (by rw [upd_ne (Ne.symm nex)]; exact nx)
  refine ⟨x, dx, n, lc, false, xs, ps, rfl, upd_same, fun o => ?_, hP.same (t0.trans t1), hG, fun H3 hW k3 => ⟨rfl, ?_⟩⟩
  ·exact SqL.of (by rw [upd_ne (ne_of_none hlc2 nx), upd_ne (ne_of_none hlc2 nx), upd_ne (ne_of_none hlc2 ndx)]; exact hlc2)
  have t03 : Same H1 H3 := t0.trans fun b o e => k3 b o (t1 b o e) (ne_of_none e nx)
  have hl3 := t03 _ _ hl1
  have hP3 := hP.same t03
  have hS3 := (s1.trans t03).seq hS
  refine ⟨_, rfl, _, rfl, l, xs, rfl, .inl (SqL.of hl3), a, ns, xs.length, rfl, hS3, by omega, fun LA ls H4 s4 hL0 hL4 hLl => ?_⟩
  have hLp : ls.length = ps.length := by omega
  have hl4 := s4 _ _ hl3
  have hW4 := hW.same s4
  refine nm ?_
  dsimp only
  have sH4 : Same H H4 := s1.trans (t03.trans s4)
  refine ⟨_, rfl, a, ns, 3, rfl, sH4.seq hS, by decide, fun c => ?_⟩
  refine ⟨_, _, rfl, rfl, (by show (0 : Int) < 20; decide), _, _, rfl, rfl, ?_⟩
  refine nm ?_
  dsimp only
  have hW4 := hW.same s4
  have tab4 : TabR H4 Pt := hTb.same sH4
  have hm : 1 <= 1 + c % 20 /\ 1 + c % 20 <= 20 := by omega
  generalize 1 + c % 20 = most at *
  refine ⟨_, rfl, _, rfl, _, rfl, x, LA, n, most, ps, false, ls, rfl, hW4, hG, SqL.of hL4, by omega, by omega, by omega, tab4, fun fs L r2 H5 hrk hBf sx5 tab5 hr20 hr25 => ?_⟩
  refine nm ?_
  dsimp only
  have hfl : fs.length = L.length := hBf.1
  have hW5 := hW4.samex tab4 sx5
  refine ⟨_, rfl, _, _, _, rfl, TyOf.lst hr25, kit_same, _, rfl, ?_⟩
  refine iteF ?_
  refine ⟨_, rfl, r2, _, rfl, .inl (SqL.of hr25), _, rfl, _, rfl, x, n, ps, rfl, hW5, hG, fun cc H6 hTC s6 => ?_⟩
  have hcount : L.length = min most.toNat cc := by
   obtain ⟨AL, a1, a2, a3⟩ := hTC
   have hn : L.Nodup := hrk.asc.imp fun q e => by rw [e] at q; exact pl_irrefl q
   have l1 := sub_len hn fun T hT => (a2 T).mpr (hrk.tr T hT)
   have l2 := hrk.few
   by_cases c : L.length = most.toNat
   ·omega
   ·have l3 := sub_len a1 fun T hT => ((hrk.all T ((a2 T).mp hT)).resolve_right fun q => c q.1)
    omega
  refine ⟨_, _, rfl, rfl, _, rfl, ?_⟩
  rw [dec_int]
  refine itn (by split <;> omega) ?_
  show (_ : Prop)
  refine nx_mk ?_
  have hr26 := s6 _ _ hr25
  have hB6 : Bears (PV H6 ls) fs L := hBf.imp fun _ _ h => h.same s6
  have hl6 : SqL K H6 l xs := SqK.same (k := false) s6 (SqK.samex (kd := false) (SqL.of (s4 _ _ hl3)) tab4 sx5)
  have hP6 : PairsV H6 xs ps := by
   have hP4 := hP3.same s4
   refine PairsV.same s6 ⟨hP4.1, fun i p hp => ?_⟩
   obtain ⟨v, hv, tt, e, ht⟩ := hP4.2 i p hp
   exact ⟨v, hv, tt, e, sx5 _ _ (tab4.ne ht (by simp)) ht⟩
  have hL6 : H6 LA = some (.lst (IL ls)) := s6 _ _ (sx5 _ _ (tab4.ne hL4 (by simp)) hL4)
  refine ⟨_, rfl, r2, rfl, ⟨_, SqL.of hr26⟩, for_enum (K := K) (a := r2) (xs := fs) (fun i σ H7 => ∃ (v7 v8 v9 : Option V), σ = [some (.ref a), some (.int n), some (.ref l), some (.ref x), some (.ref LA), some (.int most), some (.ref r2), v7, v8, v9] /\ Same H6 H7) ⟨none, none, none, rfl, Same.refl _⟩ (fun i σ H7 _ ⟨_, _, _, _, s7⟩ => SqL.of (s7 _ _ hr26)) ?_ ?_⟩
  rotate_left
  ·rintro σ H7 ⟨v7, v8, v9, rfl, s7⟩
   exact k _
  rintro i v σ H7 pe hpe hi ⟨v7, v8, v9, rfl, s7⟩
  have t1 := same_at (o := .tup [.int i, v]) hpe
  refine ⟨pe, _, rfl, SqT.of upd_same, rfl, _, _, rfl, _, _, rfl, rfl, ?_⟩
  obtain ⟨U, hU, tp, tr, rfl, q1, q2⟩ := hB6.at hi
  have s78 := s7.trans t1
  generalize upd H7 pe (.tup [.int i, .ref tp]) = H8 at *
  have q1' := s78 _ _ q1
  have q2' := s78 _ _ q2
  have hT := hrk.tr U (List.mem_of_getElem? hU)
  refine ⟨_, rfl, _, _, _, rfl, TyOf.tup q1', kit_same, _, rfl, ?_⟩
  refine iteF ?_
  refine ⟨_, rfl, tp, _, rfl, .inr (SqT.of q1'), rfl, _, rfl, ?_⟩
  rw [dec_int]
  refine itn rfl ?_
  refine ⟨_, rfl, _, rfl, _, rfl, tp, _, 1, .ref tr, rfl, rfl, SqT.of q1', rfl, n, l, tr, xs, ps, U, rfl, SqK.same (k := false) s78 hl6, hP6.same s78, hG, q2', fun rb H9 hrb s9 => ?_⟩
  obtain rfl : rb = true := hrb.mpr hT
  refine ⟨_, rfl, ?_⟩
  refine iteF ?_
  show (_ : Prop)
  refine nx_mk ?_
  have s79 := s78.trans s9
  have r1 := s79 _ _ q1
  have r2' := s79 _ _ q2
  have hL9 := s79 _ _ hL6
  have hms := isSet_iff.mp hT.1
  have hUl : (U.length : Int) = n - 1 := hT.2.1
  have hG2 := hG.2.1
  have pT : ∀ (i : Nat) (W : List Int) (Hx : Hp), Same H6 Hx -> L[i]? = some W -> ∃ v, fs[i]? = some v /\ PrT K Hx v (sumL ls W, W) := fun i W Hx sx hW => by
   obtain ⟨v, hv, a1, b1, e, g1, g2⟩ := hB6.2 i W hW
   exact ⟨v, hv, a1, b1, e, SqT.of (sx _ _ g1), SqT.of (sx _ _ g2)⟩
  have pU : ∀ Hx : Hp, Same H6 Hx -> PrT K Hx (.ref tp) (sumL ls U, U) := fun Hx sx => ⟨tp, tr, rfl, SqT.of (sx _ _ q1), SqT.of (sx _ _ q2)⟩
  refine ⟨_, rfl, tp, _, 0, .int (sumL ls U), rfl, rfl, SqT.of r1, rfl, _, rfl, tp, _, 1, .ref tr, rfl, rfl, SqT.of r1, rfl, tr, rfl, ⟨_, SqT.of r2'⟩, lc_tup (K := K) (a := tr) (xs := IL U) (fun j ws H10 => H10 = H9 /\ ws = IL ((U.take j).map (lnz ls)) /\ j <= U.length) ⟨rfl, rfl, Nat.zero_le _⟩ (small60' (by rw [il_length]; omega)) (fun j ws H10 hj ⟨e, ew, hj2⟩ => ⟨e ▸ SqT.of r2', by rw [ew, il_length, List.length_map, List.length_take]; omega⟩) ?_ ?_⟩
  ·rintro j v ws H10 hj ⟨rfl, rfl, hjl⟩ S2 hSS2
   obtain ⟨z, rfl, hz⟩ := il_get hj
   obtain ⟨z0, z1⟩ := hms.1 z (List.mem_of_getElem? hz)
   obtain ⟨y, hy⟩ : ∃ y, ls[z.toNat]? = some y := ⟨_, List.getElem?_eq_getElem (by omega)⟩
   refine nm ?_
   refine ⟨_, rfl, _, rfl, LA, _, _, .int y, rfl, rfl, SqL.of hL9, atI_of (n := z.toNat) (by omega) (il_at hy), ?_⟩
   refine hSS2 _ _ ⟨rfl, ?_, (List.getElem?_eq_some_iff.mp hz).1⟩
   have e : lnz ls z = y := getD_of hy
   rw [List.take_succ, hz, List.map_append]
   show _ = IL (_ ++ [lnz ls z])
   rw [e]
   exact (il_snoc _ _).symm
  rintro ws H10 ⟨rfl, rfl, _⟩ lA hlA
  rw [il_length, List.take_length]
  have u10 := same_at (o := .lst (IL (U.map (lnz ls)))) hlA
  have s7A := s79.trans u10
  refine ⟨lA, _, rfl, SqL.of upd_same, rfl, _, rfl, ?_⟩
  rw [dec_int]
  refine itn rfl ?_
  dsimp only [List.set]
  refine tst66 (fs := fs) (SqL.of (s7A _ _ hr26)) (pU _ (s7.trans (t1.trans (s9.trans u10)))) (fun j e => ?_) ?_
  ·subst e
   have hj : j < L.length := by have := (List.getElem?_eq_some_iff.mp hU).1; omega
   obtain ⟨v, hv, h⟩ := pT j L[j] _ s7A (List.getElem?_eq_getElem hj)
   exact ⟨v, _, hv, h, by
    have := List.pairwise_iff_getElem.mp hrk.asc j (j + 1) hj (List.getElem?_eq_some_iff.mp hU).1 (by omega)
    rw [(List.getElem?_eq_some_iff.mp hU).2] at this
    exact this⟩
  refine iteF ?_
  show (_ : Prop)
  refine nx_mk ?_
  have sA := s7.trans (t1.trans (s9.trans u10))
  generalize upd H10 lA (HO.lst (IL (List.map (lnz ls) U))) = HA at *
  refine ⟨_, rfl, _, rfl, _, rfl, _, rfl, n, l, LA, tp, xs, ps, ls, U, rfl, SqK.same (k := false) sA hl6, hP6.same sA, hG, SqL.of (sA _ _ hL6), by omega, ⟨tp, tr, rfl, sA _ _ q1, sA _ _ q2⟩, hT, fun rB ys X HB sB hB0 hB1 hBX hX hXl => ?_⟩
  have sAB := sA.trans sB
  refine ⟨rB, rfl, ⟨_, SqL.of hB1⟩, for_list (K := K) (a := rB) (xs := ys) (fun j σ H2 => ∃ (v9 : Option V), σ = [some (.ref a), some (.int n), some (.ref l), some (.ref x), some (.ref LA), some (.int most), some (.ref r2), some (.int i), some (.ref tp), v9] /\ Same HB H2) ⟨v9, rfl, Same.refl _⟩ (fun j σ H2 _ ⟨_, _, s2⟩ => SqL.of (s2 _ _ hB1)) ?_ ?_⟩
  rotate_left
  ·rintro σ H2 ⟨v9, rfl, s2⟩
   exact ⟨_, _, _, rfl, sAB.trans s2⟩
  rintro j v σ H2 hj ⟨v9, rfl, s2⟩
  refine nm ?_
  dsimp only [List.set]
  obtain ⟨xo, hxo, hro⟩ := hBX.at hj
  obtain ⟨ho1, ho2⟩ := hX xo (List.mem_of_getElem? hxo)
  have s62 := sAB.trans s2
  have hLne : L ≠ [] := fun e => by rw [e] at hU; cases hU
  have hM2 : Bears (RkV H2) fs (L.map fun T => (sumL ls T, T)) := (pv_rk hB6).imp fun _ _ h => RkV.same s62 h
  have hLe : L[L.length - 1]? = some (L.getLast hLne) := by rw [<- List.getLast?_eq_getElem?, List.getLast?_eq_some_getLast hLne]
  obtain ⟨lv, hlv, hlr⟩ := hM2.2 (L.length - 1) (sumL ls (L.getLast hLne), L.getLast hLne) (by rw [List.getElem?_map, hLe]; rfl)
  have hlast : atI fs (-1) = some lv := by
   have hne : fs ≠ [] := fun e => by rw [e] at hlv; cases hlv
   have e1 : fs = fs.dropLast ++ [lv] := by
    have e2 : fs.getLast hne = lv := by
     have e3 : fs[fs.length - 1]? = some (fs.getLast hne) := by rw [<- List.getLast?_eq_getElem?, List.getLast?_eq_some_getLast hne]
     rw [hfl, hlv] at e3
     exact (Option.some.inj e3).symm
    rw [<- e2, List.dropLast_concat_getLast]
   rw [e1]
   exact at_lastG _ _
  obtain ⟨o1, W⟩ := xo
  have ho2 : o1 = sumL ls W := ho2
  subst ho2
  have ho1 : IsTree n ps W := ho1
  have all := hrk.all W ho1
  refine tst66b (fs := fs) (M := L.map fun T => (sumL ls T, T)) (y := (sumL ls W, W)) (z := (sumL ls U, U)) (w := (sumL ls (L.getLast hLne), L.getLast hLne)) (lv := lv) (SqL.of (s62 _ _ hr26)) hM2 (RkV.same s2 hro) ⟨tp, tr, rfl, s62 _ _ q1, s62 _ _ q2⟩ hlast hlr ?_ ?_ ?_
  ·rcases all with q | q
   ·exact .inr (List.mem_map.mpr ⟨W, q, rfl⟩)
   ·exact .inl (q.2 _ (List.getLast_mem hLne))
  ·intro e
   subst e
   cases hc : HT.ltP (sumL ls W, W) (sumL ls U, U)
   ·rfl
   exfalso
   have hc : pl ls W U := hc
   rcases all with q | q
   ·obtain ⟨j', hj'⟩ := List.getElem?_of_mem q
    rcases Nat.eq_zero_or_pos j' with z | z
    ·subst z
     rw [hU] at hj'
     cases hj'
     exact pl_irrefl hc
    ·obtain ⟨b1, b2⟩ := List.getElem?_eq_some_iff.mp hj'
     obtain ⟨b3, b4⟩ := List.getElem?_eq_some_iff.mp hU
     have := List.pairwise_iff_getElem.mp hrk.asc 0 j' b3 b1 z
     rw [b2, b4] at this
     exact pl_irrefl (hc.trans this)
   ·exact pl_irrefl (hc.trans (q.2 U (List.mem_of_getElem? hU)))
  refine iteF ?_
  exact ⟨_, rfl, s2⟩
end
end My
namespace My
open PySem L2
theorem law_binds {K : PySem.W.Frag} {f : Addr} {fd : FuncData} (F : Fun K "law" "law" s_law f fd) (s : Shared) (u : Value) : BindsTo s fd ⟨[u], []⟩ [("script", u)] := by
 obtain ⟨oc, od, kV, doc, pm, an, cdv, ct, osl, rfl, lk, hcd⟩ := F.ex
 exact .of_eq rfl
end My
open PySem PySem.W PyProof.Rows
set_option maxRecDepth 100000 in
set_option maxHeartbeats 0 in
theorem PySem.Challenge.cw_spanrow_k66_whole_ranked_of_great_webs_holds : PySem.Challenge.rw_spanrow_k66_whole_ranked_of_great_webs.Holds := by
 w_on; o_law; k_head; (case hw => w_witness2)
 k_fill
 refine L2.walk_ofT (l := PySem.Challenge.rw_spanrow_k66_whole_ranked_of_great_webs) (n := 63) (k := 12) (x := "script") (CX := L2.CX0) (sp := fun K => My.sp_law K 229) (c := 233) (Pt := 229) rfl (by decide) rfl ⟨rfl, by decide, by decide⟩ (fun w h Y => ⟨PySem.W.km_in_of Y, PySem.W.km_tabs_of Y 229 (List.mem_singleton.mpr rfl)⟩) ?C ?P ?F (fun _ H a ns hl hO hS => ⟨a, ns, rfl, hS, hl, ⟨#[], hO.1, trivial, .inl rfl⟩, fun _ => rfl⟩) (fun _ _ _ _ z => z)
 case C => intro w; kernel_rfl
 case P => intro w; kernel_rfl
 case F =>
  intro w mg fa h KX G hmg
  have h_refuse_not_square : My.FX (L2.KOf KX) mg "refuse_not_square" "refuse_not_square" My.s_refuse_not_square := by
   dsimp only [L2.KOf]
   refine' My.fx_mk KX G ?a ?l ?c ?k
   (case a => k_is); (case l => k_is); (case c => k_is); (case k => k_is)
  have h_row_taken_off : My.FX (L2.KOf KX) mg "row_taken_off" "row_taken_off" My.s_row_taken_off := by
   dsimp only [L2.KOf]
   refine' My.fx_mk KX G ?a ?l ?c ?k
   (case a => k_is); (case l => k_is); (case c => k_is); (case k => k_is)
  have h_first_with_some : My.FX (L2.KOf KX) mg "first_with_some" "first_with_some" My.s_first_with_some := by
   dsimp only [L2.KOf]
   refine' My.fx_mk KX G ?a ?l ?c ?k
   (case a => k_is); (case l => k_is); (case c => k_is); (case k => k_is)
  have h_determinant : My.FX (L2.KOf KX) mg "determinant" "determinant" My.s_determinant := by
   dsimp only [L2.KOf]
   refine' My.fx_mk KX G ?a ?l ?c ?k
   (case a => k_is); (case l => k_is); (case c => k_is); (case k => k_is)
  have h_row_without : My.FX (L2.KOf KX) mg "row_without" "row_without" My.s_row_without := by
   dsimp only [L2.KOf]
   refine' My.fx_mk KX G ?a ?l ?c ?k
   (case a => k_is); (case l => k_is); (case c => k_is); (case k => k_is)
  have h_table_without : My.FX (L2.KOf KX) mg "table_without" "table_without" My.s_table_without := by
   dsimp only [L2.KOf]
   refine' My.fx_mk KX G ?a ?l ?c ?k
   (case a => k_is); (case l => k_is); (case c => k_is); (case k => k_is)
  have h_is_tie : My.FX (L2.KOf KX) mg "is_tie" "is_tie" My.s_is_tie := by
   dsimp only [L2.KOf]
   refine' My.fx_mk KX G ?a ?l ?c ?k
   (case a => k_is); (case l => k_is); (case c => k_is); (case k => k_is)
  have h_refuse_bad_web : My.FX (L2.KOf KX) mg "refuse_bad_web" "refuse_bad_web" My.s_refuse_bad_web := by
   dsimp only [L2.KOf]
   refine' My.fx_mk KX G ?a ?l ?c ?k
   (case a => k_is); (case l => k_is); (case c => k_is); (case k => k_is)
  have h_refuse_bad_row : My.FX (L2.KOf KX) mg "refuse_bad_row" "refuse_bad_row" My.s_refuse_bad_row := by
   dsimp only [L2.KOf]
   refine' My.fx_mk KX G ?a ?l ?c ?k
   (case a => k_is); (case l => k_is); (case c => k_is); (case k => k_is)
  have h_all_ties : My.FX (L2.KOf KX) mg "all_ties" "all_ties" My.s_all_ties := by
   dsimp only [L2.KOf]
   refine' My.fx_mk KX G ?a ?l ?c ?k
   (case a => k_is); (case l => k_is); (case c => k_is); (case k => k_is)
  have h_is_set : My.FX (L2.KOf KX) mg "is_set" "is_set" My.s_is_set := by
   dsimp only [L2.KOf]
   refine' My.fx_mk KX G ?a ?l ?c ?k
   (case a => k_is); (case l => k_is); (case c => k_is); (case k => k_is)
  have h_made_set : My.FX (L2.KOf KX) mg "made_set" "made_set" My.s_made_set := by
   dsimp only [L2.KOf]
   refine' My.fx_mk KX G ?a ?l ?c ?k
   (case a => k_is); (case l => k_is); (case c => k_is); (case k => k_is)
  have h_merged_marks : My.FX (L2.KOf KX) mg "merged_marks" "merged_marks" My.s_merged_marks := by
   dsimp only [L2.KOf]
   refine' My.fx_mk KX G ?a ?l ?c ?k
   (case a => k_is); (case l => k_is); (case c => k_is); (case k => k_is)
  have h_piece_marks : My.FX (L2.KOf KX) mg "piece_marks" "piece_marks" My.s_piece_marks := by
   dsimp only [L2.KOf]
   refine' My.fx_mk KX G ?a ?l ?c ?k
   (case a => k_is); (case l => k_is); (case c => k_is); (case k => k_is)
  have h_grown_tree : My.FX (L2.KOf KX) mg "grown_tree" "grown_tree" My.s_grown_tree := by
   dsimp only [L2.KOf]
   refine' My.fx_mk KX G ?a ?l ?c ?k
   (case a => k_is); (case l => k_is); (case c => k_is); (case k => k_is)
  have h_length_of : My.FX (L2.KOf KX) mg "length_of" "length_of" My.s_length_of := by
   dsimp only [L2.KOf]
   refine' My.fx_mk KX G ?a ?l ?c ?k
   (case a => k_is); (case l => k_is); (case c => k_is); (case k => k_is)
  have h_weighted_table : My.FX (L2.KOf KX) mg "weighted_table" "weighted_table" My.s_weighted_table := by
   dsimp only [L2.KOf]
   refine' My.fx_mk KX G ?a ?l ?c ?k
   (case a => k_is); (case l => k_is); (case c => k_is); (case k => k_is)
  have h_pull_table : My.FX (L2.KOf KX) mg "pull_table" "pull_table" My.s_pull_table := by
   dsimp only [L2.KOf]
   refine' My.fx_mk KX G ?a ?l ?c ?k
   (case a => k_is); (case l => k_is); (case c => k_is); (case k => k_is)
  have h_tree_count : My.FX (L2.KOf KX) mg "tree_count" "tree_count" My.s_tree_count := by
   dsimp only [L2.KOf]
   refine' My.fx_mk KX G ?a ?l ?c ?k
   (case a => k_is); (case l => k_is); (case c => k_is); (case k => k_is)
  have h_first_of : My.FX (L2.KOf KX) mg "first_of" "first_of" My.s_first_of := by
   dsimp only [L2.KOf]
   refine' My.fx_mk KX G ?a ?l ?c ?k
   (case a => k_is); (case l => k_is); (case c => k_is); (case k => k_is)
  have h_firsts_behind : My.FX (L2.KOf KX) mg "firsts_behind" "firsts_behind" My.s_firsts_behind := by
   dsimp only [L2.KOf]
   refine' My.fx_mk KX G ?a ?l ?c ?k
   (case a => k_is); (case l => k_is); (case c => k_is); (case k => k_is)
  have h_ranked : My.FXL (L2.KOf KX) mg "ranked" "ranked" My.s_ranked 229 := by
   dsimp only [L2.KOf]
   refine' My.fxl_mk KX G ?a ?l ?c ?k ?z
   (case a => k_is); (case l => k_is); (case c => k_is); (case k => k_is); (case z => kernel_rfl)
  have h_law_at : My.FX (L2.KOf KX) mg "_law_at" "_law_at" My.s_law_at := by
   dsimp only [L2.KOf]
   refine' My.fx_mk KX G ?a ?l ?c ?k
   (case a => k_is); (case l => k_is); (case c => k_is); (case k => k_is)
  have h_law_stir : My.FX (L2.KOf KX) mg "_law_stir" "_law_stir" My.s_law_stir := by
   dsimp only [L2.KOf]
   refine' My.fx_mk KX G ?a ?l ?c ?k
   (case a => k_is); (case l => k_is); (case c => k_is); (case k => k_is)
  have h_law_numbers : My.FX (L2.KOf KX) mg "_law_numbers" "_law_numbers" My.s_law_numbers := by
   dsimp only [L2.KOf]
   refine' My.fx_mk KX G ?a ?l ?c ?k
   (case a => k_is); (case l => k_is); (case c => k_is); (case k => k_is)
  have h_law_digits : My.FX (L2.KOf KX) mg "_law_digits" "_law_digits" My.s_law_digits := by
   dsimp only [L2.KOf]
   refine' My.fx_mk KX G ?a ?l ?c ?k
   (case a => k_is); (case l => k_is); (case c => k_is); (case k => k_is)
  have h_law_web : My.FX (L2.KOf KX) mg "_law_web" "_law_web" My.s_law_web := by
   dsimp only [L2.KOf]
   refine' My.fx_mk KX G ?a ?l ?c ?k
   (case a => k_is); (case l => k_is); (case c => k_is); (case k => k_is)
  have h_law_lengths : My.FX (L2.KOf KX) mg "_law_lengths" "_law_lengths" My.s_law_lengths := by
   dsimp only [L2.KOf]
   refine' My.fx_mk KX G ?a ?l ?c ?k
   (case a => k_is); (case l => k_is); (case c => k_is); (case k => k_is)
  have h_law_is_tree : My.FX (L2.KOf KX) mg "_law_is_tree" "_law_is_tree" My.s_law_is_tree := by
   dsimp only [L2.KOf]
   refine' My.fx_mk KX G ?a ?l ?c ?k
   (case a => k_is); (case l => k_is); (case c => k_is); (case k => k_is)
  have h_law_ring : My.FX (L2.KOf KX) mg "_law_ring" "_law_ring" My.s_law_ring := by
   dsimp only [L2.KOf]
   refine' My.fx_mk KX G ?a ?l ?c ?k
   (case a => k_is); (case l => k_is); (case c => k_is); (case k => k_is)
  have h_law_beside : My.FX (L2.KOf KX) mg "_law_beside" "_law_beside" My.s_law_beside := by
   dsimp only [L2.KOf]
   refine' My.fx_mk KX G ?a ?l ?c ?k
   (case a => k_is); (case l => k_is); (case c => k_is); (case k => k_is)
  have h_law : My.FX (L2.KOf KX) mg "law" "law" My.s_law := by
   dsimp only [L2.KOf]
   refine' My.fx_mk KX G ?a ?l ?c ?k
   (case a => k_is); (case l => k_is); (case c => k_is); (case k => k_is)
  have h_Web : My.CXF (L2.KOf KX) mg "Web" "Web.__init__" My.s_Web___init ["places", "ties"] := by
   dsimp only [L2.KOf]
   refine' My.cx_mk KX G ?aC ?a ?i ?l ?c ?k ?pg ?hd ?po ?sa ?mk ?kc ?na
   (case aC => k_is); (case a => k_is); (case i => k_is); (case l => k_is); (case c => k_is); (case k => k_is)
   (case pg => k_is); (case hd => k_is); (case po => k_is); (case sa => k_is); (case mk => k_is); (case kc => k_is)
   (case na => (intro f hf; simp only [List.mem_cons, List.not_mem_nil, or_false] at hf; rcases hf with rfl | rfl <;> k_is))
  have h_MOST_PLACES : ∃ tk, mg "MOST_PLACES" = some (.int 14 tk) := by
   refine' My.const_mk KX G ?a ?b
   (case a => k_is); (case b => exact ⟨_, rfl⟩)
  have h_MOST_TIES : ∃ tk, mg "MOST_TIES" = some (.int 30 tk) := by
   refine' My.const_mk KX G ?a ?b
   (case a => k_is); (case b => exact ⟨_, rfl⟩)
  have h_bool : mg "bool" = none := by
   refine' PySem.W.mg_none_of KX G ?a
   (case a => k_is)
  have h_enumerate : mg "enumerate" = none := by
   refine' PySem.W.mg_none_of KX G ?a
   (case a => k_is)
  have h_int : mg "int" = none := by
   refine' PySem.W.mg_none_of KX G ?a
   (case a => k_is)
  have h_isinstance : mg "isinstance" = none := by
   refine' PySem.W.mg_none_of KX G ?a
   (case a => k_is)
  have h_len : mg "len" = none := by
   refine' PySem.W.mg_none_of KX G ?a
   (case a => k_is)
  have h_list : mg "list" = none := by
   refine' PySem.W.mg_none_of KX G ?a
   (case a => k_is)
  have h_max : mg "max" = none := by
   refine' PySem.W.mg_none_of KX G ?a
   (case a => k_is)
  have h_min : mg "min" = none := by
   refine' PySem.W.mg_none_of KX G ?a
   (case a => k_is)
  have h_range : mg "range" = none := by
   refine' PySem.W.mg_none_of KX G ?a
   (case a => k_is)
  have h_sorted : mg "sorted" = none := by
   refine' PySem.W.mg_none_of KX G ?a
   (case a => k_is)
  have h_sum : mg "sum" = none := by
   refine' PySem.W.mg_none_of KX G ?a
   (case a => k_is)
  have h_tuple : mg "tuple" = none := by
   refine' PySem.W.mg_none_of KX G ?a
   (case a => k_is)
  have h_zip : mg "zip" = none := by
   refine' PySem.W.mg_none_of KX G ?a
   (case a => k_is)
  obtain ⟨a_refuse_not_square, d_refuse_not_square, m_refuse_not_square, f_refuse_not_square⟩ := h_refuse_not_square
  obtain ⟨a_row_taken_off, d_row_taken_off, m_row_taken_off, f_row_taken_off⟩ := h_row_taken_off
  obtain ⟨a_first_with_some, d_first_with_some, m_first_with_some, f_first_with_some⟩ := h_first_with_some
  obtain ⟨a_determinant, d_determinant, m_determinant, f_determinant⟩ := h_determinant
  obtain ⟨a_row_without, d_row_without, m_row_without, f_row_without⟩ := h_row_without
  obtain ⟨a_table_without, d_table_without, m_table_without, f_table_without⟩ := h_table_without
  obtain ⟨a_is_tie, d_is_tie, m_is_tie, f_is_tie⟩ := h_is_tie
  obtain ⟨a_refuse_bad_web, d_refuse_bad_web, m_refuse_bad_web, f_refuse_bad_web⟩ := h_refuse_bad_web
  obtain ⟨a_refuse_bad_row, d_refuse_bad_row, m_refuse_bad_row, f_refuse_bad_row⟩ := h_refuse_bad_row
  obtain ⟨a_all_ties, d_all_ties, m_all_ties, f_all_ties⟩ := h_all_ties
  obtain ⟨a_is_set, d_is_set, m_is_set, f_is_set⟩ := h_is_set
  obtain ⟨a_made_set, d_made_set, m_made_set, f_made_set⟩ := h_made_set
  obtain ⟨a_merged_marks, d_merged_marks, m_merged_marks, f_merged_marks⟩ := h_merged_marks
  obtain ⟨a_piece_marks, d_piece_marks, m_piece_marks, f_piece_marks⟩ := h_piece_marks
  obtain ⟨a_grown_tree, d_grown_tree, m_grown_tree, f_grown_tree⟩ := h_grown_tree
  obtain ⟨a_length_of, d_length_of, m_length_of, f_length_of⟩ := h_length_of
  obtain ⟨a_weighted_table, d_weighted_table, m_weighted_table, f_weighted_table⟩ := h_weighted_table
  obtain ⟨a_pull_table, d_pull_table, m_pull_table, f_pull_table⟩ := h_pull_table
  obtain ⟨a_tree_count, d_tree_count, m_tree_count, f_tree_count⟩ := h_tree_count
  obtain ⟨a_first_of, d_first_of, m_first_of, f_first_of⟩ := h_first_of
  obtain ⟨a_firsts_behind, d_firsts_behind, m_firsts_behind, f_firsts_behind⟩ := h_firsts_behind
  obtain ⟨a_ranked, d_ranked, c_lam, m_ranked, f_ranked, e_lam, z_lam⟩ := h_ranked
  obtain ⟨a_law_at, d_law_at, m_law_at, f_law_at⟩ := h_law_at
  obtain ⟨a_law_stir, d_law_stir, m_law_stir, f_law_stir⟩ := h_law_stir
  obtain ⟨a_law_numbers, d_law_numbers, m_law_numbers, f_law_numbers⟩ := h_law_numbers
  obtain ⟨a_law_digits, d_law_digits, m_law_digits, f_law_digits⟩ := h_law_digits
  obtain ⟨a_law_web, d_law_web, m_law_web, f_law_web⟩ := h_law_web
  obtain ⟨a_law_lengths, d_law_lengths, m_law_lengths, f_law_lengths⟩ := h_law_lengths
  obtain ⟨a_law_is_tree, d_law_is_tree, m_law_is_tree, f_law_is_tree⟩ := h_law_is_tree
  obtain ⟨a_law_ring, d_law_ring, m_law_ring, f_law_ring⟩ := h_law_ring
  obtain ⟨a_law_beside, d_law_beside, m_law_beside, f_law_beside⟩ := h_law_beside
  obtain ⟨a_law, d_law, m_law, f_law⟩ := h_law
  obtain ⟨A_Web, a_Web___init, d_Web___init, c_Web, f_Web___init, cl_Web, k_Web, na_Web⟩ := h_Web
  have T : My.Txt (L2.KOf KX) mg ⟨a_refuse_not_square, d_refuse_not_square, a_row_taken_off, d_row_taken_off, a_first_with_some, d_first_with_some, a_determinant, d_determinant, a_row_without, d_row_without, a_table_without, d_table_without, a_is_tie, d_is_tie, a_refuse_bad_web, d_refuse_bad_web, a_Web___init, d_Web___init, a_refuse_bad_row, d_refuse_bad_row, a_all_ties, d_all_ties, a_is_set, d_is_set, a_made_set, d_made_set, a_merged_marks, d_merged_marks, a_piece_marks, d_piece_marks, a_grown_tree, d_grown_tree, a_length_of, d_length_of, a_weighted_table, d_weighted_table, a_pull_table, d_pull_table, a_tree_count, d_tree_count, a_first_of, d_first_of, a_firsts_behind, d_firsts_behind, a_ranked, d_ranked, a_law_at, d_law_at, a_law_stir, d_law_stir, a_law_numbers, d_law_numbers, a_law_digits, d_law_digits, a_law_web, d_law_web, a_law_lengths, d_law_lengths, a_law_is_tree, d_law_is_tree, a_law_ring, d_law_ring, a_law_beside, d_law_beside, a_law, d_law, A_Web⟩ := ⟨f_refuse_not_square, f_refuse_not_square.binds (fun _ _ _ _ _ _ us hl => by obtain ⟨_, rfl⟩ := My.len1 hl; rfl), m_refuse_not_square, f_row_taken_off, f_row_taken_off.binds (fun _ _ _ _ _ _ us hl => by obtain ⟨_, _, _, rfl⟩ := My.len3 hl; rfl), m_row_taken_off, f_first_with_some, f_first_with_some.binds (fun _ _ _ _ _ _ us hl => by obtain ⟨_, rfl⟩ := My.len1 hl; rfl), m_first_with_some, f_determinant, f_determinant.binds (fun _ _ _ _ _ _ us hl => by obtain ⟨_, rfl⟩ := My.len1 hl; rfl), m_determinant, f_row_without, f_row_without.binds (fun _ _ _ _ _ _ us hl => by obtain ⟨_, _, rfl⟩ := My.len2 hl; rfl), m_row_without, f_table_without, f_table_without.binds (fun _ _ _ _ _ _ us hl => by obtain ⟨_, _, rfl⟩ := My.len2 hl; rfl), m_table_without, f_is_tie, f_is_tie.binds (fun _ _ _ _ _ _ us hl => by obtain ⟨_, _, rfl⟩ := My.len2 hl; rfl), m_is_tie, f_refuse_bad_web, f_refuse_bad_web.binds (fun _ _ _ _ _ _ us hl => by obtain ⟨_, _, rfl⟩ := My.len2 hl; rfl), m_refuse_bad_web, f_Web___init, f_Web___init.binds (fun _ _ _ _ _ _ us hl => by obtain ⟨_, _, _, rfl⟩ := My.len3 hl; rfl), f_refuse_bad_row, f_refuse_bad_row.binds (fun _ _ _ _ _ _ us hl => by obtain ⟨_, _, rfl⟩ := My.len2 hl; rfl), m_refuse_bad_row, f_all_ties, f_all_ties.binds (fun _ _ _ _ _ _ us hl => by obtain ⟨_, rfl⟩ := My.len1 hl; rfl), m_all_ties, f_is_set, f_is_set.binds (fun _ _ _ _ _ _ us hl => by obtain ⟨_, _, rfl⟩ := My.len2 hl; rfl), m_is_set, f_made_set, f_made_set.binds (fun _ _ _ _ _ _ us hl => by obtain ⟨_, _, rfl⟩ := My.len2 hl; rfl), m_made_set, f_merged_marks, f_merged_marks.binds (fun _ _ _ _ _ _ us hl => by obtain ⟨_, _, _, rfl⟩ := My.len3 hl; rfl), m_merged_marks, f_piece_marks, f_piece_marks.binds (fun _ _ _ _ _ _ us hl => by obtain ⟨_, _, rfl⟩ := My.len2 hl; rfl), m_piece_marks, f_grown_tree, f_grown_tree.binds (fun _ _ _ _ _ _ us hl => by obtain ⟨_, _, _, rfl⟩ := My.len3 hl; rfl), m_grown_tree, f_length_of, f_length_of.binds (fun _ _ _ _ _ _ us hl => by obtain ⟨_, _, _, rfl⟩ := My.len3 hl; rfl), m_length_of, f_weighted_table, f_weighted_table.binds (fun _ _ _ _ _ _ us hl => by obtain ⟨_, _, rfl⟩ := My.len2 hl; rfl), m_weighted_table, f_pull_table, f_pull_table.binds (fun _ _ _ _ _ _ us hl => by obtain ⟨_, rfl⟩ := My.len1 hl; rfl), m_pull_table, f_tree_count, f_tree_count.binds (fun _ _ _ _ _ _ us hl => by obtain ⟨_, rfl⟩ := My.len1 hl; rfl), m_tree_count, f_first_of, f_first_of.binds (fun _ _ _ _ _ _ us hl => match us, hl with | [_, _, _, _, _], _ => rfl), m_first_of, f_firsts_behind, f_firsts_behind.binds (fun _ _ _ _ _ _ us hl => by obtain ⟨_, _, _, _, rfl⟩ := My.len4 hl; rfl), m_firsts_behind, f_ranked, f_ranked.binds (fun _ _ _ _ _ _ us hl => by obtain ⟨_, _, _, rfl⟩ := My.len3 hl; rfl), m_ranked, f_law_at, f_law_at.binds (fun _ _ _ _ _ _ us hl => by obtain ⟨_, _, rfl⟩ := My.len2 hl; rfl), m_law_at, f_law_stir, f_law_stir.binds (fun _ _ _ _ _ _ us hl => by obtain ⟨_, _, rfl⟩ := My.len2 hl; rfl), m_law_stir, f_law_numbers, f_law_numbers.binds (fun _ _ _ _ _ _ us hl => by obtain ⟨_, _, _, rfl⟩ := My.len3 hl; rfl), m_law_numbers, f_law_digits, f_law_digits.binds (fun _ _ _ _ _ _ us hl => by obtain ⟨_, _, _, rfl⟩ := My.len3 hl; rfl), m_law_digits, f_law_web, f_law_web.binds (fun _ _ _ _ _ _ us hl => by obtain ⟨_, _, _, rfl⟩ := My.len3 hl; rfl), m_law_web, f_law_lengths, f_law_lengths.binds (fun _ _ _ _ _ _ us hl => by obtain ⟨_, _, rfl⟩ := My.len2 hl; rfl), m_law_lengths, f_law_is_tree, f_law_is_tree.binds (fun _ _ _ _ _ _ us hl => by obtain ⟨_, _, _, rfl⟩ := My.len3 hl; rfl), m_law_is_tree, f_law_ring, f_law_ring.binds (fun _ _ _ _ _ _ us hl => by obtain ⟨_, _, _, _, rfl⟩ := My.len4 hl; rfl), m_law_ring, f_law_beside, f_law_beside.binds (fun _ _ _ _ _ _ us hl => by obtain ⟨_, _, _, _, rfl⟩ := My.len4 hl; rfl), m_law_beside, f_law, f_law.binds (fun _ _ _ _ _ _ us hl => by obtain ⟨_, rfl⟩ := My.len1 hl; rfl), m_law, c_Web, cl_Web, k_Web, na_Web _ (by simp), na_Web _ (by simp), h_MOST_PLACES, h_MOST_TIES, h_bool, h_enumerate, h_int, h_isinstance, h_len, h_list, h_max, h_min, h_range, h_sorted, h_sum, h_tuple, h_zip⟩
  have e0 := hmg.symm.trans m_law
  cases e0
  exact ⟨d_law, fun s u => My.law_binds f_law s u, fun base _ _ HB => My.ok_law T ⟨c_lam, e_lam, z_lam, HB, by decide⟩⟩
#print axioms PySem.Challenge.cw_spanrow_k66_whole_ranked_of_great_webs_holds
