import PyProof.Rows.All
import Wide.All
import OpenK.AllK
import Wide.FinOn
import Lean
import PyProof.EqAt
import PyProof.EqKinds
import PyProof.TupleCall
import PySem.Challenge.RW_spanrow_k48_walks_walked
set_option Elab.async false
set_option linter.all false
set_option maxRecDepth 100000
namespace PySem.W.Fast
def tw1824563102212582995:=0
def tw17992058692383765718:=0
def tw8043439574620594043:=0
def tw5040658050738363025:=0
def tw8451928379292216798:=0
def tw5365942198097711637:=0
def tw2684808011682029395:=0
def tw14346484611385018281:=0
def tw348190988551615595:=0
def tw6997615786130256044:=0
def tw15899726555748378642:=0
def tw2129933931039865858:=0
def tw14731648309284318187:=0
def tw5349388817848845418:=0
def tw18434643028021458471:=0
def tw11097088307410578014:=0
def tw642719951489811393:=0
def tw3056030234404632996:=0
def tw18134201260957141978:=0
def tw13063689724796405020:=0
def tw10408545823607354999:=0
def tw16795928806758309235:=0
def tw13693479648054715008:=0
def tw3081871071778609268:=0
def tw2845433917587850107:=0
def tw11785153970909228664:=0
def tw11110592290785459641:=0
def tw15168914093545194109:=0
def tw5395815415333681698:=0
def tw1191788078985912165:=0
def tw18143589020761330516:=0
def tw15310534230168558110:=0
def tw2473388619146051654:=0
def tw1789010448091642505:=0
def tw2655565324749336675:=0
def tw7712341447417152651:=0
def tw9984048869195350773:=0
def tw6050683526936595074:=0
def tw10477475729056563126:=0
def tw5118044335852932173:=0
def tw14415815088966732651:=0
def tw10437183616174109257:=0
def tw2470472383926742425:=0
def tw11569053412144882634:=0
def tw4219568057341188458:=0
def tw14576902661406400550:=0
def tw7816699885052685664:=0
def tw9110018158313213143:=0
def tw16586870262513375211:=0
def tw2557987478157220376:=0
def tw5879873234393144582:=0
def tw2899267119328396867:=0
def tw986773771914951932:=0
def tw11688856632032175197:=0
def tw5091147609705923558:=0
def tw17668602043323619672:=0
def tw14167625686589982909:=0
def tw17482211351850407360:=0
def tw10069385260387326879:=0
def tw13857476998442179686:=0
def tw10221933095282261725:=0
def tw15935485204987351828:=0
def tw6129268280055405384:=0
def tw14480659645259026866:=0
def tw3110557078724134168:=0
def tw3328751266269523427:=0
def tw5926999291386360381:=0
def tw11409171807214273770:=0
def tw6504800988579639578:=0
def tw2203392688364626797:=0
def tw6666494927465453087:=0
def tw15721117387029130189:=0
def tw8670597050671399032:=0
def tw8539174437391505544:=0
def tw14061470168667276869:=0
def tw3607437652705868874:=0
def tw17957725692548914049:=0
def tw18221529908605795620:=0
def tw6615816974349025889:=0
def tw9402746210920861139:=0
def tw17470273029528155172:=0
def tw16897037799252779467:=0
def tw4169077460302708505:=0
def tw11228967590097624671:=0
def tw17062628575124313859:=0
def tw9165178364843395330:=0
def tw7709672649841538726:=0
def tw7136474834909080430:=0
def tw3389803523615782688:=0
def tw241641423733701778:=0
def tw18367301106161662771:=0
def tw5722817761754107229:=0
def tw3467108683322923354:=0
def tw15134362401614931485:=0
def tw10523854857111592474:=0
def tw6719440975302896696:=0
def tw7622721952512644335:=0
def tw12990482042134883807:=0
def tw188426285170791707:=0
def tw12708822780251093959:=0
def tw11792655370433744922:=0
def tw8598640338092099590:=0
def tw6354996110384349643:=0
def tw15072010478349446317:=0
def tw7825711853254492085:=0
def tw12811816064480234859:=0
def tw10048254570443579122:=0
def tw2376165286853531244:=0
def tw18346167454191433495:=0
def tw1787681642725485366:=0
def tw2695524610276458379:=0
def tw4474843354150064571:=0
def tw14229325845587490955:=0
def tw11088817909391912727:=0
def tw7655398466312263321:=0
def tw3363922380854097510:=0
def tw141083884578956097:=0
def tw9278044372168597342:=0
def tw2945140751461131354:=0
def tw7126980380884256589:=0
def tw1732460824831732848:=0
def tw4704187224603466859:=0
def tw17305566273110363665:=0
def tw359536625920230023:=0
def tw16062310782026089859:=0
def tw6411074084251316363:=0
def tw12993878669671628342:=0
def tw3114193383506163596:=0
def tw5008628325601592863:=0
def tw12210215486908185530:=0
def tw13352082365721710191:=0
def tw37058420398434:=0
def tw881284229183143113:=0
def tw14588642786629324650:=0
def tw3494635616073470151:=0
def tw425133403206627170:=0
def tw15376431299924235357:=0
def tw3127948364072221276:=0
def tw13050378552716552233:=0
def tw3107930166549087560:=0
def tw11658839200438860841:=0
def tw9114575570287431225:=0
def tw4995084910011532474:=0
def tw12993587473106035664:=0
def tw11065833629691631550:=0
def tw7260460463479948371:=0
def tw1883830690008800049:=0
def tw15011474680713486160:=0
def tw11750779409858411195:=0
def tw510190126519041977:=0
def tw8837592239242095971:=0
def tw6924213694483305374:=0
def tw15404111517039769733:=0
def tw851432646172317734:=0
def tw5727777795850112863:=0
def tw17688785652810772209:=0
def tw3204559984593000340:=0
def tw5127015708779433156:=0
def tw7136482057188239662:=0
def tw10509560578811980822:=0
def tw9426673736186573806:=0
def tw8679136863429354741:=0
def tw13912699420149795371:=0
def tw13359773831301604036:=0
def tw12402325704999572614:=0
def tw11864655217368891571:=0
def tw2440846639275275114:=0
def tw5001116905250797285:=0
def tw3596153832635104215:=0
def tw12562133772640670453:=0
def tw11206894832869416051:=0
def tw251928817270233652:=0
def tw3383662355702568850:=0
def tw3032615977181216470:=0
def tw3282801948265995084:=0
def tw9364819163305576496:=0
def tw8581846633697483419:=0
def tw18177156353574654120:=0
def tw17154989718590272418:=0
def tw14496086045655276419:=0
def tw13003945034449549442:=0
def tw445805437539409168:=0
def tw6986447394790470818:=0
def tw6587504869048111190:=0
def tw4978991987216560653:=0
def tw4830083786371918492:=0
def tw15104767085017651019:=0
def tw11986667941419277161:=0
def tw2425537972794497934:=0
def tw9101362151232096034:=0
def tw6013797669272869171:=0
def tw2678861166817446733:=0
def tw18200509098959843717:=0
def tw8368459822605761016:=0
def tw5523905149141810468:=0
def tw15149078418669446568:=0
def tw14565162631009194346:=0
def tw1455970408210765713:=0
def tw13200377077953529107:=0
def tw9760638219258246774:=0
def tw9648434870234897751:=0
def tw9575490882042147934:=0
def tw9266731705953093016:=0
def tw9152008335860315058:=0
def tw9053349674698600841:=0
def tw8694564733004193378:=0
def tw8536554323914977529:=0
def tw8453007122779535974:=0
def tw7734542388430752981:=0
def tw7483382233751813996:=0
def tw7322396007592446151:=0
def tw7129529617892829291:=0
def tw7124880403267532284:=0
def tw6735635195941955850:=0
def tw6311391846780459453:=0
def tw6116808483840417419:=0
def tw5952601602428236760:=0
def tw5582096263610150249:=0
def tw5562456101398562223:=0
def tw5485002338333424925:=0
def tw5115633089683571990:=0
def tw4634084247513061129:=0
def tw4589312924168086645:=0
def tw4547429856139023165:=0
def tw4348713295530863206:=0
def tw4238988274963860061:=0
def tw2883437054801264593:=0
def tw2729552837075306423:=0
def tw2656649599418275019:=0
def tw2061104129796660204:=0
def tw2012068812130368920:=0
def tw1986395597991789902:=0
def tw1978202386315914874:=0
def tw1923633382547950622:=0
def tw1891257633563605132:=0
def tw18325317492584664048:=0
def tw18183846022185119889:=0
def tw18183718957492786067:=0
def tw18103704130325722117:=0
def tw17986341057646268594:=0
def tw17944896770515984010:=0
def tw1753568529888462099:=0
def tw17290483957970883504:=0
def tw17249162643861604105:=0
def tw17050603001887850019:=0
def tw16986138349601084021:=0
def tw16918342675842388663:=0
def tw16393740206334804273:=0
def tw15482637963476842004:=0
def tw15471229685382393362:=0
def tw14943141097985683798:=0
def tw14256883024879373269:=0
def tw13350905432040844909:=0
def tw12657983694316538077:=0
def tw12488575693488207701:=0
def tw12201804887433255226:=0
def tw11386889546861904792:=0
def tw11360200457058098200:=0
def tw11067831951764271831:=0
def tw10670070591332635626:=0
end PySem.W.Fast
/-! THE HAND LAYER, for ints, bools, texts, own classes, LISTS and tuples (index, slices, in, append, pop ..), calls, loops. Paste it whole ahead of your own text; what your proof does not reach may be deleted. -/
namespace L2
open PySem PySem.Spec PyProof.Rows
abbrev Key := Sum Int Str
def keyIs : Key -> Value -> Bool
 | .inl k, v => Value.isInt k v
 | .inr x, v => Value.isStrOf x v
def keyH (w : World) : Key -> Int
 | .inl k => hashInt k
 | .inr x => hashStr w x
theorem keyIs_shape : ∀ {k : Key} {v : Value}, keyIs k v = true -> (∃ i t, k = Sum.inl i /\ v = Value.int i t) \/ (∃ x t, k = Sum.inr x /\ v = Value.str x t)
 | .inl i, v, h => by
  obtain ⟨t, e⟩ := Value.isInt_shape (k := i) (v := v) h
  exact .inl ⟨i, t, rfl, e⟩
 | .inr x, v, h => by
  obtain ⟨t, e⟩ := Value.isStrOf_shape (x := x) (v := v) h
  exact .inr ⟨x, t, rfl, e⟩
theorem keyIs_int (i : Int) (t : Tok) : keyIs (.inl i) (.int i t) = true := by simp [keyIs, Value.isInt]
theorem keyIs_str (x : Str) (t : Tok) : keyIs (.inr x) (.str x t) = true := by simp [keyIs, Value.isStrOf]
theorem key_ll (a b : Int) : decide ((Sum.inl a : Key) = Sum.inl b) = (a == b) := by
 by_cases e : a = b
 ·subst e; simp
 ·have h : ¬ (Sum.inl a : Key) = Sum.inl b := fun q => e (Sum.inl.inj q)
  rw [decide_eq_false h]
  exact (beq_eq_false_iff_ne.mpr e).symm
theorem key_rr (a b : Str) : decide ((Sum.inr a : Key) = Sum.inr b) = decide (a = b) := by
 by_cases e : a = b
 ·subst e; simp
 ·have h : ¬ (Sum.inr a : Key) = Sum.inr b := fun q => e (Sum.inr.inj q)
  rw [decide_eq_false h, decide_eq_false e]
theorem key_lr (a : Int) (b : Str) : decide ((Sum.inl a : Key) = Sum.inr b) = false := decide_eq_false (fun q => nomatch q)
theorem key_rl (a : Str) (b : Int) : decide ((Sum.inr a : Key) = Sum.inl b) = false := decide_eq_false (fun q => nomatch q)
def mixKind (prog : Program) (w : World) : PySem.KeyKind prog w Key where
 is := keyIs
 hash := keyH w
 inj := fun v a b ha hb => by
  rcases keyIs_shape ha with ⟨i, t, rfl, rfl⟩ | ⟨x, t, rfl, rfl⟩
  ·rcases keyIs_shape hb with ⟨j, u, rfl, e⟩ | ⟨y, u, rfl, e⟩
   ·injection e with e1 _; rw [e1]
   ·exact nomatch e
  ·rcases keyIs_shape hb with ⟨j, u, rfl, e⟩ | ⟨y, u, rfl, e⟩
   ·exact nomatch e
   ·injection e with e1 _; rw [e1]
 byValue := fun k v h => by
  rcases keyIs_shape h with ⟨i, t, rfl, rfl⟩ | ⟨x, t, rfl, rfl⟩ <;> rfl
 pyHash := fun hv h => by
  rcases keyIs_shape hv with ⟨i, t, rfl, rfl⟩ | ⟨x, t, rfl, rfl⟩
  ·exact wpAny_pyHash_int h
  ·exact wpAny_pyHash_str h
 eqBool := fun hu hv h => by
  rcases keyIs_shape hu with ⟨i, t, rfl, rfl⟩ | ⟨x, t, rfl, rfl⟩
  ·rcases keyIs_shape hv with ⟨j, u, rfl, rfl⟩ | ⟨y, u, rfl, rfl⟩
   ·rw [key_ll] at h; exact wpAny_eqBool_int h
   ·rw [key_lr] at h; exact SeqAt.EqAt.int_str i t y u _ _ _ _ h
  ·rcases keyIs_shape hv with ⟨j, u, rfl, rfl⟩ | ⟨y, u, rfl, rfl⟩
   ·rw [key_rl] at h; exact SeqAt.EqAt.str_int x t j u _ _ _ _ h
   ·rw [key_rr] at h; exact wpAny_eqBool_str h
 «strs» := fun k x t v h => by
  rcases keyIs_shape h with ⟨i, u, rfl, e⟩ | ⟨y, u, rfl, e⟩
  ·exact nomatch e
  ·injection e with e1 _
   subst e1
   cases v <;> rfl
theorem mixKind_int (prog : Program) (w : World) (i : Int) (t : Tok) : (mixKind prog w).is (.inl i) (.int i t) = true := keyIs_int i t
theorem mixKind_str (prog : Program) (w : World) (x : Str) (t : Tok) : (mixKind prog w).is (.inr x) (.str x t) = true := keyIs_str x t
inductive V where
 | non | bl (b : Bool) | int (i : Int) | str (x : Str) | byt (b : Array UInt8) | flt (b : UInt64) | ref (a : Addr) | ty (n : String)
 deriving DecidableEq
def RelV : V -> Value -> Prop
 | .non, u => u = Value.none
 | .bl b, u => u = Value.bool b
 | .int i, u => ∃ t, u = Value.int i t
 | .str x, u => ∃ t, u = Value.str x t
 | .byt b, u => ∃ t, u = Value.bytes b t
 | .flt b, u => ∃ t, u = Value.float b t
 | .ref a, u => u = Value.ref a
 | .ty n, u => u = Value.type n
abbrev Vals : List V -> List Value -> Prop := Paired RelV
theorem Vals.length {xs : List V} {us : List Value} (r : Vals xs us) : xs.length = us.length := Paired.length r
theorem Vals.get : ∀ {xs : List V} {us : List Value} {i : Nat} {x : V}, Vals xs us -> xs[i]? = some x -> ∃ u, us[i]? = some u /\ RelV x u
 | _, _, _, _, .nil, e => by simp at e
 | _, _, 0, _, .cons r _, e => by simp at e; subst e; exact ⟨_, rfl, r⟩
 | _, _, i + 1, x, .cons _ t, e => by
  obtain ⟨u, h1, h2⟩ := Vals.get (i := i) (x := x) t (by simpa using e)
  exact ⟨u, by simpa using h1, h2⟩
theorem Vals.set {x : V} {u : Value} (r : RelV x u) : ∀ {xs : List V} {us : List Value} (i : Nat), Vals xs us -> Vals (xs.set i x) (us.set i u)
 | _, _, _, .nil => .nil
 | _, _, 0, .cons _ t => .cons r t
 | _, _, i + 1, .cons q t => .cons q (Vals.set r i t)
theorem Vals.append : ∀ {xs ys : List V} {us ws : List Value}, Vals xs us -> Vals ys ws -> Vals (xs ++ ys) (us ++ ws)
 | _, _, _, _, .nil, s => s
 | _, _, _, _, .cons r t, s => .cons r (Vals.append t s)
theorem Vals.take : ∀ {xs : List V} {us : List Value} (n : Nat), Vals xs us -> Vals (xs.take n) (us.take n)
 | _, _, 0, _ => .nil
 | _, _, _ + 1, .nil => .nil
 | _, _, n + 1, .cons r t => .cons r (Vals.take n t)
theorem Vals.drop : ∀ {xs : List V} {us : List Value} (n : Nat), Vals xs us -> Vals (xs.drop n) (us.drop n)
 | _, _, 0, r => r
 | _, _, _ + 1, .nil => .nil
 | _, _, n + 1, .cons _ t => Vals.drop n t
def RelO : Option V -> Option Value -> Prop
 | some v, some u => RelV v u
 | none, none => True
 | _, _ => False
def KV {κ : Type} : List (κ × V) -> List (κ × Value) -> Prop := Paired fun (p : κ × V) (q : κ × Value) => p.1 = q.1 /\ RelV p.2 q.2
def kV : Key -> V
 | .inl i => .int i
 | .inr x => .str x
inductive HO where
 | lst (xs : List V)
 | tup (xs : List V)
 | dK (kvs : List (Key × V)) | dT (kvs : List (List Key × V))
 | set (S : Int -> Bool) (n : Nat)
 | ins (C dx : Addr) (fs : List (Str × V))
 | own (x : Addr)
 | xd (fs : List (Str × V))
 | met (f x : Addr)
 | rng (lo hi : Int)
 | frz (o : Obj) (u : HO)
 | tbl (ps : Array Value)
 | ext (φ : Heap -> Prop)
abbrev Hp := Addr -> Option HO
def upd (H : Hp) (a : Addr) (o : HO) : Hp := fun b => if b = a then some o else H b
theorem upd_same {H : Hp} {a : Addr} {o : HO} : upd H a o a = some o := by unfold upd; rw [if_pos rfl]
theorem upd_ne {H : Hp} {a b : Addr} {o : HO} (h : b ≠ a) : upd H a o b = H b := by unfold upd; rw [if_neg h]
theorem ne_of {H : Hp} {a b : Addr} {o u : HO} (h : H a = some o) (h' : H b = some u) (d : o ≠ u) : a ≠ b := by
 intro e; subst e; rw [h] at h'; exact d (Option.some.inj h')
theorem ne_of_none {H : Hp} {a b : Addr} {o : HO} (h : H a = some o) (h' : H b = none) : a ≠ b := by
 intro e; subst e; rw [h] at h'; cases h'
section
variable (P : Program) (w : World)
def ObjOk (H : Hp) (h : Heap) (a : Addr) : HO -> Prop
 | .lst xs => xs.length <= sizeLine /\ ∃ (its : List Value) (n : Nat), Vals xs its /\ h.get? a = some { cls := .type "list", data := .seq its.toArray n }
 | .tup xs => xs.length <= sizeLine /\ ∃ its : List Value, Vals xs its /\ IsTup h a its.toArray
 | .dK kvs => kvs.length <= sizeLine /\ (a == sysModules) = false /\ ∃ vs, KV kvs vs /\ h.DictOf (mixKind P w) a vs
 | .dT kvs => kvs.length <= sizeLine /\ (a == sysModules) = false /\ ∃ xs : List (List Key × Addr × Value),
   Paired (fun (p : List Key × V) (q : List Key × Addr × Value) => p.1 = q.1 /\ H q.2.1 = some (.tup (p.1.map kV)) /\ RelV p.2 q.2.2) kvs xs /\
   ∃ o es ep, h.get? a = some o /\ o.ExactDict /\ o.data = .dict es ep /\ es.toList = xs.map (entryOfKey (tupleKind (mixKind P w))) /\ (xs.map (·.1)).Nodup
 | .set S n => h.SetOf (intKind P w) a S n
 | .ins C dx fs => H dx = some (.own a) /\ fs.length <= 1000 /\ dx ≠ a /\ h.get? a = some (PySem.W.instObj C dx) /\
   ∃ mA, h.Ns1 dx mA /\ (∀ f, RelO (fs.lookup f) (mA f)) /\ PySem.Within mA (fs.map (·.1))
 | .own _ => ∃ o, h.get? a = some o
 | .xd fs => ∃ mA, h.Ns1 a mA /\ ∀ f, RelO (fs.lookup f) (mA f)
 | .rng lo hi => ∃ t u v, h.get? a = some { cls := .type "range", data := .fields #[.int lo t, .int hi u, .int 1 v] }
 | .frz o u => h.get? a = some o /\ ObjOk H h a u
 | .tbl ps => h.get? a = some { cls := .none, data := .fields ps }
 | .met f x => h.get? a = some (PySem.W.methodObj (.ref f) (.ref x))
 | .ext φ => φ h /\ (∃ o, h.get? a = some o) /\ ∀ h1 h2 : Heap, φ h1 -> (∀ o, h1.get? a = some o -> h2.get? a = some o) -> φ h2
def HOk (H : Hp) (h : Heap) : Prop := ∀ a o, H a = some o -> ObjOk P w H h a o
end
section
variable {P : Program} {w : World} {H H' : Hp} {h h' : Heap} {a : Addr} {o : HO}
theorem ObjOk.lt (x : ObjOk P w H h a o) : a < h.objs.size := by
 cases o with
 | lst xs => obtain ⟨_, _, _, _, e⟩ := x; exact Heap.lt_size e
 | tup xs => obtain ⟨_, _, _, p⟩ := x; exact p.lt
 | dK kvs => obtain ⟨_, _, _, _, o, _, _, e, _⟩ := x; exact Heap.lt_size e
 | dT kvs => obtain ⟨_, _, _, _, o, _, _, e, _⟩ := x; exact Heap.lt_size e
 | set S n => obtain ⟨o, _, _, _, e, _⟩ := x; exact Heap.lt_size e
 | ins C dx fs => obtain ⟨_, _, _, e, _⟩ := x; exact Heap.lt_size e
 | own y => obtain ⟨_, e⟩ := x; exact Heap.lt_size e
 | xd fs => obtain ⟨_, ⟨_, _, _, e, _⟩, _⟩ := x; exact Heap.lt_size e
 | rng lo hi => obtain ⟨_, _, _, e⟩ := x; exact Heap.lt_size e
 | frz ob u => obtain ⟨e, _⟩ := x; exact Heap.lt_size e
 | tbl ps => exact Heap.lt_size (show h.get? a = some _ from x)
 | met f y => exact Heap.lt_size (show h.get? a = some _ from x)
 | ext φ => obtain ⟨_, ⟨_, e⟩, _⟩ := x; exact Heap.lt_size e
theorem Paired.mapP {α β : Type} {F G : α -> β -> Prop} : ∀ {l₁ : List α} {l₂ : List β}, Paired F l₁ l₂ -> (∀ a b, F a b -> G a b) -> Paired G l₁ l₂
 | _, _, .nil, _ => .nil
 | _, _, .cons r t, f => .cons (f _ _ r) (Paired.mapP t f)
theorem ObjOk.stay (x : ObjOk P w H h a o) (k : ∀ b u, (b = a \/ H b = some (.own a)) -> h.get? b = some u -> h'.get? b = some u)
  (ho : ∀ b, H b = some (.own a) -> H' b = some (.own a)) (ht : ∀ b xs, H b = some (.tup xs) -> H' b = some (.tup xs)) : ObjOk P w H' h' a o := by
 induction o with
 | lst xs => obtain ⟨z, its, n, r, e⟩ := x; exact ⟨z, its, n, r, k _ _ (.inl rfl) e⟩
 | tup xs => obtain ⟨z, its, r, ob, e, c⟩ := x; exact ⟨z, its, r, ob, k _ _ (.inl rfl) e, c⟩
 | dK kvs => obtain ⟨z, y, vs, r, ob, es, ep, e, c⟩ := x; exact ⟨z, y, vs, r, ob, es, ep, k _ _ (.inl rfl) e, c⟩
 | dT kvs =>
  obtain ⟨z, y, xs, r, ob, es, ep, e, c⟩ := x
  exact ⟨z, y, xs, Paired.mapP r fun p q z => ⟨z.1, ht _ _ z.2.1, z.2.2⟩, ob, es, ep, k _ _ (.inl rfl) e, c⟩
 | set S n => obtain ⟨ob, es, ep, t, e, c⟩ := x; exact ⟨ob, es, ep, t, k _ _ (.inl rfl) e, c⟩
 | ins C dx fs =>
  obtain ⟨d, z, ne, e, mA, ⟨od, es, ep, e2, c⟩, r⟩ := x
  exact ⟨ho _ d, z, ne, k _ _ (.inl rfl) e, mA, ⟨od, es, ep, k _ _ (.inr d) e2, c⟩, r⟩
 | own y => obtain ⟨ob, e⟩ := x; exact ⟨ob, k _ _ (.inl rfl) e⟩
 | xd fs => obtain ⟨mA, ⟨od, es, ep, e, c⟩, r⟩ := x; exact ⟨mA, ⟨od, es, ep, k _ _ (.inl rfl) e, c⟩, r⟩
 | rng lo hi => obtain ⟨t, u, v, e⟩ := x; exact ⟨t, u, v, k _ _ (.inl rfl) e⟩
 | frz ob u ih => obtain ⟨e, q⟩ := x; exact ⟨k _ _ (.inl rfl) e, ih q⟩
 | tbl ps =>
  have e : h.get? a = some { cls := .none, data := .fields ps } := x
  show h'.get? a = some { cls := .none, data := .fields ps }
  exact k a _ (.inl rfl) e
 | met f y =>
  have e : h.get? a = some (PySem.W.methodObj (.ref f) (.ref y)) := x
  show h'.get? a = some (PySem.W.methodObj (.ref f) (.ref y))
  exact k a _ (.inl rfl) e
 | ext φ => obtain ⟨p, ⟨o, e⟩, st⟩ := x; exact ⟨st _ _ p fun o q => k _ _ (.inl rfl) q, ⟨o, k _ _ (.inl rfl) e⟩, st⟩
theorem HOk.lt (x : HOk P w H h) (e : H a = some o) : a < h.objs.size := (x a o e).lt
theorem HOk.fresh (x : HOk P w H h) (e : h.objs.size <= a) : H a = none := by
 cases q : H a with
 | none => rfl
 | some u => exact absurd (Nat.lt_of_lt_of_le (x.lt q) e) (Nat.lt_irrefl _)
theorem HOk.kept (x : HOk P w H h) (k : ∀ b u, h.get? b = some u -> h'.get? b = some u) : HOk P w H h' := fun a o e =>
 (x a o e).stay (fun b u _ q => k b u q) (fun _ q => q) fun _ _ q => q
theorem HOk.laid (x : HOk P w H h) (k : ∀ b u, h.get? b = some u -> h'.get? b = some u) (hp : h.objs.size <= a) (new : ObjOk P w (upd H a o) h' a o) : HOk P w (upd H a o) h' := fun b u e => by
 have hn := x.fresh hp
 by_cases hb : b = a
 ·subst hb; rw [upd_same] at e; cases e; exact new
 ·rw [upd_ne hb] at e
  exact (x b u e).stay (fun c v _ q => k c v q) (fun c q => by rw [upd_ne (ne_of_none q hn)]; exact q) fun c xs q => by rw [upd_ne (ne_of_none q hn)]; exact q
end
def Rd (H : Hp) (a : Addr) (u : HO) : Prop := H a = some u \/ ∃ o, H a = some (.frz o u)
theorem Rd.of {H : Hp} {a : Addr} {u : HO} (h : H a = some u) : Rd H a u := .inl h
theorem Rd.ok {P : Program} {w : World} {H : Hp} {h : Heap} {a : Addr} {u : HO} (r : Rd H a u) (x : HOk P w H h) : ObjOk P w H h a u := by
 rcases r with r | ⟨o, r⟩
 ·exact x a u r
 ·obtain ⟨_, q⟩ := x a _ r
  exact q
def Mut : Option HO -> Prop
 | some (.lst _) => True
 | some (.dK _) => True
 | some (.dT _) => True
 | some (.set _ _) => True
 | some (.ins _ _ _) => True
 | some (.ext _) => True
 | _ => False
section
variable {P : Program} {w : World} {H : Hp} {h h' : Heap} {x e : Addr} {o' : HO}
theorem HOk.write (ok : HOk P w H h) (mu : Mut (H x)) (he : e = x \/ H e = some (.own x)) (k : ∀ b u, b ≠ e -> h.get? b = some u -> h'.get? b = some u) (heo : ∃ u, h'.get? e = some u)
  (new : ObjOk P w (upd H x o') h' x o') : HOk P w (upd H x o') h' := fun b u q => by
 have nown : ∀ c y, H c = some (.own y) -> c ≠ x := fun c y r z => by subst z; rw [r] at mu; exact mu
 have ntup : ∀ c xs, H c = some (.tup xs) -> c ≠ x := fun c xs r z => by subst z; rw [r] at mu; exact mu
 by_cases hb : b = x
 ·subst hb; rw [upd_same] at q; cases q; exact new
 ·rw [upd_ne hb] at q
  by_cases hbe : b = e
  ·have q' : H b = some (.own x) := by
    rcases he with z | z
    ·exact absurd (hbe.trans z) hb
    ·rw [hbe]; exact z
   rw [q] at q'; cases q'
   obtain ⟨v, hv⟩ := heo
   exact ⟨v, by rw [hbe]; exact hv⟩
  ·refine (ok b u q).stay (fun c v hc r => k c v ?_ r) (fun c r => by rw [upd_ne (nown c b r)]; exact r) fun c xs r => by rw [upd_ne (ntup c xs r)]; exact r
   rcases hc with rfl | hc
   ·exact hbe
   ·rintro rfl
    rcases he with z | z
    ·exact nown c b hc z
    ·rw [hc] at z; cases z; exact hb rfl
end
structure Un (fs ex : List Addr) (H H' : Hp) (h h' : Heap) : Prop where
 keep : ∀ b o, h.get? b = some o -> H b = none -> b ∉ fs -> b ∉ ex -> h'.get? b = some o
 slot : ∀ b o, h.get? b = some o -> H b = none -> b ∈ fs -> b ∉ ex -> ∃ sl, h'.get? b = some { o with slots := sl }
 free : ∀ b o, h.get? b = some o -> H b = none -> b ∉ ex -> H' b = none
 there : ∀ b o, h.get? b = some o -> b ∉ ex -> ∃ o', h'.get? b = some o'
 tups : ∀ b xs, H b = some (.tup xs) -> H' b = some (.tup xs)
 frzs : ∀ b o u, H b = some (.frz o u) -> H' b = some (.frz o u)
 tbls : ∀ b ps, H b = some (.tbl ps) -> ∃ more, H' b = some (.tbl (ps ++ more))
section
variable {fs fs' ex ex' : List Addr} {H H1 H2 : Hp} {h h1 h2 h' : Heap} {a x e : Addr} {o : HO}
theorem Un.any (u : Un fs ex H H1 h h1) {b : Addr} {ob : Obj} (q : h.get? b = some ob) (n : H b = none) (hx : b ∉ ex) : ∃ sl, h1.get? b = some { ob with slots := sl } := by
 by_cases hb : b ∈ fs
 ·exact u.slot b ob q n hb hx
 ·exact ⟨ob.slots, u.keep b ob q n hb hx⟩
theorem Un.trans (a : Un fs ex H H1 h h1) (b : Un fs ex H1 H2 h1 h2) : Un fs ex H H2 h h2 where
 keep := fun c ob q n hc hx => b.keep c ob (a.keep c ob q n hc hx) (a.free c ob q n hx) hc hx
 slot := fun c ob q n hc hx => by
  obtain ⟨sl, e1⟩ := a.slot c ob q n hc hx
  obtain ⟨sl', e2⟩ := b.slot c _ e1 (a.free c ob q n hx) hc hx
  exact ⟨sl', e2⟩
 free := fun c ob q n hx => by
  obtain ⟨o', e1⟩ := a.there c ob q hx
  exact b.free c o' e1 (a.free c ob q n hx) hx
 there := fun c ob q hx => by
  obtain ⟨o', e1⟩ := a.there c ob q hx
  exact b.there c o' e1 hx
 tups := fun c xs q => b.tups c xs (a.tups c xs q)
 frzs := fun c ob xs q => b.frzs c ob xs (a.frzs c ob xs q)
 tbls := fun c ps q => by
  obtain ⟨m1, e1⟩ := a.tbls c ps q
  obtain ⟨m2, e2⟩ := b.tbls c _ e1
  exact ⟨m1 ++ m2, by rw [e2, Array.append_assoc]⟩
theorem Un.kept (k : ∀ b u, h.get? b = some u -> h'.get? b = some u) : Un fs ex H H h h' :=
 ⟨fun b ob q _ _ _ => k b ob q, fun b ob q _ _ _ => ⟨ob.slots, k b ob q⟩, fun _ _ _ n _ => n, fun b ob q _ => ⟨ob, k b ob q⟩, fun _ _ q => q, fun _ _ _ q => q, fun _ ps q => ⟨#[], by rw [q]; simp⟩⟩
theorem Un.refl : Un fs ex H H h h := Un.kept fun _ _ q => q
theorem Un.laid (k : ∀ b u, h.get? b = some u -> h'.get? b = some u) (hp : h.objs.size <= a) (hn : H a = none) : Un fs ex H (upd H a o) h h' where
 keep := fun b u q _ _ _ => k b u q
 slot := fun b u q _ _ _ => ⟨u.slots, k b u q⟩
 free := fun b u q n _ => by rw [upd_ne (Nat.ne_of_lt (Nat.lt_of_lt_of_le (Heap.lt_size q) hp))]; exact n
 there := fun b u q _ => ⟨u, k b u q⟩
 tups := fun b xs q => by rw [upd_ne (ne_of_none q hn)]; exact q
 frzs := fun b u xs q => by rw [upd_ne (ne_of_none q hn)]; exact q
 tbls := fun b ps q => ⟨#[], by rw [upd_ne (ne_of_none q hn), q]; simp⟩
theorem Un.write (mu : Mut (H x)) (he : e = x \/ H e = some (.own x)) (k : ∀ b u, b ≠ e -> h.get? b = some u -> h'.get? b = some u) (heo : ∃ u, h'.get? e = some u) : Un fs ex H (upd H x o) h h' := by
 have hx : ∀ b, H b = none -> b ≠ x := fun b n z => by subst z; rw [n] at mu; exact mu
 have hb : ∀ b, H b = none -> b ≠ e := fun b n z => by
  subst z
  rcases he with r | r
  ·exact hx b n r
  ·rw [n] at r; cases r
 have hm : ∀ b u, H b = some u -> ¬ Mut (some u) -> b ≠ x := fun b u q nm z => by subst z; rw [q] at mu; exact nm mu
 refine ⟨fun b u q n _ _ => k b u (hb b n) q, fun b u q n _ _ => ⟨u.slots, k b u (hb b n) q⟩, fun b u q n _ => by rw [upd_ne (hx b n)]; exact n, fun b u q _ => ?_,
  fun b xs q => by rw [upd_ne (hm b _ q fun z => z)]; exact q, fun b u xs q => by rw [upd_ne (hm b _ q fun z => z)]; exact q, fun b ps q => ⟨#[], by rw [upd_ne (hm b _ q fun z => z), q]; simp⟩⟩
 by_cases hbe : b = e
 ·subst hbe; exact heo
 ·exact ⟨u, k b u hbe q⟩
theorem Un.mono (u : Un fs ex H H1 h h1) (hs : ∀ b ∈ fs, b ∈ fs') (hx : ∀ b ∈ ex, b ∈ ex') : Un fs' ex' H H1 h h1 :=
 ⟨fun b ob q n hb he => u.keep b ob q n (fun z => hb (hs b z)) fun z => he (hx b z), fun _ _ q n _ he => u.any q n fun z => he (hx _ z), fun b ob q n he => u.free b ob q n fun z => he (hx b z), fun b ob q he => u.there b ob q fun z => he (hx b z), u.tups, u.frzs, u.tbls⟩
end
def trk (h : Heap) (H : Hp) : List Addr := (List.range h.objs.size).filter fun a => (H a).isSome
def hidT (h : Heap) (H : Hp) : Heap := PySem.W.hideAll h (trk h H)
theorem hidT_size (h : Heap) (H : Hp) : (hidT h H).objs.size = h.objs.size := PySem.W.hideAll_size _ _
theorem hidT_get {h : Heap} {H : Hp} {b : Addr} {o : Obj} (e : h.get? b = some o) (n : H b = none) : (hidT h H).get? b = some o :=
 PySem.W.hideAll_get _ e fun hm => by
  have q : (H b).isSome = true := (List.mem_filter.mp hm).2
  rw [n] at q; simp at q
theorem of_hidT {h : Heap} {H : Hp} {b : Addr} {o : Obj} (e : (hidT h H).get? b = some o) : h.get? b = some o /\ H b = none := by
 have e' : h.get? b = some o := PySem.W.of_hideAll (trk h H) e
 refine ⟨e', ?_⟩
 cases q : H b with
 | none => rfl
 | some x =>
  have hm : b ∈ trk h H := List.mem_filter.mpr ⟨List.mem_range.mpr (Heap.lt_size e'), by simp [q]⟩
  have z : (hidT h H).get? b = none := PySem.W.hideAll_none (trk h H) hm
  rw [z] at e; cases e
def allNews (g h : Heap) (L : Addr) : List (Addr × Obj) := (List.range h.objs.size).filterMap fun a => if a = L \/ (g.get? a).isSome = true then none else (h.get? a).map fun o => (a, o)
def rest (g h : Heap) (L d : Addr) : List (Addr × Obj) := (allNews g h L).filter fun p => decide (p.1 ≠ d)
structure Mod (K : PySem.W.Frag) (mg : Str -> Option Value) (base : Heap) : Prop where
 kin : K.In base
 glob : base.Ns mainGlobals mg
 blt : ∃ mb, base.Ns builtinsNs mb /\ ∀ x : Str, x ≠ "__name__" -> mb x = bootBuiltins x
 nolimit : base.NoLimit
structure Cx where
 prog : Program
 w : World
 K : PySem.W.Frag
 mg : Str -> Option Value
 base : Heap
 A : Around
 N : List Str
 s₀ : Shared
 H₀ : Hp
 env : Env
 outer : List Env
 stack : List Env
 ex : List Addr
 fn : Str -> Bool
 calm : Bool
 pn : List (Addr × Obj)
 xe : Value -> Shared -> Prop
def frs (l : List Env) : List Addr := l.filterMap (·.frame)
abbrev Cx.fs (X : Cx) : List Addr := frs X.outer
def Vis (sc : Scope) (x : Str) : Prop := sc.names.lookup x = some .local \/ sc.names.lookup x = some .cell \/ sc.names.lookup x = some .free
def Loc (sc : Scope) (x : Str) : Prop := sc.names.lookup x = some .local \/ sc.names.lookup x = some .cell
def Look (env : Env) (h : Heap) (m : Str -> Option Value) (x : Str) (u : Value) : Prop :=
 (env.kindOf x = some .local /\ m x = some u) \/ ((env.kindOf x = some .cell \/ env.kindOf x = some .free) /\ ∃ c, env.cells.lookup x = some c /\ h.IsCell c (some u))
structure Cx.Ok (X : Cx) : Prop where
 mod : Mod X.K X.mg X.base
 kind : X.env.scope.kind = .function
 glob : X.env.globals = mainGlobals
 blt : X.env.builtins = builtinsNs
 above : X.s₀.heap.objs.size <= X.env.locals
 inj : ∀ x y c, X.env.cells.lookup x = some c -> X.env.cells.lookup y = some c -> x = y
 has : ∀ x, (X.env.kindOf x = some .cell \/ X.env.kindOf x = some .free) -> ∃ c, X.env.cells.lookup x = some c
 cab : ∀ x c, X.fn x = true -> X.env.cells.lookup x = some c -> X.s₀.heap.objs.size <= c
 hd : X.calm = true -> X.A.handled = none
 frames : X.A.frames = some X.stack
 stk : X.stack = X.outer \/ (X.stack = X.env :: X.outer /\ X.env.frame = some X.env.locals)
 exf : ∀ b ∈ X.ex, b ≠ X.env.locals /\ ∀ x c, X.env.cells.lookup x = some c -> c ≠ b
 bs : ∀ b o, X.base.get? b = some o -> X.s₀.heap.get? b = some o /\ X.H₀ b = none
 bsz : X.base.objs.size <= X.s₀.heap.objs.size
 noex : ∀ b o, X.base.get? b = some o -> b ∉ X.ex
 exfs : ∀ b ∈ X.ex, b ∉ X.fs
 funs : X.s₀.heap.FunFrames X.base X.outer
 frf : ∀ b ∈ X.fs, X.H₀ b = none
structure Inv (X : Cx) (pins : List (Addr × Obj)) (σ : List (Option V)) (H : Hp) (s : Shared) : Prop where
 ok : X.Ok
 os : s.os = X.s₀.os
 bare : AllBare s.gens
 base : Un X.fs X.ex X.H₀ H X.s₀.heap s.heap
 loc : ∃ m, s.heap.Ns X.env.locals m /\ ∀ (i : Nat) (x : Str) (v : V), X.N[i]? = some x -> σ[i]? = some (some v) -> Vis X.env.scope x -> ∃ u, RelV v u /\ Look X.env s.heap m x u
 cell : ∀ x c, X.env.cells.lookup x = some c -> ∃ v, s.heap.IsCell c v
 free : H X.env.locals = none
 freeC : ∀ x c, X.env.cells.lookup x = some c -> H c = none
 pin : ∀ p ∈ X.pn ++ pins, s.heap.get? p.1 = some p.2 /\ H p.1 = none /\ p.1 ≠ X.env.locals /\ p.1 ∉ X.fs /\ ∀ v, p.2.data ≠ .cell v
 hok : HOk X.prog X.w H s.heap
 len : σ.length = X.N.length
section
variable {X : Cx} {pins : List (Addr × Obj)} {σ : List (Option V)} {H H' : Hp} {s : Shared} {h' : Heap}
theorem Cx.Ok.nofr (ok : X.Ok) {b : Addr} {o : Obj} (e : X.base.get? b = some o) : b ∉ X.fs := fun hb => by
 have := (ok.funs.mem hb).1
 rw [e] at this; cases this
theorem Inv.bs (I : Inv X pins σ H s) : ∀ b o, X.base.get? b = some o -> s.heap.get? b = some o /\ H b = none := fun b o e =>
 ⟨I.base.keep b o (I.ok.bs b o e).1 (I.ok.bs b o e).2 (I.ok.nofr e) (I.ok.noex b o e), I.base.free b o (I.ok.bs b o e).1 (I.ok.bs b o e).2 (I.ok.noex b o e)⟩
theorem Inv.bk (I : Inv X pins σ H s) : ∀ b o, X.base.get? b = some o -> s.heap.get? b = some o := fun b o e => (I.bs b o e).1
theorem Inv.mod (I : Inv X pins σ H s) : Mod X.K X.mg X.base := I.ok.mod
theorem Inv.kIn (I : Inv X pins σ H s) : X.K.In s.heap := I.ok.mod.kin.keeps I.bk
theorem Inv.nolimit (I : Inv X pins σ H s) : s.heap.NoLimit := I.ok.mod.nolimit.keeps I.bk
theorem Inv.fr (I : Inv X pins σ H s) : ∃ m, Fr X.base X.env.locals s.heap m :=
 let ⟨m, hn, _⟩ := I.loc
 ⟨m, hn, I.bk, Nat.le_trans I.ok.bsz I.ok.above⟩
theorem Inv.lt (I : Inv X pins σ H s) : X.env.locals < s.heap.objs.size := let ⟨_, hn, _⟩ := I.loc; hn.lt
theorem Inv.sz (I : Inv X pins σ H s) : X.s₀.heap.objs.size <= s.heap.objs.size := Nat.le_trans I.ok.above (Nat.le_of_lt I.lt)
theorem Inv.nofs (I : Inv X pins σ H s) {a : Addr} (h : s.heap.objs.size <= a) : a ∉ X.fs := fun hb => by
 obtain ⟨_, o, ho, _⟩ := I.ok.funs.mem hb
 exact absurd (Nat.lt_of_lt_of_le (Heap.lt_size ho) (Nat.le_trans I.sz h)) (Nat.lt_irrefl _)
theorem Inv.cne (I : Inv X pins σ H s) : ∀ x c, X.env.cells.lookup x = some c -> c ≠ X.env.locals := fun x c e z => by
 obtain ⟨v, o, ho, hd⟩ := I.cell x c e
 obtain ⟨m, ⟨o', es, ep, ho', hd', _⟩, _⟩ := I.loc
 rw [z, ho'] at ho; cases ho; rw [hd'] at hd; cases hd
theorem Inv.funs (I : Inv X pins σ H s) : s.heap.FunFrames X.base X.outer := by
 have all : ∀ (l : List Env), (∀ b ∈ frs l, b ∈ X.fs) -> X.s₀.heap.FunFrames X.base l -> s.heap.FunFrames X.base l := by
  intro l
  induction l with
  | nil => intro _ _; trivial
  | cons env r ih =>
   intro hs hl
   obtain ⟨hk, ⟨L, o, hf, hn, ho, hd⟩, hr⟩ := hl
   have hL : L ∈ X.fs := hs L (by unfold frs; rw [List.filterMap_cons, hf]; exact List.mem_cons_self)
   obtain ⟨sl, e⟩ := I.base.slot L o ho (I.ok.frf L hL) hL fun z => I.ok.exfs L z hL
   exact ⟨hk, ⟨L, _, hf, hn, e, hd⟩, ih (fun b hb => hs b (by unfold frs; rw [List.filterMap_cons, hf]; exact List.mem_cons_of_mem _ hb)) hr⟩
 exact all X.outer (fun _ hb => hb) I.ok.funs
theorem Inv.stack (I : Inv X pins σ H s) : s.heap.FunFrames X.base X.stack := by
 rcases I.ok.stk with e | ⟨e, hf⟩
 ·rw [e]; exact I.funs
 ·rw [e]
  obtain ⟨m, hn, _⟩ := I.loc
  refine .cons (by rw [I.ok.kind]; decide) hf hn ?_ I.funs
  exact Heap.get?_none_of_le (Nat.le_trans I.ok.bsz I.ok.above)
theorem Inv.stkSub (I : Inv X pins σ H s) : ∀ b ∈ frs X.stack, b ∈ X.env.locals :: X.fs := fun b hb => by
 rcases I.ok.stk with e | ⟨e, hf⟩
 ·rw [e] at hb; exact List.mem_cons_of_mem _ hb
 ·rw [e] at hb
  unfold frs at hb
  rw [List.filterMap_cons, hf] at hb
  exact hb
theorem Inv.stkFree (I : Inv X pins σ H s) : ∀ b ∈ frs X.stack, H b = none := fun b hb => by
 rcases List.mem_cons.mp (I.stkSub b hb) with e | hb
 ·rw [e]; exact I.free
 ·obtain ⟨_, o, ho, _⟩ := I.ok.funs.mem hb
  exact I.base.free b o ho (I.ok.frf b hb) fun z => I.ok.exfs b z hb
theorem Inv.step {g' : Array GenState} {t' : Nat} {d' : Drawn} {ch : List Addr} (I : Inv X pins σ H s)
  (hch : ∀ b ∈ ch, (b ∈ X.ex \/ X.s₀.heap.objs.size <= b) /\ b ≠ X.env.locals /\ (∀ x c, X.env.cells.lookup x = some c -> c ≠ b) /\ ∀ p ∈ X.pn ++ pins, p.1 ≠ b)
  (keep : ∀ b o, b ≠ X.env.locals -> b ∉ X.fs -> b ∉ ch -> s.heap.get? b = some o -> H b = none -> h'.get? b = some o)
  (slot : ∀ b o, b ≠ X.env.locals -> b ∈ X.fs -> b ∉ ch -> s.heap.get? b = some o -> H b = none -> ∃ sl, h'.get? b = some { o with slots := sl }) (free : ∀ b o, b ∉ ch -> s.heap.get? b = some o -> H b = none -> H' b = none)
  (there : ∀ b o, b ∉ ch -> s.heap.get? b = some o -> ∃ o', h'.get? b = some o')
  (tups : ∀ b xs, H b = some (.tup xs) -> H' b = some (.tup xs)) (frzs : ∀ b o u, H b = some (.frz o u) -> H' b = some (.frz o u)) (tbls : ∀ b ps, H b = some (.tbl ps) -> ∃ more, H' b = some (.tbl (ps ++ more)))
  (ns : ∀ m, s.heap.Ns X.env.locals m -> h'.Ns X.env.locals m) (hok : HOk X.prog X.w H' h') (hg : AllBare g') :
  Inv X pins σ H' { s with heap := h', gens := g', drawn := d', toks := t' } := by
 have neL : ∀ b o, X.s₀.heap.get? b = some o -> b ≠ X.env.locals := fun b o e => Nat.ne_of_lt (Nat.lt_of_lt_of_le (Heap.lt_size e) I.ok.above)
 have neC : ∀ b o, X.s₀.heap.get? b = some o -> b ∉ X.ex -> b ∉ ch := fun b o e hx hb => by
  rcases (hch b hb).1 with z | z
  ·exact hx z
  ·exact absurd (Nat.lt_of_lt_of_le (Heap.lt_size e) z) (Nat.lt_irrefl _)
 have cellK : ∀ x c, X.env.cells.lookup x = some c -> ∀ v, s.heap.IsCell c v -> h'.IsCell c v := fun x c e v ⟨o, ho, hd⟩ => by
  have nch : c ∉ ch := fun z => (hch c z).2.2.1 x c e rfl
  by_cases hc : c ∈ X.fs
  ·obtain ⟨sl, q⟩ := slot c o (I.cne x c e) hc nch ho (I.freeC x c e)
   exact ⟨_, q, hd⟩
  ·exact ⟨o, keep c o (I.cne x c e) hc nch ho (I.freeC x c e), hd⟩
 refine ⟨I.ok, I.os, hg, ⟨fun b o e n hb hx => ?_, fun b o e n hb hx => ?_, fun b o e n hx => ?_, fun b o e hx => ?_, fun b xs e => tups b xs (I.base.tups b xs e), fun b o xs e => frzs b o xs (I.base.frzs b o xs e), fun b ps e => ?_⟩, ?_, fun x c e => ?_, ?_, fun x c e => ?_, fun p hp => ?_, hok, I.len⟩
 ·exact keep b o (neL b o e) hb (neC b o e hx) (I.base.keep b o e n hb hx) (I.base.free b o e n hx)
 ·obtain ⟨sl, e1⟩ := I.base.slot b o e n hb hx
  obtain ⟨sl', e2⟩ := slot b _ (neL b o e) hb (neC b o e hx) e1 (I.base.free b o e n hx)
  exact ⟨sl', e2⟩
 ·obtain ⟨o', e1⟩ := I.base.there b o e hx
  exact free b o' (neC b o e hx) e1 (I.base.free b o e n hx)
 ·obtain ⟨o', e1⟩ := I.base.there b o e hx
  exact there b o' (neC b o e hx) e1
 ·obtain ⟨m1, e1⟩ := I.base.tbls b ps e
  obtain ⟨m2, e2⟩ := tbls b _ e1
  exact ⟨m1 ++ m2, by rw [e2, Array.append_assoc]⟩
 ·obtain ⟨m, hn, hl⟩ := I.loc
  refine ⟨m, ns m hn, fun i x v e1 e2 e3 => ?_⟩
  obtain ⟨u, r, l⟩ := hl i x v e1 e2 e3
  refine ⟨u, r, ?_⟩
  rcases l with l | ⟨k, c, e, z⟩
  ·exact .inl l
  ·exact .inr ⟨k, c, e, cellK x c e _ z⟩
 ·obtain ⟨v, z⟩ := I.cell x c e
  exact ⟨v, cellK x c e v z⟩
 ·obtain ⟨m, ⟨o, _, _, ho, _⟩, _⟩ := I.loc
  exact free _ o (fun z => (hch _ z).2.1 rfl) ho I.free
 ·obtain ⟨v, o, ho, hd⟩ := I.cell x c e
  exact free c o (fun z => (hch c z).2.2.1 x c e rfl) ho (I.freeC x c e)
 ·obtain ⟨e, n, ne, nf, d⟩ := I.pin p hp
  have nch : p.1 ∉ ch := fun z => (hch p.1 z).2.2.2 p hp rfl
  exact ⟨keep p.1 p.2 ne nf nch e n, free p.1 p.2 nch e n, ne, nf, d⟩
theorem Inv.un {t' : Nat} (I : Inv X pins σ H s) (u : Un X.fs [] H H' s.heap h') (hok : HOk X.prog X.w H' h') : Inv X pins σ H' { s with heap := h', toks := t' } := by
 obtain ⟨m, ⟨o, es, ep, ho, r⟩, _⟩ := id I.loc
 obtain ⟨sl, hL⟩ := u.any ho I.free (by simp)
 exact I.step (g' := s.gens) (d' := s.drawn) (ch := []) (fun _ z => nomatch z) (fun b o _ hb _ e n => u.keep b o e n hb (by simp)) (fun b o _ hb _ e n => u.slot b o e n hb (by simp)) (fun b o _ e n => u.free b o e n (by simp)) (fun b o _ e => u.there b o e (by simp)) u.tups u.frzs u.tbls (fun m' hm => by
  obtain ⟨o', es', ep', ho', r'⟩ := hm
  rw [ho] at ho'; cases ho'
  exact ⟨_, es', ep', hL, r'⟩) hok I.bare
theorem Inv.call {g' : Array GenState} {t' : Nat} {d' : Drawn} {ch : List Addr} (I : Inv X pins σ H s) (u : Un (frs X.stack) ch H H' s.heap h') (hok : HOk X.prog X.w H' h') (hg : AllBare g')
  (hch : ∀ b ∈ ch, (b ∈ X.ex \/ X.s₀.heap.objs.size <= b) /\ b ≠ X.env.locals /\ (∀ x c, X.env.cells.lookup x = some c -> c ≠ b) /\ ∀ p ∈ X.pn ++ pins, p.1 ≠ b) :
  Inv X pins σ H' { s with heap := h', gens := g', drawn := d', toks := t' } := by
 obtain ⟨m, ⟨o, es, ep, ho, r⟩, _⟩ := id I.loc
 obtain ⟨sl, hL⟩ := u.any ho I.free fun z => (hch _ z).2.1 rfl
 exact I.step (ch := ch) hch (fun b o hL hb hc e n => u.keep b o e n (fun z => (List.mem_cons.mp (I.stkSub b z)).elim hL hb) hc) (fun b o _ _ hc e n => u.any e n hc) (fun b o hc e n => u.free b o e n hc) (fun b o hc e => u.there b o e hc) u.tups u.frzs u.tbls (fun m' hm => by
  obtain ⟨o', es', ep', ho', r'⟩ := hm
  rw [ho] at ho'; cases ho'
  exact ⟨_, es', ep', hL, r'⟩) hok hg
theorem Inv.turned {t' : Nat} {it : Addr} (I : Inv X pins σ H s) (k : ∀ b o, b ≠ it -> s.heap.get? b = some o -> h'.get? b = some o) (hn : H it = none) (hL : it ≠ X.env.locals)
  (h1 : it ∈ X.ex \/ X.s₀.heap.objs.size <= it) (h2 : ∀ x c, X.env.cells.lookup x = some c -> c ≠ it) (h3 : ∀ p ∈ X.pn ++ pins, p.1 ≠ it) : Inv X pins σ H { s with heap := h', toks := t' } := by
 have nit : ∀ b u, H b = some u -> b ≠ it := fun b u e z => by rw [z, hn] at e; cases e
 refine I.step (g' := s.gens) (d' := s.drawn) (ch := [it]) (fun b hb => ?_) (fun b o _ _ hc e _ => k b o (fun z => hc (by simp [z])) e) (fun b o _ _ hc e _ => ⟨o.slots, k b o (fun z => hc (by simp [z])) e⟩) (fun _ _ _ _ n => n)
  (fun b o hc e => ⟨o, k b o (fun z => hc (by simp [z])) e⟩) (fun _ _ e => e) (fun _ _ _ e => e) (fun b ps e => ⟨#[], by rw [e]; simp⟩) (fun m hm => ?_) (fun b u e => ?_) I.bare
 ·have e : b = it := by simpa using hb
  subst e
  exact ⟨h1, hL, h2, h3⟩
 ·obtain ⟨o, es, ep, ho, r⟩ := hm
  exact ⟨o, es, ep, k _ o (Ne.symm hL) ho, r⟩
 ·refine (I.hok b u e).stay (fun c v hc q => k c v ?_ q) (fun _ q => q) fun _ _ q => q
  rcases hc with z | z
  ·rw [z]; exact nit b u e
  ·exact nit c _ z
theorem Inv.tok (I : Inv X pins σ H s) (t : Nat) : Inv X pins σ H { s with toks := t } := I.un (h' := s.heap) (t' := t) Un.refl I.hok
theorem Inv.kept {t' : Nat} (I : Inv X pins σ H s) (k : ∀ b u, s.heap.get? b = some u -> h'.get? b = some u) : Inv X pins σ H { s with heap := h', toks := t' } := I.un (Un.kept k) (I.hok.kept k)
theorem Inv.laid {a : Addr} {o : HO} {t' : Nat} (I : Inv X pins σ H s) (k : ∀ b u, s.heap.get? b = some u -> h'.get? b = some u) (hp : s.heap.objs.size <= a) (new : ObjOk X.prog X.w (upd H a o) h' a o) :
  Inv X pins σ (upd H a o) { s with heap := h', toks := t' } := I.un (Un.laid k hp (I.hok.fresh hp)) (I.hok.laid k hp new)
theorem Inv.write {x e : Addr} {o : HO} {t' : Nat} (I : Inv X pins σ H s) (mu : Mut (H x)) (he : e = x \/ H e = some (.own x)) (k : ∀ b u, b ≠ e -> s.heap.get? b = some u -> h'.get? b = some u) (heo : ∃ u, h'.get? e = some u)
  (new : ObjOk X.prog X.w (upd H x o) h' x o) : Inv X pins σ (upd H x o) { s with heap := h', toks := t' } := I.un (Un.write mu he k heo) (I.hok.write mu he k heo new)
theorem Inv.weak {σ' : List (Option V)} (I : Inv X pins σ H s) (hl : σ'.length = σ.length) (w : ∀ (i : Nat) v, σ'[i]? = some (some v) -> σ[i]? = some (some v)) : Inv X pins σ' H s :=
 ⟨I.ok, I.os, I.bare, I.base, let ⟨m, hn, hl'⟩ := I.loc; ⟨m, hn, fun i x v e1 e2 e3 => hl' i x v e1 (w i v e2) e3⟩, I.cell, I.free, I.freeC, I.pin, I.hok, hl.trans I.len⟩
theorem Inv.pins_of {pins' : List (Addr × Obj)} (I : Inv X pins σ H s) (h : ∀ p ∈ pins', s.heap.get? p.1 = some p.2 /\ H p.1 = none /\ p.1 ≠ X.env.locals /\ p.1 ∉ X.fs /\ ∀ v, p.2.data ≠ .cell v) : Inv X pins' σ H s :=
 ⟨I.ok, I.os, I.bare, I.base, I.loc, I.cell, I.free, I.freeC, fun p hp => (List.mem_append.mp hp).elim (fun z => I.pin p (List.mem_append_left _ z)) (h p), I.hok, I.len⟩
theorem nodup_ix {N : List Str} (hN : N.Nodup) {i j : Nat} {x : Str} (a : N[i]? = some x) (b : N[j]? = some x) : i = j := by
 obtain ⟨h1, e1⟩ := List.getElem?_eq_some_iff.mp a
 obtain ⟨h2, e2⟩ := List.getElem?_eq_some_iff.mp b
 exact (List.getElem_inj hN).mp (e1.trans e2.symm)
theorem store_ok2 {M : Model} {A : Around} {E : Value -> Shared -> Prop} {i : Nat} {x : Str} {v : V} {u : Value} {Q : Unit -> Shared -> Prop} (I : Inv X pins σ H s) (hN : X.N.Nodup) (hi : X.N[i]? = some x) (hx : Loc X.env.scope x) (r : RelV v u)
  (h : ∀ s', Inv X pins (σ.set i (some v)) H s' -> (∃ a, Heap.SameBut a s.heap s'.heap /\ (a = X.env.locals \/ X.env.cells.lookup x = some a)) -> Q () s') (hf : X.fn x = true \/ X.env.scope.names.lookup x = some .local := by first | exact .inl rfl | exact .inr rfl | assumption) : wpAny M A (storeName X.env x u) Q E s := by
 obtain ⟨m, hn, hl⟩ := id I.loc
 have hcls : (X.env.scope.kind == .class || (X.env.scope.kind == .module && X.env.locals != X.env.globals)) = false := by rw [I.ok.kind]; rfl
 have hiσ : i < σ.length := by rw [I.len]; exact (List.getElem?_eq_some_iff.mp hi).1
 have cne := I.cne
 have tracked : ∀ {a : Addr} {h' : Heap}, (∃ o, s.heap.get? a = some o /\ H a = none) -> Heap.SameBut a s.heap h' -> HOk X.prog X.w H h' := fun {a h'} ha hs b ob e => by
  obtain ⟨_, _, hfree⟩ := ha
  refine (I.hok b ob e).stay (fun c w' hc q => (hs.2 c ?_).trans q) (fun _ q => q) fun _ _ q => q
  rintro rfl
  rcases hc with rfl | hc
  ·rw [hfree] at e; cases e
  ·rw [hfree] at hc; cases hc
 rcases hx with hk | hk
 ·refine wpAny_storeName_local hk hn (fun h' hn' hs => ?_) hcls
  obtain ⟨oL, _, _, hoL, _⟩ := id hn
  refine h _ ⟨I.ok, I.os, I.bare, ⟨fun b o e n hb hx => ?_, fun b o e n hb hx => ?_, I.base.free, fun b o e hx => ?_, I.base.tups, I.base.frzs, I.base.tbls⟩, ⟨_, hn', fun j y v' e1 e2 e3 => ?_⟩, fun y c e => ?_, I.free, I.freeC, fun p hp => ?_, tracked ⟨oL, hoL, I.free⟩ hs, by simpa using I.len⟩ ⟨_, hs, .inl rfl⟩
  ·exact (hs.2 b (Nat.ne_of_lt (Nat.lt_of_lt_of_le (Heap.lt_size e) I.ok.above))).trans (I.base.keep b o e n hb hx)
  ·obtain ⟨sl, e1⟩ := I.base.slot b o e n hb hx
   exact ⟨sl, (hs.2 b (Nat.ne_of_lt (Nat.lt_of_lt_of_le (Heap.lt_size e) I.ok.above))).trans e1⟩
  ·obtain ⟨o', e1⟩ := I.base.there b o e hx
   exact ⟨o', (hs.2 b (Nat.ne_of_lt (Nat.lt_of_lt_of_le (Heap.lt_size e) I.ok.above))).trans e1⟩
  ·by_cases hj : j = i
   ·subst hj
    rw [hi] at e1; cases e1
    rw [List.getElem?_set_self hiσ] at e2
    cases e2
    exact ⟨u, r, .inl ⟨hk, by simp⟩⟩
   ·rw [List.getElem?_set_ne (Ne.symm hj)] at e2
    obtain ⟨u', r', q⟩ := hl j y v' e1 e2 e3
    refine ⟨u', r', ?_⟩
    rcases q with ⟨k, e⟩ | ⟨k, c, e, z⟩
    ·refine .inl ⟨k, ?_⟩
     have : y ≠ x := fun e => hj (nodup_ix hN e1 (e ▸ hi))
     simp [this, e]
    ·exact .inr ⟨k, c, e, z.sameBut hs (cne y c e)⟩
  ·obtain ⟨w', z⟩ := I.cell y c e
   exact ⟨w', z.sameBut hs (cne y c e)⟩
  ·obtain ⟨e, n, ne, nf, d⟩ := I.pin p hp
   exact ⟨(hs.2 p.1 ne).trans e, n, ne, nf, d⟩
 ·have hfn : X.fn x = true := by
   rcases hf with z | z
   ·exact z
   ·rw [z] at hk; cases hk
  obtain ⟨c, hc⟩ := I.ok.has x (.inl hk)
  obtain ⟨w', z⟩ := I.cell x c hc
  refine wpAny_storeName_cell I.ok.kind hk hc z (fun h' hc' hs => ?_)
  obtain ⟨oc, hoc, hocd⟩ := id z
  refine h { s with heap := h' } ⟨I.ok, I.os, I.bare, ⟨fun b o e n hb hx => ?_, fun b o e n hb hx => ?_, I.base.free, fun b o e hx => ?_, I.base.tups, I.base.frzs, I.base.tbls⟩, ⟨m, hn.sameBut hs (Ne.symm (cne x c hc)), fun j y v' e1 e2 e3 => ?_⟩, fun y c' e => ?_, I.free, I.freeC, fun p hp => ?_, tracked ⟨oc, hoc, I.freeC x c hc⟩ hs, by simpa using I.len⟩ ⟨c, hs, .inr hc⟩
  ·exact (hs.2 b (Nat.ne_of_lt (Nat.lt_of_lt_of_le (Heap.lt_size e) (I.ok.cab x c hfn hc)))).trans (I.base.keep b o e n hb hx)
  ·obtain ⟨sl, e1⟩ := I.base.slot b o e n hb hx
   exact ⟨sl, (hs.2 b (Nat.ne_of_lt (Nat.lt_of_lt_of_le (Heap.lt_size e) (I.ok.cab x c hfn hc)))).trans e1⟩
  ·obtain ⟨o', e1⟩ := I.base.there b o e hx
   exact ⟨o', (hs.2 b (Nat.ne_of_lt (Nat.lt_of_lt_of_le (Heap.lt_size e) (I.ok.cab x c hfn hc)))).trans e1⟩
  ·by_cases hj : j = i
   ·subst hj
    rw [hi] at e1; cases e1
    rw [List.getElem?_set_self hiσ] at e2
    cases e2
    exact ⟨u, r, .inr ⟨.inl hk, c, hc, hc'⟩⟩
   ·rw [List.getElem?_set_ne (Ne.symm hj)] at e2
    obtain ⟨u', r', q⟩ := hl j y v' e1 e2 e3
    refine ⟨u', r', ?_⟩
    rcases q with q | ⟨k, c', e, z'⟩
    ·exact .inl q
    ·refine .inr ⟨k, c', e, z'.sameBut hs ?_⟩
     rintro rfl
     exact hj (nodup_ix hN e1 (I.ok.inj _ _ _ e hc ▸ hi))
  ·by_cases hcc : c' = c
   ·subst hcc; exact ⟨_, hc'⟩
   ·obtain ⟨w2, z2⟩ := I.cell y c' e
    exact ⟨w2, z2.sameBut hs hcc⟩
  ·obtain ⟨e, n, ne, nf, d⟩ := I.pin p hp
   refine ⟨(hs.2 p.1 ?_).trans e, n, ne, nf, d⟩
   intro q
   rw [q, hoc] at e
   have q' : oc = p.2 := Option.some.inj e
   exact d w' (by rw [<- q']; exact hocd)
theorem store_ok {M : Model} {A : Around} {E : Value -> Shared -> Prop} {i : Nat} {x : Str} {v : V} {u : Value} {Q : Unit -> Shared -> Prop} (I : Inv X pins σ H s) (hN : X.N.Nodup) (hi : X.N[i]? = some x) (hx : Loc X.env.scope x) (r : RelV v u)
  (h : ∀ s', Inv X pins (σ.set i (some v)) H s' -> Q () s') (hf : X.fn x = true \/ X.env.scope.names.lookup x = some .local := by first | exact .inl rfl | exact .inr rfl | assumption) : wpAny M A (storeName X.env x u) Q E s :=
 store_ok2 I hN hi hx r (fun s' I' _ => h s' I') hf
theorem Inv.call' {s' : Shared} {ch : List Addr} (I : Inv X pins σ H s) (ho : s'.os = s.os) (u : Un (frs X.stack) ch H H' s.heap s'.heap) (hok : HOk X.prog X.w H' s'.heap) (hg : AllBare s'.gens)
  (hch : ∀ b ∈ ch, (b ∈ X.ex \/ X.s₀.heap.objs.size <= b) /\ b ≠ X.env.locals /\ (∀ x c, X.env.cells.lookup x = some c -> c ≠ b) /\ ∀ p ∈ X.pn ++ pins, p.1 ≠ b) : Inv X pins σ H' s' := by
 obtain ⟨h', g', d', t', o'⟩ := s'
 have e : o' = s.os := ho
 subst e
 exact I.call (g' := g') (t' := t') (d' := d') u hok hg hch
end
abbrev XK := Value -> Option Addr -> Hp -> Prop
abbrev St := List (Option V)
abbrev VK := V -> Hp -> Prop
abbrev TE := St -> Hp -> VK -> Prop
abbrev TT := St -> Hp -> (Bool -> Hp -> Prop) -> Prop
abbrev TA := St -> Hp -> (List V -> Hp -> Prop) -> Prop
structure Ends where
 nx : St -> Hp -> Prop
 rt : VK
 bk : St -> Hp -> Prop := fun _ _ => False
 ct : St -> Hp -> Prop := fun _ _ => False
abbrev TS := Ends -> St -> Hp -> Prop
def EP (X : Cx) (pins : List (Addr × Obj)) (σ : St) (Q : VK) (u : Value) (s' : Shared) : Prop := ∃ v H', Inv X pins σ H' s' /\ RelV v u /\ Q v H'
def TP (X : Cx) (pins : List (Addr × Obj)) (σ : St) (Q : Bool -> Hp -> Prop) (b : Bool) (s' : Shared) : Prop := ∃ H', Inv X pins σ H' s' /\ Q b H'
def AP (X : Cx) (pins : List (Addr × Obj)) (σ : St) (Q : List V -> Hp -> Prop) (us : List Value) (s' : Shared) : Prop := ∃ vs H', Inv X pins σ H' s' /\ Vals vs us /\ Q vs H'
def SP (X : Cx) (pins : List (Addr × Obj)) (D : Ends) (f : Flow) (s' : Shared) : Prop :=
 match f with
 | .next => ∃ σ' H', Inv X pins σ' H' s' /\ D.nx σ' H'
 | .brk => ∃ σ' H', Inv X pins σ' H' s' /\ D.bk σ' H'
 | .cont => ∃ σ' H', Inv X pins σ' H' s' /\ D.ct σ' H'
 | .ret u => ∃ v σ' H', Inv X pins σ' H' s' /\ RelV v u /\ D.rt v H'
def PE (X : Cx) (e : Expr) (t : TE) : Prop :=
 ∀ (pins : List (Addr × Obj)) (s : Shared) (σ : St) (H : Hp) (Q : VK), Inv X pins σ H s -> t σ H Q -> wpAny (model X.prog X.w) X.A (eval e X.env) (EP X pins σ Q) X.xe s
def PT (X : Cx) (e : Expr) (t : TT) : Prop :=
 ∀ (pins : List (Addr × Obj)) (s : Shared) (σ : St) (H : Hp) (Q : Bool -> Hp -> Prop), Inv X pins σ H s -> t σ H Q -> wpAny (model X.prog X.w) X.A (isTrue e X.env (eval e X.env)) (TP X pins σ Q) X.xe s
def PW (X : Cx) (e : Expr) (t : TT) : Prop :=
 ∀ (whole : Sem Value) (pins : List (Addr × Obj)) (s : Shared) (σ : St) (H : Hp) (Q : Bool -> Hp -> Prop), Inv X pins σ H s -> t σ H Q -> wpAny (model X.prog X.w) X.A (isTrue e X.env whole) (TP X pins σ Q) X.xe s
theorem PW.pt {X : Cx} {e : Expr} {t : TT} (h : PW X e t) : PT X e t := h _
def PA (X : Cx) (es : List Expr) (t : TA) : Prop :=
 ∀ (pos : Pos) (pins : List (Addr × Obj)) (s : Shared) (σ : St) (H : Hp) (Q : List V -> Hp -> Prop), Inv X pins σ H s -> t σ H Q -> wpAny (model X.prog X.w) X.A (spliced (backTo pos (starEach es X.env))) (AP X pins σ Q) X.xe s
def PS (X : Cx) (st : Stmt) (t : TS) : Prop :=
 ∀ (pins : List (Addr × Obj)) (s : Shared) (σ : St) (H : Hp) (D : Ends), Inv X pins σ H s -> t D σ H -> wpAny (model X.prog X.w) X.A (exec st X.env) (SP X pins D) X.xe s
def PSs (X : Cx) (st : List Stmt) (t : TS) : Prop :=
 ∀ (pins : List (Addr × Obj)) (s : Shared) (σ : St) (H : Hp) (D : Ends), Inv X pins σ H s -> t D σ H -> wpAny (model X.prog X.w) X.A (execs st X.env) (SP X pins D) X.xe s
theorem thn {α : Type} {t : Sem α} {Q Q' : α -> Shared -> Prop} {M : Model} {A : Around} {E : Value -> Shared -> Prop} {s : Shared} (h : wpAny M A t Q E s) (hQ : ∀ a s, Q a s -> Q' a s) : wpAny M A t Q' E s := wpAny_mono h hQ fun _ _ x => x
section
variable {X : Cx}
def tVar (i : Nat) : TE := fun σ H Q => ∃ v, σ[i]? = some (some v) /\ Q v H
def tC (v : V) : TE := fun _ H Q => Q v H
theorem pe_var {i : Nat} {x : Str} {pos : Pos} (hN : X.N[i]? = some x) (hv : Vis X.env.scope x) (hd : (x == ("__debug__" : Str)) = false := by decide) (hcd : (x == ("__classdict__" : Str)) = false := by decide) : PE X (.Name x pos) (tVar i) := by
 intro pins s σ H Q I h
 obtain ⟨v, e, h⟩ := h
 obtain ⟨m, hn, hl⟩ := I.loc
 obtain ⟨u, r, l⟩ := hl i x v hN e hv
 have fin : EP X pins σ Q u s := ⟨v, H, I, r, h⟩
 rcases l with ⟨hk, hm⟩ | ⟨hk, c, hc, hcell⟩
 ·exact wpAny_Name (wpAny_loadName_local I.ok.kind hk hn hm fin) hd
 ·rcases hk with hk | hk
  ·exact wpAny_Name (wpAny_loadName_cell I.ok.kind hk hc hcell fin) hd
  ·exact wpAny_Name (wpAny_loadName_free I.ok.kind hk hc hcell fin hcd) hd
theorem pe_int {i j pos} : PE X (.Constant (.int i) j pos) (tC (.int i)) := fun _ _ _ H _ I h => wpAny_Constant_int ⟨.int i, H, I.tok _, ⟨_, rfl⟩, h⟩
theorem pe_bl {b j pos} : PE X (.Constant (.bool b) j pos) (tC (.bl b)) := fun _ _ _ H _ I h => Constant_bool ⟨.bl b, H, I, rfl, h⟩
theorem pe_non {j pos} : PE X (.Constant .none j pos) (tC .non) := fun _ _ _ H _ I h => Constant_none ⟨.non, H, I, rfl, h⟩
theorem pe_str {x j pos} : PE X (.Constant (.str x) j pos) (tC (.str x)) := fun _ _ _ H _ I h => Calls.Constant_str ⟨.str x, H, I.tok _, ⟨_, rfl⟩, h⟩
def Gl (X : Cx) (x : Str) : Prop := X.env.kindOf x = some .globalImplicit
theorem ld_glob {E : Value -> Shared -> Prop} {pins : List (Addr × Obj)} {s : Shared} {σ : St} {H : Hp} {x : Str} {u : Value} {pos : Pos} {Q : Value -> Shared -> Prop} (I : Inv X pins σ H s) (hg : Gl X x) (hm : X.mg x = some u) (h : Q u s)
  (hd : (x == ("__debug__" : Str)) = false := by decide) : wpAny (model X.prog X.w) X.A (eval (.Name x pos) X.env) Q E s :=
 Calls.Name_function_global I.ok.kind hg (Calls.loadGlobal_global (by rw [I.ok.glob]; exact I.mod.glob.keeps I.bk) hm h) hd
theorem ld_blt {E : Value -> Shared -> Prop} {pins : List (Addr × Obj)} {s : Shared} {σ : St} {H : Hp} {x : Str} {u : Value} {pos : Pos} {Q : Value -> Shared -> Prop} (I : Inv X pins σ H s) (hg : Gl X x) (hm : X.mg x = none) (hv : bootBuiltins x = some u) (h : Q u s)
  (hn : x ≠ "__name__" := by decide) (hd : (x == ("__debug__" : Str)) = false := by decide) : wpAny (model X.prog X.w) X.A (eval (.Name x pos) X.env) Q E s := by
 obtain ⟨mb, h1, h2⟩ := I.mod.blt
 exact Calls.Name_function_global I.ok.kind hg (Calls.loadGlobal_builtin (by rw [I.ok.glob]; exact I.mod.glob.keeps I.bk) hm (by rw [I.ok.blt]; exact h1.keeps I.bk) ((h2 x hn).trans hv) h) hd
theorem pe_glob {x : Str} {v : V} {u : Value} {pos : Pos} (hg : Gl X x) (hm : X.mg x = some u) (r : RelV v u) (hd : (x == ("__debug__" : Str)) = false := by decide) : PE X (.Name x pos) (tC v) :=
 fun _ _ _ H _ I h => ld_glob I hg hm ⟨v, H, I, r, h⟩ hd
theorem pe_bltn {x : Str} {v : V} {u : Value} {pos : Pos} (hg : Gl X x) (hm : X.mg x = none) (hv : bootBuiltins x = some u) (r : RelV v u) (hn : x ≠ "__name__" := by decide) (hd : (x == ("__debug__" : Str)) = false := by decide) : PE X (.Name x pos) (tC v) :=
 fun _ _ _ H _ I h => ld_blt I hg hm hv ⟨v, H, I, r, h⟩ hn hd
variable {a b : Expr} {ta tb : TE} {pos : Pos}
def tB (t : TE) : TT := fun σ H Q => t σ H fun x H1 => ∃ c, x = .bl c /\ Q c H1
theorem pt_val {e : Expr} {t : TE} (h : PE X e t) (he : ∀ whole, isTrue e X.env whole = (do let v <- whole; standAt e.pos; holding [v] (truthy v)) := by intro _; rfl) : PT X e (tB t) := by
 intro pins s σ H Q I hw
 refine isTrue_plain (thn (h pins s σ H _ I hw) fun v s1 ⟨x, H1, I1, r1, q1⟩ => ?_) (he _)
 obtain ⟨d, rfl, q⟩ := q1
 cases r1
 exact wpAny_truthy_bool ⟨H1, I1, q⟩
variable {tA tB' : TT} {rest : List Expr}
def tAnd (t u : TT) : TT := fun σ H Q => t σ H fun c H1 => if c = true then u σ H1 Q else Q false H1
def tOr (t u : TT) : TT := fun σ H Q => t σ H fun c H1 => if c = true then Q true H1 else u σ H1 Q
def tNot (t : TT) : TT := fun σ H Q => t σ H fun c H1 => Q (!c) H1
theorem pw_and1 (ha : PT X a tA) : PW X (.BoolOp .And [a] pos) tA := by
 intro wh pins s σ H Q I h
 refine isTrue_and (thn (ha pins s σ H Q I h) fun c s1 e => ?_)
 cases c with
 | true => exact isTrue_and_nil e
 | false => exact e
theorem pw_or1 (ha : PT X a tA) : PW X (.BoolOp .Or [a] pos) tA := by
 intro wh pins s σ H Q I h
 refine isTrue_or (thn (ha pins s σ H Q I h) fun c s1 e => ?_)
 cases c with
 | false => exact isTrue_or_nil e
 | true => exact e
theorem pw_and (ha : PT X a tA) (hb : PW X (.BoolOp .And (b :: rest) pos) tB') : PW X (.BoolOp .And (a :: b :: rest) pos) (tAnd tA tB') := by
 intro wh pins s σ H Q I h
 refine isTrue_and (thn (ha pins s σ H _ I h) fun c s1 ⟨H1, I1, q1⟩ => ?_)
 cases c with
 | true => exact hb wh pins s1 σ H1 Q I1 q1
 | false => exact ⟨H1, I1, q1⟩
theorem pw_or (ha : PT X a tA) (hb : PW X (.BoolOp .Or (b :: rest) pos) tB') : PW X (.BoolOp .Or (a :: b :: rest) pos) (tOr tA tB') := by
 intro wh pins s σ H Q I h
 refine isTrue_or (thn (ha pins s σ H _ I h) fun c s1 ⟨H1, I1, q1⟩ => ?_)
 cases c with
 | true => exact ⟨H1, I1, q1⟩
 | false => exact hb wh pins s1 σ H1 Q I1 q1
theorem pt_not (ha : PT X a tA) : PT X (.UnaryOp .Not a pos) (tNot tA) := by
 intro pins s σ H Q I h
 exact isTrue_not (ha pins s σ H (fun c H1 => Q (!c) H1) I h)
def tAndV (ta tb : TE) : TE := fun σ H Q => ta σ H fun x H1 => ∃ c, x = .bl c /\ if c = true then tb σ H1 Q else Q (.bl false) H1
theorem pe_one {op} {t : TE} (h : PE X a t) : PE X (.BoolOp op [a] pos) t := fun pins s σ H Q I hw => BoolOp_one (h pins s σ H Q I hw)
theorem pe_and (ha : PE X a ta) (hb : PE X (.BoolOp .And (b :: rest) pos) tb) : PE X (.BoolOp .And (a :: b :: rest) pos) (tAndV ta tb) := by
 intro pins s σ H Q I h
 refine BoolOp_and (thn (ha pins s σ H _ I h) fun v s1 ⟨x, H1, I1, r1, q1⟩ => ?_)
 obtain ⟨c, rfl, q1⟩ := q1
 cases r1
 refine wpAny_truthy_bool ?_
 cases c with
 | true => exact hb pins s1 σ H1 Q I1 q1
 | false => exact ⟨.bl false, H1, I1, rfl, q1⟩
def tIf (t : TT) (ta tb : TE) : TE := fun σ H Q => t σ H fun c H1 => if c = true then ta σ H1 Q else tb σ H1 Q
theorem pe_ifExp {c : Expr} (hc : PT X c tA) (ha : PE X a ta) (hb : PE X b tb) : PE X (.IfExp c a b pos) (tIf tA ta tb) := by
 intro pins s σ H Q I h
 refine wpAny_IfExp (thn (hc pins s σ H _ I h) fun d s1 ⟨H1, I1, q1⟩ => ?_)
 cases d with
 | true => exact ha pins s1 σ H1 Q I1 q1
 | false => exact hb pins s1 σ H1 Q I1 q1
end
def SqL (K : PySem.W.Frag) (H : Hp) (a : Addr) (xs : List V) : Prop :=
 Rd H a (.lst xs) \/
  ∃ (o : Obj) (its : Array Value) (n : Nat), K.lookup a = some o /\ o.cls = .type "list" /\ o.dict = none /\ o.data = .seq its n /\ its.size <= sizeLine /\ Vals xs its.toList
def SqT (K : PySem.W.Frag) (H : Hp) (a : Addr) (xs : List V) : Prop :=
 Rd H a (.tup xs) \/
  ∃ (o : Obj) (its : Array Value) (n : Nat), K.lookup a = some o /\ o.cls = .type "tuple" /\ o.data = .seq its n /\ its.size <= sizeLine /\ Vals xs its.toList
def absV : Value -> Option V
 | .none => some .non
 | .bool b => some (.bl b)
 | .int i _ => some (.int i)
 | .str x _ => some (.str x)
 | .bytes b _ => some (.byt b)
 | .float b _ => some (.flt b)
 | .ref a => some (.ref a)
 | .type n => some (.ty n)
 | _ => none
theorem RelV.abs {x : V} {u : Value} (r : RelV x u) : absV u = some x := by
 cases x with
 | non => cases r; rfl
 | bl _ => cases r; rfl
 | int _ => obtain ⟨t, rfl⟩ := r; rfl
 | str _ => obtain ⟨t, rfl⟩ := r; rfl
 | byt _ => obtain ⟨t, rfl⟩ := r; rfl
 | flt _ => obtain ⟨t, rfl⟩ := r; rfl
 | ref _ => cases r; rfl
 | ty _ => cases r; rfl
theorem RelV.inj {x y : V} {u : Value} (r : RelV x u) (q : RelV y u) : x = y := Option.some.inj (r.abs.symm.trans q.abs)
theorem Vals.inj : ∀ {xs ys : List V} {us : List Value}, Vals xs us -> Vals ys us -> xs = ys
 | _, _, _, .nil, .nil => rfl
 | _, _, _, .cons r t, .cons r' t' => by rw [r.inj r', Vals.inj t t']
section
variable {X : Cx} {pins : List (Addr × Obj)} {σ : St} {H : Hp} {s : Shared} {a : Addr} {xs ys : List V}
theorem SqL.of {K : PySem.W.Frag} (h : H a = some (.lst xs)) : SqL K H a xs := .inl (.inl h)
theorem SqT.of {K : PySem.W.Frag} (h : H a = some (.tup xs)) : SqT K H a xs := .inl (.inl h)
theorem Inv.list (I : Inv X pins σ H s) (h : SqL X.K H a xs) : ∃ its : List Value, Vals xs its /\ PlainL s.heap a its.toArray /\ xs.length <= sizeLine := by
 rcases h with h | ⟨o, its, n, hk, hc, hd, hs, hz, r⟩
 ·obtain ⟨z, its, n, r, e⟩ := h.ok I.hok
  exact ⟨its, r, ⟨_, n, e, rfl, rfl, rfl⟩, z⟩
 ·refine ⟨its.toList, r, ⟨o, n, I.kIn a o hk, hc, hd, by simpa using hs⟩, ?_⟩
  have e := r.length
  simp only [Array.length_toList] at e
  omega
theorem Inv.tuple (I : Inv X pins σ H s) (h : SqT X.K H a xs) : ∃ its : List Value, Vals xs its /\ IsTup s.heap a its.toArray /\ xs.length <= sizeLine := by
 rcases h with h | ⟨o, its, n, hk, hc, hs, hz, r⟩
 ·obtain ⟨z, its, r, p⟩ := h.ok I.hok
  exact ⟨its, r, p, z⟩
 ·refine ⟨its.toList, r, ⟨o, I.kIn a o hk, hc, n, by simpa using hs⟩, ?_⟩
  have e := r.length
  simp only [Array.length_toList] at e
  omega
theorem Inv.list_inj (I : Inv X pins σ H s) (h : SqL X.K H a xs) (h' : SqL X.K H a ys) : xs = ys := by
 obtain ⟨its, r, ⟨o, n, e, _, _, d⟩, _⟩ := I.list h
 obtain ⟨its', r', ⟨o', n', e', _, _, d'⟩, _⟩ := I.list h'
 rw [e] at e'; cases e'
 rw [d] at d'
 injection d' with d1 _
 have : its = its' := by simpa using congrArg Array.toList d1
 subst this
 exact r.inj r'
theorem Inv.tuple_inj (I : Inv X pins σ H s) (h : SqT X.K H a xs) (h' : SqT X.K H a ys) : xs = ys := by
 obtain ⟨its, r, ⟨o, e, _, n, d⟩, _⟩ := I.tuple h
 obtain ⟨its', r', ⟨o', e', _, n', d'⟩, _⟩ := I.tuple h'
 rw [e] at e'; cases e'
 rw [d] at d'
 injection d' with d1 _
 have : its = its' := by simpa using congrArg Array.toList d1
 subst this
 exact r.inj r'
end
abbrev Cx.wish (X : Cx) (E : Value -> Shared -> Prop) : Cx := { X with xe := E }
abbrev Cx.nox (X : Cx) : Cx := X.wish fun _ _ => False
theorem Cx.Ok.wish {X : Cx} (ok : X.Ok) (E : Value -> Shared -> Prop) : (X.wish E).Ok :=
 ⟨ok.mod, ok.kind, ok.glob, ok.blt, ok.above, ok.inj, ok.has, ok.cab, ok.hd, ok.frames, ok.stk, ok.exf, ok.bs, ok.bsz, ok.noex, ok.exfs, ok.funs, ok.frf⟩
theorem Cx.Ok.unwish {X : Cx} {E : Value -> Shared -> Prop} (ok : (X.wish E).Ok) : X.Ok :=
 ⟨ok.mod, ok.kind, ok.glob, ok.blt, ok.above, ok.inj, ok.has, ok.cab, ok.hd, ok.frames, ok.stk, ok.exf, ok.bs, ok.bsz, ok.noex, ok.exfs, ok.funs, ok.frf⟩
section
variable {X : Cx} {pins : List (Addr × Obj)} {σ : St} {H : Hp} {s : Shared} {E : Value -> Shared -> Prop}
theorem Inv.wish (I : Inv X pins σ H s) (E : Value -> Shared -> Prop) : Inv (X.wish E) pins σ H s := ⟨I.ok.wish E, I.os, I.bare, I.base, I.loc, I.cell, I.free, I.freeC, I.pin, I.hok, I.len⟩
theorem Inv.unwish (I : Inv (X.wish E) pins σ H s) : Inv X pins σ H s := ⟨I.ok.unwish, I.os, I.bare, I.base, I.loc, I.cell, I.free, I.freeC, I.pin, I.hok, I.len⟩
theorem SP.unwish {D : Ends} {f : Flow} {s' : Shared} (h : SP (X.wish E) pins D f s') : SP X pins D f s' := by
 cases f with
 | next => obtain ⟨σ', H', I, q⟩ := h; exact ⟨σ', H', I.unwish, q⟩
 | brk => obtain ⟨σ', H', I, q⟩ := h; exact ⟨σ', H', I.unwish, q⟩
 | cont => obtain ⟨σ', H', I, q⟩ := h; exact ⟨σ', H', I.unwish, q⟩
 | ret u => obtain ⟨v, σ', H', I, r, q⟩ := h; exact ⟨v, σ', H', I.unwish, r, q⟩
theorem PE.nox {e : Expr} {t : TE} (h : PE X.nox e t) : PE X e t := fun pins s σ H Q I hw =>
 wpAny_mono (h pins s σ H Q (I.wish _) hw) (fun _ _ ⟨v, H', I', r, q⟩ => ⟨v, H', I'.unwish, r, q⟩) fun _ _ z => False.elim z
theorem PT.nox {e : Expr} {t : TT} (h : PT X.nox e t) : PT X e t := fun pins s σ H Q I hw =>
 wpAny_mono (h pins s σ H Q (I.wish _) hw) (fun _ _ ⟨H', I', q⟩ => ⟨H', I'.unwish, q⟩) fun _ _ z => False.elim z
theorem PSs.nox {st : List Stmt} {t : TS} (h : PSs X.nox st t) : PSs X st t := fun pins s σ H D I hw =>
 wpAny_mono (h pins s σ H D (I.wish _) hw) (fun _ _ q => q.unwish) fun _ _ z => False.elim z
end
section
variable {X : Cx} {st : Stmt} {rest : List Stmt} {t u : TS} {e : Expr} {te : TE} {pos : Pos}
def tNext : TS := fun D σ H => D.nx σ H
def tSeq (t u : TS) : TS := fun D σ H => t { D with nx := u D } σ H
theorem pss_nil : PSs X [] tNext := fun _ _ σ H _ I h => wpAny_execs_nil ⟨σ, H, I, h⟩
theorem pss_cons (h1 : PS X st t) (h2 : PSs X rest u) : PSs X (st :: rest) (tSeq t u) := by
 intro pins s σ H D I h
 refine wpAny_execs_cons (thn (h1 pins s σ H { D with nx := u D } I h) fun f s1 q => ?_)
 cases f with
 | next =>
  obtain ⟨σ', H', I', q⟩ := q
  exact h2 pins s1 σ' H' D I' q
 | ret v => exact q
 | brk => exact q
 | cont => exact q
theorem pss_one (h1 : PS X st t) : PSs X [st] t := by
 intro pins s σ H D I h
 refine wpAny_execs_cons (thn (h1 pins s σ H D I h) fun f s1 q => ?_)
 cases f with
 | next => exact wpAny_execs_nil q
 | ret v => exact q
 | brk => exact q
 | cont => exact q
theorem Inv.quiet {pins : List (Addr × Obj)} {σ : St} {H : Hp} {s : Shared} (I : Inv X pins σ H s) : interactive X.env = false := by simp [interactive, I.ok.kind]
def tDrop (te : TE) : TS := fun D σ H => te σ H fun _ H1 => D.nx σ H1
theorem ps_expr (he : PE X e te) (hs : swapsWith e none pos.line X.env = pure false := by rfl) : PS X (.Expr e pos) (tDrop te) := by
 intro pins s σ H D I h
 exact wpAny_Expr_any (thn (he pins s σ H _ I h) fun v s1 ⟨x, H1, I1, r1, q1⟩ => ⟨σ, H1, I1, q1⟩) I.quiet hs
def tRet (te : TE) : TS := fun D σ H => te σ H D.rt
theorem ps_ret (he : PE X e te) : PS X (.Return (some e) pos) (tRet te) := by
 intro pins s σ H D I h
 exact wpAny_Return_some (thn (he pins s σ H _ I h) fun v s1 ⟨x, H1, I1, r1, q1⟩ => ⟨x, σ, H1, I1, r1, q1⟩)
def tIfS (c : TT) (t u : TS) : TS := fun D σ H => c σ H fun b H1 => if b = true then t D σ H1 else u D σ H1
theorem ps_if {c : Expr} {a b : List Stmt} {tc : TT} (hc : PT X c tc) (ha : PSs X a t) (hb : PSs X b u) : PS X (.If c a b pos) (tIfS tc t u) := by
 intro pins s σ H D I h
 refine wpAny_If (thn (hc pins s σ H _ I h) fun d s1 ⟨H1, I1, q1⟩ => ?_)
 cases d with
 | true => exact ha pins s1 σ H1 D I1 q1
 | false => exact hb pins s1 σ H1 D I1 q1
def tNever : TS := fun _ _ _ => False
theorem ps_never : PS X st tNever := fun _ _ _ _ _ _ h => h.elim
end
abbrev TG := V -> St -> Hp -> (St -> Hp -> Prop) -> Prop
abbrev TGs := List V -> St -> Hp -> (St -> Hp -> Prop) -> Prop
def PG (X : Cx) (target : Expr) (t : TG) : Prop :=
 ∀ (pins : List (Addr × Obj)) (s : Shared) (σ : St) (H : Hp) (v : V) (u : Value) (Q : St -> Hp -> Prop), Inv X pins σ H s -> RelV v u -> t v σ H Q ->
  wpAny (model X.prog X.w) X.A (assign target X.env u) (fun _ s' => ∃ σ' H', Inv X pins σ' H' s' /\ Q σ' H') X.xe s
def PGs (X : Cx) (ts : List Expr) (t : TGs) : Prop :=
 ∀ (pins : List (Addr × Obj)) (s : Shared) (σ : St) (H : Hp) (vs : List V) (us : List Value) (Q : St -> Hp -> Prop), Inv X pins σ H s -> Vals vs us -> t vs σ H Q ->
  wpAny (model X.prog X.w) X.A (assignInOrder ((assignEach ts X.env).map (·.2)) us) (fun _ s' => ∃ σ' H', Inv X pins σ' H' s' /\ Q σ' H') X.xe s
section
variable {X : Cx} {pos : Pos}
def gName (i : Nat) : TG := fun v σ H Q => Q (σ.set i (some v)) H
theorem pg_name {i : Nat} {x : Str} (hN : X.N.Nodup) (hi : X.N[i]? = some x) (hx : Loc X.env.scope x) (hf : X.fn x = true \/ X.env.scope.names.lookup x = some .local := by first | exact .inl rfl | exact .inr rfl | assumption) : PG X (.Name x pos) (gName i) := by
 intro pins s σ H v u Q I r h
 exact wpAny_assign_Name (store_ok I hN hi hx r (fun s' I' => ⟨_, H, I', h⟩) hf)
def gNil : TGs := fun vs σ H Q => vs = [] /\ Q σ H
def gCons (t : TG) (u : TGs) : TGs := fun vs σ H Q => ∃ v r, vs = v :: r /\ t v σ H fun σ' H' => u r σ' H' Q
theorem pgs_nil : PGs X [] gNil := by
 intro pins s σ H vs us Q I r h
 obtain ⟨e, h⟩ := h
 subst e
 cases r
 exact assignInOrder_nil ⟨σ, H, I, h⟩
theorem pgs_cons {e : Expr} {es : List Expr} {t : TG} {u : TGs} (h1 : PG X e t) (h2 : PGs X es u)
  (hs : (assignEach (e :: es) X.env).map (·.2) = assign e X.env :: (assignEach es X.env).map (·.2) := by rfl) : PGs X (e :: es) (gCons t u) := by
 intro pins s σ H vs us Q I r h
 obtain ⟨v, vr, e1, h⟩ := h
 subst e1
 cases r with
 | cons r rr =>
  rw [hs]
  refine assignInOrder_cons (thn (h1 pins s σ H _ _ _ I r h) fun _ s1 ⟨σ1, H1, I1, q1⟩ => ?_)
  exact h2 pins s1 σ1 H1 _ _ Q I1 rr q1
def gTup (K : PySem.W.Frag) (n : Nat) (t : TGs) : TG := fun v σ H Q => ∃ a xs, v = .ref a /\ SqT K H a xs /\ xs.length = n /\ t xs σ H Q
theorem pg_tup {es : List Expr} {k : Nat} {t : TGs} {n : Nat} (hc : X.calm = true) (h : PGs X es t)
  (hn : (assignEach es X.env).length = n := by rfl) (hst : (assignEach es X.env).findIdx? (·.1) = none := by rfl) : PG X (.Tuple es k pos) (gTup X.K n t) := by
 intro pins s σ H v u Q I r hw
 obtain ⟨a, xs, e1, hq, hl, hw⟩ := hw
 subst e1
 cases r
 obtain ⟨its, rv, ht, hz⟩ := I.tuple hq
 refine assign_Tuple_tuple (I.ok.hd hc) ht (by simp [hn, <- hl, rv.length]) hst fun h' hx => ?_
 have I1 : Inv X pins σ H { s with heap := h' } := I.kept (t' := s.toks) fun b o e => hx b o (Nat.ne_of_lt (Heap.lt_size e)) e
 exact h pins _ σ H xs _ Q I1 (by simpa using rv) hw
def tAsg (te : TE) (g : TG) : TS := fun D σ H => te σ H fun x H1 => g x σ H1 D.nx
theorem ps_asg {tg e : Expr} {te : TE} {g : TG} (he : PE X e te) (hg : PG X tg g) (hs : swapsWithSole [tg] e pos.line X.env = pure false := by rfl) (hw : swappedStores [tg] e X.env = pure none := by rfl)
  (h1 : (assignEach [tg] X.env).map (·.2) = [assign tg X.env] := by rfl) : PS X (.Assign [tg] e pos) (tAsg te g) := by
 intro pins s σ H D I h
 refine wpAny_Assign_stores (thn (he pins s σ H _ I h) fun v s1 ⟨x, H1, I1, r1, q1⟩ => ?_) hs hw
 rw [h1]
 exact thn (hg pins s1 σ H1 x v _ I1 r1 q1) fun _ s2 q => q
theorem ps_set {i : Nat} {x : Str} {e : Expr} {te : TE} {pos' : Pos} (hN : X.N.Nodup) (hi : X.N[i]? = some x) (hx : Loc X.env.scope x) (he : PE X e te) (hs : swapsWith e (some (.Name x pos')) pos.line X.env = pure false := by rfl) (hf : X.fn x = true \/ X.env.scope.names.lookup x = some .local := by first | exact .inl rfl | exact .inr rfl | assumption) :
  PS X (.Assign [.Name x pos'] e pos) (tAsg te (gName i)) := by
 intro pins s σ H D I h
 refine wpAny_Assign_Name (thn (he pins s σ H _ I h) fun v s1 ⟨y, H1, I1, r1, q1⟩ => ?_) hs
 exact store_ok I1 hN hi hx r1 (fun s2 I2 => ⟨_, H1, I2, q1⟩) hf
end
structure It where
 go : Nat -> Hp -> Prop
 yld : Nat -> Hp -> V -> Hp -> Prop
 stop : Nat -> Hp -> Prop
def FpOk (X : Cx) (pins : List (Addr × Obj)) (H : Hp) (b : Addr) : Prop :=
 H b = none /\ b ≠ X.env.locals /\ b ∉ X.fs /\ (b ∈ X.ex \/ X.s₀.heap.objs.size <= b) /\ (∀ x c, X.env.cells.lookup x = some c -> c ≠ b) /\ ∀ p ∈ X.pn ++ pins, p.1 ≠ b
theorem Inv.fpOk {X : Cx} {pins : List (Addr × Obj)} {σ : St} {H H' : Hp} {s : Shared} {b : Addr} (I : Inv X pins σ H s) (hb : s.heap.objs.size <= b) (hn : H' b = none) : FpOk X pins H' b := by
 refine ⟨hn, Nat.ne_of_gt (Nat.lt_of_lt_of_le I.lt hb), I.nofs hb, .inr (Nat.le_trans I.sz hb), fun x c e z => ?_, fun p hp z => ?_⟩
 ·obtain ⟨v, q⟩ := I.cell x c e
  exact absurd (Nat.lt_of_lt_of_le q.lt (by rw [z]; exact hb)) (Nat.lt_irrefl _)
 ·exact absurd (Nat.lt_of_lt_of_le (Heap.lt_size (I.pin p hp).1) (by rw [z]; exact hb)) (Nat.lt_irrefl _)
structure Turn (P : Program) (w : World) (K : PySem.W.Frag) (tg : Expr) (J : It) (fp : List Addr) (it : Addr) (tn : Nat -> Heap -> Prop) : Prop where
 mem : it ∈ fp
 obj : ∀ i h, tn i h -> ∀ b ∈ fp, ∃ o, h.get? b = some o /\ ∀ v, o.data ≠ .cell v
 keep : ∀ i h h', tn i h -> (∀ b ∈ fp, ∀ o, h.get? b = some o -> h'.get? b = some o) -> tn i h'
 item : ∀ (X : Cx), X.prog = P -> X.w = w -> X.K = K -> X.calm = true -> ∀ (i : Nat) (pins : List (Addr × Obj)) (s : Shared) (σ : St) (H : Hp) (E : Value -> Shared -> Prop), Inv X pins σ H s -> (∀ b ∈ fp, FpOk X pins H b) -> tn i s.heap -> J.go i H ->
  wpAny (model P w) X.A (pyNext (.ref it)) (fun r s1 => ∃ u, r = some u /\
   wpAny (model P w) X.A (letOwnedTupleGo tg (.ref it) u) (fun _ s2 => ∃ x H', Inv X pins σ H' s2 /\ RelV x u /\ J.yld i H x H' /\ tn (i + 1) s2.heap /\ ∀ b ∈ fp, H' b = none) E s1) E s
 done : ∀ (X : Cx), X.prog = P -> X.w = w -> X.K = K -> X.calm = true -> ∀ (i : Nat) (pins : List (Addr × Obj)) (s : Shared) (σ : St) (H : Hp) (E : Value -> Shared -> Prop), Inv X pins σ H s -> (∀ b ∈ fp, FpOk X pins H b) -> tn i s.heap -> J.stop i H ->
  wpAny (model P w) X.A (pyNext (.ref it)) (fun r s1 => r = none /\ Inv X pins σ H s1) E s
 self : ∀ (A : Around) (i : Nat) (s : Shared) (Q : Value -> Shared -> Prop) (E : Value -> Shared -> Prop), tn i s.heap -> Q (.ref it) s -> wpAny (model P w) A (pyIter (.ref it)) Q E s
abbrev TI := St -> Hp -> (It -> Hp -> Prop) -> Prop
def PIE (X : Cx) (pins : List (Addr × Obj)) (σ : St) (tg : Expr) (R : It -> Hp -> Prop) (itv : Value) (s2 : Shared) : Prop :=
 ∃ (it : Addr) (fp : List Addr) (tn : Nat -> Heap -> Prop) (J : It) (H' : Hp), itv = .ref it /\ Inv X pins σ H' s2 /\ Turn X.prog X.w X.K tg J fp it tn /\ tn 0 s2.heap /\ (∀ b ∈ fp, FpOk X pins H' b) /\ R J H'
def PI (X : Cx) (tg iter : Expr) (wi : TI) : Prop :=
 ∀ (pins : List (Addr × Obj)) (s : Shared) (σ : St) (H : Hp) (R : It -> Hp -> Prop), Inv X pins σ H s -> wi σ H R ->
  wpAny (model X.prog X.w) X.A (eval iter X.env) (fun v s1 => wpAny (model X.prog X.w) X.A (pyIter v) (PIE X pins σ tg R) X.xe s1) X.xe s
theorem go_of {M : Model} {A : Around} {E : Value -> Shared -> Prop} {s : Shared} {tg : Expr} {it : Addr} {u : Value} {o : Obj} {n : String} {vs : Array Value} {Q : Unit -> Shared -> Prop} (ho : s.heap.get? it = some o) (hc : o.cls = .type n) (hd : o.data = .fields vs)
  (hn : ["enumerate", "zip", "dict_itemiterator", "dict_reverseitemiterator", "odict_iterator", "itertools.zip_longest", "itertools.pairwise"].contains n = false) (hQ : Q () s) : wpAny M A (letOwnedTupleGo tg (.ref it) u) Q E s := by
 unfold letOwnedTupleGo
 cases tg <;> first
  | exact wpAny_pure hQ
  | (cases u <;> first
    | exact wpAny_pure hQ
    | (refine wpAny_bind (wpAny_load ho ?_)
       rw [hc, hd]
       show wpAny M A (if (["enumerate", "zip", "dict_itemiterator", "dict_reverseitemiterator", "odict_iterator", "itertools.zip_longest", "itertools.pairwise"].contains n && vs[0]? == some (rawInt _)) = true then _ else _) Q E s
       rw [if_neg (by intro h; rw [hn, Bool.false_and] at h; cases h)]
       exact wpAny_pure hQ))
def Itl (K : PySem.W.Frag) (a : Addr) : It :=
 ⟨fun i H => ∃ xs x, SqL K H a xs /\ xs[i]? = some x, fun i H x H' => H' = H /\ ∀ xs, SqL K H a xs -> xs[i]? = some x, fun i H => ∃ xs, SqL K H a xs /\ xs.length <= i⟩
def Itt (K : PySem.W.Frag) (a : Addr) : It :=
 ⟨fun i H => ∃ xs x, SqT K H a xs /\ xs[i]? = some x, fun i H x H' => H' = H /\ ∀ xs, SqT K H a xs -> xs[i]? = some x, fun i H => ∃ xs, SqT K H a xs /\ xs.length <= i⟩
def Itr (lo : Int) (n : Nat) : It := ⟨fun i _ => i < n, fun i H x H' => H' = H /\ x = .int (lo + i), fun i _ => n <= i⟩
theorem turn_list {P : Program} {w : World} {K : PySem.W.Frag} {tg : Expr} (a it : Addr) : Turn P w K tg (Itl K a) [it] it (fun i h => h.IsListIter it a i) where
 mem := by simp
 obj := fun i h st b hb => by
  have e : b = it := by simpa using hb
  subst e
  obtain ⟨o, e, c, d⟩ := st
  exact ⟨o, e, fun v z => by rw [d] at z; cases z⟩
 keep := fun i h h' st k => st.at fun o e => k it (by simp) o e
 item := by
  intro X hP hw hK hc i pins s σ H E I hf st hg
  subst hP hw hK
  obtain ⟨xs, x, hq, hx⟩ := hg
  obtain ⟨its, rv, p, hz⟩ := I.list hq
  obtain ⟨u, hu, ru⟩ := rv.get hx
  obtain ⟨f0, f1, f2, f3, f4, f5⟩ := hf it (by simp)
  refine wpAny_pyNext_list_item st p.isList (x := u) (by simpa using hu) fun h' st' sb => ?_
  have I1 : Inv X pins σ H { s with heap := h' } := I.turned (t' := s.toks) (fun b o hb e => (sb.2 b hb).trans e) f0 f1 f3 f4 f5
  obtain ⟨o, e, c, d⟩ := id st'
  exact ⟨u, rfl, go_of (s := { s with heap := h' }) e c d (by decide) ⟨x, H, I1, ru, ⟨rfl, fun ys hy => by rw [I.list_inj hy hq]; exact hx⟩, st', fun b hb => (hf b hb).1⟩⟩
 done := by
  intro X hP hw hK hc i pins s σ H E I hf st hg
  subst hP hw hK
  obtain ⟨xs, hq, hx⟩ := hg
  obtain ⟨its, rv, p, hz⟩ := I.list hq
  obtain ⟨f0, f1, f2, f3, f4, f5⟩ := hf it (by simp)
  have hl := rv.length
  exact wpAny_pyNext_list_end (I.ok.hd hc) st p.isList (by simp; omega) fun h' eb => ⟨rfl, I.turned (t' := s.toks) (fun b o hb e => eb b o hb e) f0 f1 f3 f4 f5⟩
 self := fun _ _ _ _ _ st h => wpAny_pyIter_listiter st h
theorem turn_tuple {P : Program} {w : World} {K : PySem.W.Frag} {tg : Expr} (a it : Addr) : Turn P w K tg (Itt K a) [it] it (fun i h => h.IsTupleIter it a i) where
 mem := by simp
 obj := fun i h st b hb => by
  have e : b = it := by simpa using hb
  subst e
  obtain ⟨o, e, c, d⟩ := st
  exact ⟨o, e, fun v z => by rw [d] at z; cases z⟩
 keep := fun i h h' st k => st.at fun o e => k it (by simp) o e
 item := by
  intro X hP hw hK hc i pins s σ H E I hf st hg
  subst hP hw hK
  obtain ⟨xs, x, hq, hx⟩ := hg
  obtain ⟨its, rv, p, hz⟩ := I.tuple hq
  obtain ⟨u, hu, ru⟩ := rv.get hx
  obtain ⟨f0, f1, f2, f3, f4, f5⟩ := hf it (by simp)
  refine wpAny_pyNext_tuple_item st (show s.heap.IsTuple a its.toArray from p) (x := u) (by simpa using hu) fun h' st' sb => ?_
  have I1 : Inv X pins σ H { s with heap := h' } := I.turned (t' := s.toks) (fun b o hb e => (sb.2 b hb).trans e) f0 f1 f3 f4 f5
  obtain ⟨o, e, c, d⟩ := id st'
  exact ⟨u, rfl, go_of (s := { s with heap := h' }) e c d (by decide) ⟨x, H, I1, ru, ⟨rfl, fun ys hy => by rw [I.tuple_inj hy hq]; exact hx⟩, st', fun b hb => (hf b hb).1⟩⟩
 done := by
  intro X hP hw hK hc i pins s σ H E I hf st hg
  subst hP hw hK
  obtain ⟨xs, hq, hx⟩ := hg
  obtain ⟨its, rv, p, hz⟩ := I.tuple hq
  obtain ⟨f0, f1, f2, f3, f4, f5⟩ := hf it (by simp)
  have hl := rv.length
  exact wpAny_pyNext_tuple_end (I.ok.hd hc) st (show s.heap.IsTuple a its.toArray from p) (by simp; omega) fun h' eb => ⟨rfl, I.turned (t' := s.toks) (fun b o hb e => eb b o hb e) f0 f1 f3 f4 f5⟩
 self := fun _ _ _ _ _ st h => wpAny_pyIter_tupleiter st h
theorem turn_range {P : Program} {w : World} {K : PySem.W.Frag} {tg : Expr} (it : Addr) (lo : Int) (n : Nat) : Turn P w K tg (Itr lo n) [it] it (fun i h => IsRangeIter h it (lo + (i : Nat) * 1) ((n : Int) - (i : Nat)) 1) where
 mem := by simp
 obj := fun i h st b hb => by
  have e : b = it := by simpa using hb
  subst e
  exact ⟨_, st, fun v z => by
   have z' : Data.fields _ = Data.cell v := z
   cases z'⟩
 keep := fun i h h' st k => k it (by simp) _ st
 item := by
  intro X hP hw hK hc i pins s σ H E I hf st hg
  subst hP hw hK
  obtain ⟨f0, f1, f2, f3, f4, f5⟩ := hf it (by simp)
  have W := Walks.range (prog := X.prog) (w := X.w) (I.ok.hd hc) it lo 1 n
  refine W.item i s _ _ hg st fun v h' tk hv st' kk => ?_
  obtain ⟨t, rfl⟩ := hv
  have I1 : Inv X pins σ H { s with heap := h', toks := tk } := I.turned (fun b o hb e => kk b o (by simpa using hb) e) f0 f1 f3 f4 f5
  refine ⟨_, rfl, go_of (s := { s with heap := h', toks := tk }) (n := "range_iterator") st' rfl rfl (by decide) ⟨.int (lo + i), H, I1, ⟨t, ?_⟩, ⟨rfl, rfl⟩, st', fun b hb => (hf b hb).1⟩⟩
  rw [Int.mul_one]
 done := by
  intro X hP hw hK hc i pins s σ H E I hf st hg
  subst hP hw hK
  obtain ⟨f0, f1, f2, f3, f4, f5⟩ := hf it (by simp)
  exact wpAny_pyNext_range_end (I.ok.hd hc) st (by have : n <= i := hg; omega) fun h' eb => ⟨rfl, I.turned (t' := s.toks) (fun b o hb e => eb b o hb e) f0 f1 f3 f4 f5⟩
 self := fun _ _ _ _ _ st h => wpAny_pyIter_rangeiter st h
section
variable {X : Cx} {tg : Expr}
def iList (K : PySem.W.Frag) (tl : TE) : TI := fun σ H R => tl σ H fun x H1 => ∃ a, x = .ref a /\ (∃ xs, SqL K H1 a xs) /\ R (Itl K a) H1
def iTup (K : PySem.W.Frag) (tl : TE) : TI := fun σ H R => tl σ H fun x H1 => ∃ a, x = .ref a /\ (∃ xs, SqT K H1 a xs) /\ R (Itt K a) H1
theorem pi_list {l : Expr} {tl : TE} (hl : PE X l tl) : PI X tg l (iList X.K tl) := by
 intro pins s σ H R I h
 refine thn (hl pins s σ H _ I h) fun v s1 ⟨x, H1, I1, r1, q1⟩ => ?_
 obtain ⟨a, e, ⟨xs, hq⟩, q⟩ := q1
 subst e
 cases r1
 obtain ⟨its, rv, p, hz⟩ := I1.list hq
 refine wpAny_pyIter_list p.isList ?_
 refine ⟨s1.heap.objs.size, [s1.heap.objs.size], _, _, H1, rfl, I1.kept (t' := s1.toks) fun b o e => Heap.get?_push_of_some _ e, turn_list a _, ⟨_, Heap.get?_push_size _ rfl, rfl, rfl⟩, fun b hb => ?_, q⟩
 have e : b = s1.heap.objs.size := by simpa using hb
 subst e
 exact I1.fpOk (Nat.le_refl _) (I1.hok.fresh (Nat.le_refl _))
theorem pi_tup {l : Expr} {tl : TE} (hl : PE X l tl) : PI X tg l (iTup X.K tl) := by
 intro pins s σ H R I h
 refine thn (hl pins s σ H _ I h) fun v s1 ⟨x, H1, I1, r1, q1⟩ => ?_
 obtain ⟨a, e, ⟨xs, hq⟩, q⟩ := q1
 subst e
 cases r1
 obtain ⟨its, rv, p, hz⟩ := I1.tuple hq
 refine wpAny_pyIter_tuple (show s1.heap.IsTuple a its.toArray from p) ?_
 refine ⟨s1.heap.objs.size, [s1.heap.objs.size], _, _, H1, rfl, I1.kept (t' := s1.toks) fun b o e => Heap.get?_push_of_some _ e, turn_tuple a _, ⟨_, Heap.get?_push_size _ rfl, rfl, rfl⟩, fun b hb => ?_, q⟩
 have e : b = s1.heap.objs.size := by simpa using hb
 subst e
 exact I1.fpOk (Nat.le_refl _) (I1.hok.fresh (Nat.le_refl _))
theorem range_it {pins : List (Addr × Obj)} {σ : St} {H : Hp} {s : Shared} {R : It -> Hp -> Prop} {E : Value -> Shared -> Prop} {lo hi : Int} {t u v : Tok} {tk : Nat} (I : Inv X pins σ H s) (h1 : -(2 ^ 62) <= lo) (h2 : lo < 2 ^ 62) (h3 : -(2 ^ 62) <= hi) (h4 : hi < 2 ^ 62)
  (q : R (Itr lo (hi - lo).toNat) H) : wpAny (model X.prog X.w) X.A (pyIter (.ref s.heap.objs.size)) (PIE X pins σ tg R) E { s with heap := s.heap.push { cls := .type "range", data := .fields #[.int lo t, .int hi u, .int 1 v] }, toks := tk } := by
 refine wpAny_pyIter_range (IsRange.new ..) (small_one h1 h2 h3 h4) ?_
 have I1 : Inv X pins σ H { s with heap := s.heap.push { cls := .type "range", data := .fields #[.int lo t, .int hi u, .int 1 v] }, toks := tk } := I.kept fun b o e => Heap.get?_push_of_some _ e
 refine ⟨(s.heap.push { cls := .type "range", data := .fields #[.int lo t, .int hi u, .int 1 v] }).objs.size, [(s.heap.push { cls := .type "range", data := .fields #[.int lo t, .int hi u, .int 1 v] }).objs.size], _, _, H, rfl,
  I1.kept (t' := tk) fun b o e => Heap.get?_push_of_some _ e, turn_range _ lo (hi - lo).toNat, ?_, fun b hb => ?_, q⟩
 ·have e1 : lo + ((0 : Nat) : Int) * 1 = lo := by simp
  have e2 : (((hi - lo).toNat : Nat) : Int) - ((0 : Nat) : Int) = Builtin.Range.rangeSize lo hi 1 := by rw [rangeSize_one]; split <;> omega
  show IsRangeIter _ _ (lo + ((0 : Nat) : Int) * 1) ((((hi - lo).toNat : Nat) : Int) - ((0 : Nat) : Int)) 1
  rw [e1, e2]
  exact Heap.get?_push_size _ rfl
 ·have e : b = (s.heap.push { cls := .type "range", data := .fields #[.int lo t, .int hi u, .int 1 v] }).objs.size := by simpa using hb
  subst e
  exact I1.fpOk (Nat.le_refl _) (I1.hok.fresh (Nat.le_refl _))
def iRng1 (ta : TA) : TI := fun σ H R => ta σ H fun vs H1 => ∃ j : Int, vs = [.int j] /\ -(2 ^ 62) <= j /\ j < 2 ^ 62 /\ R (Itr 0 j.toNat) H1
theorem pi_range1 {a : Expr} {ta : TA} {p pos : Pos} (hg : Gl X "range") (hm : X.mg "range" = none) (ha : PA X [a] ta) (hs : starEach [a] X.env = [(false, eval a X.env)] := by rfl) : PI X tg (.Call (.Name "range" p) [a] [] pos) (iRng1 ta) := by
 intro pins s σ H R I h
 refine Call_ (ld_blt I hg hm boot_range (PyProof.Rows.callWith_type1 (thn (ha pos pins s σ H _ I h) fun us s1 ⟨vs, H1, I1, r1, q1⟩ => ?_) hs rfl))
 obtain ⟨j, e, q1, q2, q⟩ := q1
 subst e
 cases r1 with
 | cons r rr =>
  cases rr
  obtain ⟨t, rfl⟩ := r
  exact call_range_1 (range_it I1 (by omega) (by omega) q1 q2 (by simpa using q))
def tFor (wi : TI) (g : TG) (tb : TS) : TS := fun D σ H => wi σ H fun J H1 => ∃ W : Nat -> Nat -> St -> Hp -> Prop, (∃ m, W 0 m σ H1) /\ ∀ i m σ H, W i m σ H ->
 (J.stop i H /\ D.nx σ H) \/ (J.go i H /\ ∃ N : St -> Hp -> Prop, (∀ σ' H', N σ' H' -> ∃ m', m' < m /\ W (i + 1) m' σ' H') /\ ∀ x H', J.yld i H x H' -> g x σ H' fun σ2 H2 => tb { D with nx := N, ct := N, bk := D.nx } σ2 H2)
def pinsAt (fp : List Addr) (h : Heap) : List (Addr × Obj) := fp.filterMap fun b => (h.get? b).map fun o => (b, o)
theorem mem_pinsAt {fp : List Addr} {h : Heap} {b : Addr} {o : Obj} (hb : b ∈ fp) (e : h.get? b = some o) : (b, o) ∈ pinsAt fp h := List.mem_filterMap.mpr ⟨b, hb, by rw [e]; rfl⟩
theorem of_pinsAt {fp : List Addr} {h : Heap} {p : Addr × Obj} (hp : p ∈ pinsAt fp h) : p.1 ∈ fp /\ h.get? p.1 = some p.2 := by
 obtain ⟨b, hb, e⟩ := List.mem_filterMap.mp hp
 cases q : h.get? b with
 | none => rw [q] at e; cases e
 | some o =>
  rw [q] at e
  have e' : (b, o) = p := Option.some.inj e
  subst e'
  exact ⟨hb, q⟩
theorem Inv.pinned {pins : List (Addr × Obj)} {σ : St} {H : Hp} {s : Shared} {fp : List Addr} (I : Inv X pins σ H s) (hf : ∀ b ∈ fp, FpOk X pins H b) (ho : ∀ b ∈ fp, ∃ o, s.heap.get? b = some o /\ ∀ v, o.data ≠ .cell v) : Inv X (pins ++ pinsAt fp s.heap) σ H s :=
 I.pins_of fun p hp => (List.mem_append.mp hp).elim (fun z => I.pin p (List.mem_append_right _ z)) fun z => by
  obtain ⟨hb, e⟩ := of_pinsAt z
  obtain ⟨f0, f1, f2, _⟩ := hf p.1 hb
  obtain ⟨o, e', d⟩ := ho p.1 hb
  rw [e] at e'; cases e'
  exact ⟨e, f0, f1, f2, d⟩
theorem Inv.unpinned {pins pl : List (Addr × Obj)} {σ : St} {H : Hp} {s : Shared} (I : Inv X (pins ++ pl) σ H s) : Inv X pins σ H s := I.pins_of fun p hp => I.pin p (List.mem_append_right _ (List.mem_append_left _ hp))
theorem ps_for {iter : Expr} {body : List Stmt} {wi : TI} {g : TG} {tb : TS} {pos : Pos} (hp : PassesOwn (model X.prog X.w) X.A X.env X.xe) (hc : X.calm = true) (hi : PI X tg iter wi) (hg : PG X tg g) (hb : PSs X body tb)
  (hs : ∀ x, foldedSetIterable iter X.env x = pure x := by intro _; rfl) : PS X (.For tg iter body [] pos) (tFor wi g tb) := by
 intro pins s σ H D I h
 refine wpAny_For (thn (hi pins s σ H _ I h) fun v s1 h1 => thn h1 fun itv s2 h2 => ?_) hs
 obtain ⟨it, fp, tn, J, H2, e, I2, T, st2, f2, W, ⟨m0, w0⟩, turn⟩ := h2
 subst e
 have stat : ∀ {H' : Hp}, (∀ b ∈ fp, H' b = none) -> ∀ b ∈ fp, FpOk X pins H' b := fun hn b hb => ⟨hn b hb, (f2 b hb).2⟩
 refine codeAny_forLoop_any (fun n s' => ∃ i σ' H', Inv X pins σ' H' s' /\ tn i s'.heap /\ (∀ b ∈ fp, H' b = none) /\ W i n σ' H') ?_ m0 ⟨0, σ, H2, I2, st2, fun b hb => (f2 b hb).1, w0⟩
 rintro n s3 ⟨i, σ3, H3, I3, st3, fr3, w3⟩
 rcases turn i n σ3 H3 w3 with ⟨stop, qn⟩ | ⟨go, N, hN, step⟩
 ·refine wpAny_passesOwn hp (thn (T.done X rfl rfl rfl hc i pins s3 σ3 H3 X.xe I3 (stat fr3) st3 stop) fun r s4 ⟨hr, I4⟩ => ?_)
  subst hr
  exact wpAny_execs_nil ⟨σ3, H3, I4, qn⟩
 ·refine wpAny_passesOwn hp (thn (T.item X rfl rfl rfl hc i pins s3 σ3 H3 X.xe I3 (stat fr3) st3 go) fun r s4 ⟨u, hr, h4⟩ => ?_)
  subst hr
  refine wpAny_passesOwn hp (thn h4 fun _ s5 ⟨x, H5, I5, r5, y5, st5, fr5⟩ => ?_)
  have I5' := I5.pinned (stat fr5) (T.obj _ _ st5)
  refine wpAny_passesOwn hp (thn (hg _ s5 σ3 H5 x u _ I5' r5 (step x H5 y5)) fun _ s6 ⟨σ6, H6, I6, q6⟩ => ?_)
  refine wpAny_passesOwn hp (thn (hb _ s6 σ6 H6 _ I6 q6) fun f s7 q7 => ?_)
  have again : ∀ {σ7 : St} {H7 : Hp}, Inv X (pins ++ pinsAt fp s5.heap) σ7 H7 s7 -> N σ7 H7 -> ∃ m, m < n /\ ∃ i σ' H', Inv X pins σ' H' s7 /\ tn i s7.heap /\ (∀ b ∈ fp, H' b = none) /\ W i m σ' H' := fun {σ7 H7} I7 n7 => by
   obtain ⟨m', hm, w7⟩ := hN σ7 H7 n7
   refine ⟨m', hm, i + 1, σ7, H7, I7.unpinned, T.keep _ _ _ st5 fun b hb o e => (I7.pin (b, o) (List.mem_append_right _ (List.mem_append_right _ (mem_pinsAt hb e)))).1, fun b hb => ?_, w7⟩
   obtain ⟨o, e, d⟩ := T.obj _ _ st5 b hb
   exact (I7.pin (b, o) (List.mem_append_right _ (List.mem_append_right _ (mem_pinsAt hb e)))).2.1
  cases f with
  | next => obtain ⟨σ7, H7, I7, n7⟩ := q7; exact again I7 n7
  | cont => obtain ⟨σ7, H7, I7, n7⟩ := q7; exact again I7 n7
  | brk => obtain ⟨σ7, H7, I7, q7⟩ := q7; exact ⟨σ7, H7, I7.unpinned, q7⟩
  | ret v => obtain ⟨x7, σ7, H7, I7, r7, q7⟩ := q7; exact ⟨x7, σ7, H7, I7.unpinned, r7, q7⟩
end
theorem for_list {K : PySem.W.Frag} {a : Addr} {xs : List V} {g : TG} {tb : TS} {D : Ends} {σ : St} {H : Hp} (Pv : Nat -> St -> Hp -> Prop) (h0 : Pv 0 σ H) (hl : ∀ i σ H, i <= xs.length -> Pv i σ H -> SqL K H a xs)
  (hs : ∀ i x σ H, xs[i]? = some x -> Pv i σ H -> g x σ H fun σ2 H2 => tb { D with nx := Pv (i + 1), ct := Pv (i + 1), bk := D.nx } σ2 H2) (hd : ∀ σ H, Pv xs.length σ H -> D.nx σ H) :
  ∃ W : Nat -> Nat -> St -> Hp -> Prop, (∃ m, W 0 m σ H) /\ ∀ i m σ H, W i m σ H ->
   ((Itl K a).stop i H /\ D.nx σ H) \/ ((Itl K a).go i H /\ ∃ N : St -> Hp -> Prop, (∀ σ' H', N σ' H' -> ∃ m', m' < m /\ W (i + 1) m' σ' H') /\ ∀ x H', (Itl K a).yld i H x H' -> g x σ H' fun σ2 H2 => tb { D with nx := N, ct := N, bk := D.nx } σ2 H2) := by
 refine ⟨fun i m σ H => m = xs.length - i /\ i <= xs.length /\ Pv i σ H, ⟨xs.length, by simp, Nat.zero_le _, h0⟩, ?_⟩
 rintro i m σ H ⟨rfl, hi, p⟩
 have q := hl i σ H hi p
 by_cases hlt : i < xs.length
 ·refine .inr ⟨⟨xs, xs[i], q, by simp [hlt]⟩, Pv (i + 1), fun σ' H' p' => ⟨xs.length - (i + 1), by omega, rfl, hlt, p'⟩, fun x H' y => ?_⟩
  obtain ⟨e, y⟩ := y
  subst e
  exact hs i x σ _ (y xs q) p
 ·have e : i = xs.length := by omega
  subst e
  exact .inl ⟨⟨xs, q, Nat.le_refl _⟩, hd σ H p⟩
theorem for_tup {K : PySem.W.Frag} {a : Addr} {xs : List V} {g : TG} {tb : TS} {D : Ends} {σ : St} {H : Hp} (Pv : Nat -> St -> Hp -> Prop) (h0 : Pv 0 σ H) (hl : ∀ i σ H, i <= xs.length -> Pv i σ H -> SqT K H a xs)
  (hs : ∀ i x σ H, xs[i]? = some x -> Pv i σ H -> g x σ H fun σ2 H2 => tb { D with nx := Pv (i + 1), ct := Pv (i + 1), bk := D.nx } σ2 H2) (hd : ∀ σ H, Pv xs.length σ H -> D.nx σ H) :
  ∃ W : Nat -> Nat -> St -> Hp -> Prop, (∃ m, W 0 m σ H) /\ ∀ i m σ H, W i m σ H ->
   ((Itt K a).stop i H /\ D.nx σ H) \/ ((Itt K a).go i H /\ ∃ N : St -> Hp -> Prop, (∀ σ' H', N σ' H' -> ∃ m', m' < m /\ W (i + 1) m' σ' H') /\ ∀ x H', (Itt K a).yld i H x H' -> g x σ H' fun σ2 H2 => tb { D with nx := N, ct := N, bk := D.nx } σ2 H2) := by
 refine ⟨fun i m σ H => m = xs.length - i /\ i <= xs.length /\ Pv i σ H, ⟨xs.length, by simp, Nat.zero_le _, h0⟩, ?_⟩
 rintro i m σ H ⟨rfl, hi, p⟩
 have q := hl i σ H hi p
 by_cases hlt : i < xs.length
 ·refine .inr ⟨⟨xs, xs[i], q, by simp [hlt]⟩, Pv (i + 1), fun σ' H' p' => ⟨xs.length - (i + 1), by omega, rfl, hlt, p'⟩, fun x H' y => ?_⟩
  obtain ⟨e, y⟩ := y
  subst e
  exact hs i x σ _ (y xs q) p
 ·have e : i = xs.length := by omega
  subst e
  exact .inl ⟨⟨xs, q, Nat.le_refl _⟩, hd σ H p⟩
theorem for_range {lo : Int} {n : Nat} {g : TG} {tb : TS} {D : Ends} {σ : St} {H : Hp} (Pv : Nat -> St -> Hp -> Prop) (h0 : Pv 0 σ H)
  (hs : ∀ i σ H, i < n -> Pv i σ H -> g (.int (lo + i)) σ H fun σ2 H2 => tb { D with nx := Pv (i + 1), ct := Pv (i + 1), bk := D.nx } σ2 H2) (hd : ∀ σ H, Pv n σ H -> D.nx σ H) :
  ∃ W : Nat -> Nat -> St -> Hp -> Prop, (∃ m, W 0 m σ H) /\ ∀ i m σ H, W i m σ H ->
   ((Itr lo n).stop i H /\ D.nx σ H) \/ ((Itr lo n).go i H /\ ∃ N : St -> Hp -> Prop, (∀ σ' H', N σ' H' -> ∃ m', m' < m /\ W (i + 1) m' σ' H') /\ ∀ x H', (Itr lo n).yld i H x H' -> g x σ H' fun σ2 H2 => tb { D with nx := N, ct := N, bk := D.nx } σ2 H2) := by
 refine ⟨fun i m σ H => m = n - i /\ i <= n /\ Pv i σ H, ⟨n, by simp, Nat.zero_le _, h0⟩, ?_⟩
 rintro i m σ H ⟨rfl, hi, p⟩
 by_cases hlt : i < n
 ·refine .inr ⟨hlt, Pv (i + 1), fun σ' H' p' => ⟨n - (i + 1), by omega, rfl, hlt, p'⟩, fun x H' y => ?_⟩
  obtain ⟨e, y⟩ := y
  subst e y
  exact hs i σ _ hlt p
 ·have e : i = n := by omega
  subst e
  exact .inl ⟨Nat.le_refl _, hd σ H p⟩
abbrev R2 := V -> V -> Hp -> VK -> Prop
def OpR (X : Cx) (f : Value -> Value -> Sem Value) (r : R2) : Prop :=
 ∀ (pins : List (Addr × Obj)) (s : Shared) (σ : St) (H : Hp) (x y : V) (v u : Value) (Q : VK), Inv X pins σ H s -> RelV x v -> RelV y u -> r x y H Q ->
  wpAny (model X.prog X.w) X.A (f v u) (EP X pins σ Q) X.xe s
def UnR (X : Cx) (f : Value -> Sem Value) (r : V -> Hp -> VK -> Prop) : Prop :=
 ∀ (pins : List (Addr × Obj)) (s : Shared) (σ : St) (H : Hp) (x : V) (v : Value) (Q : VK), Inv X pins σ H s -> RelV x v -> r x H Q ->
  wpAny (model X.prog X.w) X.A (f v) (EP X pins σ Q) X.xe s
def CallR (X : Cx) (f : Value) (r : List V -> Hp -> VK -> Prop) : Prop :=
 ∀ (pins : List (Addr × Obj)) (s : Shared) (σ : St) (H : Hp) (xs : List V) (us : List Value) (Q : VK), Inv X pins σ H s -> Vals xs us -> r xs H Q ->
  wpAny (model X.prog X.w) X.A (call f us) (EP X pins σ Q) X.xe s
def tOp (r : R2) (ta tb : TE) : TE := fun σ H Q => ta σ H fun x H1 => tb σ H1 fun y H2 => r x y H2 Q
def tUn (r : V -> Hp -> VK -> Prop) (ta : TE) : TE := fun σ H Q => ta σ H fun x H1 => r x H1 Q
def rI (C : Int -> Int -> Prop) (g : Int -> Int -> V) : R2 := fun x y H Q => ∃ i j, x = .int i /\ y = .int j /\ C i j /\ Q (g i j) H
def rI0 (g : Int -> Int -> V) : R2 := fun x y H Q => ∃ i j, x = .int i /\ y = .int j /\ Q (g i j) H
def rU (g : Int -> V) : V -> Hp -> VK -> Prop := fun x H Q => ∃ i, x = .int i /\ Q (g i) H
section
variable {X : Cx} {a b c : Expr} {ta tb tc : TE} {pos : Pos}
theorem binT (ha : PE X a ta) (hb : PE X b tb) {pins : List (Addr × Obj)} {s : Shared} {σ : St} {H : Hp} {R : V -> V -> Hp -> Prop} (I : Inv X pins σ H s)
  (h : ta σ H fun x H1 => tb σ H1 fun y H2 => R x y H2) {Q : Value -> Shared -> Prop} {f : Value -> Value -> Sem Value}
  (hf : ∀ v u s2 x y H2, Inv X pins σ H2 s2 -> RelV x v -> RelV y u -> R x y H2 -> wpAny (model X.prog X.w) X.A (f v u) Q X.xe s2) :
  wpAny (model X.prog X.w) X.A (eval a X.env) (fun v s₁ => wpAny (model X.prog X.w) X.A (eval b X.env) (fun u s₂ => wpAny (model X.prog X.w) X.A (f v u) Q X.xe s₂) X.xe s₁) X.xe s := by
 refine thn (ha pins s σ H _ I h) fun v s1 ⟨x, H1, I1, r1, q1⟩ => ?_
 refine thn (hb pins s1 σ H1 _ I1 q1) fun u s2 ⟨y, H2, I2, r2, q2⟩ => ?_
 exact hf v u s2 x y H2 I2 r1 r2 q2
theorem pe_op {op : Operator} {r : R2} (ho : OpR X (binaryOp op) r) (ha : PE X a ta) (hb : PE X b tb) : PE X (.BinOp a op b pos) (tOp r ta tb) := by
 intro pins s σ H Q I h
 exact wpAny_BinOp (binT ha hb I h fun v u s2 x y H2 I2 rx ry q => ho pins s2 σ H2 x y v u Q I2 rx ry q)
theorem pe_un {op : UnaryOp} {r : V -> Hp -> VK -> Prop} (ho : UnR X (unaryOp op) r) (ha : PE X a ta) : PE X (.UnaryOp op a pos) (tUn r ta) := by
 intro pins s σ H Q I h
 exact UnaryOp_ (thn (ha pins s σ H _ I h) fun v s1 ⟨x, H1, I1, r1, q1⟩ => ho pins s1 σ H1 x v Q I1 r1 q1)
theorem opI {f : Value -> Value -> Sem Value} {C : Int -> Int -> Prop} {g : Int -> Int -> Int}
  (rule : ∀ (i j : Int) (t u : Tok) (s : Shared) (Q : Value -> Shared -> Prop) (E : Value -> Shared -> Prop), C i j -> Q (.int (g i j) s.toks) { s with toks := s.toks + 1 } -> wpAny (model X.prog X.w) X.A (f (.int i t) (.int j u)) Q E s) :
  OpR X f (rI C fun i j => .int (g i j)) := by
 intro pins s σ H x y v u Q I rx ry h
 obtain ⟨i, j, rfl, rfl, hc, q⟩ := h
 obtain ⟨t, rfl⟩ := rx
 obtain ⟨t', rfl⟩ := ry
 exact rule i j t t' s _ _ hc ⟨.int (g i j), H, I.tok _, ⟨_, rfl⟩, q⟩
theorem opI0 {f : Value -> Value -> Sem Value} {g : Int -> Int -> Int}
  (rule : ∀ (i j : Int) (t u : Tok) (s : Shared) (Q : Value -> Shared -> Prop) (E : Value -> Shared -> Prop), Q (.int (g i j) s.toks) { s with toks := s.toks + 1 } -> wpAny (model X.prog X.w) X.A (f (.int i t) (.int j u)) Q E s) :
  OpR X f (rI0 fun i j => .int (g i j)) := by
 intro pins s σ H x y v u Q I rx ry h
 obtain ⟨i, j, rfl, rfl, q⟩ := h
 obtain ⟨t, rfl⟩ := rx
 obtain ⟨t', rfl⟩ := ry
 exact rule i j t t' s _ _ ⟨.int (g i j), H, I.tok _, ⟨_, rfl⟩, q⟩
theorem opB0 {f : Value -> Value -> Sem Value} {g : Int -> Int -> Bool}
  (rule : ∀ (i j : Int) (t u : Tok) (s : Shared) (Q : Value -> Shared -> Prop) (E : Value -> Shared -> Prop), Q (.bool (g i j)) s -> wpAny (model X.prog X.w) X.A (f (.int i t) (.int j u)) Q E s) :
  OpR X f (rI0 fun i j => .bl (g i j)) := by
 intro pins s σ H x y v u Q I rx ry h
 obtain ⟨i, j, rfl, rfl, q⟩ := h
 obtain ⟨t, rfl⟩ := rx
 obtain ⟨t', rfl⟩ := ry
 exact rule i j t t' s _ _ ⟨.bl (g i j), H, I, rfl, q⟩
def CDiv (i j : Int) : Prop := 0 < j /\ j < 1073741824
def CPow (i j : Int) : Prop := 0 <= j /\ j <= 1000000 /\ i.natAbs < 2 ^ 64
def CMul (i j : Int) : Prop := (-(2 ^ 64) < i /\ i < 2 ^ 64) \/ (-(2 ^ 64) < j /\ j < 2 ^ 64)
theorem CMul.ok {i j : Int} (h : CMul i j) : IntMulOk i j := by
 rcases h with ⟨h1, h2⟩ | ⟨h1, h2⟩
 ·exact .of_left (intBits_le_64 h1 h2)
 ·exact .of_right (intBits_le_64 h1 h2)
theorem op_add : OpR X (binaryOp .Add) (rI0 fun i j => .int (i + j)) := opI0 fun _ _ _ _ _ _ _ q => add_int q
theorem op_sub : OpR X (binaryOp .Sub) (rI0 fun i j => .int (i - j)) := opI0 fun _ _ _ _ _ _ _ q => sub_int q
theorem op_mul : OpR X (binaryOp .Mult) (rI CMul fun i j => .int (i * j)) := opI fun _ _ _ _ _ _ _ hc q => mul_int q hc.ok
theorem op_fdiv : OpR X (binaryOp .FloorDiv) (rI CDiv fun i j => .int (i / j)) := opI fun i j _ _ _ _ _ hc q => by
 have h1 : (0 : Int) < j := hc.1
 have h2 : j < 1073741824 := hc.2
 exact floordiv_int (by omega) (by rw [Int.fdiv_eq_ediv_of_nonneg i (by omega)]; exact q) (.inl (PyProof.noPylong_small (by omega)))
theorem op_mod : OpR X (binaryOp .Mod) (rI (fun _ j => 0 < j) fun i j => .int (i % j)) := opI fun i j _ _ _ _ _ hc q => by
 have h1 : (0 : Int) < j := hc
 exact mod_int' (by omega) (by rw [Int.fmod_eq_emod_of_nonneg i (by omega)]; exact q)
theorem op_pow : OpR X (binaryOp .Pow) (rI CPow fun i j => .int (i ^ j.toNat)) := opI fun _ _ _ _ _ _ _ hc q => pow_int_small hc.1 hc.2.1 hc.2.2 q
theorem unI {f : Value -> Sem Value} {g : Int -> Int}
  (rule : ∀ (i : Int) (t : Tok) (s : Shared) (Q : Value -> Shared -> Prop) (E : Value -> Shared -> Prop), Q (.int (g i) s.toks) { s with toks := s.toks + 1 } -> wpAny (model X.prog X.w) X.A (f (.int i t)) Q E s) :
  UnR X f (rU fun i => .int (g i)) := by
 intro pins s σ H x v Q I rx h
 obtain ⟨i, rfl, q⟩ := h
 obtain ⟨t, rfl⟩ := rx
 exact rule i t s _ _ ⟨.int (g i), H, I.tok _, ⟨_, rfl⟩, q⟩
theorem un_neg : UnR X (unaryOp .USub) (rU fun i => .int (-i)) := unI fun _ _ _ _ _ q => neg_int q
end
def scal : V -> V -> Bool
 | .non, .non => true | .non, .int _ => true | .int _, .non => true | .non, .bl _ => true | .bl _, .non => true | .non, .str _ => true | .str _, .non => true
 | .int _, .int _ => true | .bl _, .bl _ => true | .str _, .str _ => true | .byt _, .byt _ => true
 | .int _, .str _ => true | .str _, .int _ => true | .bl _, .str _ => true | .str _, .bl _ => true
 | _, _ => false
def rEq : R2 := fun x y H Q => scal x y = true /\ Q (.bl (decide (x = y))) H
def rNe : R2 := fun x y H Q => scal x y = true /\ Q (.bl (!decide (x = y))) H
theorem dec_int {i j : Int} : decide (V.int i = V.int j) = (i == j) := by
 rw [Bool.eq_iff_iff]
 simp
theorem dec_bl {i j : Bool} : decide (V.bl i = V.bl j) = (i == j) := by
 rw [Bool.eq_iff_iff]
 simp
theorem dec_str {i j : Str} : decide (V.str i = V.str j) = (i == j) := by
 rw [Bool.eq_iff_iff]
 simp
theorem dec_byt {i j : Array UInt8} : decide (V.byt i = V.byt j) = (i.toList == j.toList) := by
 rw [Bool.eq_iff_iff]
 cases i
 cases j
 simp
section
variable {X : Cx} {a b c : Expr} {ta tb tc : TE} {pos : Pos}
theorem fin_bl {pins : List (Addr × Obj)} {σ : St} {H : Hp} {s : Shared} {Q : VK} {k k' : Bool} (I : Inv X pins σ H s) (q : Q (.bl k) H) (e : k = k') : EP X pins σ Q (.bool k') s := by
 subst e
 exact ⟨.bl k, H, I, rfl, q⟩
theorem op_eq : OpR X (compareOp .Eq) rEq := by
 intro pins s σ H x y v u Q I rx ry h
 obtain ⟨hs, q⟩ := h
 cases x with
 | non =>
  cases rx
  cases y with
  | non => cases ry; exact PySem.EqNone.eq_none_none (fin_bl I q (by simp))
  | bl j => cases ry; exact PySem.EqNone.eq_none_bool (fin_bl I q (by simp))
  | int j => obtain ⟨t', rfl⟩ := ry; exact PySem.EqNone.eq_none_int (fin_bl I q (by simp))
  | str j => obtain ⟨t', rfl⟩ := ry; exact PySem.EqNone.eq_none_str (fin_bl I q (by simp))
  | _ => exact absurd (show false = true from hs) Bool.false_ne_true
 | bl i =>
  cases rx
  cases y with
  | non => cases ry; exact PySem.EqNone.eq_bool_none (fin_bl I q (by simp))
  | bl j => cases ry; exact eq_bool (fin_bl I q dec_bl)
  | str j => obtain ⟨t', rfl⟩ := ry; exact PySem.EqMixed.eq_bool_str (fin_bl I q (by simp))
  | _ => exact absurd (show false = true from hs) Bool.false_ne_true
 | int i =>
  obtain ⟨t, rfl⟩ := rx
  cases y with
  | non => cases ry; exact PySem.EqNone.eq_int_none (fin_bl I q (by simp))
  | int j => obtain ⟨t', rfl⟩ := ry; exact eq_int (fin_bl I q dec_int)
  | str j => obtain ⟨t', rfl⟩ := ry; exact PySem.EqMixed.eq_int_str (fin_bl I q (by simp))
  | _ => exact absurd (show false = true from hs) Bool.false_ne_true
 | str i =>
  obtain ⟨t, rfl⟩ := rx
  cases y with
  | non => cases ry; exact PySem.EqNone.eq_str_none (fin_bl I q (by simp))
  | bl j => cases ry; exact PySem.EqMixed.eq_str_bool (fin_bl I q (by simp))
  | int j => obtain ⟨t', rfl⟩ := ry; exact PySem.EqMixed.eq_str_int (fin_bl I q (by simp))
  | str j => obtain ⟨t', rfl⟩ := ry; exact eq_str (fin_bl I q dec_str)
  | _ => exact absurd (show false = true from hs) Bool.false_ne_true
 | byt i =>
  obtain ⟨t, rfl⟩ := rx
  cases y with
  | byt j => obtain ⟨t', rfl⟩ := ry; exact PySem.W.eq_bytes (fin_bl I q dec_byt)
  | _ => exact absurd (show false = true from hs) Bool.false_ne_true
 | _ => cases y <;> exact absurd (show false = true from hs) Bool.false_ne_true
theorem op_ne : OpR X (compareOp .NotEq) rNe := by
 intro pins s σ H x y v u Q I rx ry h
 obtain ⟨hs, q⟩ := h
 cases x with
 | non =>
  cases rx
  cases y with
  | non => cases ry; exact PySem.EqNone.ne_none_none (fin_bl I q (by simp))
  | bl j => cases ry; exact PySem.EqNone.ne_none_bool (fin_bl I q (by simp))
  | int j => obtain ⟨t', rfl⟩ := ry; exact PySem.EqNone.ne_none_int (fin_bl I q (by simp))
  | str j => obtain ⟨t', rfl⟩ := ry; exact PySem.EqNone.ne_none_str (fin_bl I q (by simp))
  | _ => exact absurd (show false = true from hs) Bool.false_ne_true
 | bl i =>
  cases rx
  cases y with
  | non => cases ry; exact PySem.EqNone.ne_bool_none (fin_bl I q (by simp))
  | bl j => cases ry; exact ne_bool (fin_bl I q (congrArg not dec_bl))
  | str j => obtain ⟨t', rfl⟩ := ry; exact PySem.EqMixed.ne_bool_str (fin_bl I q (by simp))
  | _ => exact absurd (show false = true from hs) Bool.false_ne_true
 | int i =>
  obtain ⟨t, rfl⟩ := rx
  cases y with
  | non => cases ry; exact PySem.EqNone.ne_int_none (fin_bl I q (by simp))
  | int j => obtain ⟨t', rfl⟩ := ry; exact ne_int (fin_bl I q (congrArg not dec_int))
  | str j => obtain ⟨t', rfl⟩ := ry; exact PySem.EqMixed.ne_int_str (fin_bl I q (by simp))
  | _ => exact absurd (show false = true from hs) Bool.false_ne_true
 | str i =>
  obtain ⟨t, rfl⟩ := rx
  cases y with
  | non => cases ry; exact PySem.EqNone.ne_str_none (fin_bl I q (by simp))
  | bl j => cases ry; exact PySem.EqMixed.ne_str_bool (fin_bl I q (by simp))
  | int j => obtain ⟨t', rfl⟩ := ry; exact PySem.EqMixed.ne_str_int (fin_bl I q (by simp))
  | str j => obtain ⟨t', rfl⟩ := ry; exact ne_str (fin_bl I q (congrArg not dec_str))
  | _ => exact absurd (show false = true from hs) Bool.false_ne_true
 | byt i =>
  obtain ⟨t, rfl⟩ := rx
  cases y with
  | byt j => obtain ⟨t', rfl⟩ := ry; exact PySem.W.ne_bytes (fin_bl I q (congrArg not dec_byt))
  | _ => exact absurd (show false = true from hs) Bool.false_ne_true
 | _ => cases y <;> exact absurd (show false = true from hs) Bool.false_ne_true
theorem op_lt : OpR X (compareOp .Lt) (rI0 fun i j => .bl (decide (i < j))) := opB0 fun _ _ _ _ _ _ _ q => lt_int q
theorem op_le : OpR X (compareOp .LtE) (rI0 fun i j => .bl (decide (i <= j))) := opB0 fun _ _ _ _ _ _ _ q => le_int q
theorem op_gt : OpR X (compareOp .Gt) (rI0 fun i j => .bl (decide (j < i))) := opB0 fun _ _ _ _ _ _ _ q => gt_int q
theorem op_isN : OpR X (compareOp .Is) (fun x y H Q => y = .non /\ Q (.bl (decide (x = .non))) H) := by
 intro pins s σ H x y v u Q I rx ry h
 obtain ⟨rfl, q⟩ := h
 cases ry
 refine is_none_gen (fin_bl I q ?_)
 cases x <;> first
  | (cases rx; rfl)
  | (obtain ⟨t, rfl⟩ := rx; rfl)
theorem op_notN : OpR X (compareOp .IsNot) (fun x y H Q => y = .non /\ Q (.bl (!decide (x = .non))) H) := by
 intro pins s σ H x y v u Q I rx ry h
 obtain ⟨rfl, q⟩ := h
 cases ry
 refine isnot_none_gen (fin_bl I q ?_)
 cases x <;> first
  | (cases rx; rfl)
  | (obtain ⟨t, rfl⟩ := rx; rfl)
theorem OpR.or {f : Value -> Value -> Sem Value} {r r' : R2} (h : OpR X f r) (h' : OpR X f r') : OpR X f (fun x y H Q => r x y H Q \/ r' x y H Q) := by
 intro pins s σ H x y v u Q I rx ry q
 rcases q with q | q
 ·exact h pins s σ H x y v u Q I rx ry q
 ·exact h' pins s σ H x y v u Q I rx ry q
theorem nomark (b : Expr) {op : CmpOp} (h : op ≠ .In := by decide) (h2 : op ≠ .NotIn := by decide) : behindInMarks op b = false := by
 have e1 : (op == CmpOp.In) = false := by cases op <;> first | rfl | exact absurd rfl h
 have e2 : (op == CmpOp.NotIn) = false := by cases op <;> first | rfl | exact absurd rfl h2
 cases b <;> simp [behindInMarks, e1, e2]
theorem pe_cmpR {op : CmpOp} {r : R2} (ho : OpR X (compareOp op) r) (ha : PE X a ta) (hb : PE X b tb) (hm : behindInMarks op b = false) : PE X (.Compare a [op] [b] pos) (tOp r ta tb) := by
 intro pins s σ H Q I h
 exact wpAny_Compare1 (binT ha hb I h fun v u s2 x y H2 I2 rx ry q => ho pins s2 σ H2 x y v u Q I2 rx ry q) hm
def tTest (t : TE) : TT := fun σ H Q => t σ H fun x H' => ∃ k, x = .bl k /\ Q k H'
theorem pt_cmpR {op : CmpOp} {r : R2} (ho : OpR X (compareOp op) r) (ha : PE X a ta) (hb : PE X b tb) (hm : behindInMarks op b = false) : PT X (.Compare a [op] [b] pos) (tTest (tOp r ta tb)) := by
 intro pins s σ H Q I h
 refine wpAny_isTrue_Compare1 (thn (ha pins s σ H _ I h) fun v s1 ⟨x, H1, I1, r1, q1⟩ => thn (hb pins s1 σ H1 _ I1 q1) fun u s2 ⟨y, H2, I2, r2, q2⟩ =>
  thn (ho pins s2 σ H2 x y v u _ I2 r1 r2 q2) fun c s3 ⟨z, H3, I3, r3, k, e, q3⟩ => ?_) hm
 subst e
 cases r3
 exact wpAny_truthy_bool ⟨H3, I3, q3⟩
def tChain (r r' : R2) (ta tb tc : TE) : TE := fun σ H Q => ta σ H fun x H1 => tb σ H1 fun y H2 => r x y H2 fun z H3 => ∃ k, z = .bl k /\
 (if k = true then tc σ H3 fun w' H4 => r' y w' H4 Q else Q (.bl false) H3)
theorem pe_chain {op op' : CmpOp} {r r' : R2} (ho : OpR X (compareOp op) r) (ho' : OpR X (compareOp op') r') (ha : PE X a ta) (hb : PE X b tb) (hc : PE X c tc)
  (hm : lastMarks [op, op'] [b, c] = false := by with_unfolding_all rfl) : PE X (.Compare a [op, op'] [b, c] pos) (tChain r r' ta tb tc) := by
 intro pins s σ H Q I h
 refine Compare_chain (thn (ha pins s σ H _ I h) fun v s1 ⟨x, H1, I1, r1, q1⟩ => chain_link (thn (hb pins s1 σ H1 _ I1 q1) fun u s2 ⟨y, H2, I2, r2, q2⟩ =>
  thn (ho pins s2 σ H2 x y v u _ I2 r1 r2 q2) fun d s3 ⟨z, H3, I3, r3, k, e, q3⟩ => ?_)) hm
 subst e
 cases r3
 refine wpAny_truthy_bool ?_
 cases k with
 | false => exact ite_ff ⟨.bl false, H3, I3, rfl, q3⟩
 | true => exact ite_tt (chain_last (thn (hc pins s3 σ H3 _ I3 q3) fun w' s4 ⟨z', H4, I4, r4, q4⟩ => ho' pins s4 σ H4 y z' u w' Q I4 r2 r4 q4))
theorem pt_chain {op op' : CmpOp} {r r' : R2} (ho : OpR X (compareOp op) r) (ho' : OpR X (compareOp op') r') (ha : PE X a ta) (hb : PE X b tb) (hc : PE X c tc)
  (hm : lastMarks [op, op'] [b, c] = false := by with_unfolding_all rfl) : PT X (.Compare a [op, op'] [b, c] pos) (tTest (tChain r r' ta tb tc)) := by
 intro pins s σ H Q I h
 refine isTrue_chain (thn (ha pins s σ H _ I h) fun v s1 ⟨x, H1, I1, r1, q1⟩ => test_link (thn (hb pins s1 σ H1 _ I1 q1) fun u s2 ⟨y, H2, I2, r2, q2⟩ =>
  thn (ho pins s2 σ H2 x y v u _ I2 r1 r2 q2) fun d s3 ⟨z, H3, I3, r3, k, e, q3⟩ => ?_)) hm
 subst e
 cases r3
 refine wpAny_truthy_bool ?_
 cases k with
 | false =>
  obtain ⟨k', e', q'⟩ := q3
  cases e'
  exact ite_ff ⟨H3, I3, q'⟩
 | true =>
  refine ite_tt (test_last (thn (hc pins s3 σ H3 _ I3 q3) fun w' s4 ⟨z', H4, I4, r4, q4⟩ => thn (ho' pins s4 σ H4 y z' u w' _ I4 r2 r4 q4) fun d' s5 ⟨z2, H5, I5, r5, k2, e2, q5⟩ => ?_))
  subst e2
  cases r5
  exact wpAny_truthy_bool ⟨H5, I5, q5⟩
theorem line63 : (sizeLine : Nat) < 2 ^ 63 := by rw [sizeLine_eq]; decide
theorem vals1 {x : V} {us : List Value} (r : Vals [x] us) : ∃ u, us = [u] /\ RelV x u := by
 cases r with
 | cons r1 r2 => cases r2; exact ⟨_, rfl, r1⟩
theorem vals2 {x y : V} {us : List Value} (r : Vals [x, y] us) : ∃ u w', us = [u, w'] /\ RelV x u /\ RelV y w' := by
 cases r with
 | cons r1 r2 =>
  cases r2 with
  | cons r3 r4 => cases r4; exact ⟨_, _, rfl, r1, r3⟩
theorem call_max2 (hc : X.calm = true) : CallR X (.builtin "max") (fun xs H Q => ∃ i j, xs = [.int i, .int j] /\ Q (.int (if j > i then j else i)) H) := by
 intro pins s σ H xs us Q I r h
 obtain ⟨i, j, rfl, q⟩ := h
 obtain ⟨u, w', rfl, ⟨t, rfl⟩, ⟨t', rfl⟩⟩ := vals2 r
 refine max_two_ints (I.ok.hd hc) fun h' tk k => ⟨_, H, I.kept k, ?_, q⟩
 by_cases hj : j > i
 ·rw [if_pos hj, if_pos hj]; exact ⟨_, rfl⟩
 ·rw [if_neg hj, if_neg hj]; exact ⟨_, rfl⟩
theorem call_min2 (hc : X.calm = true) : CallR X (.builtin "min") (fun xs H Q => ∃ i j, xs = [.int i, .int j] /\ Q (.int (if j < i then j else i)) H) := by
 intro pins s σ H xs us Q I r h
 obtain ⟨i, j, rfl, q⟩ := h
 obtain ⟨u, w', rfl, ⟨t, rfl⟩, ⟨t', rfl⟩⟩ := vals2 r
 refine min_two_ints (I.ok.hd hc) fun h' tk k => ⟨_, H, I.kept k, ?_, q⟩
 by_cases hj : j < i
 ·rw [if_pos hj, if_pos hj]; exact ⟨_, rfl⟩
 ·rw [if_neg hj, if_neg hj]; exact ⟨_, rfl⟩
theorem call_int1 : CallR X (.type "int") (fun xs H Q => (∃ i, xs = [.int i] /\ Q (.int i) H) \/ ∃ k, xs = [.bl k] /\ Q (.int (if k then 1 else 0)) H) := by
 intro pins s σ H xs us Q I r h
 rcases h with ⟨i, rfl, q⟩ | ⟨k, rfl, q⟩
 ·obtain ⟨u, rfl, t, rfl⟩ := vals1 r
  exact call_int_int ⟨.int i, H, I, ⟨_, rfl⟩, q⟩
 ·obtain ⟨u, rfl, r1⟩ := vals1 r
  cases r1
  exact call_int_bool ⟨.int (if k then 1 else 0), H, I.tok _, ⟨_, rfl⟩, q⟩
end
structure ObjM (h : Heap) (x dx C : Addr) (mA : Str -> Option Value) : Prop where
 obj : h.get? x = some (PySem.W.instObj C dx)
 ns : h.Ns1 dx mA
 ne : dx ≠ x
theorem lookIn_ns {h : Heap} {dx : Addr} {mA : Str -> Option Value} (n : h.Ns1 dx mA) : ∃ od, h.get? dx = some od /\ ∀ name, PySem.W.lookIn name od = some (mA name) := by
 obtain ⟨o, es, ep, ho, hd, hk, _, hm⟩ := n
 refine ⟨o, ho, fun name => ?_⟩
 have e := hm name
 unfold nsFind findBy at e
 rw [<- Array.find?_toList] at e
 unfold PySem.W.lookIn
 rw [hd]
 dsimp only
 split
 ·rename_i y q
  rw [q] at e
  exact congrArg some e
 ·rename_i q
  rw [q] at e
  have a : es.toList.any (·.refKey) = false := by
   rw [List.any_eq_false]
   intro y hy
   obtain ⟨z, t, hkey⟩ := hk y (Array.mem_toList_iff.mp hy)
   simp [DictEntry.refKey, hkey]
  have a' : ¬ es.toList.any (·.refKey) = true := by rw [a]; exact Bool.false_ne_true
  rw [if_neg a']
  exact congrArg some e
theorem ObjM.look {h : Heap} {x dx C : Addr} {mA : Str -> Option Value} (I : ObjM h x dx C mA) : ∃ od, PySem.W.InstAt h x (PySem.W.instObj C dx) C (some od) /\ ∀ name, PySem.W.lookIn name od = some (mA name) :=
 let ⟨od, ho, hl⟩ := lookIn_ns I.ns
 ⟨od, ⟨I.obj, rfl, rfl, ho⟩, hl⟩
section
variable {prog : Program} {w : World} {A : Around} {E : Value -> Shared -> Prop} {s : Shared} {K : PySem.W.Frag} {x dx C f : Addr} {mA : Str -> Option Value} {name : Str} {v : Value}
theorem get_map {expr : Bool} {Q : Value -> Shared -> Prop} (X : K.In s.heap) (I : ObjM s.heap x dx C mA) (hg : PySem.W.plainGet K C name = true) (hh : PySem.W.hasDictIn K C = true)
  (ha : PySem.W.findIn K (.ref C) name = some none) (hv : mA name = some v) (hv' : PySem.W.handedIn v = true) (h : Q v { s with toks := s.toks + 1 }) :
  wpAny (model prog w) A (getAttr (.ref x) name expr) Q E s := by
 obtain ⟨od, J, hl⟩ := I.look
 exact PySem.W.get_value X J (PySem.W.plainGet_of hg).1 (PySem.W.findObj_own hh ha rfl (by rw [hl, hv])) hv' h
theorem set_map {ns : List Str} {Q : Unit -> Shared -> Prop} (X : K.In s.heap) (I : ObjM s.heap x dx C mA)
  (hs : PySem.W.findIn K (.ref C) "__setattr__" = some (some (.builtin "object.__setattr__"))) (hp : PySem.W.plainOver K C = true) (ht : PySem.W.takerIn K C name = some none) (hh : PySem.W.hasDictIn K C = true)
  (hw : PySem.Within mA ns) (hsz : ns.length <= sizeLine)
  (h : ∀ h', ObjM h' x dx C (fun y => if y = name then some v else mA y) -> Heap.SameBut dx s.heap h' -> Q () { s with heap := h', toks := s.toks + 2 }) :
  wpAny (model prog w) A (setAttr (.ref x) name v) Q E s := by
 obtain ⟨od, J, hl⟩ := I.look
 refine PySem.W.set_plain X J hs (PySem.W.osa_open (s := { s with toks := s.toks + 1 }) (r := none) X J hp ht fun b => ?_)
 obtain ⟨cd, hc, hd'⟩ := PySem.W.any_some hh
 have hx : s.heap.get? x = some ⟨.ref C, some dx, .plain, #[]⟩ := I.obj
 refine wpAny_bind (wpAny_pure (wpAny_bind (wpAny_bind (wpAny_loadPart hx (wpAny_bind (PySem.W.Looks.here (s := { s with toks := s.toks + 1 }) (PySem.W.looks_clsIn X hc) ?_))))))
 rw [hd']
 refine wpAny_pure (a := some dx) (wpAny_bind (wpAny_pure (wpAny_bind ?_)))
 refine wpAny_nsSet1 (s := { s with toks := s.toks + 1 }) I.ns fun h' hn2 hs2 => ?_
 obtain ⟨oD, esD, epD, hoD, hdD, hcD⟩ := hn2.count (PySem.Within.cons name v hw)
 refine wpAny_bind (wpAny_lookBehind hoD (by rw [hdD]; exact pastItsLine_dict (Nat.le_trans hcD (by rw [List.length_cons]; omega))) ?_)
 exact wpAny_pure (h _ ⟨(hs2.2 _ (Ne.symm I.ne)).trans I.obj, hn2, I.ne⟩ hs2)
theorem make_map {R : Result -> Shared -> Prop} {vs : List Value} {kw : List (Str × Value)} (X : K.In s.heap) (hm : PySem.W.makesIn K C = true)
  (hi : PySem.W.findIn K (.ref C) "__init__" = some (some (.ref f))) (hf : PySem.W.typeIn K (.ref f) = some (.type "function"))
  (h : codeAny (model prog w) (A.under (.builtin "type.__call__" ⟨.ref C :: vs, kw⟩)) (.call (.ref f) ⟨.ref (s.heap.objs.size + 1) :: vs, kw⟩) (PySem.W.InitBack (s.heap.objs.size + 1) R)
   { s with heap := (s.heap.push PySem.W.emptyDict).push (PySem.W.instObj C s.heap.objs.size) }) :
  codeAny (model prog w) A (.call (.ref C) ⟨vs, kw⟩) R s := by
 obtain ⟨hh, g, d, t, os⟩ := s
 exact PySem.W.make_core (PySem.W.makes_of X hm) (PySem.W.looks_findIn X hi) (fun self => PySem.W.bind_fn X self hf) (.inl rfl) h
end
def putF (f : Str) (v : V) : List (Str × V) -> List (Str × V)
 | [] => [(f, v)]
 | (g, x) :: r => if g = f then (g, v) :: r else (g, x) :: putF f v r
theorem lookup_putF (f g : Str) (v : V) : ∀ fs : List (Str × V), (putF f v fs).lookup g = if g = f then some v else fs.lookup g
 | [] => by
  show List.lookup g [(f, v)] = _
  by_cases h : g = f
  ·have hb : (g == f) = true := beq_iff_eq.mpr h
   simp only [List.lookup, hb, if_pos h]
  ·have hb : (g == f) = false := beq_eq_false_iff_ne.mpr h
   simp only [List.lookup, hb, if_neg h]
 | (k, x) :: r => by
  have ih := lookup_putF f g v r
  rw [show putF f v ((k, x) :: r) = (if k = f then (k, v) :: r else (k, x) :: putF f v r) from rfl]
  by_cases hk : k = f
  ·rw [if_pos hk]
   by_cases h : g = k
   ·have hb : (g == k) = true := beq_iff_eq.mpr h
    simp only [List.lookup, hb, if_pos (h.trans hk)]
   ·have hb : (g == k) = false := beq_eq_false_iff_ne.mpr h
    simp only [List.lookup, hb, if_neg (fun e : g = f => h (e.trans hk.symm))]
  ·rw [if_neg hk]
   by_cases h : g = k
   ·have hb : (g == k) = true := beq_iff_eq.mpr h
    simp only [List.lookup, hb, if_neg (fun e : g = f => hk (h.symm.trans e))]
   ·have hb : (g == k) = false := beq_eq_false_iff_ne.mpr h
    simp only [List.lookup, hb]
    exact ih
theorem keys_putF (f : Str) (v : V) : ∀ fs : List (Str × V), f ∈ (putF f v fs).map (·.1) /\ ∀ g, g ∈ fs.map (·.1) -> g ∈ (putF f v fs).map (·.1)
 | [] => ⟨by simp [putF], fun g h => by simp at h⟩
 | (k, x) :: r => by
  obtain ⟨i1, i2⟩ := keys_putF f v r
  rw [show putF f v ((k, x) :: r) = (if k = f then (k, v) :: r else (k, x) :: putF f v r) from rfl]
  by_cases hk : k = f
  ·rw [if_pos hk]
   subst hk
   exact ⟨by simp, fun g h => by simpa using h⟩
  ·rw [if_neg hk]
   refine ⟨?_, fun g h => ?_⟩
   ·rw [List.map_cons]
    exact List.mem_cons_of_mem _ i1
   ·rw [List.map_cons] at h ⊢
    rcases List.mem_cons.mp h with e | e
    ·exact List.mem_cons.mpr (.inl e)
    ·exact List.mem_cons_of_mem _ (i2 g e)
theorem length_putF (f : Str) (v : V) : ∀ fs : List (Str × V), (putF f v fs).length <= fs.length + 1
 | [] => by simp [putF]
 | (k, x) :: r => by
  have ih := length_putF f v r
  rw [show putF f v ((k, x) :: r) = (if k = f then (k, v) :: r else (k, x) :: putF f v r) from rfl]
  by_cases hk : k = f
  ·rw [if_pos hk, List.length_cons, List.length_cons]; omega
  ·rw [if_neg hk, List.length_cons, List.length_cons]; omega
theorem RelO.some_of {v : V} {o : Option Value} (r : RelO (some v) o) : ∃ u, o = some u /\ RelV v u := by
 cases o with
 | none => exact (show False from r).elim
 | some u => exact ⟨u, rfl, r⟩
theorem handed_of {v : V} {u : Value} (r : RelV v u) : PySem.W.handedIn u = true := by
 cases v with
 | non => cases (show u = Value.none from r); rfl
 | bl b => cases (show u = Value.bool b from r); rfl
 | int i => obtain ⟨t, e⟩ := (show ∃ t, u = Value.int i t from r); cases e; rfl
 | str x => obtain ⟨t, e⟩ := (show ∃ t, u = Value.str x t from r); cases e; rfl
 | byt b => obtain ⟨t, e⟩ := (show ∃ t, u = Value.bytes b t from r); cases e; rfl
 | flt b => obtain ⟨t, e⟩ := (show ∃ t, u = Value.float b t from r); cases e; rfl
 | ref a => cases (show u = Value.ref a from r); rfl
 | ty n => cases (show u = Value.type n from r); rfl
section
variable {P : Program} {w : World} {H H' : Hp} {h h' : Heap} {a C dx : Addr} {fs fs' : List (Str × V)}
theorem ins_get (hok : HOk P w H h) (e : H a = some (.ins C dx fs)) : ∃ mA, ObjM h a dx C mA /\ (∀ f, RelO (fs.lookup f) (mA f)) /\ PySem.Within mA (fs.map (·.1)) /\ fs.length <= 1000 /\ H dx = some (.own a) := by
 obtain ⟨d, z, ne, ob, mA, n, r, q⟩ := (show ObjOk P w H h a (.ins C dx fs) from hok a _ e)
 exact ⟨mA, ⟨ob, n, ne⟩, r, q, z, d⟩
end
structure Cls (K : PySem.W.Frag) (C : Addr) : Prop where
 pg : PySem.W.plainGet K C Str.empty = true
 hd : PySem.W.hasDictIn K C = true
 po : PySem.W.plainOver K C = true
 sa : PySem.W.findIn K (.ref C) "__setattr__" = some (some (.builtin "object.__setattr__"))
theorem Cls.get {K : PySem.W.Frag} {C : Addr} (c : Cls K C) (f : Str) : PySem.W.plainGet K C f = true := c.pg
def NoAttr (K : PySem.W.Frag) (C : Addr) (f : Str) : Prop := PySem.W.findIn K (.ref C) f = some none
theorem NoAttr.taker {K : PySem.W.Frag} {C : Addr} {f : Str} (n : NoAttr K C f) : PySem.W.takerIn K C f = some none := by
 unfold PySem.W.takerIn
 rw [show PySem.W.findIn K (.ref C) f = some none from n]
 rfl
structure Con (K : PySem.W.Frag) (C : Addr) (f : Str) (v : V) (u : Value) : Prop where
 at_ : PySem.W.findIn K (.ref C) f = some (some u)
 rel : RelV v u
 get : PySem.W.specialIn K u "__get__" = some none
 cp : PySem.W.copiedNames.contains f = false
structure Meth (K : PySem.W.Frag) (C : Addr) (m : Str) (f : Addr) : Prop where
 at_ : PySem.W.findIn K (.ref C) m = some (some (.ref f))
 fn : PySem.W.isFn K (.ref f) = true
 kp : PySem.W.keepIn K (.ref f) = true
section
variable {X : Cx} {pins : List (Addr × Obj)} {σ : St} {H : Hp} {s : Shared} {a C dx : Addr} {fs : List (Str × V)} {f : Str} {v : V} {A : Around} {E : Value -> Shared -> Prop}
theorem getattr_ok {b : Bool} {Q : Value -> Shared -> Prop} (I : Inv X pins σ H s) (e : H a = some (.ins C dx fs)) (c : Cls X.K C) (n : NoAttr X.K C f) (l : fs.lookup f = some v)
  (h : ∀ u s', Inv X pins σ H s' -> RelV v u -> Q u s') : wpAny (model X.prog X.w) A (getAttr (.ref a) f b) Q E s := by
 obtain ⟨mA, O, r, _, _, _⟩ := ins_get I.hok e
 obtain ⟨u, hu, ru⟩ := RelO.some_of (v := v) (o := mA f) (by rw [<- l]; exact r f)
 exact get_map I.kIn O (c.get f) c.hd n hu (handed_of ru) (h u _ (I.tok _) ru)
theorem setattr_ok {y : V} {u : Value} {Q : Unit -> Shared -> Prop} (I : Inv X pins σ H s) (e : H a = some (.ins C dx fs)) (c : Cls X.K C) (n : NoAttr X.K C f) (hl : fs.length < 1000) (ry : RelV y u)
  (h : ∀ s', Inv X pins σ (upd H a (.ins C dx (putF f y fs))) s' -> Q () s') : wpAny (model X.prog X.w) A (setAttr (.ref a) f u) Q E s := by
 obtain ⟨mA, O, r, wi, _, ho⟩ := ins_get I.hok e
 have hz : (fs.map (·.1)).length <= sizeLine := by rw [List.length_map, sizeLine_eq]; omega
 refine set_map I.kIn O c.sa c.po n.taker c.hd wi hz fun h' O' sb => h _ ?_
 have hd : ∃ o, h'.get? dx = some o := let ⟨o, _, _, e', _⟩ := O'.ns; ⟨o, e'⟩
 refine I.write (x := a) (e := dx) (by rw [e]; exact True.intro) (.inr ho) (fun b q hb z => (sb.2 b hb).trans z) hd ?_
 refine ⟨by rw [upd_ne O.ne]; exact ho, ?_, O.ne, O'.obj, _, O'.ns, fun g => ?_, fun g hg => ?_⟩
 ·have := length_putF f y fs; omega
 ·show RelO ((putF f y fs).lookup g) (if g = f then some u else mA g)
  rw [lookup_putF]
  by_cases q : g = f
  ·rw [if_pos q, if_pos q]; exact ry
  ·rw [if_neg q, if_neg q]; exact r g
 ·by_cases q : g = f
  ·rw [q]; exact (keys_putF f y fs).1
  ·refine (keys_putF f y fs).2 g (wi g fun z => hg ?_)
   show (if g = f then some u else mA g) = none
   rw [if_neg q]; exact z
theorem Inv.made (I : Inv X pins σ H s) : Inv X pins σ (upd (upd H s.heap.objs.size (.own (s.heap.objs.size + 1))) (s.heap.objs.size + 1) (.ins C s.heap.objs.size []))
  { s with heap := (s.heap.push PySem.W.emptyDict).push (PySem.W.instObj C s.heap.objs.size) } := by
 have e1 : (s.heap.push PySem.W.emptyDict).get? s.heap.objs.size = some PySem.W.emptyDict := Heap.get?_push_size s.heap rfl
 have e2 : ((s.heap.push PySem.W.emptyDict).push (PySem.W.instObj C s.heap.objs.size)).get? (s.heap.objs.size + 1) = some (PySem.W.instObj C s.heap.objs.size) := by
  have := Heap.get?_push_size (s.heap.push PySem.W.emptyDict) (o := PySem.W.instObj C s.heap.objs.size) rfl
  rwa [Heap.size_push] at this
 have e3 : (s.heap.push PySem.W.emptyDict).Ns s.heap.objs.size (fun _ => none) := ⟨PySem.W.emptyDict, #[], _, e1, rfl, (fun e he => absurd he (by simp)), fun _ => rfl⟩
 have I1 := I.laid (a := s.heap.objs.size) (o := .own (s.heap.objs.size + 1)) (h' := s.heap.push PySem.W.emptyDict) (t' := s.toks) (fun b u q => Heap.get?_push_of_some _ q) (Nat.le_refl _) ⟨_, e1⟩
 refine I1.laid (a := s.heap.objs.size + 1) (o := .ins C s.heap.objs.size []) (t' := s.toks) (fun b u q => Heap.get?_push_of_some _ q) (Nat.le_of_eq (Heap.size_push _ _)) ?_
 have ne : s.heap.objs.size ≠ s.heap.objs.size + 1 := Nat.ne_of_lt (Nat.lt_succ_self _)
 refine ⟨by rw [upd_ne ne, upd_same], Nat.zero_le _, ne, e2, fun _ => none, (Heap.Ns1.of_empty e3).at fun o q => Heap.get?_push_of_some _ q, fun _ => True.intro, fun y hy => absurd rfl hy⟩
theorem attr_of {prog : Program} {w : World} {env : Env} {e : Expr} {f : Str} {pos : Pos} {s : Shared} {Q : Value -> Shared -> Prop} (hb : attributeBase e f env (eval e env) = eval e env)
  (h : wpAny (model prog w) A (eval e env) (fun o s₁ => wpAny (model prog w) A (getAttr o f true) Q E s₁) E s) : wpAny (model prog w) A (eval (.Attribute e f pos) env) Q E s :=
 Attribute_any_ h (by rw [arm_eval_Attribute, hb])
end
def tFld (K : PySem.W.Frag) (ta : TE) (f : Str) : TE := fun σ H Q => ta σ H fun x H1 => ∃ a C dx fs v, x = .ref a /\ H1 a = some (.ins C dx fs) /\ Cls K C /\ NoAttr K C f /\ fs.lookup f = some v /\ Q v H1
def sFld (K : PySem.W.Frag) (ta tv : TE) (f : Str) : TS := fun D σ H => tv σ H fun y H1 => ta σ H1 fun x H2 => ∃ a C dx fs, x = .ref a /\ H2 a = some (.ins C dx fs) /\ Cls K C /\ NoAttr K C f /\ fs.length < 1000 /\
 D.nx σ (upd H2 a (.ins C dx (putF f y fs)))
section
variable {X : Cx} {o e value : Expr} {f : Str} {pos pos' tpos : Pos} {ta tv : TE}
theorem pe_fld (he : PE X e ta) (hb : attributeBase e f X.env (eval e X.env) = eval e X.env) : PE X (.Attribute e f pos) (tFld X.K ta f) := by
 intro pins s σ H Q I h
 refine attr_of hb (thn (he pins s σ H _ I h) fun u s1 ⟨x, H1, I1, rx, a, C, dx, fs, v, ex, ea, c, n, l, q⟩ => ?_)
 subst ex
 obtain rfl : u = Value.ref a := rx
 exact getattr_ok I1 ea c n l fun u' s2 I2 ru => ⟨v, H1, I2, ru, q⟩
theorem ps_fld (ha : PE X o ta) (hv : PE X value tv) (hs : swapsWith value (some (.Attribute o f pos')) pos.line X.env = pure false) : PS X (.Assign [.Attribute o f pos'] value pos) (sFld X.K ta tv f) := by
 intro pins s σ H D I h
 refine plainObj_wpAny_Assign_Attribute (thn (hv pins s σ H _ I h) fun u s1 ⟨y, H1, I1, ry, q⟩ => thn (ha pins s1 σ H1 _ I1 q) fun ov s2 ⟨x, H2, I2, rx, a, C, dx, fs, ex, ea, c, n, l, q2⟩ => ?_) hs
 subst ex
 obtain rfl : ov = Value.ref a := rx
 exact setattr_ok I2 ea c n l ry fun s3 I3 => ⟨σ, _, I3, q2⟩
end
section
variable {X : Cx} {pins : List (Addr × Obj)} {σ : St} {H : Hp} {s : Shared} {A : Around} {E : Value -> Shared -> Prop} {Q : Value -> Shared -> Prop} {c : Value} {b : Bool}
inductive TyOf (K : PySem.W.Frag) (H : Hp) : V -> Value -> Prop where
 | non : TyOf K H .non (.type "NoneType")
 | bl (x : Bool) : TyOf K H (.bl x) (.type "bool")
 | int (i : Int) : TyOf K H (.int i) (.type "int")
 | str (x : Str) : TyOf K H (.str x) (.type "str")
 | flt (x : UInt64) : TyOf K H (.flt x) (.type "float")
 | lst {a : Addr} {xs : List V} (e : H a = some (.lst xs)) : TyOf K H (.ref a) (.type "list")
 | frz {a : Addr} {o : Obj} {xs : List V} (e : H a = some (.frz o (.lst xs))) : TyOf K H (.ref a) (.type "list")
 | tup {a : Addr} {xs : List V} (e : H a = some (.tup xs)) : TyOf K H (.ref a) (.type "tuple")
 | dK {a : Addr} {kvs : List (Key × V)} (e : H a = some (.dK kvs)) : TyOf K H (.ref a) (.type "dict")
 | dT {a : Addr} {kvs : List (List Key × V)} (e : H a = some (.dT kvs)) : TyOf K H (.ref a) (.type "dict")
 | ins {a C dx : Addr} {fs : List (Str × V)} (e : H a = some (.ins C dx fs)) (cl : Cls K C) (ha : PySem.W.findIn K (.ref C) "__class__" = some (some (.builtin "object.__class__")))
   (hn : PySem.W.specialIn K (.builtin "object.__class__") "__get__" = some (some (.builtin "getset_descriptor.__get__"))) (htk : PySem.W.takesIn K (.builtin "object.__class__") = some true)
   (hm : PySem.W.mroIn K C (.type "object") = some true) : TyOf K H (.ref a) (.ref C)
theorem isinst_ok {x : V} {u t : Value} (I : Inv X pins σ H s) (rx : RelV x u) (ty : TyOf X.K H x t) (e : PySem.W.kitOne X.K t c = some b) (h : ∀ tk, Q (.bool b) { s with toks := tk }) :
  wpAny (model X.prog X.w) A (call (.builtin "isinstance") [u, c]) Q E s := by
 cases ty with
 | non => cases (show u = Value.none from rx); exact PySem.W.kia_one PySem.W.kitx_none I.kIn True.intro e (fun z => nomatch z) h
 | bl y => cases (show u = Value.bool y from rx); exact PySem.W.kia_one PySem.W.kitx_bool I.kIn True.intro e (fun z => nomatch z) h
 | int i => obtain ⟨t, q⟩ := (show ∃ t, u = Value.int i t from rx); cases q; exact PySem.W.kia_one PySem.W.kitx_int I.kIn True.intro e (fun z => nomatch z) h
 | str y => obtain ⟨t, q⟩ := (show ∃ t, u = Value.str y t from rx); cases q; exact PySem.W.kia_one PySem.W.kitx_str I.kIn True.intro e (fun z => nomatch z) h
 | flt y => obtain ⟨t, q⟩ := (show ∃ t, u = Value.float y t from rx); cases q; exact PySem.W.kia_one PySem.W.kitx_float I.kIn True.intro e (fun z => nomatch z) h
 | @lst a xs ea =>
  cases (show u = Value.ref a from rx)
  obtain ⟨_, _, n, _, h1⟩ := (show ObjOk X.prog X.w H s.heap a (.lst xs) from I.hok a _ ea)
  exact PySem.W.kia_one PySem.W.kitx_list I.kIn ⟨_, h1, rfl⟩ e (fun z => nomatch z) h
 | @frz a ob xs ea =>
  cases (show u = Value.ref a from rx)
  obtain ⟨_, _, _, n, _, h1⟩ := (show ObjOk X.prog X.w H s.heap a (.frz ob (.lst xs)) from I.hok a _ ea)
  exact PySem.W.kia_one PySem.W.kitx_list I.kIn ⟨_, h1, rfl⟩ e (fun z => nomatch z) h
 | @tup a xs ea =>
  cases (show u = Value.ref a from rx)
  obtain ⟨_, _, _, p⟩ := (show ObjOk X.prog X.w H s.heap a (.tup xs) from I.hok a _ ea)
  obtain ⟨o, h1, h2, _⟩ := p
  exact PySem.W.kia_one PySem.W.kitx_tuple I.kIn ⟨o, h1, h2⟩ e (fun z => nomatch z) h
 | @dK a kvs ea =>
  cases (show u = Value.ref a from rx)
  obtain ⟨_, _, vs, _, p⟩ := (show ObjOk X.prog X.w H s.heap a (.dK kvs) from I.hok a _ ea)
  obtain ⟨o, es, ep, h1, h2, _⟩ := p
  exact PySem.W.kia_one PySem.W.kitx_dict I.kIn ⟨o, h1, h2.1⟩ e (fun z => nomatch z) h
 | @dT a kvs ea =>
  cases (show u = Value.ref a from rx)
  obtain ⟨_, _, xs, _, o, es, ep, h1, h2, _⟩ := (show ObjOk X.prog X.w H s.heap a (.dT kvs) from I.hok a _ ea)
  exact PySem.W.kia_one PySem.W.kitx_dict I.kIn ⟨o, h1, h2.1⟩ e (fun z => nomatch z) h
 | @ins a C dx fs ea cl ha hn htk hm =>
  cases (show u = Value.ref a from rx)
  obtain ⟨mA, O, _⟩ := ins_get I.hok ea
  obtain ⟨od, J, _⟩ := O.look
  exact PySem.W.kia_one (PySem.W.kitx_own (cl.get _) cl.hd ha hn htk hm) I.kIn J e (fun z => nomatch z) h
end
structure Room (k : Nat) (A : Around) : Prop where
 hd : A.handled = none
 dp : A.depth + 3 * k + 5 < recursionLimit
 un : A.units + 16 * k + 200 < cLine
theorem Room.mono {j k : Nat} {A : Around} (r : Room k A) (h : j <= k) : Room j A := ⟨r.hd, by have := r.dp; omega, by have := r.un; omega⟩
theorem Room.deeper {k : Nat} {A : Around} (r : Room (k + 1) A) (env : Env) : Room k (A.deeper env) :=
 ⟨r.hd, by have := r.dp; show A.depth + 1 + 3 * k + 5 < _; omega, by have := r.un; show A.units + 3 + 16 * k + 200 < _; omega⟩
theorem Room.in1 {k : Nat} {A : Around} (r : Room (k + 1) A) : Room k A.in1 :=
 ⟨r.hd, by have := r.dp; show A.depth + 3 * k + 5 < _; omega, by have := r.un; show A.units + 1 + 16 * k + 200 < _; omega⟩
theorem make_depth {A : Around} {C : Addr} {us : List Value} {kw : List (Str × Value)} : (A.under (.builtin "type.__call__" ⟨.ref C :: us, kw⟩)).depth = A.depth + 1 := by
 first | rfl | simp [Around.under, Code.weight, Code.isCreation, Code.isGuard, Code.isCaller, Code.frames, Code.isFrame, guardIds]
theorem make_units {A : Around} {C : Addr} {us : List Value} {kw : List (Str × Value)} : (A.under (.builtin "type.__call__" ⟨.ref C :: us, kw⟩)).units = A.units + 1 := by
 first | rfl | simp [Around.under, Code.cUnits, Code.frames, Code.isFrame]
theorem Room.make {k : Nat} {A : Around} (r : Room (k + 1) A) (C : Addr) (us : List Value) (kw : List (Str × Value)) : Room k (A.under (.builtin "type.__call__" ⟨.ref C :: us, kw⟩)) :=
 ⟨r.hd, by have := r.dp; rw [make_depth]; omega, by have := r.un; rw [make_units]; omega⟩
theorem Room.depth {k : Nat} {A : Around} (r : Room k A) : A.depth < recursionLimit := by have := r.dp; omega
theorem Room.units {k : Nat} {A : Around} (r : Room k A) : A.units + 64 < cLine := by have := r.un; omega
def tNil : TA := fun _ H Q => Q [] H
def tCons (ta : TE) (tr : TA) : TA := fun σ H Q => ta σ H fun x H1 => tr σ H1 fun xs H2 => Q (x :: xs) H2
section
variable {X : Cx} {e : Expr} {es : List Expr} {te : TE} {t : TA} {pos : Pos}
theorem pa_nil : PA X [] tNil := fun _ _ _ _ H Q I h => Calls.spliced_nil ⟨[], H, I, .nil, h⟩
theorem pa_cons (ha : PE X e te) (hr : PA X es t) (hs : starEach (e :: es) X.env = (false, eval e X.env) :: starEach es X.env := by rfl) : PA X (e :: es) (tCons te t) := by
 intro pos pins s σ H Q I h
 rw [hs]
 show wpAny _ _ (spliced ((false, eval e X.env) :: backTo pos (starEach es X.env))) _ _ s
 refine Calls.spliced_cons (thn (ha pins s σ H _ I h) fun u s1 ⟨x, H1, I1, r1, q1⟩ => ?_)
 exact thn (hr pos pins s1 σ H1 _ I1 q1) fun us s2 ⟨xs, H2, I2, r2, q2⟩ => ⟨x :: xs, H2, I2, .cons r1 r2, q2⟩
def tTup (t : TA) : TE := fun σ H Q => t σ H fun xs H1 => xs.length <= sizeLine /\ ∀ p, H1 p = none -> Q (.ref p) (upd H1 p (.tup xs))
def tLst (t : TA) : TE := fun σ H Q => t σ H fun xs H1 => xs.length <= sizeLine /\ ∀ p, H1 p = none -> Q (.ref p) (upd H1 p (.lst xs))
theorem pe_tup {x1} (h : PA X es t) : PE X (.Tuple es x1 pos) (tTup t) := by
 intro pins s σ H Q I hq
 refine wpAny_Tuple_spliced (thn (h pos pins s σ H _ I hq) fun us s1 ⟨xs, H1, I1, r, z, q⟩ => ⟨by rw [<- r.length]; exact z, ?_⟩)
 have hf : H1 s1.heap.objs.size = none := I1.hok.fresh (Nat.le_refl _)
 refine ⟨.ref s1.heap.objs.size, upd H1 s1.heap.objs.size (.tup xs), I1.laid (t' := s1.toks) (fun b u e => Heap.get?_push_of_some _ e) (Nat.le_refl _) ?_, rfl, q _ hf⟩
 exact ⟨z, us, r, ⟨_, Heap.get?_push_size _ rfl, rfl, _, rfl⟩⟩
theorem pe_lst (h : PA X es t) : PE X (.List es pos) (tLst t) := by
 intro pins s σ H Q I hq
 refine wpAny_List_spliced (thn (h pos pins s σ H _ I hq) fun us s1 ⟨xs, H1, I1, r, z, q⟩ => ⟨by rw [<- r.length]; exact z, ?_⟩)
 have hf : H1 s1.heap.objs.size = none := I1.hok.fresh (Nat.le_refl _)
 refine ⟨.ref s1.heap.objs.size, upd H1 s1.heap.objs.size (.lst xs), I1.laid (t' := s1.toks) (fun b u e => Heap.get?_push_of_some _ e) (Nat.le_refl _) ?_, rfl, q _ hf⟩
 exact ⟨z, us, 0, r, Heap.get?_push_size _ rfl⟩
end
abbrev Sp := List V -> Hp -> VK -> XK -> Prop
abbrev CXT := List Env -> Hp -> Shared -> XK -> Value -> Shared -> Prop
structure Env0 (P : Program) (w : World) (K : PySem.W.Frag) (mg : Str -> Option Value) (base : Heap) (A : Around) (outer : List Env) (s : Shared) (H : Hp) : Prop where
 frames : A.frames = some outer
 mod : Mod K mg base
 bs : ∀ b o, base.get? b = some o -> s.heap.get? b = some o /\ H b = none
 bsz : base.objs.size <= s.heap.objs.size
 funs : s.heap.FunFrames base outer
 frf : ∀ b ∈ frs outer, H b = none
 hok : HOk P w H s.heap
 bare : AllBare s.gens
def CE (outer : List Env) (P : Program) (w : World) (H : Hp) (s : Shared) (Q : VK) (u : Value) (s' : Shared) : Prop :=
 ∃ v H', s'.os = s.os /\ AllBare s'.gens /\ Un (frs outer) [] H H' s.heap s'.heap /\ HOk P w H' s'.heap /\ RelV v u /\ Q v H'
def CR (CX : CXT) (outer : List Env) (P : Program) (w : World) (H : Hp) (s : Shared) (Q : VK) (E : XK) (r : Result) (s' : Shared) : Prop :=
 match r with
 | .ok (.ret u) => CE outer P w H s Q u s'
 | .ok _ => False
 | .error e => CX outer H s E e s'
structure FnOk (P : Program) (w : World) (K : PySem.W.Frag) (mg : Str -> Option Value) (base : Heap) (CX : CXT) (k : Nat) (f : Addr) (fd : FuncData) (ps : List Str) (sp : Sp) : Prop where
 len : ∀ vs H Q E, sp vs H Q E -> vs.length = ps.length
 run : ∀ (A : Around) (outer : List Env) (s : Shared) (H : Hp) (args : Args) (us : List Value) (vs : List V) (Q : VK) (E : XK), Room k A -> Env0 P w K mg base A outer s H -> BindsTo s fd args (ps.zip us) -> Vals vs us -> sp vs H Q E ->
  codeAny (model P w) A (.call (.ref f) args) (CR CX outer P w H s Q E) s
theorem FnOk.mono {P : Program} {w : World} {K : PySem.W.Frag} {mg : Str -> Option Value} {base : Heap} {CX : CXT} {j k : Nat} {f : Addr} {fd : FuncData} {ps : List Str} {sp : Sp} (F : FnOk P w K mg base CX j f fd ps sp) (h : j <= k) :
  FnOk P w K mg base CX k f fd ps sp := ⟨F.len, fun A outer s H args us vs Q E hr => F.run A outer s H args us vs Q E (hr.mono h)⟩
theorem FnOk.imp {P : Program} {w : World} {K : PySem.W.Frag} {mg : Str -> Option Value} {base : Heap} {CX : CXT} {k : Nat} {f : Addr} {fd : FuncData} {ps : List Str} {sp sp' : Sp} (F : FnOk P w K mg base CX k f fd ps sp)
  (h : ∀ vs H Q E, sp' vs H Q E -> sp vs H Q E) : FnOk P w K mg base CX k f fd ps sp' :=
 ⟨fun vs H Q E q => F.len vs H Q E (h _ _ _ _ q), fun A outer s H args us vs Q E hr he hb hv hs => F.run A outer s H args us vs Q E hr he hb hv (h _ _ _ _ hs)⟩
theorem Env0.make {P : Program} {w : World} {K : PySem.W.Frag} {mg : Str -> Option Value} {base : Heap} {A : Around} {outer : List Env} {s : Shared} {H : Hp} (e : Env0 P w K mg base A outer s H) (C : Addr) (us : List Value) (kw : List (Str × Value)) :
  Env0 P w K mg base (A.under (.builtin "type.__call__" ⟨.ref C :: us, kw⟩)) outer s H := ⟨by first | exact e.frames | (simpa [Around.under, Code.envs, Code.isFrame, pushEnvs] using e.frames), e.mod, e.bs, e.bsz, e.funs, e.frf, e.hok, e.bare⟩
theorem Env0.in1 {P : Program} {w : World} {K : PySem.W.Frag} {mg : Str -> Option Value} {base : Heap} {A : Around} {outer : List Env} {s : Shared} {H : Hp} (e : Env0 P w K mg base A outer s H) :
  Env0 P w K mg base A.in1 outer s H := ⟨e.frames, e.mod, e.bs, e.bsz, e.funs, e.frf, e.hok, e.bare⟩
section
variable {X : Cx} {pins : List (Addr × Obj)} {σ : St} {H : Hp} {s s' : Shared}
theorem Inv.env0 (I : Inv X pins σ H s) : Env0 X.prog X.w X.K X.mg X.base X.A X.stack s H :=
 ⟨I.ok.frames, I.ok.mod, I.bs, Nat.le_trans I.ok.bsz I.sz, I.stack, I.stkFree, I.hok, I.bare⟩
theorem Inv.after {Q : VK} {u : Value} (I : Inv X pins σ H s) (h : CE X.stack X.prog X.w H s Q u s') : EP X pins σ Q u s' := by
 obtain ⟨v, H', os, bare, un, hok, r, q⟩ := h
 obtain ⟨hh, g, d, t, os'⟩ := s'
 obtain rfl : os' = s.os := os
 exact ⟨v, H', I.call (h' := hh) (g' := g) (d' := d) (t' := t) (ch := []) un hok bare (fun b z => absurd z (by simp)), r, q⟩
end
def tCall (sp : Sp) (dvs : List V) (E : XK) (t : TA) : TE := fun σ H Q => t σ H fun vs H1 => sp (vs ++ dvs) H1 Q E
def tMake (C : Addr) (sp : Sp) (dvs : List V) (E : XK) (t : TA) : TE := fun σ H Q => t σ H fun vs H1 => ∀ x dx, H1 x = none -> H1 dx = none -> dx ≠ x ->
 sp (.ref x :: (vs ++ dvs)) (upd (upd H1 dx (.own x)) x (.ins C dx [])) (fun v H2 => v = .non /\ Q (.ref x) H2) E
def Binds (K : PySem.W.Frag) (fd : FuncData) (ps : List Str) (ds : List Value) : Prop :=
 ∀ (s : Shared) (us : List Value), K.In s.heap -> (us ++ ds).length = ps.length -> BindsTo s fd ⟨us, []⟩ (ps.zip (us ++ ds))
theorem Binds.all {K : PySem.W.Frag} {fd : FuncData} {ps : List Str} (h : ∀ us : List Value, us.length = ps.length -> bindArgs fd ⟨us, []⟩ = pure (ps.zip us)) : Binds K fd ps [] := fun s us _ hl => by
 rw [List.append_nil] at hl ⊢
 exact .of_eq (h us hl)
def Passes (CX : CXT) (X : Cx) (E : XK) : Prop := ∀ (pins : List (Addr × Obj)) (σ : St) (H : Hp) (s : Shared) (e : Value) (s' : Shared), Inv X pins σ H s -> CX X.stack H s E e s' -> X.xe e s'
section
variable {X : Cx} {CX : CXT} {k : Nat} {f C : Addr} {fd : FuncData} {ps : List Str} {sp : Sp} {dvs : List V} {ds : List Value} {E : XK} {x m : Str} {p pos apos : Pos} {e o : Expr} {es : List Expr} {ta : TE} {t : TA}
theorem run_fn {pins : List (Addr × Obj)} {σ : St} {H : Hp} {s : Shared} {Q : VK} {us : List Value} {vs : List V} (F : FnOk X.prog X.w X.K X.mg X.base CX k f fd ps sp) (hr : Room k X.A) (hb : Binds X.K fd ps ds) (hd : Vals dvs ds) (hx : Passes CX X E)
  (I : Inv X pins σ H s) (r : Vals vs us) (h : sp (vs ++ dvs) H Q E) : wpAny (model X.prog X.w) X.A (call (.ref f) us) (EP X pins σ Q) X.xe s := by
 have r2 : Vals (vs ++ dvs) (us ++ ds) := r.append hd
 have hl : (us ++ ds).length = ps.length := by rw [<- r2.length]; exact F.len _ _ _ _ h
 refine wpAny_call (codeAny_mono (F.run X.A X.stack s H ⟨us, []⟩ (us ++ ds) (vs ++ dvs) Q E hr I.env0 (hb s us I.kIn hl) r2 h) fun r s' hq => ?_)
 cases r with
 | error e => exact hx pins σ H s e s' I hq
 | ok fl =>
  cases fl with
  | ret u => exact I.after hq
  | next => exact False.elim hq
  | brk => exact False.elim hq
  | cont => exact False.elim hq
theorem pe_call (F : FnOk X.prog X.w X.K X.mg X.base CX k f fd ps sp) (hr : Room k X.A) (hg : Gl X x) (hm : X.mg x = some (.ref f)) (hk : PySem.W.keepIn X.K (.ref f) = true) (hb : Binds X.K fd ps ds) (hd : Vals dvs ds) (hx : Passes CX X E)
  (ha : PA X (e :: es) t) (hdb : (x == ("__debug__" : Str)) = false := by decide) (he : starEach (e :: es) X.env = (false, eval e X.env) :: starEach es X.env := by rfl) (hpl : (backTo pos (starEach es X.env)).any (·.1) = false := by rfl) :
  PE X (.Call (.Name x p) (e :: es) [] pos) (tCall sp dvs E t) := by
 intro pins s σ H Q I h
 refine wpAny_Call_Name_kw (ld_glob I hg hm ?_ hdb)
 refine PySem.W.callWith_K (h₀ := X.base) I.ok.mod.kin hk (thn (ha pos pins s σ H _ I h) fun us s1 ⟨vs, H1, I1, r, q⟩ => ⟨I1.kIn, ?_⟩) he hpl
 exact run_fn F hr hb hd hx I1 r q
structure Mk (K : PySem.W.Frag) (C f : Addr) : Prop where
 makes : PySem.W.makesIn K C = true
 init : PySem.W.findIn K (.ref C) "__init__" = some (some (.ref f))
 fn : PySem.W.isFn K (.ref f) = true
 kp : PySem.W.keepIn K (.ref C) = true
theorem run_make {pins : List (Addr × Obj)} {σ : St} {H : Hp} {s : Shared} {Q : VK} {us : List Value} {vs : List V} (M : Mk X.K C f) (F : FnOk X.prog X.w X.K X.mg X.base CX k f fd ps sp) (hr : Room (k + 1) X.A) (hb : Binds X.K fd ps ds) (hd : Vals dvs ds)
  (hx : Passes CX X E) (I : Inv X pins σ H s) (r : Vals vs us)
  (h : ∀ x dx, H x = none -> H dx = none -> dx ≠ x -> sp (.ref x :: (vs ++ dvs)) (upd (upd H dx (.own x)) x (.ins C dx [])) (fun v H2 => v = .non /\ Q (.ref x) H2) E) :
  wpAny (model X.prog X.w) X.A (call (.ref C) us) (EP X pins σ Q) X.xe s := by
 have hq := h (s.heap.objs.size + 1) s.heap.objs.size (I.hok.fresh (Nat.le_succ _)) (I.hok.fresh (Nat.le_refl _)) (Nat.ne_of_lt (Nat.lt_succ_self _))
 have I2 := Inv.made (C := C) I
 have r2 : Vals (V.ref (s.heap.objs.size + 1) :: (vs ++ dvs)) (Value.ref (s.heap.objs.size + 1) :: (us ++ ds)) := .cons rfl (r.append hd)
 have hl : (Value.ref (s.heap.objs.size + 1) :: us ++ ds).length = ps.length := by
  have e := r2.length
  rw [F.len _ _ _ _ hq] at e
  exact e.symm
 refine wpAny_call (make_map (f := f) I.kIn M.makes M.init (beq_iff_eq.mp M.fn) (codeAny_mono (F.run _ X.stack _ _ ⟨Value.ref (s.heap.objs.size + 1) :: us, []⟩ (Value.ref (s.heap.objs.size + 1) :: (us ++ ds)) _ _ E (hr.make C us [])
  (I2.env0.make C us []) (hb _ (Value.ref (s.heap.objs.size + 1) :: us) I2.kIn hl) r2 hq) fun r s' hq' => ?_))
 cases r with
 | error e => exact hx pins σ _ _ e s' I2 hq'
 | ok fl =>
  cases fl with
  | ret u =>
   obtain ⟨v, H', I3, rv, ev, q3⟩ := I2.after hq'
   subst ev
   exact ⟨rv, ⟨V.ref (s.heap.objs.size + 1), H', I3, rfl, q3⟩⟩
  | next => exact False.elim hq'
  | brk => exact False.elim hq'
  | cont => exact False.elim hq'
theorem pe_make (M : Mk X.K C f) (F : FnOk X.prog X.w X.K X.mg X.base CX k f fd ps sp) (hr : Room (k + 1) X.A) (hg : Gl X x) (hm : X.mg x = some (.ref C)) (hb : Binds X.K fd ps ds) (hd : Vals dvs ds) (hx : Passes CX X E)
  (ha : PA X (e :: es) t) (hdb : (x == ("__debug__" : Str)) = false := by decide) (he : starEach (e :: es) X.env = (false, eval e X.env) :: starEach es X.env := by rfl) (hpl : (backTo pos (starEach es X.env)).any (·.1) = false := by rfl) :
  PE X (.Call (.Name x p) (e :: es) [] pos) (tMake C sp dvs E t) := by
 intro pins s σ H Q I h
 refine wpAny_Call_Name_kw (ld_glob I hg hm ?_ hdb)
 refine PySem.W.callWith_K (h₀ := X.base) I.ok.mod.kin M.kp (thn (ha pos pins s σ H _ I h) fun us s1 ⟨vs, H1, I1, r, q⟩ => ⟨I1.kIn, ?_⟩) he hpl
 exact run_make M F hr hb hd hx I1 r q
end
section
variable {X : Cx} {CX : CXT} {k : Nat} {f C : Addr} {fd : FuncData} {ps ks : List Str} {sp : Sp} {E : XK} {x m : Str} {p pos apos kpos : Pos} {e o : Expr} {es : List Expr} {kws : List Keyword} {te ta : TE} {t tk : TA} {nm : Option Str}
structure KBinds (K : PySem.W.Frag) (fd : FuncData) (ps ks : List Str) (g : List Value -> List Value -> List Value) (gV : List V -> List V -> List V) : Prop where
 to : ∀ (s : Shared) (us ws : List Value), K.In s.heap -> (g us ws).length = ps.length -> BindsTo s fd ⟨us, ks.zip ws⟩ (ps.zip (g us ws))
 rel : ∀ {vs : List V} {us : List Value} {zs : List V} {ws : List Value}, Vals vs us -> Vals zs ws -> Vals (gV vs zs) (g us ws)
variable {g : List Value -> List Value -> List Value} {gV : List V -> List V -> List V}
end
structure FnScope (N P : List Str) (sc : Scope) : Prop where
 kind : sc.kind = .function
 co : sc.isCoroutine = false
 gen : sc.isGenerator = false
 nd : N.Nodup
 pre : N.take P.length = P
 par : ∀ x ∈ P, sc.names.lookup x = some .local \/ sc.names.lookup x = some .cell
 nofree : ∀ y ∈ sc.names, y.2 ≠ .free
theorem bindL_out {kindOf : Str -> Option NameKind} {x : Str} : ∀ {binds : List (Str × Value)} {m : Str -> Option Value}, (∀ v, (x, v) ∉ binds) -> bindL kindOf binds m x = m x
 | [], _, _ => rfl
 | (n, v) :: r, m, h => by
  unfold bindL
  rw [bindL_out fun w hw => h w (List.mem_cons_of_mem _ hw)]
  split
  ·have : x ≠ n := by rintro rfl; exact h v List.mem_cons_self
   simp [this]
  ·rfl
theorem bindC_out {kindOf : Str -> Option NameKind} {x : Str} : ∀ {binds : List (Str × Value)} {m : Str -> Option Value}, (∀ v, (x, v) ∉ binds) -> bindC kindOf binds m x = m x
 | [], _, _ => rfl
 | (n, v) :: r, m, h => by
  unfold bindC
  rw [bindC_out fun w hw => h w (List.mem_cons_of_mem _ hw)]
  split
  ·rfl
  ·have : x ≠ n := by rintro rfl; exact h v List.mem_cons_self
   simp [this]
theorem bindL_get {kindOf : Str -> Option NameKind} {x : Str} {v : Value} : ∀ {P : List Str} {vs : List Value} {i : Nat} {m : Str -> Option Value}, P.Nodup -> P[i]? = some x -> vs[i]? = some v -> kindOf x = some .local ->
  bindL kindOf (P.zip vs) m x = some v
 | [], _, _, _, _, h, _, _ => by simp at h
 | _ :: _, [], _, _, _, _, h, _ => by simp at h
 | p :: P, w :: vs, 0, m, nd, h1, h2, hk => by
  simp at h1 h2; subst h1; subst h2
  show bindL kindOf ((p, w) :: P.zip vs) m p = _
  unfold bindL
  rw [bindL_out fun v hv => (List.nodup_cons.mp nd).1 (List.of_mem_zip hv).1, if_pos hk]
  simp
 | p :: P, w :: vs, i + 1, m, nd, h1, h2, hk => by
  show bindL kindOf ((p, w) :: P.zip vs) m x = _
  unfold bindL
  exact bindL_get (i := i) (List.nodup_cons.mp nd).2 (by simpa using h1) (by simpa using h2) hk
theorem bindC_get {kindOf : Str -> Option NameKind} {x : Str} {v : Value} : ∀ {P : List Str} {vs : List Value} {i : Nat} {m : Str -> Option Value}, P.Nodup -> P[i]? = some x -> vs[i]? = some v -> kindOf x ≠ some .local ->
  bindC kindOf (P.zip vs) m x = some v
 | [], _, _, _, _, h, _, _ => by simp at h
 | _ :: _, [], _, _, _, _, h, _ => by simp at h
 | p :: P, w :: vs, 0, m, nd, h1, h2, hk => by
  simp at h1 h2; subst h1; subst h2
  show bindC kindOf ((p, w) :: P.zip vs) m p = _
  unfold bindC
  rw [bindC_out fun v hv => (List.nodup_cons.mp nd).1 (List.of_mem_zip hv).1, if_neg hk]
  simp
 | p :: P, w :: vs, i + 1, m, nd, h1, h2, hk => by
  show bindC kindOf ((p, w) :: P.zip vs) m x = _
  unfold bindC
  exact bindC_get (i := i) (List.nodup_cons.mp nd).2 (by simpa using h1) (by simpa using h2) hk
def start (N : List Str) (vs : List V) : St := vs.map some ++ List.replicate (N.length - vs.length) none
def cxOf (CX : CXT) (P : Program) (w : World) (K : PySem.W.Frag) (mg : Str -> Option Value) (base : Heap) (N : List Str) (qual : Str) (scope : Scope) (f : Addr) (cd : Value) (A : Around) (outer : List Env) (s : Shared) (H : Hp) (E : XK) : Cx where
 prog := P
 w := w
 K := K
 mg := mg
 base := base
 A := A.deeper (envOfC qual scope s.heap.objs.size f cd)
 N := N
 s₀ := s
 H₀ := H
 env := envOfC qual scope s.heap.objs.size f cd
 outer := outer
 stack := envOfC qual scope s.heap.objs.size f cd :: outer
 ex := []
 calm := true
 fn := fun _ => true
 pn := []
 xe := fun e s' => wpAny (model P w) (A.deeper (envOfC qual scope s.heap.objs.size f cd)) (leaving (envOfC qual scope s.heap.objs.size f cd) e) (fun _ s'' => CX outer H s E e s'') (fun e' s'' => CX outer H s E e' s'') s'
theorem cell_has {sc : Scope} {n : Nat} {x : Str} (h : sc.names.lookup x = some .cell) : ∃ c, (cellsFrom n sc.names []).lookup x = some c := by
 have q := PySem.W.cellsFrom_some sc.names n [] (.inl h)
 exact Option.isSome_iff_exists.mp q
theorem inv_start {CX : CXT} {P : Program} {w : World} {K : PySem.W.Frag} {mg : Str -> Option Value} {base : Heap} {N ps : List Str} {qual : Str} {scope : Scope} {f : Addr} {cd : Value} {A : Around} {outer : List Env} {s s1 : Shared} {H : Hp} {E : XK} {us : List Value} {vs : List V}
  (S : FnScope N ps scope) (hd : A.handled = none) (e0 : Env0 P w K mg base A outer s H) (hl : vs.length = ps.length) (r : Vals vs us)
  (x : InCallC s s.heap.objs.size (bindL (envOfC qual scope s.heap.objs.size f cd).kindOf (ps.zip us) fun _ => none) (cellsFrom (s.heap.objs.size + 1) scope.names []) (bindC (envOfC qual scope s.heap.objs.size f cd).kindOf (ps.zip us) fun _ => none) s1) :
  Inv (cxOf CX P w K mg base N qual scope f cd A outer s H E) [] (start N vs) H s1 := by
 have hpl : ps.length <= N.length := by have := congrArg List.length S.pre; rw [List.length_take] at this; omega
 obtain ⟨h1, tk, rfl, hk⟩ := x.done
 have noA : ∀ b : Addr, b ∉ (cxOf CX P w K mg base N qual scope f cd A outer s H E).ex := fun b z => absurd (show b ∈ ([] : List Addr) from z) (by simp)
 refine ⟨⟨e0.mod, S.kind, rfl, rfl, Nat.le_refl _, fun y z c h1 h2 => ?_, fun y hy => ?_, fun y c _ h => ?_, fun _ => hd, Around.frames_deeper e0.frames, .inr ⟨rfl, rfl⟩, fun b z => absurd z (noA b), e0.bs, e0.bsz, fun b _ _ => noA b, fun b z => absurd z (noA b), e0.funs, e0.frf⟩,
  rfl, e0.bare, Un.kept hk, ⟨_, x.toInCall.ns, fun i y v h1 h2 h3 => ?_⟩, fun y c h => ⟨_, x.cell y c h⟩, e0.hok.fresh (Nat.le_refl _), fun y c h => ?_, fun p hp => absurd (show p ∈ ([] : List (Addr × Obj)) from hp) (by simp), e0.hok.kept hk, ?_⟩
 ·exact name_of_addr x.apart (PySem.mem_of_lookup h1) (PySem.mem_of_lookup h2)
 ·have hy : scope.names.lookup y = some .cell \/ scope.names.lookup y = some .free := hy
  rcases hy with hy | hy
  ·exact cell_has hy
  ·exact absurd rfl (S.nofree _ (PySem.mem_of_lookup hy))
 ·exact Nat.le_of_lt (x.above y c (PySem.mem_of_lookup h))
 ·have hi : i < vs.length := by
   unfold start at h2
   by_cases hi : i < vs.length
   ·exact hi
   ·rw [List.getElem?_append_right (by simpa using hi)] at h2
    rw [List.getElem?_replicate] at h2
    split at h2 <;> cases h2
  have ha : vs[i]? = some v := by
   unfold start at h2
   rw [List.getElem?_append_left (by simpa using hi), List.getElem?_map] at h2
   cases e : vs[i]? with
   | none => rw [e] at h2; cases h2
   | some a => rw [e] at h2; cases h2; rfl
  obtain ⟨u, hu, rv⟩ := r.get ha
  have hp : ps[i]? = some y := by
   rw [<- S.pre, List.getElem?_take_of_lt (by omega)]; exact h1
  have ndP : ps.Nodup := by rw [<- S.pre]; exact S.nd.sublist (List.take_sublist _ _)
  refine ⟨u, rv, ?_⟩
  rcases S.par y (List.mem_of_getElem? hp) with k | k
  ·exact .inl ⟨k, bindL_get ndP hp hu k⟩
  ·obtain ⟨c, e⟩ := cell_has (n := s.heap.objs.size + 1) k
   refine .inr ⟨.inl k, c, e, ?_⟩
   have q := x.cell y c e
   rw [bindC_get ndP hp hu (by show scope.names.lookup y ≠ _; rw [k]; decide)] at q
   exact q
 ·exact e0.hok.fresh (Nat.le_of_lt (x.above y c (PySem.mem_of_lookup h)))
 ·unfold start
  show _ = N.length
  rw [List.length_append, List.length_map, List.length_replicate]
  omega
theorem fn_of {CX : CXT} {P : Program} {w : World} {K : PySem.W.Frag} {mg : Str -> Option Value} {base : Heap} {k : Nat} {f : Addr} {name qual : Str} {params : Arguments} {body : List Stmt} {scope : Scope} {dV kV doc pm cdv ct oc : Value} {an od : Option Addr}
  {osl : Array (Option Value)} {N ps : List Str} {sp : Sp} (lk : K.lookup f = some ⟨oc, od, .func (PySem.W.fnOf name qual params body scope dV kV doc pm an cdv ct), osl⟩) (hcd : PySem.W.codeIn K cdv qual = true) (S : FnScope N ps scope)
  (len : ∀ vs H Q E, sp vs H Q E -> vs.length = ps.length)
  (hbody : ∀ (A : Around) (outer : List Env) (s : Shared) (H : Hp) (vs : List V) (Q : VK) (E : XK), Room k (A.deeper (envOfC qual scope s.heap.objs.size f cdv)) -> sp vs H Q E ->
   ∃ t, PSs (cxOf CX P w K mg base N qual scope f cdv A outer s H E) body t /\ t { nx := fun _ H' => Q .non H', rt := Q } (start N vs) H) :
  FnOk P w K mg base CX (k + 1) f (PySem.W.fnOf name qual params body scope dV kV doc pm an cdv ct) ps sp := by
 refine ⟨len, fun A outer s H args us vs Q E hr e0 hb r hsp => ?_⟩
 have hl := len _ _ _ _ hsp
 have KX : K.In s.heap := e0.mod.kin.keeps fun b o e => (e0.bs b o e).1
 have lim : s.heap.NoLimit := e0.mod.nolimit.keeps fun b o e => (e0.bs b o e).1
 have hkind : ∀ y ∈ ps.zip us, scope.names.lookup y.1 = some .local \/ (scope.names.lookup y.1 = some .cell /\ ((cellsFrom (s.heap.objs.size + 1) scope.names []).lookup y.1).isSome = true) := fun ⟨n, v⟩ hy => by
  rcases S.par n (List.of_mem_zip hy).1 with q | q
  ·exact .inl q
  ·exact .inr ⟨q, PySem.W.cellsFrom_some _ _ _ (.inl q)⟩
 refine codeAny_call_function hr.depth (KX _ _ lk) rfl S.co S.gen rfl (PySem.W.codeRec_of KX hcd) (hb _ _ _ _ ?_)
 refine wpAny_newFunctionEnv_cells S.kind hkind fun env he s1 x => ?_
 subst he
 refine ⟨lim.keeps x.toInCall.keep, codeAny_func ?_⟩
 obtain ⟨t, ht, hq⟩ := hbody A outer s H vs Q E (hr.deeper _) hsp
 have I : Inv (cxOf CX P w K mg base N qual scope f cdv A outer s H E) [] (start N vs) H s1 := inv_start S hr.hd e0 hl r x
 refine wpAny_mono (ht [] s1 (start N vs) H _ I hq) (fun fl s' hs => ?_) fun e s' hs => hs
 have fin : ∀ {σ' : St} {H' : Hp} {v : V} {u : Value}, Inv (cxOf CX P w K mg base N qual scope f cdv A outer s H E) [] σ' H' s' -> RelV v u -> Q v H' -> CE outer P w H s Q u s' :=
  fun {σ' H' v u} J rv q => ⟨v, H', J.os, J.bare, J.base, J.hok, rv, q⟩
 cases fl with
 | ret u =>
  obtain ⟨v, σ', H', J, rv, q⟩ := hs
  exact fin J rv q
 | next =>
  obtain ⟨σ', H', J, q⟩ := hs
  exact fin (v := V.non) (u := Value.none) J rfl q
 | brk =>
  obtain ⟨_, _, _, q⟩ := hs
  exact False.elim q
 | cont =>
  obtain ⟨_, _, _, q⟩ := hs
  exact False.elim q
section
variable {X : Cx} {x : Str} {p pos : Pos} {e : Expr} {es : List Expr} {t : TA} {id T : String} {r : List V -> Hp -> VK -> Prop}
def tCB (r : List V -> Hp -> VK -> Prop) (t : TA) : TE := fun σ H Q => t σ H fun vs H1 => r vs H1 Q
theorem pe_callB (hc : CallR X (.builtin id) r) (hg : Gl X x) (hm : X.mg x = none) (hv : bootBuiltins x = some (.builtin id)) (ha : PA X (e :: es) t) (hn : x ≠ "__name__" := by decide) (hdb : (x == ("__debug__" : Str)) = false := by decide)
  (he : starEach (e :: es) X.env = (false, eval e X.env) :: starEach es X.env := by rfl) (hpl : (backTo pos (starEach es X.env)).any (·.1) = false := by rfl) : PE X (.Call (.Name x p) (e :: es) [] pos) (tCB r t) := by
 intro pins s σ H Q I h
 refine wpAny_Call_Name_kw (ld_blt I hg hm hv ?_ hn hdb)
 exact PyProof.Rows.callWith_builtin1 (thn (ha pos pins s σ H _ I h) fun us s1 ⟨vs, H1, I1, r1, q1⟩ => hc pins s1 σ H1 vs us Q I1 r1 q1) he hpl
theorem pe_callTy (hc : CallR X (.type T) r) (hg : Gl X x) (hm : X.mg x = none) (hv : bootBuiltins x = some (.type T)) (ha : PA X (e :: es) t) (hn : x ≠ "__name__" := by decide) (hdb : (x == ("__debug__" : Str)) = false := by decide)
  (he : starEach (e :: es) X.env = (false, eval e X.env) :: starEach es X.env := by rfl) (hpl : (backTo pos (starEach es X.env)).any (·.1) = false := by rfl) : PE X (.Call (.Name x p) (e :: es) [] pos) (tCB r t) := by
 intro pins s σ H Q I h
 refine wpAny_Call_Name_kw (ld_blt I hg hm hv ?_ hn hdb)
 exact PyProof.Rows.callWith_type1 (thn (ha pos pins s σ H _ I h) fun us s1 ⟨vs, H1, I1, r1, q1⟩ => hc pins s1 σ H1 vs us Q I1 r1 q1) he hpl
end
end L2
namespace HT
open PySem PyProof.Rows
def lexLt : List Int -> List Int -> Bool
 | [], [] => false
 | [], _ :: _ => true
 | _ :: _, [] => false
 | x :: xs, y :: ys => if x = y then lexLt xs ys else decide (x < y)
theorem lexLt_cons (x y : Int) (xs ys : List Int) : lexLt (x :: xs) (y :: ys) = if x = y then lexLt xs ys else decide (x < y) := rfl
section
open PySem.SeqAt
open PySem.AutoSeq1 (wpAny_loadPart')
open PySem.MeetsSeq PySem.MeetsSeq2 PySem.MeetsSeq3
end
section
variable {prog : Program} {w : World} {A : Around} {E : Value -> Shared -> Prop} {s : Shared}
theorem cat_tup {t b : Addr} {vs ws : List Value} {Q : Value -> Shared -> Prop} (ht : IsTup s.heap t vs.toArray) (hb : IsTup s.heap b ws.toArray) (hv : vs ≠ [])
  (h1 : ws = [] -> Q (.ref t) s) (h2 : ws ≠ [] -> Q (.ref s.heap.objs.size) { s with heap := s.heap.push { cls := .type "tuple", data := .seq (vs ++ ws).toArray } })
  (hsz : vs.length + ws.length <= sizeLine) : wpAny (model prog w) A (binaryOp .Add (.ref t) (.ref b)) Q E s := by
 obtain ⟨⟨cls, dd, data, sl⟩, ho, hc, n, hd⟩ := id ht
 obtain ⟨⟨cls2, dd2, data2, sl2⟩, ho2, hc2, n2, hd2⟩ := id hb
 simp only at hc hd hc2 hd2
 subst hc hd hc2 hd2
 have e : vs.toArray ++ ws.toArray = (vs ++ ws).toArray := by simp
 by_cases hw : ws = []
 ·exact concat_meets ⟨_, ho, rfl⟩ ⟨_, ho2, rfl⟩ noFill_tuple_add seq_tuple_add PySem.F.slot_tuple_add PySem.F.entry_tuple_add (PySem.F.args_tuple_add_2 _ _)
   (tuple_addW1 t b vs.toArray ws.toArray n n2 dd dd2 sl sl2 (by simpa using hv) (by simp [hw])) ⟨ho, ho2, h1 hw⟩
 ·refine concat_meets ⟨_, ho, rfl⟩ ⟨_, ho2, rfl⟩ noFill_tuple_add seq_tuple_add PySem.F.slot_tuple_add PySem.F.entry_tuple_add (PySem.F.args_tuple_add_2 _ _)
   (tuple_addW2 t b vs.toArray ws.toArray n n2 dd dd2 sl sl2 (by simpa using hv) (by simpa using hw) (by rw [List.size_toArray, List.size_toArray]; exact hsz)) ⟨ho, ho2, ?_⟩
  rw [e]
  exact h2 hw
def sIx (n d : Nat) : Option Int -> Nat
 | none => d
 | some v => if v < 0 then (v + (n : Int)).toNat else min v.toNat n
theorem sIx_none (n d : Nat) : sIx n d none = d := rfl
theorem sIx_le (n d : Nat) (hd : d <= n) (o : Option Int) : sIx n d o <= n := by
 cases o with
 | none => exact hd
 | some v =>
  show (if v < 0 then (v + (n : Int)).toNat else min v.toNat n) <= n
  by_cases hv : v < 0
  ·rw [if_pos hv]; omega
  ·rw [if_neg hv]; exact Nat.min_le_right _ _
theorem clip_eq (v : Int) (n d : Nat) : (if v < 0 then max (v + (n : Int)) 0 else min v (n : Int)) = ((sIx n d (some v) : Nat) : Int) := by
 show (if v < 0 then max (v + (n : Int)) 0 else min v (n : Int)) = (((if v < 0 then (v + (n : Int)).toNat else min v.toNat n) : Nat) : Int)
 by_cases hv : v < 0
 ·simp only [if_pos hv]; omega
 ·simp only [if_neg hv]; omega
theorem adjust_gen (lo hi : Option Int) (n : Nat) : Builtin.Slice.sliceAdjust lo hi 1 (n : Int) = (((sIx n 0 lo : Nat) : Int), ((sIx n n hi : Nat) : Int)) := by
 have h1 : ¬ ((1 : Int) < 0) := by omega
 unfold Builtin.Slice.sliceAdjust
 simp only [h1, if_false]
 refine Prod.ext ?_ ?_
 ·cases lo with
  | none => rfl
  | some v => exact clip_eq v n 0
 ·cases hi with
  | none => rfl
  | some v => exact clip_eq v n n
theorem places_gen (i j : Nat) : Builtin.Slice.slicePlaces (i : Int) (j : Int) 1 = j - i := by
 unfold Builtin.Slice.slicePlaces
 have h1 : (1 : Int) > 0 := by omega
 simp only [h1, if_true, Int.ediv_one]
 split <;> omega
theorem slicePart_ {v : Value} {o : Option Int} {Q : Option Int -> Shared -> Prop} (p : IsPart v o) (h : Q o s) : wpAny (model prog w) A (Builtin.Slice.slicePartIndex v) Q E s := by
 cases p with
 | none => exact slicePart_none h
 | int i t => exact slicePart_int h
theorem sliceApplied_gen {sl : Addr} {vl vu : Value} {lo hi : Option Int} {n : Nat} {Q : Int × Int × Nat -> Shared -> Prop} (hs : s.heap.IsSliceOf sl vl vu .none) (pl : IsPart vl lo) (pu : IsPart vu hi)
  (h : Q (((sIx n 0 lo : Nat) : Int), 1, sIx n n hi - sIx n 0 lo) s) : wpAny (model prog w) A (Builtin.Slice.sliceApplied (.ref sl) (pure (n : Int))) Q E s := by
 obtain ⟨os, hos, hcs, hds⟩ := id hs
 unfold Builtin.Slice.sliceApplied Builtin.Slice.sliceFields
 refine wpAny_bind (wpAny_bind (wpAny_field hos hds (x := vl) rfl (wpAny_bind (wpAny_field hos hds (x := vu) rfl (wpAny_bind (wpAny_field hos hds (x := .none) rfl (wpAny_pure ?_)))))))
 refine wpAny_bind (slicePart_none ?_)
 show wpAny _ _ (if ((1 : Int) == 0) = true then _ else _) _ _ s
 rw [if_neg (by decide)]
 refine wpAny_bind (slicePart_ pl (wpAny_bind (slicePart_ pu (wpAny_bind (wpAny_pure ?_)))))
 show wpAny _ _ (match Builtin.Slice.sliceAdjust lo hi 1 (n : Int) with | (lo, hi) => pure (lo, (1 : Int), Builtin.Slice.slicePlaces lo hi 1)) _ _ s
 rw [adjust_gen lo hi n]
 show wpAny _ _ (pure (((sIx n 0 lo : Nat) : Int), (1 : Int), Builtin.Slice.slicePlaces ((sIx n 0 lo : Nat) : Int) ((sIx n n hi : Nat) : Int) 1)) _ _ s
 rw [places_gen]
 exact wpAny_pure h
theorem pick_gen (xs : Array Value) (i k : Nat) : ((List.range k).filterMap fun (m : Nat) => xs[((i : Int) + (m : Int) * 1).toNat]?).toArray = ((xs.toList.drop i).take k).toArray := by
 have e : (fun (m : Nat) => xs[((i : Int) + (m : Int) * 1).toNat]?) = fun m => xs[i + m]? := by
  funext m
  have : ((i : Int) + (m : Int) * 1).toNat = i + m := by omega
  rw [this]
 rw [e]
 have := pick_run xs i k
 rw [List.filterMap_map] at this
 have e2 : ((fun x => xs[x]?) ∘ fun x => i + x) = fun m => xs[i + m]? := rfl
 rw [e2] at this
 rw [this]
theorem getItem_tuple_cut {t sl : Addr} {items : Array Value} {vl vu : Value} {lo hi : Option Int} {Q : Value -> Shared -> Prop} (ht : IsTup s.heap t items) (hs : s.heap.IsSliceOf sl vl vu .none) (pl : IsPart vl lo) (pu : IsPart vu hi)
  (hw : ¬ (sIx items.size 0 lo = 0 /\ sIx items.size items.size hi = items.size))
  (h : Q (.ref s.heap.objs.size) { s with heap := s.heap.push { cls := .type "tuple", data := .seq ((items.toList.drop (sIx items.size 0 lo)).take (sIx items.size items.size hi - sIx items.size 0 lo)).toArray } })
  (hsz : items.size <= sizeLine) : wpAny (model prog w) A (getItem (.ref t) (.ref sl)) Q E s := by
 have htake : sizeOk (.seq ((items.toList.drop (sIx items.size 0 lo)).take (sIx items.size items.size hi - sIx items.size 0 lo)).toArray) := by
  show ((items.toList.drop (sIx items.size 0 lo)).take (sIx items.size items.size hi - sIx items.size 0 lo)).toArray.size <= sizeLine
  rw [List.size_toArray, List.length_take, List.length_drop, Array.length_toList]
  omega
 have hj : sIx items.size items.size hi <= items.size := sIx_le _ _ (Nat.le_refl _) hi
 obtain ⟨os, hos, hcs, hds⟩ := id hs
 have hTs : s.TypeIs (.ref sl) "slice" := ⟨os, hos, hcs⟩
 unfold getItem
 try with_reducible refine wpAny_holding ?_
 first | refine wpAny_bind (wpAny_pure ?_) | skip
 refine wpAny_bind (wpAny_sequenceKey ht.typeIs (by decide) ?_)
 refine wpAny_bind (wpAny_callSpecial?_slot (name := Str.ofString "__getitem__") ht.typeIs PyProof.Rows.slot_tuple_getitem
  (wpAny_call_entry PyProof.Rows.slot_tuple_getitem ht.typeIs entry_tuple_getitem ?_ (args_tuple_getitem _ _)))
 show wpAny _ _ (Builtin.Tuple.tupleItemsOf (.ref t) >>= _) _ _ s
 refine wpAny_bind (tupleItemsOf_ ht ?_)
 refine wpAny_bind (wpAny_typeOf hTs ?_)
 rw [if_pos (by decide)]
 refine wpAny_bind (sliceApplied_gen hs pl pu ?_)
 have hno : ¬ ((((sIx items.size 0 lo : Nat) : Int) == 0 && (1 : Int) == 1 && (sIx items.size items.size hi - sIx items.size 0 lo) == items.size) = true) := by
  intro q
  rw [Bool.and_eq_true, Bool.and_eq_true] at q
  have q1 : ((sIx items.size 0 lo : Nat) : Int) = 0 := eq_of_beq q.1.1
  have q2 : sIx items.size items.size hi - sIx items.size 0 lo = items.size := eq_of_beq q.2
  exact hw ⟨by omega, by omega⟩
 show wpAny _ _ (if (((sIx items.size 0 lo : Nat) : Int) == 0 && (1 : Int) == 1 && (sIx items.size items.size hi - sIx items.size 0 lo) == items.size) = true then _ else _) _ _ s
 rw [if_neg hno, pick_gen]
 first
  | exact wpAny_bind (m := Builtin.Tuple.tupleExact _) (wpAny_newObj_type (wpAny_pure ⟨_, rfl, wpAny_pure h⟩) htake)
  | exact wpAny_bind (m := Builtin.Tuple.tupleExact _) (wpAny_newObj_type (wpAny_bind (wpAny_pure (wpAny_pure ⟨_, rfl, wpAny_pure h⟩))) htake)
  | exact wpAny_bind (wpAny_bind (m := Builtin.Tuple.tupleExact _) (wpAny_newObj_type (wpAny_pure (wpAny_pure ⟨_, rfl, wpAny_pure h⟩)) htake))
  | exact wpAny_bind (wpAny_bind (m := Builtin.Tuple.tupleExact _) (wpAny_newObj_type (wpAny_pure ⟨_, rfl, wpAny_pure h⟩) htake))
end
end HT
namespace L2
open PySem PySem.Spec PyProof.Rows
abbrev TO := St -> Hp -> (Option Int -> Hp -> Prop) -> Prop
def PO (X : Cx) (e : Option Expr) (t : TO) : Prop :=
 ∀ (pins : List (Addr × Obj)) (s : Shared) (σ : St) (H : Hp) (Q : Option Int -> Hp -> Prop), Inv X pins σ H s -> t σ H Q ->
  wpAny (model X.prog X.w) X.A (evalPart e X.env) (fun u s' => ∃ o H', Inv X pins σ H' s' /\ IsPart u o /\ Q o H') X.xe s
def tNoPart : TO := fun _ H Q => Q none H
def tPart (t : TE) : TO := fun σ H Q => t σ H fun x H1 => ∃ i, x = .int i /\ Q (some i) H1
section
variable {X : Cx} {e : Expr} {te : TE} {lo hi : Option Expr} {tl th : TO} {pos p2 : Pos}
theorem po_none : PO X none tNoPart := by
 intro pins s σ H Q I h
 rw [evalPart_none]
 exact wpAny_pure ⟨none, H, I, .none, h⟩
theorem po_some (h : PE X e te) : PO X (some e) (tPart te) := by
 intro pins s σ H Q I hw
 rw [evalPart_some]
 refine thn (h pins s σ H _ I hw) fun u s1 ⟨x, H1, I1, r1, q1⟩ => ?_
 obtain ⟨i, rfl, q⟩ := q1
 obtain ⟨t, rfl⟩ := r1
 exact ⟨some i, H1, I1, .int i t, q⟩
def SlR (X : Cx) (r : V -> Option Int -> Option Int -> Hp -> VK -> Prop) : Prop :=
 ∀ (pins : List (Addr × Obj)) (s : Shared) (σ : St) (H : Hp) (x : V) (v vl vu : Value) (lo hi : Option Int) (sl : Addr) (Q : VK), Inv X pins σ H s -> RelV x v -> s.heap.IsSliceOf sl vl vu .none -> IsPart vl lo -> IsPart vu hi -> r x lo hi H Q ->
  ∃ T id, typeLookup (.type T) "__getitem__" = pure (some (.builtin id)) /\ s.TypeIs v T /\ wpAny (model X.prog X.w) X.A (getItem v (.ref sl)) (EP X pins σ Q) X.xe s
theorem SlR.or {r r' : V -> Option Int -> Option Int -> Hp -> VK -> Prop} (h : SlR X r) (h' : SlR X r') : SlR X (fun x lo hi H Q => r x lo hi H Q \/ r' x lo hi H Q) := by
 intro pins s σ H x v vl vu lo hi sl Q I rx hs pl pu q
 rcases q with q | q
 ·exact h pins s σ H x v vl vu lo hi sl Q I rx hs pl pu q
 ·exact h' pins s σ H x v vl vu lo hi sl Q I rx hs pl pu q
def tSl (r : V -> Option Int -> Option Int -> Hp -> VK -> Prop) (te : TE) (tl th : TO) : TE := fun σ H Q => te σ H fun x H1 => tl σ H1 fun l H2 => th σ H2 fun u H3 => r x l u H3 Q
theorem pe_slice {r : V -> Option Int -> Option Int -> Hp -> VK -> Prop} (hr : SlR X r) (he : PE X e te) (hl : PO X lo tl) (hu : PO X hi th) : PE X (.Subscript e (.Slice lo hi none p2) pos) (tSl r te tl th) := by
 intro pins s σ H Q I h
 refine Subscript_ (thn (he pins s σ H _ I h) fun v s1 ⟨x, H1, I1, r1, q1⟩ => ?_)
 refine wpAny_Slice (thn (hl pins s1 σ H1 _ I1 q1) fun vl s2 ⟨l, H2, I2, pl, q2⟩ => thn (hu pins s2 σ H2 _ I2 q2) fun vu s3 ⟨u, H3, I3, pu, q3⟩ => ?_)
 rw [evalPart_none]
 refine wpAny_pure ?_
 have I4 : Inv X pins σ H3 { s3 with heap := s3.heap.push { cls := .type "slice", data := .fields #[vl, vu, .none] } } := I3.kept (t' := s3.toks) fun b ob q => Heap.get?_push_of_some _ q
 obtain ⟨T, id, hT, ht, hg⟩ := hr pins { s3 with heap := s3.heap.push { cls := .type "slice", data := .fields #[vl, vu, .none] } } σ H3 x v vl vu l u s3.heap.objs.size Q I4 r1 (Heap.IsSliceOf.new ..) pl pu q3
 show wpAny (model X.prog X.w) X.A (subscriptTail e (.Slice lo hi none p2) v (.ref s3.heap.objs.size)) (EP X pins σ Q) X.xe { s3 with heap := s3.heap.push { cls := .type "slice", data := .fields #[vl, vu, .none] } }
 exact tail_any (ops := [.ref s3.heap.objs.size, v]) ht hT hg (by with_unfolding_all rfl)
def cutV (xs : List V) (lo hi : Option Int) : List V := (xs.drop (HT.sIx xs.length 0 lo)).take (HT.sIx xs.length xs.length hi - HT.sIx xs.length 0 lo)
theorem cutV_length (xs : List V) (lo hi : Option Int) : (cutV xs lo hi).length <= xs.length := by
 unfold cutV
 rw [List.length_take, List.length_drop]
 omega
def rSlT (K : PySem.W.Frag) : V -> Option Int -> Option Int -> Hp -> VK -> Prop := fun x lo hi H Q => ∃ a xs, x = .ref a /\ SqT K H a xs /\
 ¬ (HT.sIx xs.length 0 lo = 0 /\ HT.sIx xs.length xs.length hi = xs.length) /\ ∀ p, H p = none -> Q (.ref p) (upd H p (.tup (cutV xs lo hi)))
theorem sl_tup : SlR X (rSlT X.K) := by
 intro pins s σ H x v vl vu lo hi sl Q I rx hs pl pu h
 obtain ⟨a, xs, rfl, hx, hw, q⟩ := h
 cases rx
 obtain ⟨its, r, ht, hz⟩ := I.tuple hx
 have hlen : its.toArray.size = xs.length := by rw [List.size_toArray]; exact r.length.symm
 refine ⟨"tuple", _, PyProof.Rows.slot_tuple_getitem.lookup, ht.typeIs, ?_⟩
 refine HT.getItem_tuple_cut ht hs pl pu (by rw [hlen]; exact hw) ?_ (by rw [hlen]; exact hz)
 rw [hlen]
 refine ⟨.ref s.heap.objs.size, _, I.laid (t' := s.toks) (o := .tup (cutV xs lo hi)) (fun b ob q => Heap.get?_push_of_some _ q) (Nat.le_refl _) ?_, rfl, q _ (I.hok.fresh (Nat.le_refl _))⟩
 exact ⟨Nat.le_trans (cutV_length xs lo hi) hz, _, (r.drop (HT.sIx xs.length 0 lo)).take (HT.sIx xs.length xs.length hi - HT.sIx xs.length 0 lo), IsTup.new _ _⟩
def rCatT (K : PySem.W.Frag) : R2 := fun x y H Q => ∃ a b xs ys, x = .ref a /\ y = .ref b /\ SqT K H a xs /\ SqT K H b ys /\ xs ≠ [] /\ xs.length + ys.length <= sizeLine /\
 (ys = [] -> Q (.ref a) H) /\ (ys ≠ [] -> ∀ p, H p = none -> Q (.ref p) (upd H p (.tup (xs ++ ys))))
theorem Vals.nil_iff {xs : List V} {us : List Value} (r : Vals xs us) : us = [] ↔ xs = [] := by
 cases r with
 | nil => simp
 | cons _ _ => simp
theorem op_catT : OpR X (binaryOp .Add) (rCatT X.K) := by
 intro pins s σ H x y v u Q I rx ry h
 obtain ⟨a, b, xs, ys, rfl, rfl, ha, hb, hx, hz, q1, q2⟩ := h
 cases rx
 cases ry
 obtain ⟨its, r1, p1, _⟩ := I.tuple ha
 obtain ⟨its2, r2, p2, _⟩ := I.tuple hb
 refine HT.cat_tup p1 p2 (fun z => hx (r1.nil_iff.mp z)) (fun z => ⟨.ref a, H, I, rfl, q1 (r2.nil_iff.mp z)⟩) (fun z => ?_) (by rw [<- r1.length, <- r2.length]; exact hz)
 refine ⟨.ref s.heap.objs.size, _, I.laid (t' := s.toks) (o := .tup (xs ++ ys)) (fun b ob q => Heap.get?_push_of_some _ q) (Nat.le_refl _) ?_, rfl, q2 (fun w => z (r2.nil_iff.mpr w)) _ (I.hok.fresh (Nat.le_refl _))⟩
 exact ⟨by rw [List.length_append]; exact hz, _, r1.append r2, IsTup.new _ _⟩
end
def ixN (n : Nat) (i : Int) : Option Nat := if 0 <= i then (if i < n then some i.toNat else none) else if -(n : Int) <= i then some (i + n).toNat else none
def atI {α : Type} (xs : List α) (i : Int) : Option α := (ixN xs.length i).bind fun j => xs[j]?
theorem ixN_seq {n : Nat} {i : Int} {j : Nat} (h : ixN n i = some j) : seqIndex? i n = some j /\ j < n /\ -(n : Int) <= i /\ i < n := by
 unfold ixN at h
 by_cases h0 : 0 <= i
 ·rw [if_pos h0] at h
  by_cases h1 : i < n
  ·rw [if_pos h1] at h
   have e : i.toNat = j := Option.some.inj h
   exact ⟨by rw [seqIndex_of h0 h1, e], by omega, by omega, h1⟩
  ·rw [if_neg h1] at h; cases h
 ·rw [if_neg h0] at h
  by_cases h1 : -(n : Int) <= i
  ·rw [if_pos h1] at h
   have e : (i + n).toNat = j := Option.some.inj h
   exact ⟨by rw [seqIndex_neg (by omega) h1, e], by omega, h1, by omega⟩
  ·rw [if_neg h1] at h; cases h
theorem atI_get {α : Type} {xs : List α} {i : Int} {v : α} (h : atI xs i = some v) : ∃ j, seqIndex? i xs.length = some j /\ xs[j]? = some v /\ j < xs.length /\ -(xs.length : Int) <= i /\ i < xs.length := by
 unfold atI at h
 cases e : ixN xs.length i with
 | none => rw [e] at h; cases h
 | some j =>
  rw [e] at h
  obtain ⟨h1, h2, h3, h4⟩ := ixN_seq e
  exact ⟨j, h1, h, h2, h3, h4⟩
def PlainIx (b : Expr) : Prop := ∀ o i, subscripted b false o i = operate [o, i] (getItem o i)
def IxR (X : Cx) (r : R2) : Prop :=
 ∀ (value slice : Expr) (pins : List (Addr × Obj)) (s : Shared) (σ : St) (H : Hp) (x y : V) (v u : Value) (Q : VK), Inv X pins σ H s -> RelV x v -> RelV y u -> r x y H Q ->
  subscripted slice false v u = operate [v, u] (getItem v u) -> wpAny (model X.prog X.w) X.A (subscriptTail value slice v u) (EP X pins σ Q) X.xe s
def MtR (X : Cx) (id : String) (r : V -> List V -> Hp -> VK -> Prop) : Prop :=
 ∀ (pins : List (Addr × Obj)) (s : Shared) (σ : St) (H : Hp) (x : V) (xs : List V) (v : Value) (us : List Value) (Q : VK), Inv X pins σ H s -> RelV x v -> Vals xs us -> r x xs H Q ->
  wpAny (model X.prog X.w) X.A (call (.builtin id) (v :: us)) (EP X pins σ Q) X.xe s
section
variable {X : Cx} {a b : Expr} {ta tb : TE} {pos : Pos}
theorem IxR.or {r r' : R2} (h : IxR X r) (h' : IxR X r') : IxR X (fun x y H Q => r x y H Q \/ r' x y H Q) := by
 intro value slice pins s σ H x y v u Q I rx ry q hs
 rcases q with q | q
 ·exact h value slice pins s σ H x y v u Q I rx ry q hs
 ·exact h' value slice pins s σ H x y v u Q I rx ry q hs
theorem MtR.or {id : String} {r r' : V -> List V -> Hp -> VK -> Prop} (h : MtR X id r) (h' : MtR X id r') : MtR X id (fun x xs H Q => r x xs H Q \/ r' x xs H Q) := by
 intro pins s σ H x xs v us Q I rx rs q
 rcases q with q | q
 ·exact h pins s σ H x xs v us Q I rx rs q
 ·exact h' pins s σ H x xs v us Q I rx rs q
theorem pe_ix {r : R2} (hr : IxR X r) (ha : PE X a ta) (hb : PE X b tb) (hs : PlainIx b) : PE X (.Subscript a b pos) (tOp r ta tb) := by
 intro pins s σ H Q I h
 exact Subscript_ (binT ha hb I h fun v u s2 x y H2 I2 rx ry q => hr a b pins s2 σ H2 x y v u Q I2 rx ry q (hs _ _))
def rIxL (K : PySem.W.Frag) : R2 := fun x y H Q => ∃ p xs i v, x = .ref p /\ y = .int i /\ SqL K H p xs /\ atI xs i = some v /\ Q v H
def rIxT (K : PySem.W.Frag) : R2 := fun x y H Q => ∃ p xs i v, x = .ref p /\ y = .int i /\ SqT K H p xs /\ atI xs i = some v /\ Q v H
theorem ix_list : IxR X (rIxL X.K) := by
 intro value slice pins s σ H x y v u Q I rx ry h hs
 obtain ⟨p, xs, i, z, rfl, rfl, hq, he, q⟩ := h
 cases rx
 obtain ⟨t, rfl⟩ := ry
 obtain ⟨its, r, pl, hz⟩ := I.list hq
 obtain ⟨j, h1, h2, h3, h4, h5⟩ := atI_get he
 obtain ⟨w, ew, rw'⟩ := r.get h2
 have hl := r.length
 have hn := line63
 have fin : EP X pins σ Q w s := ⟨z, H, I, rw', q⟩
 by_cases h0 : 0 <= i
 ·have hj : i.toNat = j := by
   rw [seqIndex_of h0 h5] at h1
   exact Option.some.inj h1
  exact item_listR pl.isList h0 (by omega) (by rw [hj]; simpa using ew) fin hs
 ·have hj : (i + (its.toArray.size : Int)).toNat = j := by
   rw [seqIndex_neg (by omega) h4] at h1
   rw [List.size_toArray, <- hl]
   exact Option.some.inj h1
  exact subscriptTail_builtinR (x := w) pl.isList.typeIs slot_list_getitem.lookup
   (wpAny_getItem_list_neg (Q := fun r s' => r = w /\ EP X pins σ Q r s') pl.isList (by omega) (by rw [List.size_toArray] <;> omega) (by omega) (by rw [hj]; simpa using ew) ⟨rfl, fin⟩) hs
theorem ix_tup : IxR X (rIxT X.K) := by
 intro value slice pins s σ H x y v u Q I rx ry h hs
 obtain ⟨p, xs, i, z, rfl, rfl, hq, he, q⟩ := h
 cases rx
 obtain ⟨t, rfl⟩ := ry
 obtain ⟨its, r, pl, hz⟩ := I.tuple hq
 obtain ⟨j, h1, h2, h3, h4, h5⟩ := atI_get he
 obtain ⟨w, ew, rw'⟩ := r.get h2
 have hl := r.length
 have hn := line63
 have fin : EP X pins σ Q w s := ⟨z, H, I, rw', q⟩
 exact subscriptTail_builtinR (x := w) pl.typeIs slot_tuple_getitem.lookup
  (getItem_tuple (j := j) (Q := fun r s' => r = w /\ EP X pins σ Q r s') pl (by omega) (by omega) (by rw [List.size_toArray, <- hl]; exact h1) (by simpa using ew) ⟨rfl, fin⟩) hs
theorem Inv.lst {pins : List (Addr × Obj)} {σ : St} {H : Hp} {s : Shared} {p : Addr} {xs : List V} (I : Inv X pins σ H s) (h : H p = some (.lst xs)) :
  ∃ (its : List Value) (n : Nat), Vals xs its /\ s.heap.get? p = some { cls := .type "list", data := .seq its.toArray n } /\ xs.length <= sizeLine := by
 obtain ⟨z, its, n, r, e⟩ := I.hok p _ h
 exact ⟨its, n, r, e, z⟩
theorem slice_bounds (lo hi : Option Int) (n : Nat) : (sliceBounds lo hi none n).1 = ((HT.sIx n 0 lo : Nat) : Int) /\ (sliceBounds lo hi none n).2.1 = ((HT.sIx n n hi : Nat) : Int) /\ (sliceBounds lo hi none n).2.2 = 1 := by
 refine ⟨?_, ?_, rfl⟩
 ·cases lo with
  | none => simp [sliceBounds, HT.sIx]
  | some i =>
   simp only [sliceBounds, HT.sIx, Option.getD_none, show (1 : Int) > 0 by decide, if_true]
   by_cases h : i < 0
   ·simp only [h, if_true] <;> omega
   ·simp only [h, if_false] <;> omega
 ·cases hi with
  | none => simp [sliceBounds, HT.sIx]
  | some i =>
   simp only [sliceBounds, HT.sIx, Option.getD_none, show (1 : Int) > 0 by decide, if_true]
   by_cases h : i < 0
   ·simp only [h, if_true] <;> omega
   ·simp only [h, if_false] <;> omega
theorem slicePick_cut (its : List Value) (lo hi : Option Int) : slicePick its.toArray lo hi none = ((its.drop (HT.sIx its.length 0 lo)).take (HT.sIx its.length its.length hi - HT.sIx its.length 0 lo)).toArray := by
 obtain ⟨h1, h2, h3⟩ := slice_bounds lo hi its.toArray.size
 unfold slicePick
 rw [h1, h2, h3]
 simp only [sliceRange_one, pick_run, List.size_toArray] <;> rfl
def rSlL (K : PySem.W.Frag) : V -> Option Int -> Option Int -> Hp -> VK -> Prop := fun x lo hi H Q => ∃ a xs, x = .ref a /\ SqL K H a xs /\ ∀ p, H p = none -> Q (.ref p) (upd H p (.lst (cutV xs lo hi)))
theorem sl_list : SlR X (rSlL X.K) := by
 intro pins s σ H x v vl vu lo hi sl Q I rx hs pl pu h
 obtain ⟨a, xs, rfl, hx, q⟩ := h
 cases rx
 obtain ⟨its, r, ht, hz⟩ := I.list hx
 have hlen := r.length
 refine ⟨"list", _, slot_list_getitem.lookup, ht.isList.typeIs, ?_⟩
 refine wpAny_getItem_list_slice ht.isList hs pl pu .none (by simp) ?_ (by rw [List.size_toArray] <;> omega)
 rw [slicePick_cut, <- hlen]
 refine ⟨.ref s.heap.objs.size, _, I.laid (t' := s.toks) (o := .lst (cutV xs lo hi)) (fun b ob q => Heap.get?_push_of_some _ q) (Nat.le_refl _) ?_, rfl, q _ (I.hok.fresh (Nat.le_refl _))⟩
 exact ⟨Nat.le_trans (cutV_length xs lo hi) hz, _, 0, (r.drop (HT.sIx xs.length 0 lo)).take (HT.sIx xs.length xs.length hi - HT.sIx xs.length 0 lo), Heap.get?_push_size _ rfl⟩
def flatV : V -> Bool
 | .non => true
 | .bl _ => true
 | .int _ => true
 | .str _ => true
 | _ => false
def eqV : V -> V -> Bool
 | .non, .non => true
 | .bl a, .bl b => a == b
 | .bl a, .int b => (if a then 1 else 0) == b
 | .int a, .bl b => a == (if b then 1 else 0)
 | .int a, .int b => a == b
 | .str a, .str b => a == b
 | _, _ => false
theorem eqAt_V {A : Around} {s : Shared} {y x : V} {u v : Value} (ry : RelV y u) (rx : RelV x v) (fy : flatV y = true) (fx : flatV x = true) : SeqAt.EqAt A s u v (eqV y x) := by
 cases y with
 | non =>
  cases ry
  cases x with
  | non => cases rx; exact SeqAt.EqAt.same _
  | bl b => cases rx; exact SeqAt.EqAt.none_bool b
  | int b => obtain ⟨t, rfl⟩ := rx; exact SeqAt.EqAt.none_int b t
  | str b => obtain ⟨t, rfl⟩ := rx; exact SeqAt.EqAt.none_str b t
  | _ => exact absurd (show false = true from fx) Bool.false_ne_true
 | bl a =>
  cases ry
  cases x with
  | non => cases rx; exact SeqAt.EqAt.bool_none a
  | bl b => cases rx; exact SeqAt.EqAt.bool_bool a b
  | int b => obtain ⟨t, rfl⟩ := rx; exact SeqAt.EqAt.bool_int a b t
  | str b => obtain ⟨t, rfl⟩ := rx; exact SeqAt.EqAt.bool_str a b t
  | _ => exact absurd (show false = true from fx) Bool.false_ne_true
 | int a =>
  obtain ⟨t', rfl⟩ := ry
  cases x with
  | non => cases rx; exact SeqAt.EqAt.int_none a t'
  | bl b => cases rx; exact SeqAt.EqAt.int_bool a t' b
  | int b => obtain ⟨t, rfl⟩ := rx; exact SeqAt.EqAt.int_int a t' b t
  | str b => obtain ⟨t, rfl⟩ := rx; exact SeqAt.EqAt.int_str a t' b t
  | _ => exact absurd (show false = true from fx) Bool.false_ne_true
 | str a =>
  obtain ⟨t', rfl⟩ := ry
  cases x with
  | non => cases rx; exact SeqAt.EqAt.str_none a t'
  | bl b => cases rx; exact SeqAt.EqAt.str_bool a t' b
  | int b => obtain ⟨t, rfl⟩ := rx; exact SeqAt.EqAt.str_int a t' b t
  | str b => obtain ⟨t, rfl⟩ := rx; exact SeqAt.EqAt.str_str a t' b t
  | _ => exact absurd (show false = true from fx) Bool.false_ne_true
 | _ => exact absurd (show false = true from fy) Bool.false_ne_true
def eqU (x : V) (u : Value) : Bool := match u with
 | .none => eqV .non x
 | .bool b => eqV (.bl b) x
 | .int i _ => eqV (.int i) x
 | .str z _ => eqV (.str z) x
 | _ => false
theorem eqU_of {x y : V} {u : Value} (r : RelV y u) (f : flatV y = true) : eqU x u = eqV y x := by
 cases y with
 | non => cases r; rfl
 | bl b => cases r; rfl
 | int i => obtain ⟨t, rfl⟩ := r; rfl
 | str z => obtain ⟨t, rfl⟩ := r; rfl
 | _ => exact absurd (show false = true from f) Bool.false_ne_true
theorem any_eqU {x : V} : ∀ {xs : List V} {us : List Value}, Vals xs us -> xs.all flatV = true -> us.any (eqU x) = xs.any fun y => eqV y x
 | _, _, .nil, _ => rfl
 | y :: xs, u :: us, .cons r t, f => by
  rw [List.all_cons, Bool.and_eq_true] at f
  rw [List.any_cons, List.any_cons, eqU_of r f.1, any_eqU t f.2]
theorem mem_eqAt {A : Around} {s : Shared} {x : V} {v : Value} (rx : RelV x v) (fx : flatV x = true) : ∀ {xs : List V} {us : List Value}, Vals xs us -> xs.all flatV = true -> ∀ u ∈ us, SeqAt.EqAt A s u v (eqU x u)
 | _, _, .nil, _ => fun u hu => by cases hu
 | y :: xs, u :: us, .cons r t, f => fun u' hu => by
  rw [List.all_cons, Bool.and_eq_true] at f
  rcases List.mem_cons.mp hu with rfl | hu
  ·rw [eqU_of r f.1]; exact eqAt_V r rx f.1 fx
  ·exact mem_eqAt rx fx t f.2 u' hu
def inV (x : V) (xs : List V) : Bool := xs.any fun y => eqV y x
def rIn (K : PySem.W.Frag) (neg : Bool) : R2 := fun x y H Q => ∃ p xs, y = .ref p /\ (SqL K H p xs \/ SqT K H p xs) /\ flatV x = true /\ xs.all flatV = true /\ Q (.bl (if neg then !inV x xs else inV x xs)) H
theorem op_notIn_seq : OpR X (compareOp .NotIn) (rIn X.K true) := by
 intro pins s σ H x y v u Q I rx ry h
 obtain ⟨p, xs, rfl, hq, fx, fs, q⟩ := h
 cases ry
 rcases hq with hq | hq
 ·obtain ⟨its, r, pl, hz⟩ := I.list hq
  refine SeqAt.notIn_listAt (eqU x) pl.isList (fun w hw => mem_eqAt rx fx r fs w (by simpa using hw)) ⟨.bl _, H, I, rfl, ?_⟩
  rw [show its.toArray.any (eqU x) = its.any (eqU x) by simp, any_eqU r fs]
  exact q
 ·obtain ⟨its, r, pl, hz⟩ := I.tuple hq
  refine SeqAt.notIn_tupleAt (eqU x) pl (fun w hw => mem_eqAt rx fx r fs w (by simpa using hw)) ⟨.bl _, H, I, rfl, ?_⟩
  rw [show its.toArray.any (eqU x) = its.any (eqU x) by simp, any_eqU r fs]
  exact q
theorem call_len_seq : CallR X (.builtin "len") (fun xs H Q => ∃ p ys, xs = [.ref p] /\ (SqL X.K H p ys \/ SqT X.K H p ys) /\ Q (.int ys.length) H) := by
 intro pins s σ H xs us Q I r h
 obtain ⟨p, ys, rfl, hq, q⟩ := h
 obtain ⟨u, rfl, rx⟩ := vals1 r
 cases rx
 have hn := line63
 rcases hq with hq | hq
 ·obtain ⟨its, r', pl, hz⟩ := I.list hq
  have hlen := r'.length
  exact Calls.call_len_list pl.isList (by simp only [List.size_toArray] <;> omega) ⟨.int ys.length, H, I.tok _, ⟨s.toks + 1, by rw [List.size_toArray, hlen]⟩, q⟩
 ·obtain ⟨its, r', pl, hz⟩ := I.tuple hq
  have hlen := r'.length
  exact len_tuple pl (by simp only [List.size_toArray] <;> omega) ⟨.int ys.length, H, I.tok _, ⟨s.toks + 1, by rw [List.size_toArray, hlen]⟩, q⟩
theorem CallR.or {f : Value} {r r' : List V -> Hp -> VK -> Prop} (h : CallR X f r) (h' : CallR X f r') : CallR X f (fun xs H Q => r xs H Q \/ r' xs H Q) := by
 intro pins s σ H xs us Q I rs q
 rcases q with q | q
 ·exact h pins s σ H xs us Q I rs q
 ·exact h' pins s σ H xs us Q I rs q
theorem call_list_of : CallR X (.type "list") (fun xs H Q => ∃ p ys, xs = [.ref p] /\ (SqL X.K H p ys \/ SqT X.K H p ys) /\ ∀ l, H l = none -> Q (.ref l) (upd H l (.lst ys))) := by
 intro pins s σ H xs us Q I r h
 obtain ⟨p, ys, rfl, hq, q⟩ := h
 obtain ⟨u, rfl, rx⟩ := vals1 r
 cases rx
 have fin : ∀ (its : List Value), Vals ys its -> ys.length <= sizeLine -> ∀ (h' : Heap) (c' : Nat), (∀ b o', s.heap.get? b = some o' -> h'.get? b = some o') ->
   h'.get? s.heap.objs.size = some { cls := .type "list", dict := none, data := .seq its.toArray c', slots := #[] } -> EP X pins σ Q (.ref s.heap.objs.size) { s with heap := h' } := fun its r' hz h' c' kp e =>
  ⟨.ref s.heap.objs.size, _, I.laid (t' := s.toks) kp (Nat.le_refl _) (show ObjOk X.prog X.w _ h' _ (.lst ys) from ⟨hz, its, c', r', e⟩), rfl, q _ (I.hok.fresh (Nat.le_refl _))⟩
 rcases hq with hq | hq
 ·obtain ⟨its, r', pl, hz⟩ := I.list hq
  have hlen := r'.length
  obtain ⟨o, ho, hc, n, hd⟩ := pl.isList
  exact call_list_seq p (.inl rfl) ho hc hd (fun h' c' kp e => fin its r' hz h' c' kp e) (by simp only [List.size_toArray] <;> omega)
 ·obtain ⟨its, r', pl, hz⟩ := I.tuple hq
  have hlen := r'.length
  obtain ⟨o, ho, hc, n, hd⟩ := pl
  exact call_list_seq p (.inr rfl) ho hc hd (fun h' c' kp e => fin its r' hz h' c' kp e) (by simp only [List.size_toArray] <;> omega)
theorem call_tuple_of : CallR X (.type "tuple") (fun xs H Q => ∃ p ys, xs = [.ref p] /\ ((SqL X.K H p ys /\ ∀ l, H l = none -> Q (.ref l) (upd H l (.tup ys))) \/ (SqT X.K H p ys /\ Q (.ref p) H))) := by
 intro pins s σ H xs us Q I r h
 obtain ⟨p, ys, rfl, h⟩ := h
 obtain ⟨u, rfl, rx⟩ := vals1 r
 cases rx
 rcases h with ⟨hq, q⟩ | ⟨hq, q⟩
 ·obtain ⟨its, r', pl, hz⟩ := I.list hq
  have hlen := r'.length
  refine call_tuple_list pl.isList (fun h' kp => ?_) (by simp only [List.size_toArray] <;> omega)
  have I1 : Inv X pins σ H { s with heap := h' } := I.kept (t' := s.toks) kp
  have I2 : Inv X pins σ (upd H h'.objs.size (.tup ys)) { s with heap := h'.push { cls := .type "tuple", data := .seq its.toArray } } :=
   I1.laid (t' := s.toks) (fun b o e => Heap.get?_push_of_some _ e) (Nat.le_refl _) (show ObjOk X.prog X.w _ _ _ (.tup ys) from ⟨hz, its, r', IsTup.new _ _⟩)
  exact ⟨.ref h'.objs.size, _, I2, rfl, q _ (I1.hok.fresh (Nat.le_refl _))⟩
 ·obtain ⟨its, r', pl, hz⟩ := I.tuple hq
  exact call_tuple_same pl ⟨.ref p, H, I, rfl, q⟩
def tyV (K : PySem.W.Frag) (T : String) (x : V) (H : Hp) : Prop := match x with
 | .str _ => T = "str"
 | .int _ => T = "int"
 | .ref p => (T = "list" /\ ∃ xs, SqL K H p xs) \/ (T = "tuple" /\ ∃ o, K.lookup p = some o /\ o.cls = .type "tuple" /\ o.dict = none) \/
   (T = "dict" /\ ((∃ kvs, H p = some (.dK kvs)) \/ ∃ kvs, H p = some (.dT kvs))) \/ (T = "set" /\ ∃ S n, H p = some (.set S n))
 | _ => False
theorem tyV_is {pins : List (Addr × Obj)} {σ : St} {H : Hp} {s : Shared} {T : String} {x : V} {v : Value} (I : Inv X pins σ H s) (r : RelV x v) (ty : tyV X.K T x H) :
  s.TypeIs v T /\ ∀ a, v = .ref a -> ∃ ob, s.heap.get? a = some ob /\ ob.dict = none := by
 cases x with
 | str z =>
  obtain ⟨t, rfl⟩ := r
  cases (show T = "str" from ty)
  exact ⟨typeIs_str s z t, fun _ e => nomatch e⟩
 | int i =>
  obtain ⟨t, rfl⟩ := r
  cases (show T = "int" from ty)
  exact ⟨typeIs_int s i t, fun _ e => nomatch e⟩
 | ref p =>
  cases r
  rcases ty with ⟨rfl, xs, hq⟩ | ⟨rfl, o, hk, hc, hd⟩ | ⟨rfl, hk⟩ | ⟨rfl, S, n, hk⟩
  ·obtain ⟨its, _, pl, _⟩ := I.list hq
   refine ⟨pl.isList.typeIs, fun a e => ?_⟩
   cases e
   obtain ⟨o, n, e, c, hd, _⟩ := pl
   exact ⟨o, e, hd⟩
  ·refine ⟨⟨o, I.kIn p o hk, hc⟩, fun a e => ?_⟩
   cases e
   exact ⟨o, I.kIn _ o hk, hd⟩
  ·have z : ∃ o, s.heap.get? p = some o /\ o.ExactDict := by
    rcases hk with ⟨kvs, hk⟩ | ⟨kvs, hk⟩
    ·obtain ⟨_, _, _, _, o, _, _, e, ex, _⟩ := I.hok p _ hk
     exact ⟨o, e, ex⟩
    ·obtain ⟨_, _, _, _, o, _, _, e, ex, _⟩ := I.hok p _ hk
     exact ⟨o, e, ex⟩
   obtain ⟨o, e, ex⟩ := z
   refine ⟨⟨o, e, ex.1⟩, fun a e2 => ?_⟩
   cases e2
   exact ⟨o, e, ex.2.1⟩
  ·obtain ⟨o, _, _, _, e, ex, _⟩ := I.hok p _ hk
   refine ⟨⟨o, e, ex.1⟩, fun a e2 => ?_⟩
   cases e2
   exact ⟨o, e, ex.2.1⟩
 | _ => exact False.elim ty
def tBM0 (K : PySem.W.Frag) (T : String) (r : V -> List V -> Hp -> VK -> Prop) (to : TE) : TE := fun σ H Q => to σ H fun x H1 => tyV K T x H1 /\ r x [] H1 Q
def tBM (K : PySem.W.Frag) (T : String) (r : V -> List V -> Hp -> VK -> Prop) (to : TE) (t : TA) : TE := fun σ H Q => to σ H fun x H1 => tyV K T x H1 /\ t σ H1 fun xs H2 => r x xs H2 Q
variable {o e : Expr} {es : List Expr} {to : TE} {t : TA} {name : Str} {apos cpos : Pos} {T id : String} {r : V -> List V -> Hp -> VK -> Prop}
theorem pe_bm0 (pa : PlainAttrs T) (slot : Slot T name id) (hty : typeOf (.builtin id) = pure (.type "method_descriptor")) (hm : MtR X id r) (ho : PE X o to)
  (hbase : attributeBase o name X.env (eval o X.env) = eval o X.env := by rfl) (hline : (apos.endLine == cpos.line) = true := by rfl) : PE X (.Call (.Attribute o name apos) [] [] cpos) (tBM0 X.K T r to) := by
 intro pins s σ H Q I h
 refine wpAny_Call_method0_late hbase hline (thn (ho pins s σ H _ I h) fun v s1 ⟨x, H1, I1, r1, ty, q1⟩ => ?_)
 obtain ⟨h1, h2⟩ := tyV_is I1 r1 ty
 exact ⟨T, id, pa, slot, hty, h1, h2, Calls.callWith_builtin rfl (PySem.evalArgs_none (hm pins s1 σ H1 x [] v [] Q I1 r1 .nil q1))⟩
theorem pe_bm (pa : PlainAttrs T) (slot : Slot T name id) (hty : typeOf (.builtin id) = pure (.type "method_descriptor")) (hm : MtR X id r) (ho : PE X o to) (ha : PA X (e :: es) t)
  (hbase : attributeBase o name X.env (eval o X.env) = eval o X.env := by rfl)
  (hfew : ((backTo cpos (starEach (e :: es) X.env)).all (fun x => !x.1) && (backToKw cpos (keywordEach [] X.env)).all (fun x => x.1.isSome)
   && decide ((e :: es).length + ([] : List Keyword).length + (if ([] : List Keyword).isEmpty then 0 else 1) < 30)) = true := by rfl)
  (hline : (apos.endLine == cpos.line) = true := by rfl) (hs : starEach (e :: es) X.env = (false, eval e X.env) :: starEach es X.env := by rfl) (hplain : (backTo cpos (starEach es X.env)).any (·.1) = false := by rfl) :
  PE X (.Call (.Attribute o name apos) (e :: es) [] cpos) (tBM X.K T r to t) := by
 intro pins s σ H Q I h
 refine wpAny_Call_method_late hbase hfew hline rfl (thn (ho pins s σ H _ I h) fun v s1 ⟨x, H1, I1, r1, ty, q1⟩ => ?_)
 obtain ⟨h1, h2⟩ := tyV_is I1 r1 ty
 refine ⟨T, id, pa, slot, hty, h1, h2, ?_⟩
 have hA := ha cpos pins s1 σ H1 _ I1 q1
 rw [hs] at hA ⊢
 refine Calls.callWith_builtin (by show (false || (backTo cpos (starEach es X.env)).any (·.1)) = false; rw [hplain] <;> rfl) (Calls.evalArgs_plain ?_)
 exact thn hA fun us s2 ⟨vs, H2, I2, r2, q2⟩ => hm pins s2 σ H2 x vs v us Q I2 r1 r2 q2
end
def MtM (X : Cx) (id : String) (r : V -> List V -> Hp -> VK -> Prop) : Prop :=
 ∀ (pins : List (Addr × Obj)) (s : Shared) (σ : St) (H : Hp) (x : V) (xs : List V) (v : Value) (us : List Value) (Q : VK), Inv X pins σ H s -> RelV x v -> Vals xs us -> r x xs H Q ->
  wpAny (model X.prog X.w) X.A (call (.builtin id) (v :: us)) (EP X pins σ Q) X.xe s
theorem Vals.one : ∀ {x : V} {us : List Value}, Vals [x] us -> ∃ u, us = [u] /\ RelV x u
 | _, _, .cons r .nil => ⟨_, rfl, r⟩
theorem Vals.two : ∀ {x y : V} {us : List Value}, Vals [x, y] us -> ∃ u v, us = [u, v] /\ RelV x u /\ RelV y v
 | _, _, _, .cons r (.cons q .nil) => ⟨_, _, rfl, r, q⟩
theorem Vals.zero : ∀ {us : List Value}, Vals [] us -> us = []
 | _, .nil => rfl
theorem Vals.reverse {xs : List V} {us : List Value} (h : Vals xs us) : Vals xs.reverse us.reverse := by
 induction h with
 | nil => exact .nil
 | cons r t ih => rw [List.reverse_cons, List.reverse_cons]; exact Vals.append ih (.cons r .nil)
section
variable {X : Cx} {pins : List (Addr × Obj)} {σ : St} {H : Hp} {s : Shared} {l b : Addr} {xs ys zs : List V}
theorem Inv.lset {its its' : List Value} {n : Nat} {f : Array Value -> Array Value} {t' : Nat} (I : Inv X pins σ H s) (hH : H l = some (.lst xs))
  (e : s.heap.get? l = some { cls := .type "list", data := .seq its.toArray n }) (hf : f its.toArray = its'.toArray) (hv : Vals ys its') (hz : ys.length <= sizeLine) :
  Inv X pins σ (upd H l (.lst ys)) { s with heap := s.heap.update l (Obj.mapSeq f), toks := t' } := by
 have q := PySem.IsL.update e f
 rw [hf] at q
 refine I.write (x := l) (e := l) (by rw [hH]; exact trivial) (.inl rfl) (fun b' u hb hu => (Heap.get?_update_other s.heap (Obj.mapSeq f) (Ne.symm hb)).trans hu) ⟨_, q⟩ ?_
 exact ⟨hz, its', _, hv, q⟩
theorem Inv.lnew {its : List Value} {t' : Nat} (I : Inv X pins σ H s) (hv : Vals ys its) (hz : ys.length <= sizeLine) :
  Inv X pins σ (upd H s.heap.objs.size (.lst ys)) { s with heap := s.heap.push { cls := .type "list", data := .seq its.toArray }, toks := t' } :=
 I.laid (fun _ _ q => Heap.get?_push_of_some _ q) (Nat.le_refl _) ⟨hz, its, 0, hv, Heap.get?_push_size _ rfl⟩
theorem Inv.fresh (I : Inv X pins σ H s) : H s.heap.objs.size = none := I.hok.fresh (Nat.le_refl _)
theorem Inv.lstM (I : Inv X pins σ H s) (hH : H l = some (.lst xs)) : xs.length <= sizeLine /\ ∃ (its : List Value) (n : Nat), Vals xs its /\ xs.length = its.length /\ s.heap.get? l = some { cls := .type "list", data := .seq its.toArray n } := by
 obtain ⟨z, its, n, r, e⟩ := I.hok l _ hH
 exact ⟨z, its, n, r, r.length, e⟩
end
section
variable {X : Cx}
def rAppend : V -> List V -> Hp -> VK -> Prop := fun x vs H Q => ∃ l xs y, x = .ref l /\ vs = [y] /\ H l = some (.lst xs) /\ xs.length < sizeLine /\ Q .non (upd H l (.lst (xs ++ [y])))
theorem mt_append : MtM X "list.append" rAppend := by
 intro pins s σ H x vs v us Q I rx rv h
 obtain ⟨l, xs, y, rfl, rfl, hH, hz, q⟩ := h
 cases rx
 obtain ⟨u, rfl, ru⟩ := rv.one
 obtain ⟨z, its, n, r, hl, e⟩ := I.lstM hH
 refine call_meets F.slot_list_append ⟨_, e, rfl⟩ F.entry_list_append (F.args_list_append_2 _ _) (PySem.list_append l its.toArray n u (by rw [List.size_toArray]; omega)) ⟨e, ?_⟩
 refine ⟨.non, _, I.lset (its' := its ++ [u]) hH e (by simp) (r.append (.cons ru .nil)) ?_, rfl, q⟩
 rw [List.length_append, List.length_singleton]
 omega
def rCat : R2 := fun x y H Q => ∃ l b xs zs, x = .ref l /\ y = .ref b /\ H l = some (.lst xs) /\ H b = some (.lst zs) /\ xs.length + zs.length <= sizeLine /\ ∀ p, H p = none -> Q (.ref p) (upd H p (.lst (xs ++ zs)))
theorem op_cat : OpR X (binaryOp .Add) rCat := by
 intro pins s σ H x y v u Q I rx ry h
 obtain ⟨l, b, xs, zs, rfl, rfl, hH, hB, hz, q⟩ := h
 cases rx
 cases ry
 obtain ⟨z, its, n, r, hl, e⟩ := I.lstM hH
 obtain ⟨z2, its2, n2, r2, hl2, e2⟩ := I.lstM hB
 refine PySem.P.add_list e e2 ?_ (by rw [List.size_toArray, List.size_toArray]; omega)
 have ea : its.toArray ++ its2.toArray = (its ++ its2).toArray := by simp
 rw [ea]
 exact ⟨.ref _, _, I.lnew (t' := s.toks) (r.append r2) (by rw [List.length_append]; omega), rfl, q _ I.fresh⟩
end
section
variable {prog : Program} {w : World} {A : Around} {E : Value -> Shared -> Prop} {s : Shared}
end
section
variable {X : Cx}
end
section
variable {κ : Type} [DecidableEq κ]
def valV (kvs : List (κ × V)) (k : κ) : Option V := (kvs.find? fun kv => decide (kv.1 = k)).map (·.2)
def putK (kvs : List (κ × V)) (k : κ) (v : V) : List (κ × V) :=
 if (kvs.any fun kv => decide (kv.1 = k)) = true then kvs.map (fun kv => if kv.1 = k then (kv.1, v) else kv) else kvs ++ [(k, v)]
def dropK (kvs : List (κ × V)) (k : κ) : List (κ × V) := kvs.filter fun kv => decide (kv.1 ≠ k)
theorem valV_pos {p : κ × V} {r : List (κ × V)} {k : κ} (e : p.1 = k) : valV (p :: r) k = some p.2 := by simp [valV, List.find?_cons, e]
theorem valV_neg {p : κ × V} {r : List (κ × V)} {k : κ} (e : ¬ p.1 = k) : valV (p :: r) k = valV r k := by simp [valV, List.find?_cons, e]
theorem valV_any (k : κ) : ∀ kvs : List (κ × V), (kvs.any fun kv => decide (kv.1 = k)) = (valV kvs k).isSome
 | [] => rfl
 | p :: r => by
  rw [List.any_cons]
  by_cases e : p.1 = k
  ·simp only [valV_pos e, decide_eq_true e, Bool.true_or, Option.isSome_some]
  ·rw [valV_neg e, decide_eq_false e, Bool.false_or]; exact valV_any k r
theorem length_putK (kvs : List (κ × V)) (k : κ) (v : V) : (putK kvs k v).length <= kvs.length + 1 := by
 unfold putK
 split
 ·rw [List.length_map]; omega
 ·rw [List.length_append, List.length_cons, List.length_nil]; omega
theorem putK_new {kvs : List (κ × V)} {k : κ} (v : V) (h : valV kvs k = none) : putK kvs k v = kvs ++ [(k, v)] := by
 unfold putK
 rw [valV_any, h]
 exact if_neg (by decide)
theorem RelO.isSome_eq {o : Option V} {u : Option Value} (r : RelO o u) : o.isSome = u.isSome := by
 cases o with
 | none => cases u with
  | none => rfl
  | some _ => exact (show False from r).elim
 | some _ => cases u with
  | none => exact (show False from r).elim
  | some _ => rfl
theorem RelO.getD {o : Option V} {u : Option Value} {d : V} {d' : Value} (r : RelO o u) (rd : RelV d d') : RelV (o.getD d) (u.getD d') := by
 cases o with
 | none => cases u with
  | none => exact rd
  | some _ => exact (show False from r).elim
 | some _ => cases u with
  | none => exact (show False from r).elim
  | some _ => exact r
theorem KV.val {kvs : List (κ × V)} {vs : List (κ × Value)} (r : KV kvs vs) (k : κ) : RelO (valV kvs k) (valueAt vs k) := by
 unfold KV at r
 induction r with
 | nil => exact True.intro
 | @cons p q ps qs h t ih =>
  obtain ⟨h1, h2⟩ := h
  by_cases e : p.1 = k
  ·have e' : q.1 = k := h1.symm.trans e
   have b : valueAt (q :: qs) k = some q.2 := by simp [valueAt, List.find?_cons, e']
   rw [valV_pos e, b]; exact h2
  ·have e' : ¬ q.1 = k := fun z => e (h1.trans z)
   have b : valueAt (q :: qs) k = valueAt qs k := by simp [valueAt, List.find?_cons, e']
   rw [valV_neg e, b]; exact ih
theorem KV.any {kvs : List (κ × V)} {vs : List (κ × Value)} (r : KV kvs vs) (k : κ) : (kvs.any fun kv => decide (kv.1 = k)) = vs.any fun kv => decide (kv.1 = k) := by
 unfold KV at r
 induction r with
 | nil => rfl
 | cons h t ih => rw [List.any_cons, List.any_cons, ih, h.1]
theorem KV.repl {kvs : List (κ × V)} {vs : List (κ × Value)} (r : KV kvs vs) (k : κ) {y : V} {u : Value} (ry : RelV y u) :
  KV (kvs.map fun kv => if kv.1 = k then (kv.1, y) else kv) (vs.map fun kv => if kv.1 = k then (kv.1, u) else kv) := by
 unfold KV at r ⊢
 induction r with
 | nil => exact .nil
 | @cons p q ps qs h t ih =>
  rw [List.map_cons, List.map_cons]
  refine .cons ?_ ih
  obtain ⟨h1, h2⟩ := h
  by_cases e : p.1 = k
  ·rw [if_pos e, if_pos (h1.symm.trans e)]; exact ⟨h1, ry⟩
  ·rw [if_neg e, if_neg (fun z => e (h1.trans z))]; exact ⟨h1, h2⟩
theorem KV.put {kvs : List (κ × V)} {vs : List (κ × Value)} (r : KV kvs vs) (k : κ) {y : V} {u : Value} (ry : RelV y u) : KV (putK kvs k y) (stored vs k u) := by
 unfold putK stored
 rw [r.any k]
 by_cases e : (vs.any fun kv => decide (kv.1 = k)) = true
 ·rw [if_pos e, if_pos e]; exact r.repl k ry
 ·rw [if_neg e, if_neg e]; exact Paired.snoc r ⟨rfl, ry⟩
theorem KV.drop {kvs : List (κ × V)} {vs : List (κ × Value)} (r : KV kvs vs) (k : κ) : KV (dropK kvs k) (without vs k) := by
 unfold KV at r ⊢
 unfold dropK without
 induction r with
 | nil => exact .nil
 | @cons p q ps qs h t ih =>
  obtain ⟨h1, h2⟩ := h
  rw [List.filter_cons, List.filter_cons]
  by_cases e : p.1 = k
  ·have a : ¬ decide (p.1 ≠ k) = true := by simp [e]
   have b : ¬ decide (q.1 ≠ k) = true := by simp [h1.symm.trans e]
   rw [if_neg a, if_neg b]; exact ih
  ·have e' : ¬ q.1 = k := fun z => e (h1.trans z)
   have a : decide (p.1 ≠ k) = true := by simp [e]
   have b : decide (q.1 ≠ k) = true := by simp [e']
   rw [if_pos a, if_pos b]; exact .cons ⟨h1, h2⟩ ih
theorem KV.keys {kvs : List (κ × V)} {vs : List (κ × Value)} (r : KV kvs vs) : kvs.map (·.1) = vs.map (·.1) := by
 unfold KV at r
 induction r with
 | nil => rfl
 | cons h t ih => rw [List.map_cons, List.map_cons, ih, h.1]
theorem KV.length {kvs : List (κ × V)} {vs : List (κ × Value)} (r : KV kvs vs) : kvs.length = vs.length := Paired.length r
end
theorem kV_is {P : Program} {w : World} {k : Key} {u : Value} (r : RelV (kV k) u) : (mixKind P w).is k u = true := by
 cases k with
 | inl i => obtain ⟨t, e⟩ := (show ∃ t, u = Value.int i t from r); subst e; exact mixKind_int P w i t
 | inr x => obtain ⟨t, e⟩ := (show ∃ t, u = Value.str x t from r); subst e; exact mixKind_str P w x t
abbrev KT (H : Hp) : List (List Key × V) -> List (List Key × Addr × Value) -> Prop := Paired fun p q => p.1 = q.1 /\ H q.2.1 = some (.tup (p.1.map kV)) /\ RelV p.2 q.2.2
theorem KT.val {H : Hp} {kvs : List (List Key × V)} {xs : List (List Key × Addr × Value)} (r : KT H kvs xs) (k : List Key) : RelO (valV kvs k) ((atKey xs k).map (·.2)) := by
 induction r with
 | nil => exact True.intro
 | @cons p q ps qs h t ih =>
  obtain ⟨h1, _, h2⟩ := h
  by_cases e : p.1 = k
  ·have e' : q.1 = k := h1.symm.trans e
   have b : atKey (q :: qs) k = some q.2 := by simp [atKey, List.find?_cons, e']
   rw [valV_pos e, b]; exact h2
  ·have e' : ¬ q.1 = k := fun z => e (h1.trans z)
   have b : atKey (q :: qs) k = atKey qs k := by simp [atKey, List.find?_cons, e']
   rw [valV_neg e, b]; exact ih
theorem KT.repl {H : Hp} {kvs : List (List Key × V)} {xs : List (List Key × Addr × Value)} (r : KT H kvs xs) (k : List Key) {y : V} {u : Value} (ry : RelV y u) :
  KT H (kvs.map fun kv => if kv.1 = k then (kv.1, y) else kv) (xs.map (putAt k u)) := by
 induction r with
 | nil => exact .nil
 | @cons p q ps qs h t ih =>
  rw [List.map_cons, List.map_cons]
  refine .cons ?_ ih
  obtain ⟨h1, h2, h3⟩ := h
  unfold putAt
  by_cases e : p.1 = k
  ·rw [if_pos e, if_pos (h1.symm.trans e)]; exact ⟨h1, h2, ry⟩
  ·rw [if_neg e, if_neg (fun z => e (h1.trans z))]; exact ⟨h1, h2, h3⟩
theorem KT.put {H : Hp} {kvs : List (List Key × V)} {xs : List (List Key × Addr × Value)} (r : KT H kvs xs) (k : List Key) {b : Addr} {y : V} {u : Value} (hb : H b = some (.tup (k.map kV))) (ry : RelV y u) :
  KT H (putK kvs k y) (storedH xs k b u) := by
 have e : (kvs.any fun kv => decide (kv.1 = k)) = (atKey xs k).isSome := by
  rw [valV_any, (r.val k).isSome_eq, Option.isSome_map]
 unfold putK storedH
 rw [e]
 by_cases q : (atKey xs k).isSome = true
 ·rw [if_pos q, if_pos q]; exact r.repl k ry
 ·rw [if_neg q, if_neg q]; exact Paired.snoc r ⟨rfl, hb, ry⟩
theorem KT.keeps {H H' : Hp} {kvs : List (List Key × V)} {xs : List (List Key × Addr × Value)} (r : KT H kvs xs) (ht : ∀ b ys, H b = some (.tup ys) -> H' b = some (.tup ys)) : KT H' kvs xs :=
 Paired.mapP r fun _ _ z => ⟨z.1, ht _ _ z.2.1, z.2.2⟩
section
variable {P : Program} {w : World} {H : Hp} {h : Heap} {a : Addr}
theorem rd_of {u : HO} (ok : HOk P w H h) (e : Rd H a u) : ObjOk P w H h a u := e.ok ok
theorem dk_rd {kvs : List (Key × V)} (ok : HOk P w H h) (e : Rd H a (.dK kvs)) : kvs.length <= sizeLine /\ (a == sysModules) = false /\ ∃ vs, KV kvs vs /\ h.DictOf (mixKind P w) a vs :=
 show ObjOk P w H h a (.dK kvs) from rd_of ok e
theorem dk_of {kvs : List (Key × V)} (ok : HOk P w H h) (e : H a = some (.dK kvs)) : kvs.length <= sizeLine /\ (a == sysModules) = false /\ ∃ vs, KV kvs vs /\ h.DictOf (mixKind P w) a vs := dk_rd ok (.inl e)
end
def DGet (H : Hp) (a : Addr) (y : V) (r : Option V) : Prop :=
 (∃ kvs k, Rd H a (.dK kvs) /\ y = kV k /\ r = valV kvs k) \/ ∃ kvs k b, Rd H a (.dT kvs) /\ y = .ref b /\ H b = some (.tup (k.map kV)) /\ r = valV kvs k
def DPut (H : Hp) (a : Addr) (y v : V) (H' : Hp) : Prop :=
 (∃ kvs k, H a = some (.dK kvs) /\ y = kV k /\ kvs.length < sizeLine /\ H' = upd H a (.dK (putK kvs k v))) \/
 ∃ kvs k b, H a = some (.dT kvs) /\ y = .ref b /\ H b = some (.tup (k.map kV)) /\ kvs.length < sizeLine /\ H' = upd H a (.dT (putK kvs k v))
theorem DGet.k {H : Hp} {a : Addr} {kvs : List (Key × V)} {k : Key} (e : H a = some (.dK kvs)) : DGet H a (kV k) (valV kvs k) := .inl ⟨kvs, k, .inl e, rfl, rfl⟩
theorem DGet.t {H : Hp} {a b : Addr} {kvs : List (List Key × V)} {k : List Key} (e : H a = some (.dT kvs)) (eb : H b = some (.tup (k.map kV))) : DGet H a (.ref b) (valV kvs k) := .inr ⟨kvs, k, b, .inl e, rfl, eb, rfl⟩
theorem DPut.k {H : Hp} {a : Addr} {kvs : List (Key × V)} {k : Key} {v : V} (e : H a = some (.dK kvs)) (hl : kvs.length < sizeLine) : DPut H a (kV k) v (upd H a (.dK (putK kvs k v))) := .inl ⟨kvs, k, e, rfl, hl, rfl⟩
theorem DPut.t {H : Hp} {a b : Addr} {kvs : List (List Key × V)} {k : List Key} {v : V} (e : H a = some (.dT kvs)) (eb : H b = some (.tup (k.map kV))) (hl : kvs.length < sizeLine) :
  DPut H a (.ref b) v (upd H a (.dT (putK kvs k v))) := .inr ⟨kvs, k, b, e, rfl, eb, hl, rfl⟩
section
variable {X : Cx} {pins : List (Addr × Obj)} {σ : St} {H : Hp} {s : Shared} {a : Addr} {y v : V} {u r : Value} {o : Option V} {A : Around} {E : Value -> Shared -> Prop}
theorem Inv.big (I : Inv X pins σ H s) : sysModules < s.heap.objs.size := by
 have h : mainGlobals < s.heap.objs.size := (I.mod.glob.keeps I.bk).lt
 exact Nat.lt_trans (by decide) h
theorem d_write {h' : Heap} {t' : Nat} {ob : HO} (I : Inv X pins σ H s) (mu : Mut (H a)) (hs : Heap.SameBut a s.heap h') (he : ∃ q, h'.get? a = some q) (new : ObjOk X.prog X.w (upd H a ob) h' a ob) :
  Inv X pins σ (upd H a ob) { s with heap := h', toks := t' } :=
 I.write (x := a) (e := a) mu (.inl rfl) (fun b q hb z => (hs.2 b hb).trans z) he new
theorem dk_new {P : Program} {w : World} {H' : Hp} {h' : Heap} {kvs : List (Key × V)} {vs : List (Key × Value)} (z : kvs.length <= sizeLine) (hd : (a == sysModules) = false) (rel : KV kvs vs) (dd : h'.DictOf (mixKind P w) a vs) :
  ObjOk P w H' h' a (.dK kvs) := ⟨z, hd, vs, rel, dd⟩
end
section
variable {X : Cx} {pins : List (Addr × Obj)} {σ : St} {H : Hp} {s : Shared} {a : Addr} {kvs : List (Key × V)} {k : Key} {u : Value} {A : Around} {E : Value -> Shared -> Prop}
end
section
variable {X : Cx} {o i e value : Expr} {pos pos' tpos : Pos} {td ty tv : TE}
end
theorem dk_empty {P : Program} {w : World} {H : Hp} (h : Heap) (hb : sysModules < h.objs.size) : ObjOk P w H (h.push { cls := .type "dict", data := .dict #[] }) h.objs.size (.dK []) :=
 ⟨Nat.zero_le _, beq_eq_false_iff_ne.mpr (Ne.symm (Nat.ne_of_lt hb)), [], .nil, Heap.DictOf.new h⟩
def tDNewK : TE := fun _ H Q => ∀ p, H p = none -> Q (.ref p) (upd H p (.dK []))
section
variable {X : Cx} {pos : Pos}
theorem pe_dnewK : PE X (.Dict [] [] pos) tDNewK := fun pins s σ H Q I h =>
 wpAny_Dict_empty ⟨.ref s.heap.objs.size, _, I.laid (a := s.heap.objs.size) (o := .dK []) (t' := s.toks) (fun _ _ q => Heap.get?_push_of_some _ q) (Nat.le_refl _) (dk_empty s.heap I.big), rfl, h _ (I.hok.fresh (Nat.le_refl _))⟩
end
def mergeK (kvs more : List (Key × V)) : List (Key × V) := more.foldl (fun acc kv => putK acc kv.1 kv.2) kvs
theorem KV.merge : ∀ {more : List (Key × V)} {rs : List (Key × Value)} {kvs : List (Key × V)} {vs : List (Key × Value)}, KV more rs -> KV kvs vs -> KV (mergeK kvs more) (merged vs rs) := by
 intro more rs kvs vs r
 unfold KV at r
 induction r generalizing kvs vs with
 | nil => intro q; exact q
 | @cons p q ps qs h t ih =>
  intro r0
  have e : KV (putK kvs p.1 p.2) (stored vs q.1 q.2) := by
   have := r0.put p.1 h.2
   rw [<- h.1]; exact this
  exact ih e
structure M1 (X : Cx) (o : Expr) (m : Str) (apos : Pos) (e : Expr) (cpos : Pos) : Prop where
 base : attributeBase o m X.env (eval o X.env) = eval o X.env
 few : ((backTo cpos (starEach [e] X.env)).all (fun x => !x.1) && (backToKw cpos (keywordEach [] X.env)).all (fun x => x.1.isSome)
  && decide (([e] : List Expr).length + ([] : List Keyword).length + (if ([] : List Keyword).isEmpty then 0 else 1) < 30)) = true
 line : (apos.endLine == cpos.line) = true
 trees : backTo cpos (starEach [e] X.env) = [(false, eval e X.env)]
structure M2 (X : Cx) (o : Expr) (m : Str) (apos : Pos) (e f : Expr) (cpos : Pos) : Prop where
 base : attributeBase o m X.env (eval o X.env) = eval o X.env
 few : ((backTo cpos (starEach [e, f] X.env)).all (fun x => !x.1) && (backToKw cpos (keywordEach [] X.env)).all (fun x => x.1.isSome)
  && decide (([e, f] : List Expr).length + ([] : List Keyword).length + (if ([] : List Keyword).isEmpty then 0 else 1) < 30)) = true
 line : (apos.endLine == cpos.line) = true
 trees : backTo cpos (starEach [e, f] X.env) = [(false, eval e X.env), (false, eval f X.env)]
section
variable {X : Cx} {pins : List (Addr × Obj)} {σ : St} {H : Hp} {s : Shared} {a : Addr} {y d : V} {u r : Value} {o : Option V} {A : Around} {E : Value -> Shared -> Prop}
end
section
variable {X : Cx} {o e f : Expr} {apos cpos : Pos} {td ty tx : TE}
end
section
variable {X : Cx} {pins : List (Addr × Obj)} {σ : St} {H : Hp} {s : Shared} {a : Addr} {kvs : List (Key × V)} {A : Around} {E : Value -> Shared -> Prop}
end
section
variable {X : Cx} {pins : List (Addr × Obj)} {σ : St} {H : Hp} {s : Shared} {a : Addr} {y : V} {u : Value} {A : Around} {E : Value -> Shared -> Prop}
end
end L2
namespace Att
open PySem PySem.W PySem.Calls PyProof.Rows
theorem ints_of_wellAll {P : Params} {h : Heap} : ∀ (ns : List Int) (vs : List Value), WellAll P h vs (ns.map WData.int) -> IntsAre vs ns := by
 intro ns
 induction ns with
 | nil =>
  intro vs w
  rw [List.map_nil] at w
  cases w
  exact .nil
 | cons n ns ih =>
  intro vs w
  rw [List.map_cons] at w
  cases w with
  | cons a b =>
   cases a
   exact .cons _ _ (ih _ b)
theorem script_of {l : OpenLaw} {n : Nat} (hn : l.most = some n) {P : Params} {h : Heap} {args : List WData} {vals : List Value}
  (hpre : l.row.toRowW.claim.pre args = true) (hwl : WellAll P h vals args) :
  ∃ a vs ns, vals = [Value.ref a] /\ args = [WData.list (ns.map WData.int)] /\ h.get? a = some { cls := .type "list", data := .seq vs.toArray } /\ IntsAre vs ns /\ ns.length <= n := by
 have hsh : WShape.hasAll [] args [.list .int] = true := (pre_splitW hpre).1
 have hc : l.pre.holds [] { args := args } = true := (pre_splitW hpre).2
 obtain ⟨d, r, rfl, h1, h2⟩ := hasAllW_cons hsh
 obtain rfl := hasAllW_nil h2
 obtain ⟨xs, rfl, h3⟩ := hasW_list h1
 obtain ⟨ns, rfl⟩ := items_int h3
 have hlen : ns.length <= n := by
  unfold OpenLaw.pre at hc
  have h4 : (WTm.not (.lt (.lit (.int (n : Int))) (.len (.arg 0)))).holds [] { args := [.list (ns.map .int)] } = true := by
   have h4 := (holds_andW hc).1
   rw [hn] at h4
   exact h4
  have h5 := condW_of h4 (w_not (w_lt w_lit (w_len_list (w_arg rfl))))
  rw [List.length_map] at h5
  refine Nat.le_of_not_lt fun q => ?_
  have q' : (n : Int) < ((ns.length : Nat) : Int) := by omega
  first
   | (rw [decide_eq_true q'] at h5; exact absurd h5 (by decide))
   | (simp at h5; omega)
 cases hwl with
 | cons w1 w2 =>
  cases w2
  cases w1 with
  | list ho hall => exact ⟨_, _, ns, rfl, rfl, ho, ints_of_wellAll ns _ hall, hlen⟩
theorem post_true (l : OpenLaw) (args : List WData) : l.row.toRowW.claim.post args (.bool true) args = true :=
 postW_of (r := l.row.toRowW) (X := (true == true))
  (show WShape.has [] (.bool true) .bool = true by first | rfl | decide | simp [WShape.has, WShape.arms, WShape.armsAll])
  (show (WTm.eq .res (.lit (.bool true))).value [] { args := args, res := some (.bool true), after := args } = some (.bool (true == true)) from w_eq_bool (w_res rfl) w_lit) rfl
theorem attach_call {l : OpenLaw} {n : Nat} {q : Program} {loose : List Str} {XP : (Str -> Option Value) -> Heap -> Prop} {YP : World -> Heap -> Prop} {d : DefRec}
  (hn : l.most = some n) (hdf : d.params.defaults = [])
  (call : ∀ (w : World) (s₀ s₁ : Shared) (mg mb : Str -> Option Value) (fa : Addr) (o : Obj) (pm cd doc : Value) (a : Addr) (vs : List Value) (ns : List Int),
   Ground q loose [] XP w s₀ mg mb s₁.heap -> YP w s₁.heap ->
   s₁.heap.get? fa = some o -> o.data = .func (docDef d.name d.params d.body d.scope pm cd doc) -> s₁.heap.CodeRec cd d.name -> mg d.name = some (.ref fa) ->
   s₁.heap.get? a = some { cls := .type "list", data := .seq vs.toArray } -> IntsAre vs ns -> ns.length <= n -> s₁.gens = #[] ->
   codeAny (model l.prog w) callerA (.call (.ref fa) ⟨[.ref a], []⟩) (fun r s' => r = .ok (.ret (.bool true)) /\ OldK s₁.heap s'.heap /\ s'.os = s₁.os /\ AllBare s'.gens) s₁) :
  WalkO q loose XP YP l.row.toRowW d [] (fun f vs => PySem.call f vs) := by
 intro w s₀ s₁ mg mb G Y fa o pm cd doc dV kV ho hd hcd hD hmg hg args vals as hpre hlay hrd hwl hlo
 obtain rfl : dV = .none := Dflts.none hD hdf
 obtain rfl : kV = .none := Dflts.noKw hD
 obtain ⟨a, vs, ns, rfl, rfl, hobj, hints, hlen⟩ := script_of hn hpre hwl
 refine enter_call (codeAny_mono (call w s₀ s₁ mg mb fa o pm cd doc a vs ns G Y ho (fd_plain hd) hcd hmg hobj hints hlen hg) fun r s' hq => ?_)
 obtain ⟨rfl, h2, h3, h4⟩ := hq
 exact ⟨.inl ⟨.bool true, .bool true, [], rfl, fun _ => rfl, .bool true, post_true l _, fun _ => ⟨List.Pairwise.nil, fun _ hm => (nomatch hm)⟩⟩, h2, h3, h4⟩
section
variable {prog : Program} {w : World} {A : Around} {E : Value -> Shared -> Prop} {s : Shared} {K : Frag}
def ledger (h : Heap) (L d : Addr) : List (Addr × Obj) := (List.range h.objs.size).filterMap fun a => if a = L \/ a = d then none else (h.get? a).map fun o => (a, o)
end
end Att
namespace L2
open PySem PySem.Spec PyProof.Rows
theorem vals_ints : ∀ {vs : List Value} {ns : List Int}, IntsAre vs ns -> Vals (ns.map V.int) vs
 | _, _, .nil => .nil
 | _, _, .cons n t h => .cons ⟨t, rfl⟩ (vals_ints h)
def Only (H : Hp) : Prop := ∀ b, H b = none \/ ∃ o xs, H b = some (.frz o (.lst xs))
theorem law_call {P : Program} {w : World} {K : PySem.W.Frag} {mg mb : Str -> Option Value} {CX : CXT} {k : Nat} {fa a : Addr} {fd : FuncData} {x : Str} {sp : Sp} {s₁ : Shared} {vs : List Value} {ns : List Int}
  (KX : K.In s₁.heap) (hns : s₁.heap.Ns mainGlobals mg) (hb : s₁.heap.Ns builtinsNs mb) (hbb : ∀ x : Str, x ≠ "__name__" -> mb x = bootBuiltins x) (hlim : s₁.heap.NoLimit) (hg : s₁.gens = #[])
  (ha : s₁.heap.get? a = some { cls := .type "list", data := .seq vs.toArray }) (hi : IntsAre vs ns) (hl : ns.length <= sizeLine) (hr : Room k callerA)
  (F : ∀ base : Heap, K.In base -> base.Ns mainGlobals mg -> FnOk P w K mg base CX k fa fd [x] sp) (hbind : ∀ (s : Shared) (u : Value), BindsTo s fd ⟨[u], []⟩ [(x, u)])
  (hsp : ∀ H : Hp, Only H -> SqL K H a (ns.map V.int) -> sp [.ref a] H (fun v _ => v = .bl true) fun _ _ _ => False)
  (hCX : ∀ H e s', CX [] H s₁ (fun _ _ _ => False) e s' -> False) :
  codeAny (model P w) callerA (.call (.ref fa) ⟨[.ref a], []⟩) (fun r s' => r = .ok (.ret (.bool true)) /\ OldK s₁.heap s'.heap /\ s'.os = s₁.os /\ AllBare s'.gens) s₁ := by
 have rv := vals_ints hi
 have lenV := hi.length
 have core : ∀ H : Hp, Only H -> SqL K H a (ns.map V.int) -> HOk P w H s₁.heap -> (∀ b, H b ≠ none -> b = a) -> (H a ≠ none -> K.lookup a = none) ->
   codeAny (model P w) callerA (.call (.ref fa) ⟨[.ref a], []⟩) (fun r s' => r = .ok (.ret (.bool true)) /\ OldK s₁.heap s'.heap /\ s'.os = s₁.os /\ AllBare s'.gens) s₁ := by
  intro H hO hS hok hA hK
  have base_of : ∀ {b : Addr} {o : Obj}, s₁.heap.get? b = some o -> H b = none -> (hidT s₁.heap H).get? b = some o := fun e n => hidT_get e n
  have noA : ∀ {b : Addr} {o : Obj} {es : Array DictEntry} {ep : Nat}, s₁.heap.get? b = some o -> o.data = .dict es ep -> H b = none := fun {b o es ep} e d => by
   cases q : H b with
   | none => rfl
   | some u =>
    have e' : b = a := hA b (by rw [q]; simp)
    subst e'
    rw [ha] at e; cases e
    have d' : Data.seq vs.toArray _ = Data.dict es ep := d
    cases d'
  have nsK : ∀ {b : Addr} {m : Str -> Option Value}, s₁.heap.Ns b m -> (hidT s₁.heap H).Ns b m := fun {b m} ⟨o, es, ep, e, d, r⟩ => ⟨o, es, ep, base_of e (noA e d), d, r⟩
  have hKb : K.In (hidT s₁.heap H) := fun b o e => base_of (KX b o e) (by
   cases q : H b with
   | none => rfl
   | some u =>
    have e' : b = a := hA b (by rw [q]; simp)
    subst e'
    rw [hK (by rw [q]; simp)] at e; cases e)
  have hM : Mod K mg (hidT s₁.heap H) := ⟨hKb, nsK hns, ⟨mb, nsK hb, hbb⟩, let ⟨mc, h1, h2⟩ := hlim; ⟨mc, nsK h1, h2⟩⟩
  have e0 : Env0 P w K mg (hidT s₁.heap H) callerA [] s₁ H := ⟨rfl, hM, fun b o e => of_hidT e, Nat.le_of_eq (hidT_size _ _), trivial, fun b hb => absurd (show b ∈ ([] : List Addr) from hb) (by simp), hok, .of_eq hg⟩
  refine codeAny_mono ((F _ hKb (nsK hns)).run callerA [] s₁ H ⟨[.ref a], []⟩ [.ref a] [.ref a] _ _ hr e0 (hbind s₁ (.ref a)) (.cons rfl .nil) (hsp H hO hS)) fun r s' h => ?_
  cases r with
  | error e => exact (hCX H e s' h).elim
  | ok fl =>
   cases fl with
   | next => exact False.elim h
   | brk => exact False.elim h
   | cont => exact False.elim h
   | ret u =>
    obtain ⟨v, H', os, bare, un, hok', r', q⟩ := h
    have q' : v = .bl true := q
    subst q'
    obtain rfl : u = Value.bool true := r'
    refine ⟨rfl, OldK.of_keep fun b o e => ?_, os, bare⟩
    cases q : H b with
    | none => exact un.keep b o e q (by intro z; exact absurd (show b ∈ ([] : List Addr) from z) (by simp)) (by simp)
    | some u =>
     rcases hO b with z | ⟨ob, xs, z⟩
     ·rw [q] at z; cases z
     ·have z2 := un.frzs b ob _ z
      obtain ⟨e1, _⟩ := hok b _ z
      obtain ⟨e2, _⟩ := hok' b _ z2
      rw [e] at e1; cases e1
      exact e2
 cases hk : K.lookup a with
 | some o =>
  have e := KX a o hk
  rw [ha] at e
  cases e
  refine core (fun _ => none) (fun _ => .inl rfl) (.inr ⟨_, vs.toArray, _, hk, rfl, rfl, rfl, by rw [List.size_toArray, lenV]; exact hl, by simpa using rv⟩) (fun b u z => by have z' : (none : Option HO) = some u := z; cases z') (fun b z => absurd rfl z) fun z => absurd rfl z
 | none =>
  refine core (fun b => if b = a then some (.frz { cls := .type "list", data := .seq vs.toArray } (.lst (ns.map V.int))) else none) (fun b => ?_) (.inl (.inr ⟨{ cls := .type "list", data := .seq vs.toArray }, if_pos rfl⟩)) (fun b u z => ?_) (fun b z => ?_) fun _ => hk
  ·by_cases hb : b = a
   ·exact .inr ⟨_, _, if_pos hb⟩
   ·exact .inl (if_neg hb)
  ·by_cases hb : b = a
   ·have z' := (if_pos hb).symm.trans z
    cases z'
    subst hb
    exact ⟨ha, by rw [List.length_map]; exact hl, vs, _, rv, ha⟩
   ·have z' := (if_neg hb).symm.trans z
    cases z'
  ·by_cases hb : b = a
   ·exact hb
   ·exact absurd (if_neg hb) z
abbrev KOf {K : PySem.W.Frag} {h : Heap} (_ : K.In h) : PySem.W.Frag := K
theorem walk_of {l : PySem.W.OpenLaw} {n k : Nat} {q : Program} {loose : List Str} {XP : (Str -> Option Value) -> Heap -> Prop} {YP : World -> Heap -> Prop} {d : DefRec} {K : Params -> PySem.W.Frag} {CX : World -> CXT} {sp : World -> Sp} {x : Str}
  (hn : l.most = some n) (hn2 : n <= sizeLine) (hdf : d.params.defaults = []) (hr : Room k callerA)
  (hY : ∀ (w : World) (h : Heap), YP w h -> (K w.params).In h)
  (F : ∀ (w : World) (mg : Str -> Option Value) (fa : Addr) (h : Heap), (K w.params).In h -> h.Ns mainGlobals mg -> mg d.name = some (.ref fa) ->
   ∃ fd : FuncData, (∀ (s : Shared) (u : Value), BindsTo s fd ⟨[u], []⟩ [(x, u)]) /\
    ∀ base : Heap, (K w.params).In base -> base.Ns mainGlobals mg -> FnOk l.prog w (K w.params) mg base (CX w) k fa fd [x] (sp w))
  (hsp : ∀ (w : World) (H : Hp) (a : Addr) (ns : List Int), ns.length <= n -> Only H -> SqL (K w.params) H a (ns.map V.int) -> sp w [.ref a] H (fun v _ => v = .bl true) fun _ _ _ => False)
  (hCX : ∀ (w : World) (H : Hp) (s : Shared) (e : Value) (s' : Shared), CX w [] H s (fun _ _ _ => False) e s' -> False) :
  PySem.W.WalkO q loose XP YP l.row.toRowW d [] (fun f vs => PySem.call f vs) := by
 refine Att.attach_call hn hdf fun w s₀ s₁ mg mb fa o pm cd doc a vs ns G Y ho hd hcd hmg hobj hints hlen hg => ?_
 have KX := hY w _ Y
 obtain ⟨fd, hb, hF⟩ := F w mg fa _ KX G.T.g hmg
 exact law_call KX G.T.g G.T.b G.T.builtins G.T.nolimit hg hobj hints (Nat.le_trans hlen hn2) hr hF hb (fun H hO hS => hsp w H a ns hlen hO hS) fun H e s' => hCX w H s₁ e s'
theorem walk_ofK {l : PySem.W.OpenLaw} {n k : Nat} {q : Program} {loose : List Str} {XP : (Str -> Option Value) -> Heap -> Prop} {YP : World -> Heap -> Prop} {d : DefRec} {K : Params -> PySem.W.Frag} {CX : CXT} {sp : PySem.W.Frag -> Sp} {x : Str}
  (hn : l.most = some n) (hn2 : n <= sizeLine) (hdf : d.params.defaults = []) (hr : Room k callerA)
  (hY : ∀ (w : World) (h : Heap), YP w h -> (K w.params).In h)
  (F : ∀ (w : World) (mg : Str -> Option Value) (fa : Addr) (h : Heap), (K w.params).In h -> h.Ns mainGlobals mg -> mg d.name = some (.ref fa) ->
   ∃ fd : FuncData, (∀ (s : Shared) (u : Value), BindsTo s fd ⟨[u], []⟩ [(x, u)]) /\
    ∀ base : Heap, (K w.params).In base -> base.Ns mainGlobals mg -> FnOk l.prog w (K w.params) mg base CX k fa fd [x] (sp (K w.params)))
  (hsp : ∀ (K : PySem.W.Frag) (H : Hp) (a : Addr) (ns : List Int), ns.length <= n -> Only H -> SqL K H a (ns.map V.int) -> sp K [.ref a] H (fun v _ => v = .bl true) fun _ _ _ => False)
  (hCX : ∀ (H : Hp) (s : Shared) (e : Value) (s' : Shared), CX [] H s (fun _ _ _ => False) e s' -> False) :
  PySem.W.WalkO q loose XP YP l.row.toRowW d [] (fun f vs => PySem.call f vs) :=
 walk_of (K := K) (CX := fun _ => CX) (sp := fun w => sp (K w.params)) hn hn2 hdf hr hY F (fun w H a ns h1 h2 h3 => hsp (K w.params) H a ns h1 h2 h3) fun _ H s e s' => hCX H s e s'
def inClass (s : Stmt) (j : Nat) : Stmt := match s with
 | .ClassDef _ _ _ body _ _ _ _ _ _ _ => body.getD j (.Pass ⟨0, 0, 0, 0⟩)
 | _ => .Pass ⟨0, 0, 0, 0⟩
def defArgs (s : Stmt) : Arguments := match s with
 | .FunctionDef _ a _ _ _ _ _ _ _ _ => a
 | _ => { posonlyargs := [], args := [], vararg := none, kwonlyargs := [], kw_defaults := [], kwarg := none, defaults := [] }
def defBody (s : Stmt) : List Stmt := match s with
 | .FunctionDef _ _ b _ _ _ _ _ _ _ => b
 | _ => []
def defScope (s : Stmt) : Scope := match s with
 | .FunctionDef _ _ _ _ _ _ sc _ _ _ => sc
 | _ => { kind := .function, names := [], isGenerator := false, isCoroutine := false }
abbrev CX0 : CXT := fun _ _ _ _ _ _ => False
abbrev E0 : XK := fun _ _ _ => False
theorem pass0 {X : Cx} : Passes CX0 X E0 := fun _ _ _ _ _ _ _ h => h.elim
structure Fun (K : PySem.W.Frag) (x qual : Str) (st : Stmt) (f : Addr) (fd : FuncData) : Prop where
 ex : ∃ (oc : Value) (od : Option Addr) (kV doc pm : Value) (an : Option Addr) (cdv ct : Value) (osl : Array (Option Value)),
  fd = PySem.W.fnOf x qual (defArgs st) (defBody st) (defScope st) .none kV doc pm an cdv ct /\ K.lookup f = some ⟨oc, od, .func fd, osl⟩ /\ PySem.W.codeIn K cdv qual = true
 kp : PySem.W.keepIn K (.ref f) = true
section
variable {P : Program} {w : World} {K : PySem.W.Frag} {mg : Str -> Option Value} {base : Heap}
theorem Fun.ok {x qual : Str} {st : Stmt} {f : Addr} {fd : FuncData} {N ps : List Str} {k : Nat} {sp : Sp} (F : Fun K x qual st f fd) (S : FnScope N ps (defScope st)) (len : ∀ vs H Q E, sp vs H Q E -> vs.length = ps.length)
  (hbody : ∀ (cdv : Value) (A : Around) (outer : List Env) (s : Shared) (H : Hp) (vs : List V) (Q : VK) (E : XK), Room k (A.deeper (envOfC qual (defScope st) s.heap.objs.size f cdv)) -> sp vs H Q E ->
   ∃ t, PSs (cxOf CX0 P w K mg base N qual (defScope st) f cdv A outer s H E).nox (defBody st) t /\ t { nx := fun _ H' => Q .non H', rt := Q } (start N vs) H) : FnOk P w K mg base CX0 (k + 1) f fd ps sp := by
 obtain ⟨oc, od, kV, doc, pm, an, cdv, ct, osl, rfl, lk, hcd⟩ := F.ex
 refine fn_of lk hcd S len fun A outer s H vs Q E hr hsp => ?_
 obtain ⟨t, h, q⟩ := hbody cdv A outer s H vs Q E hr hsp
 exact ⟨t, h.nox, q⟩
theorem Fun.binds {x qual : Str} {st : Stmt} {f : Addr} {fd : FuncData} {ps : List Str} (F : Fun K x qual st f fd)
  (h : ∀ (kV doc pm : Value) (an : Option Addr) (cdv ct : Value) (us : List Value), us.length = ps.length -> bindArgs (PySem.W.fnOf x qual (defArgs st) (defBody st) (defScope st) .none kV doc pm an cdv ct) ⟨us, []⟩ = pure (ps.zip us)) : Binds K fd ps [] := by
 obtain ⟨oc, od, kV, doc, pm, an, cdv, ct, osl, rfl, lk, hcd⟩ := F.ex
 exact .all (h kV doc pm an cdv ct)
theorem fun_mk {x qual : Str} {st : Stmt} {f : Addr} {oc : Value} {od an : Option Addr} {osl : Array (Option Value)} {kV doc pm cdv ct : Value} (l : K.lookup f = some ⟨oc, od, .func (PySem.W.fnOf x qual (defArgs st) (defBody st) (defScope st) .none kV doc pm an cdv ct), osl⟩)
  (c : PySem.W.codeIn K cdv qual = true) (k : PySem.W.keepIn K (.ref f) = true) : Fun K x qual st f (PySem.W.fnOf x qual (defArgs st) (defBody st) (defScope st) .none kV doc pm an cdv ct) := ⟨⟨oc, od, kV, doc, pm, an, cdv, ct, osl, rfl, l, c⟩, k⟩
end
section
variable {X : Cx}
theorem pv (i : Nat) {x : Str} {pos : Pos} (hN : X.N[i]? = some x := by rfl) (hv : Vis X.env.scope x := by first | exact Or.inl rfl | exact Or.inr (Or.inl rfl) | exact Or.inr (Or.inr rfl)) (hd : (x == ("__debug__" : Str)) = false := by decide)
  (hcd : (x == ("__classdict__" : Str)) = false := by decide) : PE X (.Name x pos) (tVar i) := pe_var hN hv hd hcd
end
theorem iteF {A B : Prop} (h : B) : if false = true then A else B := by
 rw [if_neg Bool.false_ne_true]
 exact h
theorem iteT {A B : Prop} (h : A) : if true = true then A else B := by
 rw [if_pos rfl]
 exact h
theorem ite2 {c A B : Prop} [Decidable c] (h1 : c -> A) (h2 : ¬ c -> B) : if c then A else B := by
 by_cases h : c
 ·rw [if_pos h]
  exact h1 h
 ·rw [if_neg h]
  exact h2 h
def Same (H H' : Hp) : Prop := ∀ b o, H b = some o -> H' b = some o
theorem Same.refl (H : Hp) : Same H H := fun _ _ h => h
theorem Same.trans {H H1 H2 : Hp} (a : Same H H1) (b : Same H1 H2) : Same H H2 := fun c o h => b c o (a c o h)
theorem Same.free {H H' : Hp} (e : Same H H') {l : Addr} (h : H' l = Option.none) : H l = Option.none := by
 cases q : H l with
 | none => rfl
 | some o =>
  rw [e l o q] at h
  cases h
theorem Same.seq {K : PySem.W.Frag} {H H' : Hp} {a : Addr} {xs : List V} (e : Same H H') (h : SqL K H a xs) : SqL K H' a xs := by
 rcases h with (h | ⟨o, h⟩) | h
 ·exact .inl (.inl (e _ _ h))
 ·exact .inl (.inr ⟨o, e _ _ h⟩)
 ·exact .inr h
def PTs (X : Cx) (ifs : List Expr) (t : TT) : Prop :=
 ∀ (pins : List (Addr × Obj)) (s : Shared) (σ : St) (H : Hp) (Q : Bool -> Hp -> Prop), Inv X pins σ H s -> t σ H Q ->
  wpAny (model X.prog X.w) X.A (forIn ifs true fun c r => if r = true then do let ok <- isTrue c X.env (eval c X.env); pure (ForInStep.yield ok) else pure (ForInStep.yield r)) (TP X pins σ Q) X.xe s
def tYes : TT := fun _ H Q => Q true H
theorem pts_nil {X : Cx} : PTs X [] tYes := fun _ _ _ H _ I h => wpAny_tests_nil ⟨H, I, h⟩
theorem pts_one {X : Cx} {c : Expr} {t : TT} (hc : PT X c t) : PTs X [c] t := fun pins s σ H Q I h => wpAny_tests_one (hc pins s σ H Q I h)
theorem compLoop_any {prog : Program} {w : World} {A : Around} {s : Shared} {R : Result -> Shared -> Prop} {elt target iter : Expr} {ifs : List Expr} {scope : Scope} {pos : Pos} {it acc : Value} {env : Env} (J : Nat -> Shared -> Prop)
  (turn : ∀ n s, J n s -> wpAny (model prog w) A (pyNext it) (fun r s1 => match r with
   | none => R (.ok .next) s1
   | some v => wpAny (model prog w) A (letOwnedTupleGo target it v) (fun _ s2 => wpAny (model prog w) A (assign target env v) (fun _ s3 =>
     wpAny (model prog w) A (forIn ifs true fun c r => if r = true then do let ok <- isTrue c env (eval c env); pure (ForInStep.yield ok) else pure (ForInStep.yield r)) (fun ok s4 =>
      if ok = true then wpAny (model prog w) A (eval elt env) (fun x s5 =>
       wpAny (model prog w) A (call (.builtin "list.append") [acc, x]) (fun _ s6 => ∃ m, m < n /\ J m s6) (fun _ _ => False) s5) (fun _ _ => False) s4
      else ∃ m, m < n /\ J m s4) (fun _ _ => False) s3) (fun _ _ => False) s2) (fun _ _ => False) s1) (fun _ _ => False) s)
  (n : Nat) (h : J n s) : codeAny (model prog w) A (.compLoop (.ListComp elt [⟨target, iter, ifs, 0⟩] scope pos) 0 it acc env) R s := by
 refine codeAny_loop rfl J (fun n s hI => ?_) n h
 show wpAny _ A ((compTurn (.ListComp elt [⟨target, iter, ifs, 0⟩] scope pos) 0 it acc env).onRaise (fun x => do noteFrame x env; theTreesLotGoes x)) _ _ s
 refine wpAny_noted ?_
 rw [compTurn_list]
 refine wpAny_bind (wpAny_standAt (wpAny_bind (wpAny_mono (turn n s hI) (fun r s1 h1 => ?_) fun _ _ z => z.elim)))
 cases r with
 | none => exact wpAny_pure h1
 | some v =>
  refine wpAny_bind (wpAny_mono h1 (fun _ s2 h2 => ?_) fun _ _ z => z.elim)
  refine wpAny_bind (wpAny_mono h2 (fun _ s3 h3 => wpAny_bind (wpAny_mono h3 (fun ok s4 h4 => ?_) fun _ _ z => z.elim)) fun _ _ z => z.elim)
  cases ok with
  | false => exact wpAny_pure ⟨rfl, h4⟩
  | true =>
   exact wpAny_bind (wpAny_bind (wpAny_mono h4 (fun x s5 h5 => wpAny_bind (wpAny_mono h5 (fun _ s6 h6 => wpAny_pure (wpAny_pure ⟨rfl, h6⟩)) fun _ _ z => z.elim)) fun _ _ z => z.elim))
def closL (cells : List (Str × Addr)) : List (Str × NameKind) -> List (Str × Addr) -> List (Str × Addr)
 | [], acc => acc
 | (n, k) :: r, acc => if k == .free then closL cells r ((n, (cells.lookup n).getD 0) :: acc) else closL cells r acc
theorem closure_go {env : Env} : ∀ (names : List (Str × NameKind)) (acc : List (Str × Addr)), (∀ y ∈ names, y.2 = .free -> ∃ c, env.cells.lookup y.1 = some c) ->
  (forIn names acc fun (x : Str × NameKind) (cs : List (Str × Addr)) => (if (x.2 == .free) = true then do let a <- cellOf env x.1; pure (ForInStep.yield ((x.1, a) :: cs)) else pure (ForInStep.yield cs) : Sem (ForInStep (List (Str × Addr))))) = pure (closL env.cells names acc)
 | [], acc, _ => rfl
 | (n, k) :: r, acc, h => by
  have ih := fun acc => closure_go r acc fun y hy => h y (List.mem_cons_of_mem _ hy)
  rw [List.forIn_cons]
  unfold closL
  by_cases hk : (k == NameKind.free) = true
  ·obtain ⟨c, hc⟩ := h (n, k) List.mem_cons_self (by simpa using hk)
   have e : cellOf env n = pure c := by
    unfold cellOf
    rw [show env.cells.lookup n = some c from hc]
   simp only [hk, if_true, e, pure_bind]
   rw [ih, show env.cells.lookup n = some c from hc]
   rfl
  ·simp only [hk, Bool.false_eq_true, if_false, pure_bind]
   exact ih acc
theorem closure_of {env : Env} {scope : Scope} (h : ∀ y ∈ scope.names, y.2 = .free -> ∃ c, env.cells.lookup y.1 = some c) : closureFor scope env = pure (closL env.cells scope.names []) := by
 have e := closure_go scope.names [] h
 unfold closureFor
 simp only [bind_pure] at e ⊢
 exact e
theorem closL_sub {env : Env} : ∀ (names : List (Str × NameKind)) (acc : List (Str × Addr)), (∀ y ∈ names, y.2 = .free -> ∃ c, env.cells.lookup y.1 = some c) -> (∀ x c, acc.lookup x = some c -> env.cells.lookup x = some c) ->
  ∀ x c, (closL env.cells names acc).lookup x = some c -> env.cells.lookup x = some c
 | [], acc, _, ha, x, c, e => ha x c e
 | (n, k) :: r, acc, h, ha, x, c, e => by
  unfold closL at e
  by_cases hk : (k == NameKind.free) = true
  ·rw [if_pos hk] at e
   obtain ⟨d, hd⟩ := h (n, k) List.mem_cons_self (by simpa using hk)
   refine closL_sub r _ (fun y hy => h y (List.mem_cons_of_mem _ hy)) (fun y b q => ?_) x c e
   rw [List.lookup_cons] at q
   by_cases hy : (y == n) = true
   ·rw [hy] at q
    have hy' : y = n := by simpa using hy
    have hd' : env.cells.lookup n = some d := hd
    rw [hd'] at q
    have q' : d = b := Option.some.inj q
    rw [hy', hd', q']
   ·have hy' : (y == n) = false := by simpa using hy
    rw [hy'] at q
    exact ha y b q
  ·rw [if_neg hk] at e
   exact closL_sub r acc (fun y hy => h y (List.mem_cons_of_mem _ hy)) ha x c e
theorem closL_acc {cells : List (Str × Addr)} : ∀ (names : List (Str × NameKind)) (acc : List (Str × Addr)) (x : Str), (acc.lookup x).isSome = true -> ((closL cells names acc).lookup x).isSome = true
 | [], _, _, h => h
 | (n, k) :: r, acc, x, h => by
  unfold closL
  by_cases hk : (k == NameKind.free) = true
  ·rw [if_pos hk]
   refine closL_acc r _ x ?_
   rw [List.lookup_cons]
   by_cases hx : (x == n) = true
   ·rw [hx]; rfl
   ·have hx' : (x == n) = false := by simpa using hx
    rw [hx']; exact h
  ·rw [if_neg hk]
   exact closL_acc r acc x h
theorem closL_has {cells : List (Str × Addr)} : ∀ (names : List (Str × NameKind)) (acc : List (Str × Addr)) (x : Str), (x, NameKind.free) ∈ names -> ((closL cells names acc).lookup x).isSome = true
 | [], _, _, h => nomatch h
 | (n, k) :: r, acc, x, h => by
  unfold closL
  rcases List.mem_cons.mp h with e | h
  ·cases e
   rw [if_pos (by rfl)]
   refine closL_acc r _ _ ?_
   rw [List.lookup_cons]
   simp
  ·by_cases hk : (k == NameKind.free) = true
   ·rw [if_pos hk]; exact closL_has r _ x h
   ·rw [if_neg hk]; exact closL_has r _ x h
theorem lookup_relabel {env : Env} : ∀ {names : List (Str × NameKind)} {x : Str} {k : NameKind}, (names.map fun (n, k) => if (k == NameKind.free && env.scope.kind == .function && env.kindOf n == some .cell) then (n, NameKind.cell) else (n, k)).lookup x = some k ->
  (k = .cell \/ k = .free) -> (x, NameKind.free) ∈ names \/ (x, NameKind.cell) ∈ names
 | [], _, _, h, _ => by simp at h
 | (n, q) :: r, x, k, h, hk => by
  have h' : List.lookup x ((if (q == NameKind.free && env.scope.kind == .function && env.kindOf n == some .cell) = true then (n, NameKind.cell) else (n, q)) :: r.map fun (n, k) => if (k == NameKind.free && env.scope.kind == .function && env.kindOf n == some .cell) then (n, NameKind.cell) else (n, k)) = some k := h
  by_cases hc : (q == NameKind.free && env.scope.kind == .function && env.kindOf n == some .cell) = true
  ·rw [if_pos hc, List.lookup_cons] at h'
   have hq : q = .free := by
    simp only [Bool.and_eq_true, beq_iff_eq] at hc
    exact hc.1.1
   by_cases hx : (x == n) = true
   ·have hx' : x = n := by simpa using hx
    subst hx'; subst hq
    exact .inl List.mem_cons_self
   ·have hx' : (x == n) = false := by simpa using hx
    rw [hx'] at h'
    rcases lookup_relabel (env := env) h' hk with z | z
    ·exact .inl (List.mem_cons_of_mem _ z)
    ·exact .inr (List.mem_cons_of_mem _ z)
  ·rw [if_neg hc, List.lookup_cons] at h'
   by_cases hx : (x == n) = true
   ·rw [hx] at h'
    have hx' : x = n := by simpa using hx
    subst hx'
    have e : q = k := Option.some.inj h'
    subst e
    rcases hk with rfl | rfl
    ·exact .inr List.mem_cons_self
    ·exact .inl List.mem_cons_self
   ·have hx' : (x == n) = false := by simpa using hx
    rw [hx'] at h'
    rcases lookup_relabel (env := env) h' hk with z | z
    ·exact .inl (List.mem_cons_of_mem _ z)
    ·exact .inr (List.mem_cons_of_mem _ z)
theorem relabel_free {env : Env} : ∀ {names : List (Str × NameKind)} {x : Str}, names.lookup x = some .free ->
  (names.map fun (n, k) => if (k == NameKind.free && env.scope.kind == .function && env.kindOf n == some .cell) then (n, NameKind.cell) else (n, k)).lookup x = some .cell \/
  (names.map fun (n, k) => if (k == NameKind.free && env.scope.kind == .function && env.kindOf n == some .cell) then (n, NameKind.cell) else (n, k)).lookup x = some .free
 | [], _, h => by simp at h
 | (n, q) :: r, x, h => by
  show List.lookup x ((if (q == NameKind.free && env.scope.kind == .function && env.kindOf n == some .cell) = true then (n, NameKind.cell) else (n, q)) :: _) = _ \/ List.lookup x ((if (q == NameKind.free && env.scope.kind == .function && env.kindOf n == some .cell) = true then (n, NameKind.cell) else (n, q)) :: _) = _
  rw [List.lookup_cons] at h
  by_cases hc : (q == NameKind.free && env.scope.kind == .function && env.kindOf n == some .cell) = true
  ·rw [if_pos hc, List.lookup_cons]
   by_cases hx : (x == n) = true
   ·rw [hx]; exact .inl rfl
   ·have hx' : (x == n) = false := by simpa using hx
    rw [hx'] at h ⊢
    exact relabel_free h
  ·rw [if_neg hc, List.lookup_cons]
   by_cases hx : (x == n) = true
   ·rw [hx] at h ⊢; exact .inr h
   ·have hx' : (x == n) = false := by simpa using hx
    rw [hx'] at h ⊢
    exact relabel_free h
def cxC (X : Cx) (N' : List Str) (scope : Scope) (C : Addr) (s : Shared) (H : Hp) (fp : List Addr) : Cx where
 prog := X.prog
 w := X.w
 K := X.K
 mg := X.mg
 base := X.base
 A := X.A
 N := N'
 s₀ := s
 H₀ := H
 env := compEnvC scope (closL X.env.cells scope.names []) C X.env
 outer := X.stack
 stack := X.stack
 ex := fp
 fn := fun _ => false
 calm := X.calm
 pn := []
 xe := fun _ _ => False
def σC (o : Nat) (fr : List Nat) (σ : St) : St := List.replicate o none ++ fr.map fun j => (σ[j]?).join
structure CompScope (sc0 : Scope) (N N' : List Str) (o : Nat) (fr : List Nat) (scope : Scope) : Prop where
 kind : scope.kind = .function
 nocell : (scope.names.all fun y => y.2 != .cell) = true
 loc : (scope.names.all fun y => y.2 != .local || scope.names.lookup y.1 == some .local) = true
 free : (scope.names.all fun y => y.2 != .free || sc0.names.lookup y.1 == some .cell || sc0.names.lookup y.1 == some .free) = true
 len : N'.length = o + fr.length
 sees : ((List.range fr.length).all fun j => match fr[j]? with
  | none => false
  | some y => match N[y]? with
   | none => false
   | some x => N'[o + j]? == some x && scope.names.lookup x == some .free) = true
def LcR (J : It) (g : TG) (tt : TT) (te : TE) (o : Nat) (fr : List Nat) (σ : St) (H1 : Hp) (Q : VK) : Prop := ∃ W : Nat -> Nat -> List V -> Hp -> Prop, (∃ m, W 0 m [] H1) /\ ∀ i m ys H, W i m ys H ->
 (J.stop i H /\ ys.length <= sizeLine /\ ∀ p, H p = none -> Q (.ref p) (upd H p (.lst ys))) \/
 (J.go i H /\ ys.length < sizeLine /\ ∀ x H', J.yld i H x H' -> g x (σC o fr σ) H' fun σ2 H2 => tt σ2 H2 fun b H3 => if b = true then te σ2 H3 fun y H4 => ∃ m', m' < m /\ W (i + 1) m' (ys ++ [y]) H4 else ∃ m', m' < m /\ W (i + 1) m' ys H3)
def tLc (wi : TI) (g : TG) (tt : TT) (te : TE) (o : Nat) (fr : List Nat) : TE := fun σ H Q => wi σ H fun J H1 => LcR J g tt te o fr σ H1 Q
def OwnG (o : Nat) (g : TG) : Prop := ∀ (x : V) (ow fr : St) (H : Hp) (Q : St -> Hp -> Prop), ow.length = o -> g x (ow ++ fr) H Q -> g x (ow ++ fr) H fun σ2 H2 => (∃ ow', ow'.length = o /\ σ2 = ow' ++ fr) /\ Q σ2 H2
theorem own_name {o i : Nat} (h : i < o) : OwnG o (gName i) := fun x ow fr H Q hl q => ⟨⟨ow.set i (some x), by rw [List.length_set]; exact hl, by rw [List.set_append_left _ _ (by omega)]⟩, q⟩
def OwnGs (o : Nat) (g : TGs) : Prop := ∀ (xs : List V) (ow fr : St) (H : Hp) (Q : St -> Hp -> Prop), ow.length = o -> g xs (ow ++ fr) H Q -> g xs (ow ++ fr) H fun σ2 H2 => (∃ ow', ow'.length = o /\ σ2 = ow' ++ fr) /\ Q σ2 H2
theorem own_nil {o : Nat} : OwnGs o gNil := fun _ ow _ _ _ hl ⟨e, q⟩ => ⟨e, ⟨ow, hl, rfl⟩, q⟩
theorem own_cons {o i : Nat} {u : TGs} (h : i < o) (h2 : OwnGs o u) : OwnGs o (gCons (gName i) u) := by
 rintro xs ow fr H Q hl ⟨v, r, rfl, q⟩
 refine ⟨v, r, rfl, ?_⟩
 have q' : u r ((ow ++ fr).set i (some v)) H Q := q
 show u r ((ow ++ fr).set i (some v)) H _
 rw [List.set_append_left _ _ (by omega)] at q' ⊢
 exact h2 r (ow.set i (some v)) fr H Q (by rw [List.length_set]; exact hl) q'
theorem own_tup {K : PySem.W.Frag} {o n : Nat} {u : TGs} (h : OwnGs o u) : OwnG o (gTup K n u) := by
 rintro x ow fr H Q hl ⟨a, xs, rfl, hs, hn, q⟩
 exact ⟨a, xs, rfl, hs, hn, h xs ow fr H Q hl q⟩
section
variable {X : Cx} {pins : List (Addr × Obj)} {σ : St} {H : Hp} {s : Shared} {N' : List Str} {o : Nat} {fr : List Nat} {scope : Scope} {fp : List Addr}
abbrev accObj (us : List Value) : Obj := { cls := .type "list", data := .seq us.toArray us.length }
theorem CompScope.nocell' {sc0 : Scope} {N : List Str} (S : CompScope sc0 N N' o fr scope) : ∀ y ∈ scope.names, y.2 ≠ .cell := fun y hy e => by
 have q := List.all_eq_true.mp S.nocell y hy
 rw [e] at q
 exact absurd q (by decide)
theorem CompScope.loc' {sc0 : Scope} {N : List Str} (S : CompScope sc0 N N' o fr scope) : ∀ y ∈ scope.names, y.2 = .local -> scope.names.lookup y.1 = some .local := fun y hy e => by
 have q := List.all_eq_true.mp S.loc y hy
 rw [e] at q
 simpa using q
theorem CompScope.free' {sc0 : Scope} {N : List Str} (S : CompScope sc0 N N' o fr scope) (hs : X.env.scope = sc0) : ∀ y ∈ scope.names, y.2 = .free -> X.env.kindOf y.1 = some .cell \/ X.env.kindOf y.1 = some .free := fun y hy e => by
 have q := List.all_eq_true.mp S.free y hy
 rw [e] at q
 show X.env.scope.names.lookup y.1 = _ \/ X.env.scope.names.lookup y.1 = _
 rw [hs]
 simpa using q
theorem CompScope.sees' {sc0 : Scope} {N : List Str} (S : CompScope sc0 N N' o fr scope) : ∀ j y, fr[j]? = some y -> ∃ x, N[y]? = some x /\ N'[o + j]? = some x /\ scope.names.lookup x = some .free := fun j y e => by
 have hj : j < fr.length := (List.getElem?_eq_some_iff.mp e).1
 have q := List.all_eq_true.mp S.sees j (List.mem_range.mpr hj)
 rw [e] at q
 dsimp only at q
 cases ex : N[y]? with
 | none => rw [ex] at q; cases q
 | some x =>
  rw [ex] at q
  dsimp only at q
  rw [Bool.and_eq_true, beq_iff_eq, beq_iff_eq] at q
  exact ⟨x, rfl, q.1, q.2⟩
theorem CompScope.cells {sc0 : Scope} {N0 : List Str} (S : CompScope sc0 N0 N' o fr scope) (hs : X.env.scope = sc0) (I : Inv X pins σ H s) : ∀ y ∈ scope.names, y.2 = .free -> ∃ c, X.env.cells.lookup y.1 = some c := fun y hy e => I.ok.has y.1 (S.free' hs y hy e)
theorem CompScope.sub {sc0 : Scope} {N0 : List Str} (S : CompScope sc0 N0 N' o fr scope) (hs : X.env.scope = sc0) (I : Inv X pins σ H s) : ∀ x c, (closL X.env.cells scope.names []).lookup x = some c -> X.env.cells.lookup x = some c :=
 closL_sub (env := X.env) scope.names [] (S.cells hs I) (fun _ _ z => nomatch z)
theorem Inv.block {sc0 : Scope} {N0 : List Str} (S : CompScope sc0 N0 N' o fr scope) (hs : X.env.scope = sc0) (hN : X.N = N0) (I : Inv X pins σ H s) (hf : ∀ b ∈ fp, FpOk X pins H b) (hfl : ∀ b ∈ fp, b < s.heap.objs.size) {h1 : Heap} {C D : Addr} {m : Str -> Option Value} {us : List Value} {t : Nat}
  (hC : s.heap.objs.size <= C) (hD : s.heap.objs.size <= D) (hDC : D ≠ C)
  (old : ∀ b ob, s.heap.get? b = some ob -> h1.get? b = some ob) (hn : h1.Ns C m) (ha : h1.get? D = some (accObj us)) : Inv (cxC X N' scope C s H fp) [(D, accObj us)] (σC o fr σ) H { s with heap := h1, toks := t } := by
 have sub := S.sub hs I
 have frC : ∀ b ∈ frs X.stack, b < s.heap.objs.size := fun b hb => by
  obtain ⟨_, ob, ho, _⟩ := I.stack.mem hb
  exact Heap.lt_size ho
 refine ⟨⟨I.ok.mod, S.kind, I.ok.glob, I.ok.blt, hC, fun x y c h1 h2 => I.ok.inj x y c (sub x c h1) (sub y c h2), fun x hx => ?_, fun x c hfx _ => (nomatch hfx), I.ok.hd, I.ok.frames, .inl rfl, fun b hb => ?_, I.bs, Nat.le_trans I.ok.bsz I.sz, fun b ob e hb => ?_, fun b hb hb' => ?_, I.stack, I.stkFree⟩,
  rfl, I.bare, Un.kept old, ⟨m, hn, fun i x v e1 e2 e3 => ?_⟩, fun x c e => ?_, I.hok.fresh hC, fun x c e => I.freeC x c (sub x c e), fun p hp => ?_, I.hok.kept old, ?_⟩
 ·have hx' : (relabel scope X.env).names.lookup x = some .cell \/ (relabel scope X.env).names.lookup x = some .free := hx
  have key : (x, NameKind.free) ∈ scope.names := by
   rcases hx' with z | z
   ·rcases lookup_relabel (env := X.env) z (.inl rfl) with q | q
    ·exact q
    ·exact absurd rfl (S.nocell' _ q)
   ·rcases lookup_relabel (env := X.env) z (.inr rfl) with q | q
    ·exact q
    ·exact absurd rfl (S.nocell' _ q)
  exact Option.isSome_iff_exists.mp (closL_has (cells := X.env.cells) scope.names [] x key)
 ·obtain ⟨f0, f1, f2, f3, f4, f5⟩ := hf b hb
  exact ⟨Nat.ne_of_lt (Nat.lt_of_lt_of_le (hfl b hb) hC), fun x c e => f4 x c (sub x c e)⟩
 ·obtain ⟨f0, f1, f2, f3, f4, f5⟩ := hf b hb
  rcases f3 with z | z
  ·exact I.ok.noex b ob e z
  ·exact absurd (Nat.lt_of_lt_of_le (Heap.lt_size e) (Nat.le_trans I.ok.bsz z)) (Nat.lt_irrefl _)
 ·obtain ⟨f0, f1, f2, f3, f4, f5⟩ := hf b hb
  rcases List.mem_cons.mp (I.stkSub b hb') with z | z
  ·exact f1 z
  ·exact f2 z
 ·unfold σC at e2
  by_cases hi : i < o
  ·rw [List.getElem?_append_left (by rw [List.length_replicate]; exact hi), List.getElem?_replicate, if_pos hi] at e2
   cases e2
  ·rw [List.getElem?_append_right (by rw [List.length_replicate]; exact Nat.not_lt.mp hi), List.length_replicate, List.getElem?_map] at e2
   cases hy : fr[i - o]? with
   | none => rw [hy] at e2; cases e2
   | some y =>
    rw [hy] at e2
    have e2' : (σ[y]?).join = some v := Option.some.inj e2
    have e3' : σ[y]? = some (some v) := by
     cases q : σ[y]? with
     | none => rw [q] at e2'; cases e2'
     | some z => rw [q] at e2'; exact congrArg some e2'
    obtain ⟨x', s2, s1, s3⟩ := S.sees' (i - o) y hy
    rw [<- hN] at s2
    rw [show o + (i - o) = i by omega] at s1
    have ex : x = x' := by
     have e1' : N'[i]? = some x := e1
     rw [e1'] at s1
     exact Option.some.inj s1
    subst ex
    have hmem := PySem.mem_of_lookup s3
    obtain ⟨m0, _, hl⟩ := I.loc
    have hk := S.free' hs (x, .free) hmem rfl
    obtain ⟨u, ru, lk⟩ := hl y x v s2 e3' (by rcases hk with z | z; exact .inr (.inl z); exact .inr (.inr z))
    refine ⟨u, ru, .inr ⟨relabel_free (env := X.env) s3, ?_⟩⟩
    obtain ⟨c', hc'⟩ := Option.isSome_iff_exists.mp (closL_has (cells := X.env.cells) scope.names [] x hmem)
    refine ⟨c', hc', ?_⟩
    rcases lk with ⟨z, _⟩ | ⟨_, c, e, ob, ho, hd⟩
    ·rcases hk with z' | z'
     ·rw [z] at z'; cases z'
     ·rw [z] at z'; cases z'
    ·have ec : c = c' := by
      have := sub x c' hc'
      rw [e] at this
      exact Option.some.inj this
     subst ec
     exact ⟨ob, old _ _ ho, hd⟩
 ·obtain ⟨v, ob, ho, hd⟩ := I.cell x c (sub x c e)
  exact ⟨v, ob, old _ _ ho, hd⟩
 ·have e : p = (D, accObj us) := by simpa using (show p ∈ ([] : List (Addr × Obj)) ++ [(D, accObj us)] from hp)
  subst e
  refine ⟨ha, I.hok.fresh hD, hDC, fun z => absurd (Nat.lt_of_lt_of_le (frC D z) hD) (Nat.lt_irrefl _), fun v z => nomatch z⟩
 ·show (σC o fr σ).length = N'.length
  unfold σC
  rw [List.length_append, List.length_replicate, List.length_map, S.len]
theorem Inv.unblock (I : Inv X pins σ H s) (hf : ∀ b ∈ fp, FpOk X pins H b) {C D : Addr} {us : List Value} {ys : List V} {σ' : St} {H' : Hp} {s' : Shared} (hC : s.heap.objs.size <= C) (hD : s.heap.objs.size <= D) (hDC : D ≠ C)
  (I' : Inv (cxC X N' scope C s H fp) [(D, accObj us)] σ' H' s') (r : Vals ys us) (hz : ys.length <= sizeLine) : ∃ oC m, s'.heap.get? C = some oC /\ s'.heap.Ns C m /\ Inv X (pins ++ [(C, oC)]) σ (upd H' D (.lst ys)) s' := by
 obtain ⟨aD, nD, _, _, _⟩ := I'.pin (D, accObj us) (by simp)
 have aD : s'.heap.get? D = some (accObj us) := aD
 have nD : H' D = none := nD
 have un : Un (frs X.stack) fp H H' s.heap s'.heap := I'.base
 have lt : ∀ b u, H b = some u -> b ≠ D := fun b u e => Nat.ne_of_lt (Nat.lt_of_lt_of_le (I.hok.lt e) hD)
 have un2 : Un (frs X.stack) fp H (upd H' D (.lst ys)) s.heap s'.heap := by
  refine ⟨un.keep, un.slot, fun b ob e n hx => ?_, un.there, fun b xs e => ?_, fun b ob u e => ?_, fun b ps e => ?_⟩
  ·rw [upd_ne (Nat.ne_of_lt (Nat.lt_of_lt_of_le (Heap.lt_size e) hD))]
   exact un.free b ob e n hx
  ·rw [upd_ne (lt b _ e)]; exact un.tups b xs e
  ·rw [upd_ne (lt b _ e)]; exact un.frzs b ob u e
  ·obtain ⟨more, q⟩ := un.tbls b ps e
   exact ⟨more, by rw [upd_ne (lt b _ e)]; exact q⟩
 have hok : HOk X.prog X.w (upd H' D (.lst ys)) s'.heap := fun b u e => by
  by_cases hb : b = D
  ·subst hb
   rw [upd_same] at e
   cases e
   exact ⟨hz, us, us.length, r, aD⟩
  ·rw [upd_ne hb] at e
   exact (I'.hok b u e).stay (fun c v _ q => q) (fun c q => by rw [upd_ne (ne_of_none q nD)]; exact q) fun c xs q => by rw [upd_ne (ne_of_none q nD)]; exact q
 have os : s'.os = s.os := I'.os
 have J : Inv X pins σ (upd H' D (.lst ys)) s' := I.call' (ch := fp) os un2 hok I'.bare fun b hb => by
  obtain ⟨f0, f1, f2, f3, f4, f5⟩ := hf b hb
  exact ⟨f3, f1, f4, f5⟩
 obtain ⟨m, hn, _⟩ := I'.loc
 have hn : s'.heap.Ns C m := hn
 obtain ⟨oC, es, ep, hoC, hdC, _⟩ := id hn
 refine ⟨oC, m, hoC, hn, J.pins_of fun p hp => ?_⟩
 rcases List.mem_append.mp hp with z | z
 ·exact J.pin p (List.mem_append_right _ z)
 ·have e : p = (C, oC) := by simpa using z
  subst e
  have nC : H' C = none := I'.free
  refine ⟨hoC, by rw [upd_ne (Ne.symm hDC)]; exact nC, Nat.ne_of_gt (Nat.lt_of_lt_of_le I.lt hC), I.nofs hC, fun v z => ?_⟩
  have z' : oC.data = .cell v := z
  rw [hdC] at z'
  cases z'
end
section
variable {X : Cx} {N' : List Str} {o : Nat} {fr : List Nat} {scope : Scope} {elt tg iter : Expr} {ifs : List Expr} {pos : Pos} {wi : TI} {g : TG} {tt : TT} {te : TE}
theorem lc_run (hc : X.calm = true) {sc0 : Scope} {N0 : List Str} (S : CompScope sc0 N0 N' o fr scope) (hi : PI X tg iter wi) (ho : OwnG o g)
  (hg : ∀ (C : Addr) (s : Shared) (H : Hp) (fp : List Addr), PG (cxC X N' scope C s H fp) tg g)
  (ht : ∀ (C : Addr) (s : Shared) (H : Hp) (fp : List Addr), PTs (cxC X N' scope C s H fp) ifs tt)
  (he : ∀ (C : Addr) (s : Shared) (H : Hp) (fp : List Addr), PE (cxC X N' scope C s H fp) elt te)
  (hs : ∀ x, foldedSetIterable iter X.env x = pure x) (hsc : X.env.scope = sc0) (hN0 : X.N = N0) {pins : List (Addr × Obj)} {s : Shared} {σ : St} {H : Hp} {Qv : VK} (I : Inv X pins σ H s) (h : tLc wi g tt te o fr σ H Qv)
  {use : Option (Value -> Sem Unit)} {Q : Value -> Shared -> Prop} {E : Value -> Shared -> Prop}
  (hE : ∀ e s', X.xe e s' -> E e s')
  (fin : ∀ (C oC D : _) (m : Str -> Option Value) (H' : Hp) (ys : List V) (s' : Shared), Inv X (pins ++ [(C, oC)]) σ (upd H' D (.lst ys)) s' -> Qv (.ref D) (upd H' D (.lst ys)) -> s'.heap.Ns C m -> H' C = none -> C ≠ D ->
   C ≠ X.env.locals -> X.s₀.heap.objs.size <= C -> (∀ x c, X.env.cells.lookup x = some c -> c ≠ C) -> (∀ p ∈ X.pn ++ pins, p.1 ≠ C) -> compPost (model X.prog X.w) X.A E use Q (.ref D) C (.ok .next) s') :
  wpAny (model X.prog X.w) X.A (comprehension (.ListComp elt [⟨tg, iter, ifs, 0⟩] scope pos) scope X.env (firstIterPos [⟨tg, iter, ifs, 0⟩] pos) (newList []) false (eval iter X.env) use) Q E s := by
 refine wpAny_comprehension_free (use := use) rfl hs (closure_of (S.cells hsc I)) S.kind S.loc' (wpAny_mono (hi pins s σ H _ I h) (fun xv s1 h1 => wpAny_mono h1 (fun itv s2 h2 => ?_) hE) hE)
 obtain ⟨it, fp, tn, J, H2, rfl, I2, T, st2, f2, W, ⟨m0, w0⟩, turn⟩ := h2
 have hfl : ∀ b ∈ fp, b < s2.heap.objs.size := fun b hb => by
  obtain ⟨ob, e, _⟩ := T.obj 0 _ st2 b hb
  exact Heap.lt_size e
 refine wpAny_newObj_type (wpAny_newFunctionEnv S.nocell' (by intro y hy; simp at hy) (fun h1 hns1 hsb1 => ?_) S.kind)
 dsimp only at hns1 hsb1 ⊢
 generalize hH2 : s2.heap.push { cls := .type "list", dict := none, data := .seq ([] : List Value).toArray } = G at hns1 hsb1 ⊢
 have hCe : G.objs.size = s2.heap.objs.size + 1 := by rw [<- hH2, Heap.size_push]
 have hC : s2.heap.objs.size <= G.objs.size := by rw [hCe]; exact Nat.le_succ _
 have hDC : s2.heap.objs.size ≠ G.objs.size := by rw [hCe]; exact Nat.ne_of_lt (Nat.lt_succ_self _)
 have old : ∀ b ob, s2.heap.get? b = some ob -> h1.get? b = some ob := fun b ob e =>
  hsb1.extBut b ob (Nat.ne_of_lt (Nat.lt_of_lt_of_le (Heap.lt_size e) hC)) (Heap.get?_push_of_some _ (hH2 ▸ Heap.get?_push_of_some _ e))
 have hacc : h1.get? s2.heap.objs.size = some (accObj []) := hsb1.extBut _ _ hDC (Heap.get?_push_of_some _ (hH2 ▸ Heap.get?_push_size _ rfl))
 have st1 : tn 0 h1 := T.keep _ _ _ st2 fun b _ ob e => old b ob e
 have fpC : ∀ {us : List Value} {H' : Hp}, (∀ b ∈ fp, H' b = none) -> ∀ b ∈ fp, FpOk (cxC X N' scope G.objs.size s2 H2 fp) [(s2.heap.objs.size, accObj us)] H' b := fun {us H'} hn b hb => by
  obtain ⟨f0, f1, f3, f4, f5, f6⟩ := f2 b hb
  refine ⟨hn b hb, Nat.ne_of_lt (Nat.lt_of_lt_of_le (hfl b hb) hC), fun z => ?_, .inl hb, fun x c e => f5 x c (S.sub hsc I2 x c e), fun p hp => ?_⟩
  ·rcases List.mem_cons.mp (I2.stkSub b z) with q | q
   ·exact f1 q
   ·exact f3 q
  ·have e : p = (s2.heap.objs.size, accObj us) := by simpa using (show p ∈ ([] : List (Addr × Obj)) ++ [(s2.heap.objs.size, accObj us)] from hp)
   subst e
   exact Nat.ne_of_gt (hfl b hb)
 have loop : ∀ s3 : Shared, s3 = { s2 with heap := h1, toks := s2.toks + ([] : List (Str × Value)).length } ->
   codeAny (model X.prog X.w) X.A (.compLoop (.ListComp elt [⟨tg, iter, ifs, 0⟩] scope pos) 0 (.ref it) (.ref s2.heap.objs.size) (compEnvC scope (closL X.env.cells scope.names []) G.objs.size X.env))
    (compPost (model X.prog X.w) X.A E use Q (.ref s2.heap.objs.size) G.objs.size) s3 := by
  rintro s3 rfl
  refine compLoop_any (fun n s' => ∃ i σ' H' ys us, Inv (cxC X N' scope G.objs.size s2 H2 fp) [(s2.heap.objs.size, accObj us)] σ' H' s' /\ σ' = σC o fr σ /\ Vals ys us /\ tn i s'.heap /\ (∀ b ∈ fp, H' b = none) /\ W i n ys H') ?_ m0
   ⟨0, _, H2, [], [], I2.block S hsc hN0 f2 hfl hC (Nat.le_refl _) hDC old hns1 hacc, rfl, .nil, st1, fun b hb => (f2 b hb).1, w0⟩
  rintro n s' ⟨i, σ', H', ys, us, I', rfl, rv, st', fr', w'⟩
  rcases turn i n ys H' w' with ⟨stop, hz, q⟩ | ⟨go, hz, step⟩
  ·refine thn (T.done (cxC X N' scope G.objs.size s2 H2 fp) rfl rfl rfl hc i _ s' _ H' _ I' (fpC fr') st' stop) fun r s4 ⟨hr, I4⟩ => ?_
   subst hr
   obtain ⟨oC, m, hoC, hn, J4⟩ := I2.unblock f2 hC (Nat.le_refl _) hDC I4 rv hz
   exact fin _ oC _ m H' ys s4 J4 (q _ (I4.pin (s2.heap.objs.size, accObj us) (by simp)).2.1) hn I4.free (Ne.symm hDC) (Nat.ne_of_gt (Nat.lt_of_lt_of_le I2.lt hC)) (Nat.le_trans I2.sz hC)
    (fun x c e => by obtain ⟨v, z⟩ := I2.cell x c e; exact Nat.ne_of_lt (Nat.lt_of_lt_of_le z.lt hC)) fun p hp => Nat.ne_of_lt (Nat.lt_of_lt_of_le (Heap.lt_size (I2.pin p hp).1) hC)
  ·refine thn (T.item (cxC X N' scope G.objs.size s2 H2 fp) rfl rfl rfl hc i _ s' _ H' _ I' (fpC fr') st' go) fun r s4 ⟨u, hr, h4⟩ => ?_
   subst hr
   refine thn h4 fun _ s5 ⟨x, H5, I5, r5, y5, st5, fr5⟩ => ?_
   have hst := step x H5 y5
   have hst' := ho x (List.replicate o none) (fr.map fun j => (σ[j]?).join) H5 _ (List.length_replicate ..) hst
   have I5' := I5.pinned (fpC (us := us) fr5) (T.obj _ _ st5)
   refine thn (hg _ _ _ _ _ s5 _ H5 x u _ I5' r5 hst') fun _ s6 ⟨σ6, H6, I6, ⟨ow, hol, e6⟩, q6⟩ => ?_
   subst e6
   refine thn (ht _ _ _ _ _ s6 _ H6 _ I6 q6) fun b s7 ⟨H7, I7, q7⟩ => ?_
   have back : ∀ {us' : List Value} {σ8 : St} {H8 : Hp} {s8 : Shared}, Inv (cxC X N' scope G.objs.size s2 H2 fp) ([(s2.heap.objs.size, accObj us')] ++ pinsAt fp s5.heap) (ow ++ fr.map fun j => (σ[j]?).join) H8 s8 ->
     Inv (cxC X N' scope G.objs.size s2 H2 fp) [(s2.heap.objs.size, accObj us')] (σC o fr σ) H8 s8 /\ tn (i + 1) s8.heap /\ ∀ b ∈ fp, H8 b = none := fun {us' σ8 H8 s8} I8 => by
    refine ⟨I8.unpinned.weak ?_ fun j v e => ?_, T.keep _ _ _ st5 fun b hb ob e => (I8.pin (b, ob) (List.mem_append_right _ (List.mem_append_right _ (mem_pinsAt hb e)))).1, fun b hb => ?_⟩
    ·unfold σC
     rw [List.length_append, List.length_append, List.length_replicate, hol]
    ·unfold σC at e
     by_cases hj : j < o
     ·rw [List.getElem?_append_left (by rw [List.length_replicate]; exact hj), List.getElem?_replicate, if_pos hj] at e
      cases e
     ·rw [List.getElem?_append_right (by rw [List.length_replicate]; exact Nat.not_lt.mp hj), List.length_replicate] at e
      rw [List.getElem?_append_right (by rw [hol]; exact Nat.not_lt.mp hj), hol]
      exact e
    ·obtain ⟨ob, e, _⟩ := T.obj _ _ st5 b hb
     exact (I8.pin (b, ob) (List.mem_append_right _ (List.mem_append_right _ (mem_pinsAt hb e)))).2.1
   cases b with
   | false =>
    rw [if_neg Bool.false_ne_true] at q7 ⊢
    obtain ⟨m', hm, w7⟩ := q7
    obtain ⟨I8, st8, fr8⟩ := back (us' := us) (σ8 := []) I7
    exact ⟨m', hm, i + 1, _, H7, ys, us, I8, rfl, rv, st8, fr8, w7⟩
   | true =>
    rw [if_pos rfl] at q7 ⊢
    refine thn (he _ _ _ _ _ s7 _ H7 _ I7 q7) fun y s8 ⟨yv, H8, I8, r8, m', hm, w8⟩ => ?_
    obtain ⟨aD, nD, _, _, _⟩ := I8.pin (s2.heap.objs.size, accObj us) (by simp)
    have aD : s8.heap.get? s2.heap.objs.size = some (accObj us) := aD
    have nD : H8 s2.heap.objs.size = none := nD
    have hul : us.length <= sizeLine := by rw [<- rv.length]; exact Nat.le_of_lt hz
    refine append_at (hsz := by show us.toArray.size <= sizeLine; rw [List.size_toArray]; exact hul) aD fun h9 hs9 hD9 => ?_
    have hD9' : h9.get? s2.heap.objs.size = some (accObj (us ++ [y])) := by
     rw [hD9]
     show some ({ cls := .type "list", data := .seq (us.toArray.push y) (us.length + 1) } : Obj) = some { cls := .type "list", data := .seq (us ++ [y]).toArray (us ++ [y]).length }
     rw [List.length_append, List.length_singleton, List.push_toArray]
    have I9 : Inv (cxC X N' scope G.objs.size s2 H2 fp) (pinsAt fp s5.heap) (ow ++ fr.map fun j => (σ[j]?).join) H8 { s8 with heap := h9 } :=
     (I8.pins_of (pins' := pinsAt fp s5.heap) fun p hp => I8.pin p (List.mem_append_right _ (List.mem_append_right _ hp))).turned (t' := s8.toks) (it := s2.heap.objs.size) (fun b ob hb e => hs9.extBut b ob hb e) nD hDC (.inr (Nat.le_refl _))
      (fun x c e => by
       obtain ⟨v, z⟩ := I2.cell x c (S.sub hsc I2 x c e)
       exact Nat.ne_of_lt z.lt)
      fun p hp => by
       obtain ⟨hb, _⟩ := of_pinsAt (show p ∈ pinsAt fp s5.heap from by simpa [cxC] using hp)
       exact Nat.ne_of_lt (hfl p.1 hb)
    have I9' : Inv (cxC X N' scope G.objs.size s2 H2 fp) ([(s2.heap.objs.size, accObj (us ++ [y]))] ++ pinsAt fp s5.heap) (ow ++ fr.map fun j => (σ[j]?).join) H8 { s8 with heap := h9 } :=
     I9.pins_of fun p hp => by
      rcases List.mem_append.mp hp with z | z
      ·have e : p = (s2.heap.objs.size, accObj (us ++ [y])) := by simpa using z
       subst e
       refine ⟨hD9', nD, hDC, fun z => ?_, fun v z => nomatch z⟩
       obtain ⟨_, ob, hob, _⟩ := I2.stack.mem z
       exact Nat.lt_irrefl _ (Heap.lt_size hob)
      ·exact I9.pin p (List.mem_append_right _ z)
    obtain ⟨I10, st10, fr10⟩ := back (us' := us ++ [y]) (σ8 := []) I9'
    exact ⟨m', hm, i + 1, _, H8, ys ++ [yv], us ++ [y], I10, rfl, Vals.append rv (.cons r8 .nil), st10, fr10, w8⟩
 exact codeAny_compStart_list (loop _ rfl) (T.self _ 0 _ _ _ st1 (loop _ rfl))
theorem pe_lc (hc : X.calm = true) {sc0 : Scope} {N0 : List Str} (S : CompScope sc0 N0 N' o fr scope) (hi : PI X tg iter wi) (ho : OwnG o g)
  (hg : ∀ (C : Addr) (s : Shared) (H : Hp) (fp : List Addr), PG (cxC X N' scope C s H fp) tg g)
  (ht : ∀ (C : Addr) (s : Shared) (H : Hp) (fp : List Addr), PTs (cxC X N' scope C s H fp) ifs tt)
  (he : ∀ (C : Addr) (s : Shared) (H : Hp) (fp : List Addr), PE (cxC X N' scope C s H fp) elt te)
  (hs : ∀ x, foldedSetIterable iter X.env x = pure x := by intro _; rfl) (hsc : X.env.scope = sc0 := by rfl) (hN0 : X.N = N0 := by rfl) : PE X (.ListComp elt [⟨tg, iter, ifs, 0⟩] scope pos) (tLc wi g tt te o fr) := by
 intro pins s σ H Q I h
 rw [eval_ListComp]
 refine lc_run hc S hi ho hg ht he hs hsc hN0 I h (use := none) (fun _ _ z => z) fun C oC D m H' ys s' J q hn nC hCD hCL hCs hCc hCp => ?_
 refine ⟨m, hn, fun h' hs' => ⟨.ref D, upd H' D (.lst ys), ?_, rfl, q⟩⟩
 refine J.unpinned.turned (t' := s'.toks) (it := C) (fun b ob hb e => hs'.extBut b ob hb e) (by rw [upd_ne hCD]; exact nC) hCL (.inr hCs) hCc hCp
theorem ps_lc {i : Nat} {x : Str} {px : Pos} {spos : Pos} (hc : X.calm = true) (hN : X.N.Nodup) (hx : X.N[i]? = some x) (hl : X.env.kindOf x = some .local) {sc0 : Scope} {N0 : List Str} (S : CompScope sc0 N0 N' o fr scope) (hi : PI X tg iter wi) (ho : OwnG o g)
  (hg : ∀ (C : Addr) (s : Shared) (H : Hp) (fp : List Addr), PG (cxC X N' scope C s H fp) tg g)
  (ht : ∀ (C : Addr) (s : Shared) (H : Hp) (fp : List Addr), PTs (cxC X N' scope C s H fp) ifs tt)
  (he : ∀ (C : Addr) (s : Shared) (H : Hp) (fp : List Addr), PE (cxC X N' scope C s H fp) elt te)
  (hs : ∀ x, foldedSetIterable iter X.env x = pure x := by intro _; rfl) (hsc : X.env.scope = sc0 := by rfl) (hN0 : X.N = N0 := by rfl)
  (hsw : swapsWith (.ListComp elt [⟨tg, iter, ifs, 0⟩] scope pos) (some (.Name x px)) spos.line X.env = pure true := by rfl) :
  PS X (.Assign [.Name x px] (.ListComp elt [⟨tg, iter, ifs, 0⟩] scope pos) spos) (tAsg (tLc wi g tt te o fr) (gName i)) := by
 intro pins s σ H D I h
 rw [exec_Assign_Name_used _ _ _ _ hsw]
 refine wpAny_bind (wpAny_standAt (wpAny_bind ?_))
 show wpAny _ X.A (do let _ <- comprehension (.ListComp elt [⟨tg, iter, ifs, 0⟩] scope pos) scope X.env (firstIterPos [⟨tg, iter, ifs, 0⟩] pos) (newList []) false (eval iter X.env) (some (assign (.Name x px) X.env))) _ _ s
 refine wpAny_bind (wpAny_mono (lc_run (Q := fun _ s' => SP X pins D .next s') hc S hi ho hg ht he hs hsc hN0 I h (use := some (assign (.Name x px) X.env)) (fun _ _ z => z) fun C oC Dd m H' ys s' J q hn nC hCD hCL hCs hCc hCp => ?_) (fun _ s' hq => wpAny_pure (wpAny_pure hq)) fun _ _ e => e)
 show wpAny _ X.A (assign (.Name x px) X.env (.ref Dd)) _ _ _
 refine wpAny_assign_Name (store_ok J hN hx (.inl hl) (v := .ref Dd) rfl (fun s2 I2 => ?_) (.inr hl))
 have g1 := (I2.pin (C, oC) (by simp)).1
 have g1 : s2.heap.get? C = some oC := g1
 have n2 : s2.heap.Ns C m := by
  obtain ⟨oc, es, ep, e, r⟩ := hn
  have e0 := (J.pin (C, oC) (by simp)).1
  have e0 : s'.heap.get? C = some oC := e0
  rw [e] at e0
  cases e0
  exact ⟨_, es, ep, g1, r⟩
 refine ⟨m, n2, fun h' hs' => ⟨_, upd H' Dd (.lst ys), ?_, q⟩⟩
 exact I2.unpinned.turned (t' := s2.toks) (it := C) (fun b ob hb e => hs'.extBut b ob hb e) (by rw [upd_ne hCD]; exact nC) hCL (.inr hCs) hCc hCp
end
section
variable {X : Cx}
theorem vals_two : ∀ {x y : V} {us : List Value}, Vals [x, y] us -> ∃ u v, us = [u, v] /\ RelV x u /\ RelV y v
 | _, _, _, .cons r (.cons r' .nil) => ⟨_, _, rfl, r, r'⟩
theorem ints_of_vals : ∀ {ns : List Int} {us : List Value}, Vals (ns.map V.int) us -> IntsAre us ns
 | [], _, .nil => .nil
 | n :: ns, _, .cons r t => by
  obtain ⟨tk, rfl⟩ := r
  exact .cons n tk (ints_of_vals t)
theorem call_rng1 : CallR X (.type "range") (fun xs H Q => ∃ j : Int, xs = [.int j] /\ ∀ p, H p = none -> Q (.ref p) (upd H p (.rng 0 j))) := by
 intro pins s σ H xs us Q I r h
 obtain ⟨j, rfl, q⟩ := h
 obtain ⟨u, rfl, t, rfl⟩ := vals1 r
 refine call_range_1 ?_
 exact ⟨.ref s.heap.objs.size, _, I.laid (o := .rng 0 j) (fun b u e => Heap.get?_push_of_some _ e) (Nat.le_refl _) ⟨_, _, _, Heap.get?_push_size _ rfl⟩, rfl, q _ (I.hok.fresh (Nat.le_refl _))⟩
def rngI (lo hi : Int) : List Int := (List.range (hi - lo).toNat).map fun (i : Nat) => lo + (i : Int)
theorem rngI_length (lo hi : Int) : (rngI lo hi).length = (hi - lo).toNat := by unfold rngI; rw [List.length_map, List.length_range]
theorem vals_rng {lo : Int} {n : Nat} : ∀ {us : List Value}, us.length = n -> (∀ (j : Nat) (v : Value), us[j]? = some v -> ∃ t, v = Value.int (lo + (j : Int)) t) -> Vals (((List.range n).map fun (i : Nat) => lo + (i : Int)).map V.int) us := by
 induction n generalizing lo with
 | zero =>
  intro us h _
  rw [List.length_eq_zero_iff.mp h]
  exact .nil
 | succ n ih =>
  intro us h hv
  cases us with
  | nil => cases h
  | cons u us =>
   rw [List.range_succ_eq_map, List.map_cons, List.map_cons]
   refine .cons ?_ ?_
   ·obtain ⟨t, e⟩ := hv 0 u rfl
    exact ⟨t, e⟩
   ·have q := ih (lo := lo + 1) (us := us) (Nat.succ.inj h) fun j v e => by
     obtain ⟨t, e'⟩ := hv (j + 1) v (by simpa using e)
     refine ⟨t, ?_⟩
     rw [e']
     congr 1
     omega
    have e : (List.range n).map (fun (i : Nat) => lo + 1 + (i : Int)) = ((List.range n).map Nat.succ).map (fun (i : Nat) => lo + (i : Int)) := by
     rw [List.map_map]
     refine List.map_congr_left fun i _ => ?_
     show lo + 1 + (i : Int) = lo + ((i + 1 : Nat) : Int)
     omega
    rw [e] at q
    exact q
theorem call_list_rng (hc : X.calm = true) : CallR X (.type "list") (fun xs H Q => ∃ p lo hi, xs = [.ref p] /\ H p = some (.rng lo hi) /\ (-(2 ^ 62) <= lo /\ lo < 2 ^ 62 /\ -(2 ^ 62) <= hi /\ hi < 2 ^ 62) /\ (hi - lo).toNat <= 16777216 /\
  ∀ l, H l = none -> Q (.ref l) (upd H l (.lst ((rngI lo hi).map V.int)))) := by
 intro pins s σ H xs us Q I r h
 obtain ⟨p, lo, hi, rfl, hp, ⟨b1, b2, b3, b4⟩, hz, q⟩ := h
 obtain ⟨u, rfl, ru⟩ := vals1 r
 obtain rfl : u = Value.ref p := ru
 obtain ⟨t, u, v, e⟩ := (show ObjOk X.prog X.w H s.heap p (.rng lo hi) from I.hok p _ hp)
 have hn : Builtin.Range.rangeSize lo hi 1 = (((hi - lo).toNat : Nat) : Int) := by rw [rangeSize_one]; split <;> omega
 refine call_list_range (I.ok.hd hc) (t := t) (u := u) (v := v) e (small_one b1 b2 b3 b4) hn hz fun h' tk acc c' hk hS ha => ?_
 have hl : acc.toList.length = (hi - lo).toNat := by rw [Array.length_toList]; exact ha.1
 have rv : Vals ((rngI lo hi).map V.int) acc.toList := vals_rng (lo := lo) hl fun j w ew => by
  obtain ⟨t, e⟩ := ha.2 j w (by simpa using ew)
  exact ⟨t, by rw [e, Int.mul_one]⟩
 refine ⟨.ref s.heap.objs.size, _, I.laid (o := .lst ((rngI lo hi).map V.int)) hk (Nat.le_refl _) ⟨?_, acc.toList, c', rv, ?_⟩, rfl, q _ (I.hok.fresh (Nat.le_refl _))⟩
 ·rw [List.length_map, rngI_length]
  have : sizeLine = 16777216 := sizeLine_eq
  omega
 ·rw [hS]
theorem call_sum_ints (hc : X.calm = true) : CallR X (.builtin "sum") (fun xs H Q => ∃ (p : Addr) (ns : List Int), xs = [.ref p] /\ SqL X.K H p (ns.map V.int) /\ Q (.int ns.sum) H) := by
 intro pins s σ H xs us Q I r h
 obtain ⟨p, ns, rfl, hq, q⟩ := h
 obtain ⟨u, rfl, ru⟩ := vals1 r
 obtain rfl : u = Value.ref p := ru
 obtain ⟨its, rv, pl, hz⟩ := I.list hq
 have hi := ints_of_vals rv
 have hall := hi.allInts
 obtain ⟨xs, ex⟩ := hall.items
 have hl := pl.isList
 rw [ex] at hl
 refine sum_intListG (I.ok.hd hc) hl fun h' tk t' hk => ?_
 have e1 : preSum (numAt xs) xs.size = ns.sum := by
  have e2 := hi.numsOf
  rw [show its = its.toArray.toList from rfl, ex, nums_intItems] at e2
  rw [preSum_eq, List.take_of_length_le (by simp), <- e2]
 exact ⟨.int ns.sum, H, I.kept hk, ⟨t', by rw [e1]⟩, q⟩
def seen (ns : List Int) : List Int := firstMet (fun i => ns.getD i 0) ns.length
theorem call_set_ints (hc : X.calm = true) : CallR X (.type "set") (fun xs H Q => ∃ (p : Addr) (ns : List Int), xs = [.ref p] /\ SqL X.K H p (ns.map V.int) /\ ns.length + 1 < scanBound /\
  ∀ l, H l = none -> Q (.ref l) (upd H l (.set (fun k => (seen ns).any (· == k)) (seen ns).length))) := by
 intro pins s σ H xs us Q I r h
 obtain ⟨p, ns, rfl, hq, hb, q⟩ := h
 obtain ⟨u, rfl, ru⟩ := vals1 r
 obtain rfl : u = Value.ref p := ru
 obtain ⟨its, rv, pl, hz⟩ := I.list hq
 have hi := ints_of_vals rv
 have hl : its.toArray.size = ns.length := by rw [List.size_toArray, <- rv.length, List.length_map]
 refine call_set_list (I.ok.hd hc) pl.isList (ns := ns) (by simpa using hi) (by omega) fun h' tk hs hk => ?_
 refine ⟨.ref s.heap.objs.size, _, I.laid (o := .set (fun k => (seen ns).any (· == k)) (seen ns).length) (fun b ob e => hk b ob (Heap.lt_size e) e) (Nat.le_refl _) ?_, rfl, q _ (I.hok.fresh (Nat.le_refl _))⟩
 unfold seen
 rw [<- hl]
 exact hs
theorem call_len_setI : CallR X (.builtin "len") (fun xs H Q => ∃ p S n, xs = [.ref p] /\ H p = some (.set S n) /\ (n : Int) < 2 ^ 63 /\ Q (.int n) H) := by
 intro pins s σ H xs us Q I r h
 obtain ⟨p, S, n, rfl, hp, hn, q⟩ := h
 obtain ⟨u, rfl, ru⟩ := vals1 r
 obtain rfl : u = Value.ref p := ru
 obtain ⟨o, es, ep, t, e, hx, hd, _, _, _, hf, hz⟩ := (show ObjOk X.prog X.w H s.heap p (.set S n) from I.hok p _ hp)
 subst hz
 exact call_len_set e hx hd hf hn ⟨.int es.size, H, I.tok _, ⟨_, rfl⟩, q⟩
theorem call_isi {T : String} : CallR X (.builtin "isinstance") (fun xs H Q => ∃ x t b, xs = [x, .ty T] /\ TyOf X.K H x t /\ PySem.W.kitOne X.K t (.type T) = some b /\ Q (.bl b) H) := by
 intro pins s σ H xs us Q I r h
 obtain ⟨x, t, b, rfl, ty, e, q⟩ := h
 obtain ⟨u, v, rfl, ru, rv⟩ := vals_two r
 obtain rfl : v = Value.type T := rv
 exact isinst_ok I ru ty e fun tk => ⟨.bl b, H, I.tok tk, rfl, q⟩
def Ite (K : PySem.W.Frag) (a : Addr) : It :=
 ⟨fun i H => ∃ xs x, SqL K H a xs /\ xs[i]? = some x, fun i H v H' => ∃ T x, H T = none /\ v = .ref T /\ H' = upd H T (.tup [.int i, x]) /\ ∀ xs, SqL K H a xs -> xs[i]? = some x, fun i H => ∃ xs, SqL K H a xs /\ xs.length <= i⟩
def iEnum (K : PySem.W.Frag) (ta : TA) : TI := fun σ H R => ta σ H fun vs H1 => ∃ a, vs = [.ref a] /\ (∃ xs, SqL K H1 a xs) /\ R (Ite K a) H1
theorem turn_enum {P : Program} {w : World} {K : PySem.W.Frag} {elts : List Expr} {x1 : Nat} {pos : Pos} (a e it : Addr) (hne : e ≠ it) : Turn P w K (.Tuple elts x1 pos) (Ite K a) [e, it] e (fun i h => (∃ old, IsEnum h e it i old) /\ h.IsListIter it a i) where
 mem := by simp
 obj := fun i h st b hb => by
  obtain ⟨⟨old, he⟩, o, eo, c, d⟩ := st
  rcases List.mem_cons.mp hb with z | hb
  ·subst z
   exact ⟨_, he, fun v z => by
    have z' : Data.fields _ = Data.cell v := z
    cases z'⟩
  ·have z : b = it := by simpa using hb
   subst z
   exact ⟨o, eo, fun v z => by rw [d] at z; cases z⟩
 keep := fun i h h' st k => by
  obtain ⟨⟨old, he⟩, hit⟩ := st
  exact ⟨⟨old, k e (by simp) _ he⟩, hit.at fun o x => k it (by simp) o x⟩
 item := by
  intro X hP hw hK hc i pins s σ H E I hf st hg
  subst hP hw hK
  obtain ⟨xs, x, hq, hx⟩ := hg
  obtain ⟨⟨old, he⟩, hit⟩ := st
  obtain ⟨its, rv, p, hz⟩ := I.list hq
  obtain ⟨u, hu, ru⟩ := rv.get hx
  obtain ⟨f0, f1, f2, f3, f4, f5⟩ := hf e (by simp)
  obtain ⟨g0, g1, g2, g3, g4, g5⟩ := hf it (by simp)
  have hT0 : H s.heap.objs.size = none := I.hok.fresh (Nat.le_refl _)
  refine wpAny_pyNext_enum_item he hit p.isList (x := u) (by simpa using hu) hne fun h' ho hit' hT hsz hk => ?_
  have ltT : ∀ b ob, s.heap.get? b = some ob -> b ≠ s.heap.objs.size := fun b ob z => Nat.ne_of_lt (Heap.lt_size z)
  have ltH : ∀ b ob, H b = some ob -> b ≠ s.heap.objs.size := fun b ob z => Nat.ne_of_lt (I.hok.lt z)
  have nof : ∀ b ob, H b = some ob -> b ≠ e /\ b ≠ it := fun b ob z => ⟨fun q => (by rw [q, f0] at z; cases z), fun q => (by rw [q, g0] at z; cases z)⟩
  have I1 : Inv X pins σ (upd H s.heap.objs.size (.tup [.int i, x])) { s with heap := h', toks := s.toks + 1 } := by
   refine I.step (g' := s.gens) (d' := s.drawn) (ch := [e, it]) (fun b hb => ?_) (fun b o _ _ hcx z _ => hk b o (fun q => hcx (by simp [q])) (fun q => hcx (by simp [q])) z) (fun b o _ _ hcx z _ => ⟨o.slots, hk b o (fun q => hcx (by simp [q])) (fun q => hcx (by simp [q])) z⟩)
    (fun b o _ z n => by rw [upd_ne (ltT b o z)]; exact n) (fun b o hcx z => ⟨o, hk b o (fun q => hcx (by simp [q])) (fun q => hcx (by simp [q])) z⟩) (fun b ys z => by rw [upd_ne (ltH b _ z)]; exact z) (fun b o v z => by rw [upd_ne (ltH b _ z)]; exact z)
    (fun b ps z => ⟨#[], by rw [upd_ne (ltH b _ z), z]; simp⟩) (fun m hm => ?_) (fun b v z => ?_) I.bare
   ·rcases List.mem_cons.mp hb with q | hb
    ·rw [q]; exact ⟨f3, f1, f4, f5⟩
    ·have q : b = it := by simpa using hb
     rw [q]; exact ⟨g3, g1, g4, g5⟩
   ·obtain ⟨o, es, ep, ho', r⟩ := hm
    exact ⟨o, es, ep, hk _ o (Ne.symm f1) (Ne.symm g1) ho', r⟩
   ·by_cases hb : b = s.heap.objs.size
    ·subst hb
     rw [upd_same] at z
     cases z
     exact ⟨by show 2 <= sizeLine; decide, [.int i s.toks, u], .cons ⟨_, rfl⟩ (.cons ru .nil), ⟨_, hT, rfl, _, rfl⟩⟩
    ·rw [upd_ne hb] at z
     refine (I.hok b v z).stay (fun c w' hc' q => ?_) (fun c q => by rw [upd_ne (ltH c _ q)]; exact q) fun c ys q => by rw [upd_ne (ltH c _ q)]; exact q
     rcases hc' with rfl | hc'
     ·exact hk c w' (nof c _ z).1 (nof c _ z).2 q
     ·exact hk c w' (nof c _ hc').1 (nof c _ hc').2 q
  refine ⟨_, rfl, wpAny_letOwnedTupleGo_enum ho fun h2 he2 hs2 => ?_⟩
  have fT : e ≠ s.heap.objs.size := ltT e _ he
  have I2 : Inv X pins σ (upd H s.heap.objs.size (.tup [.int i, x])) { s with heap := h2, toks := s.toks + 1 } := Inv.turned (s := { s with heap := h', toks := s.toks + 1 }) (h' := h2) (t' := s.toks + 1) (it := e) I1 (fun b o hb z => hs2.extBut b o hb z) (by rw [upd_ne fT]; exact f0) f1 f3 f4 f5
  refine ⟨.ref s.heap.objs.size, _, I2, rfl, ⟨_, x, hT0, rfl, rfl, fun ys hy => by rw [I.list_inj hy hq]; exact hx⟩, ⟨⟨u, by simpa using he2⟩, hit'.at fun o z => hs2.extBut it o (Ne.symm hne) z⟩, fun b hb => ?_⟩
  rcases List.mem_cons.mp hb with q | hb
  ·rw [q, upd_ne fT]; exact f0
  ·have q : b = it := by simpa using hb
   obtain ⟨o, eo, _⟩ := hit
   rw [q, upd_ne (ltT it o eo)]; exact g0
 done := by
  intro X hP hw hK hc i pins s σ H E I hf st hg
  subst hP hw hK
  obtain ⟨xs, hq, hx⟩ := hg
  obtain ⟨⟨old, he⟩, hit⟩ := st
  obtain ⟨its, rv, p, hz⟩ := I.list hq
  obtain ⟨g0, g1, g2, g3, g4, g5⟩ := hf it (by simp)
  have hl := rv.length
  exact wpAny_pyNext_enum_end (I.ok.hd hc) he hit p.isList (by simp; omega) fun h' eb => ⟨rfl, I.turned (t' := s.toks) (it := it) (fun b o hb z => eb b o hb z) g0 g1 g3 g4 g5⟩
 self := fun _ _ _ _ _ st h => let ⟨⟨_, he⟩, _⟩ := st; wpAny_pyIter_enum he h
theorem pi_enum {elts : List Expr} {x1 : Nat} {tpos : Pos} {a : Expr} {ta : TA} {p pos : Pos} (hg : Gl X "enumerate") (hm : X.mg "enumerate" = none) (ha : PA X [a] ta) (hs : starEach [a] X.env = [(false, eval a X.env)] := by rfl) :
  PI X (.Tuple elts x1 tpos) (.Call (.Name "enumerate" p) [a] [] pos) (iEnum X.K ta) := by
 intro pins s σ H R I h
 refine Call_ (ld_blt I hg hm Boot.«enumerate» (PyProof.Rows.callWith_type1 (thn (ha pos pins s σ H _ I h) fun us s1 ⟨vs, H1, I1, r1, q1⟩ => ?_) hs rfl))
 obtain ⟨b, e, ⟨xs, hq⟩, q⟩ := q1
 subst e
 obtain ⟨u, rfl, ru⟩ := vals1 r1
 obtain rfl : u = Value.ref b := ru
 obtain ⟨its, rv, pl, hz⟩ := I1.list hq
 refine call_enumerate_list pl.isList fun h' he hit hsz hk => ?_
 have I2 : Inv X pins σ H1 { s1 with heap := h' } := I1.kept (t' := s1.toks) hk
 refine wpAny_pyIter_enum he ?_
 have nn : ∀ k, s1.heap.objs.size <= k -> H1 k = none := fun k hk => I1.hok.fresh hk
 refine ⟨s1.heap.objs.size + 1, [s1.heap.objs.size + 1, s1.heap.objs.size], _, _, H1, rfl, I2, turn_enum b _ _ (Nat.succ_ne_self _), ⟨⟨_, he⟩, hit⟩, fun c hc => ?_, q⟩
 have hle : s1.heap.objs.size <= c := by
  rcases List.mem_cons.mp hc with q | hc
  ·rw [q]; exact Nat.le_succ _
  ·have q : c = s1.heap.objs.size := by simpa using hc
   rw [q]; exact Nat.le_refl _
 exact I1.fpOk hle (nn c hle)
end
section
variable {X : Cx}
theorem kV_vals {k : Key} {y : V} {us : List Value} (r : Vals [kV k, y] us) : ∃ u v, us = [u, v] /\ RelV (kV k) u /\ RelV y v := vals_two r
def rSetDef : V -> List V -> Hp -> VK -> Prop := fun x vs H Q => ∃ d kvs k y, x = .ref d /\ vs = [kV k, y] /\ H d = some (.dK kvs) /\ kvs.length < sizeLine /\ (∀ v, valV kvs k = some v -> Q v H) /\ (valV kvs k = none -> Q y (upd H d (.dK (kvs ++ [(k, y)]))))
theorem mt_setdefault : MtM X "dict.setdefault" rSetDef := by
 intro pins s σ H x vs v us Q I rx rv h
 obtain ⟨d, kvs, k, y, rfl, rfl, hH, hz, h1, h2⟩ := h
 cases rx
 obtain ⟨uk, uy, rfl, rk, ry⟩ := kV_vals rv
 obtain ⟨z, hd, ws, rel, dd⟩ := dk_of I.hok hH
 refine call_meetsIn PySem.F.slot_dict_setdefault dd.typeIs PySem.F.entry_dict_setdefault (PySem.F.args_dict_setdefault_3 _ _ _) (kt_meets_setdefault (mixKind X.prog X.w) d (kV_is rk) hd uy)
  ⟨ws, dd, by rw [<- rel.length]; exact z, fun v' hv' => ?_, fun hn h' dd' hs => ?_⟩
 ·cases e : valV kvs k with
  | none =>
   have q := rel.val k
   rw [e, hv'] at q
   exact False.elim q
  | some w' =>
   have q := rel.val k
   rw [e, hv'] at q
   exact ⟨w', H, I.tok _, q, h1 w' e⟩
 ·have e : valV kvs k = none := by
   cases e : valV kvs k with
   | none => rfl
   | some w' =>
    have q := rel.val k
    rw [e, hn] at q
    exact False.elim q
  have he : ∃ q, h'.get? d = some q := let ⟨q, _, _, hq, _⟩ := dd'; ⟨q, hq⟩
  refine ⟨y, _, d_write (ob := .dK (putK kvs k y)) I (by rw [hH]; exact True.intro) hs he (dk_new ?_ hd (rel.put k ry) dd'), ry, ?_⟩
  ·have := length_putK kvs k y; omega
  ·rw [putK_new y e]; exact h2 e
def viewO (p d : Addr) : HO := .ext fun h => h.IsValuesView p d
def rValues : V -> List V -> Hp -> VK -> Prop := fun x vs H Q => ∃ d kvs, x = .ref d /\ vs = [] /\ H d = some (.dK kvs) /\ ∀ p, H p = none -> Q (.ref p) (upd H p (viewO p d))
theorem mt_values : MtM X "dict.values" rValues := by
 intro pins s σ H x vs v us Q I rx rv h
 obtain ⟨d, kvs, rfl, rfl, hH, q⟩ := h
 cases rx
 cases rv
 obtain ⟨z, hd, ws, rel, dd⟩ := dk_of I.hok hH
 refine call_meetsIn PySem.F.slot_dict_values dd.typeIs PySem.F.entry_dict_values (PySem.F.args_dict_values_1 _) (meets_dict_values (mixKind X.prog X.w) d hd) ⟨⟨ws, dd⟩, ?_⟩
 refine ⟨.ref s.heap.objs.size, _, I.laid (o := viewO s.heap.objs.size d) (fun b u e => Heap.get?_push_of_some _ e) (Nat.le_refl _) ?_, rfl, q _ (I.hok.fresh (Nat.le_refl _))⟩
 have e := Heap.get?_push_size s.heap (o := { cls := .type "dict_values", data := .fields #[.ref d] }) rfl
 exact ⟨⟨_, e, rfl, rfl⟩, ⟨_, e⟩, fun h1 h2 ⟨o, ho, r⟩ k => ⟨o, k o ho, r⟩⟩
theorem dictAt_of {P : Program} {w : World} {h : Heap} {d : Addr} {ws : List (Key × Value)} (dd : h.DictOf (mixKind P w) d ws) : ∃ ep, h.DictAt (mixKind P w) d ws ep := by
 obtain ⟨o, es, ep, r⟩ := dd
 exact ⟨ep, o, es, r⟩
theorem vals_snd {κ : Type} : ∀ {kvs : List (κ × V)} {ws : List (κ × Value)}, KV kvs ws -> Vals (kvs.map (·.2)) (ws.map (·.2))
 | _, _, .nil => .nil
 | _, _, .cons r t => .cons r.2 (vals_snd t)
theorem call_list_view (hc : X.calm = true) : CallR X (.type "list") (fun xs H Q => ∃ p d kvs, xs = [.ref p] /\ H p = some (viewO p d) /\ H d = some (.dK kvs) /\ ∀ l, H l = none -> Q (.ref l) (upd H l (.lst (kvs.map (·.2))))) := by
 intro pins s σ H xs us Q I r h
 obtain ⟨p, d, kvs, rfl, hp, hd, q⟩ := h
 obtain ⟨u, rfl, ru⟩ := vals1 r
 obtain rfl : u = Value.ref p := ru
 obtain ⟨hv, _, _⟩ := (show ObjOk X.prog X.w H s.heap p (viewO p d) from I.hok p _ hp)
 obtain ⟨z, hds, ws, rel, dd⟩ := dk_of I.hok hd
 obtain ⟨ep, da⟩ := dictAt_of dd
 have hl : ws.length = kvs.length := rel.length.symm
 refine PySem.W.kdl_call (PySem.W.kdl_values (knd := mixKind X.prog X.w) (kvs := ws) (ep := ep) (r := p) (d := d)) (I.ok.hd hc) ⟨hv, da⟩ (by omega) fun h' tk acc c' hk hS ha => ?_
 have ea : acc.toList = ws.map (·.2) := by
  refine List.ext_getElem? fun i => ?_
  cases e : acc.toList[i]? with
  | none =>
   have : ws.length <= i := by
    have := List.getElem?_eq_none_iff.mp e
    rw [Array.length_toList, ha.1] at this
    exact this
   rw [List.getElem?_eq_none_iff.mpr (by rw [List.length_map]; exact this)]
  | some v =>
   obtain ⟨k, ek⟩ := ha.2 i v (by simpa using e)
   rw [List.getElem?_map, ek]
   rfl
 refine ⟨.ref s.heap.objs.size, _, I.laid (o := .lst (kvs.map (·.2))) hk (Nat.le_refl _) ⟨by rw [List.length_map]; exact z, acc.toList, c', ?_, by rw [hS]⟩, rfl, q _ (I.hok.fresh (Nat.le_refl _))⟩
 rw [ea]
 exact vals_snd rel
end
inductive EqD (K : PySem.W.Frag) (H : Hp) : Nat -> V -> V -> Bool -> Prop
 | flat {n : Nat} {x y : V} (fx : flatV x = true) (fy : flatV y = true) : EqD K H n x y (eqV x y)
 | lsts {n : Nat} {a b : Addr} {xs ys : List V} {e : Nat -> Bool} (ha : SqL K H a xs) (hb : SqL K H b ys) (hl : xs.length = ys.length) (h : ∀ i x y, xs[i]? = some x -> ys[i]? = some y -> EqD K H n x y (e i)) : EqD K H (n + 1) (.ref a) (.ref b) ((List.range xs.length).all e)
 | lens {n : Nat} {a b : Addr} {xs ys : List V} (ha : SqL K H a xs) (hb : SqL K H b ys) (hl : xs.length ≠ ys.length) : EqD K H (n + 1) (.ref a) (.ref b) false
 | tups {n : Nat} {a b : Addr} {xs ys : List V} {e : Nat -> Bool} (ha : SqT K H a xs) (hb : SqT K H b ys) (h : ∀ i x y, xs[i]? = some x -> ys[i]? = some y -> EqD K H n x y (e i)) :
   EqD K H (n + 1) (.ref a) (.ref b) ((List.range (min xs.length ys.length)).all e && xs.length == ys.length)
theorem eqV_self {x : V} (h : flatV x = true) : eqV x x = true := by
 cases x <;> first | rfl | (simp [eqV]; done) | exact absurd (show false = true from h) Bool.false_ne_true
section
variable {X : Cx} {pins : List (Addr × Obj)} {σ : St} {H : Hp} {s : Shared}
theorem Vals.at {xs : List V} {us : List Value} {j : Nat} (r : Vals xs us) (h : j < us.length) : ∃ x, xs[j]? = some x /\ RelV x us[j] := by
 have hl := r.length
 have hx : xs[j]? = some (xs[j]'(by omega)) := List.getElem?_eq_getElem (by omega)
 obtain ⟨u, e, ru⟩ := r.get hx
 rw [List.getElem?_eq_getElem h] at e
 cases e
 exact ⟨_, hx, ru⟩
theorem EqD.self {n : Nat} {x y : V} {b : Bool} (q : EqD X.K H n x y b) (I : Inv X pins σ H s) : x = y -> b = true := by
 induction q with
 | flat fx fy => intro e; subst e; exact eqV_self fx
 | @lsts n a b xs ys e ha hb hl h ih =>
  intro z
  cases z
  have e1 : xs = ys := I.list_inj ha hb
  subst e1
  rw [List.all_eq_true]
  intro i hi
  have hx : xs[i]? = some (xs[i]'(List.mem_range.mp hi)) := List.getElem?_eq_getElem _
  exact ih i _ _ hx hx rfl
 | @lens n a b xs ys ha hb hl =>
  intro z
  cases z
  exact absurd (congrArg List.length (I.list_inj ha hb)) hl
 | @tups n a b xs ys e ha hb h ih =>
  intro z
  cases z
  have e1 : xs = ys := I.tuple_inj ha hb
  subst e1
  rw [Nat.min_self, Bool.and_eq_true, List.all_eq_true]
  refine ⟨fun i hi => ?_, by simp⟩
  have hx : xs[i]? = some (xs[i]'(List.mem_range.mp hi)) := List.getElem?_eq_getElem _
  exact ih i _ _ hx hx rfl
theorem EqD.at {n : Nat} {x y : V} {b : Bool} (q : EqD X.K H n x y b) (I : Inv X pins σ H s) : ∀ {A : Around} {u v : Value}, A.units + n < cLine -> RelV x u -> RelV y v -> SeqAt.EqAt A s u v b := by
 induction q with
 | flat fx fy => intro A u v _ ru rv; exact eqAt_V ru rv fx fy
 | @lsts n a b xs ys e ha hb hl h ih =>
  intro A u v hu ru rv
  obtain rfl : u = Value.ref a := ru
  obtain rfl : v = Value.ref b := rv
  by_cases hab : a = b
  ·have z := EqD.self (EqD.lsts ha hb hl h) I (congrArg V.ref hab)
   rw [z, hab]
   exact SeqAt.EqAt.same _
  obtain ⟨us, rx, px, _⟩ := I.list ha
  obtain ⟨vs, ry, py, _⟩ := I.list hb
  have l1 := rx.length
  have l2 := ry.length
  have z := SeqAt.RcAt.lists (A := A) (s := s) (e := e) px.isList py.isList (by rw [List.size_toArray, List.size_toArray]; omega) (by omega) fun j h1 h2 => by
   obtain ⟨x, ex, rx'⟩ := rx.at (j := j) (by simpa using h1)
   obtain ⟨y, ey, ry'⟩ := ry.at (j := j) (by simpa using h2)
   exact ih j x y ex ey (A := A.in1) (by show A.units + 1 + n < cLine; omega) (by simpa using rx') (by simpa using ry')
  rw [List.size_toArray, <- l1] at z
  exact SeqAt.EqAt.of_refs hab z
 | @lens n a b xs ys ha hb hl =>
  intro A u v hu ru rv
  obtain rfl : u = Value.ref a := ru
  obtain rfl : v = Value.ref b := rv
  obtain ⟨us, rx, px, _⟩ := I.list ha
  obtain ⟨vs, ry, py, _⟩ := I.list hb
  have l1 := rx.length
  have l2 := ry.length
  have hab : a ≠ b := fun z => by
   subst z
   exact hl (congrArg List.length (I.list_inj ha hb))
  exact SeqAt.EqAt.of_refs hab (SeqAt.RcAt.lists_lengths px.isList py.isList (by rw [List.size_toArray, List.size_toArray]; simp; omega) (by omega))
 | @tups n a b xs ys e ha hb h ih =>
  intro A u v hu ru rv
  obtain rfl : u = Value.ref a := ru
  obtain rfl : v = Value.ref b := rv
  by_cases hab : a = b
  ·have z := EqD.self (EqD.tups ha hb h) I (congrArg V.ref hab)
   rw [z, hab]
   exact SeqAt.EqAt.same _
  obtain ⟨us, rx, px, _⟩ := I.tuple ha
  obtain ⟨vs, ry, py, _⟩ := I.tuple hb
  have l1 := rx.length
  have l2 := ry.length
  have z := SeqAt.RcAt.tuples (A := A) (s := s) (e := e) (show s.heap.IsTuple a us.toArray from px) (show s.heap.IsTuple b vs.toArray from py) (by omega) fun j h1 h2 => by
   obtain ⟨x, ex, rx'⟩ := rx.at (j := j) (by simpa using h1)
   obtain ⟨y, ey, ry'⟩ := ry.at (j := j) (by simpa using h2)
   exact ih j x y ex ey (A := A.in1) (by show A.units + 1 + n < cLine; omega) (by simpa using rx') (by simpa using ry')
  rw [List.size_toArray, List.size_toArray, <- l1, <- l2] at z
  exact SeqAt.EqAt.of_refs hab z
end
section
variable {X : Cx}
def rEqD (K : PySem.W.Frag) (neg : Bool) : R2 := fun x y H Q => ∃ n b p q, x = .ref p /\ y = .ref q /\ n <= 6 /\ EqD K H n x y b /\ Q (.bl (if neg then !b else b)) H
theorem op_eqD (hu : X.A.units + 8 < cLine) : OpR X (compareOp .Eq) (rEqD X.K false) := by
 intro pins s σ H x y u v Q I ru rv h
 obtain ⟨n, b, p, q, rfl, rfl, hn, d, hq⟩ := h
 obtain rfl : u = Value.ref p := ru
 obtain rfl : v = Value.ref q := rv
 have fin : EP X pins σ Q (.bool b) s := ⟨.bl b, H, I, rfl, hq⟩
 cases d with
 | flat fx fy => exact absurd (show false = true from fx) Bool.false_ne_true
 | @lsts n _ _ xs ys e ha hb hl h =>
  obtain ⟨us, rx, px, _⟩ := I.list ha
  obtain ⟨vs, ry, py, _⟩ := I.list hb
  have l1 := rx.length
  have l2 := ry.length
  refine SeqAt.eq_listAt (e := e) px.isList py.isList (by rw [List.size_toArray, List.size_toArray]; omega) (by omega) (fun j h1 h2 => ?_) (by rw [List.size_toArray, <- l1]; exact fin)
  obtain ⟨x, ex, rx'⟩ := rx.at (j := j) (by simpa using h1)
  obtain ⟨y, ey, ry'⟩ := ry.at (j := j) (by simpa using h2)
  exact (h j x y ex ey).at I (A := X.A.in1) (by show X.A.units + 1 + n < cLine; omega) (by simpa using rx') (by simpa using ry')
 | @lens n _ _ xs ys ha hb hl =>
  obtain ⟨us, rx, px, _⟩ := I.list ha
  obtain ⟨vs, ry, py, _⟩ := I.list hb
  have l1 := rx.length
  have l2 := ry.length
  exact SeqAt.eq_list_lengthsAt px.isList py.isList (by rw [List.size_toArray, List.size_toArray]; simp; omega) (by omega) fin
 | @tups n _ _ xs ys e ha hb h =>
  obtain ⟨us, rx, px, _⟩ := I.tuple ha
  obtain ⟨vs, ry, py, _⟩ := I.tuple hb
  have l1 := rx.length
  have l2 := ry.length
  refine SeqAt.eq_tupleAt (e := e) (show s.heap.IsTuple p us.toArray from px) (show s.heap.IsTuple q vs.toArray from py) (by omega) (fun j h1 h2 => ?_) (by rw [List.size_toArray, List.size_toArray, <- l1, <- l2]; exact fin)
  obtain ⟨x, ex, rx'⟩ := rx.at (j := j) (by simpa using h1)
  obtain ⟨y, ey, ry'⟩ := ry.at (j := j) (by simpa using h2)
  exact (h j x y ex ey).at I (A := X.A.in1) (by show X.A.units + 1 + n < cLine; omega) (by simpa using rx') (by simpa using ry')
theorem op_neD (hu : X.A.units + 8 < cLine) : OpR X (compareOp .NotEq) (rEqD X.K true) := by
 intro pins s σ H x y u v Q I ru rv h
 obtain ⟨n, b, p, q, rfl, rfl, hn, d, hq⟩ := h
 obtain rfl : u = Value.ref p := ru
 obtain rfl : v = Value.ref q := rv
 have fin : EP X pins σ Q (.bool (!b)) s := ⟨.bl (!b), H, I, rfl, hq⟩
 cases d with
 | flat fx fy => exact absurd (show false = true from fx) Bool.false_ne_true
 | @lsts n _ _ xs ys e ha hb hl h =>
  obtain ⟨us, rx, px, _⟩ := I.list ha
  obtain ⟨vs, ry, py, _⟩ := I.list hb
  have l1 := rx.length
  have l2 := ry.length
  refine SeqAt.RcNeAt.lists (e := e) px.isList py.isList (by rw [List.size_toArray, List.size_toArray]; omega) (by omega) (fun j h1 h2 => ?_) _ _ _ _ (by rw [List.size_toArray, <- l1]; exact fin)
  obtain ⟨x, ex, rx'⟩ := rx.at (j := j) (by simpa using h1)
  obtain ⟨y, ey, ry'⟩ := ry.at (j := j) (by simpa using h2)
  exact (h j x y ex ey).at I (A := X.A.in1) (by show X.A.units + 1 + n < cLine; omega) (by simpa using rx') (by simpa using ry')
 | @lens n _ _ xs ys ha hb hl =>
  obtain ⟨us, rx, px, _⟩ := I.list ha
  obtain ⟨vs, ry, py, _⟩ := I.list hb
  have l1 := rx.length
  have l2 := ry.length
  exact SeqAt.RcNeAt.lists_lengths px.isList py.isList (by rw [List.size_toArray, List.size_toArray]; simp; omega) (by omega) _ _ _ _ fin
 | @tups n _ _ xs ys e ha hb h =>
  obtain ⟨us, rx, px, _⟩ := I.tuple ha
  obtain ⟨vs, ry, py, _⟩ := I.tuple hb
  have l1 := rx.length
  have l2 := ry.length
  refine SeqAt.RcNeAt.tuples (e := e) (show s.heap.IsTuple p us.toArray from px) (show s.heap.IsTuple q vs.toArray from py) (by omega) (fun j h1 h2 => ?_) _ _ _ _ (by rw [List.size_toArray, List.size_toArray, <- l1, <- l2]; exact fin)
  obtain ⟨x, ex, rx'⟩ := rx.at (j := j) (by simpa using h1)
  obtain ⟨y, ey, ry'⟩ := ry.at (j := j) (by simpa using h2)
  exact (h j x y ex ey).at I (A := X.A.in1) (by show X.A.units + 1 + n < cLine; omega) (by simpa using rx') (by simpa using ry')
end
end L2
namespace My
open PySem L2
abbrev IL (ns : List Int) : List V := ns.map V.int
theorem il_length (ns : List Int) : (IL ns).length = ns.length := List.length_map ..
theorem il_append (a b : List Int) : IL (a ++ b) = IL a ++ IL b := List.map_append ..
theorem il_snoc (a : List Int) (r : Int) : IL (a ++ [r]) = IL a ++ [.int r] := List.map_append ..
theorem il_take (a : List Int) (n : Nat) : IL (a.take n) = (IL a).take n := List.map_take ..
theorem il_drop (a : List Int) (n : Nat) : IL (a.drop n) = (IL a).drop n := List.map_drop ..
theorem il_at {ns : List Int} {i : Nat} {z : Int} (h : ns[i]? = some z) : (IL ns)[i]? = some (.int z) := by rw [List.getElem?_map, h]; rfl
theorem il_get {ns : List Int} {i : Nat} {x : V} (h : (IL ns)[i]? = some x) : ∃ z, x = .int z /\ ns[i]? = some z := by
 rw [List.getElem?_map] at h
 cases e : ns[i]? with
 | none => rw [e] at h; cases h
 | some z => rw [e] at h; exact ⟨z, (Option.some.inj h).symm, rfl⟩
theorem same_upd {H H2 : Hp} {a : Addr} {o : HO} (hn : H a = none) (s : Same H H2) : Same H (upd H2 a o) := fun b u e => by rw [upd_ne (ne_of_none e hn)]; exact s b u e
theorem same_new {H H2 : Hp} {p : Addr} {o : HO} (s : Same H H2) (hp : H2 p = none) : Same H (upd H2 p o) := same_upd (s.free hp) s
theorem same_at {H : Hp} {p : Addr} {o : HO} (hp : H p = none) : Same H (upd H p o) := same_new (Same.refl H) hp
theorem sqT_same {K : PySem.W.Frag} {H H' : Hp} {a : Addr} {xs : List V} (e : Same H H') (h : SqT K H a xs) : SqT K H' a xs := by
 rcases h with (h | ⟨o, h⟩) | h
 ·exact .inl (.inl (e _ _ h))
 ·exact .inl (.inr ⟨o, e _ _ h⟩)
 ·exact .inr h
theorem small60 {n : Nat} (h : n <= 1000000) : n <= sizeLine := Nat.le_trans h (by decide)
theorem small60' {n : Nat} (h : n <= 1000000) : n < sizeLine := Nat.lt_of_le_of_lt h (by decide)
theorem hu8 {A : Around} {k : Nat} (hr : Room k A) : A.units + 8 < cLine := Nat.lt_of_le_of_lt (Nat.add_le_add_left (by decide : 8 <= 64) _) hr.units
theorem atI_of {α : Type} {xs : List α} {i : Int} {n : Nat} {x : α} (hi : i = (n : Int)) (h : xs[n]? = some x) : atI xs i = some x := by
 subst hi
 have hn : n < xs.length := (List.getElem?_eq_some_iff.mp h).1
 unfold atI ixN
 rw [if_pos (Int.natCast_nonneg n), if_pos (by omega)]
 simpa using h
theorem itd {c A B : Prop} [Decidable c] (hc : c) (h : A) : if decide c = true then A else B := by rw [if_pos (decide_eq_true hc)]; exact h
theorem itdn {c A B : Prop} [Decidable c] (hc : ¬ c) (h : B) : if decide c = true then A else B := by rw [if_neg (by simp [hc])]; exact h
theorem itn {c A B : Prop} [Decidable c] (hc : c) (h : B) : if (!decide c) = true then A else B := by rw [if_neg (by simp [hc])]; exact h
theorem itnn {c A B : Prop} [Decidable c] (hc : ¬ c) (h : A) : if (!decide c) = true then A else B := by rw [if_pos (by simp [hc])]; exact h
theorem itd2 {c A B : Prop} [Decidable c] (h1 : c -> A) (h2 : ¬ c -> B) : if decide c = true then A else B := by
 by_cases h : c
 ·exact itd h (h1 h)
 ·exact itdn h (h2 h)
theorem itn2 {c A B : Prop} [Decidable c] (h1 : c -> B) (h2 : ¬ c -> A) : if (!decide c) = true then A else B := by
 by_cases h : c
 ·exact itn h (h1 h)
 ·exact itnn h (h2 h)
theorem itb {b : Bool} {A B : Prop} (h1 : b = true -> A) (h2 : b = false -> B) : if b = true then A else B := by
 cases b with
 | true => exact iteT (h1 rfl)
 | false => exact iteF (h2 rfl)
theorem itnb {b : Bool} {A B : Prop} (h1 : b = true -> B) (h2 : b = false -> A) : if (!b) = true then A else B := by
 cases b with
 | true => exact iteF (h1 rfl)
 | false => exact iteT (h2 rfl)
def SqK (k : Bool) (K : PySem.W.Frag) (H : Hp) (a : Addr) (xs : List V) : Prop := match k with
 | false => SqL K H a xs
 | true => SqT K H a xs
theorem SqK.same {k : Bool} {K : PySem.W.Frag} {H H' : Hp} {a : Addr} {xs : List V} (e : Same H H') (h : SqK k K H a xs) : SqK k K H' a xs := by
 cases k with
 | false => exact e.seq h
 | true => exact sqT_same e h
theorem SqK.or {k : Bool} {K : PySem.W.Frag} {H : Hp} {a : Addr} {xs : List V} (h : SqK k K H a xs) : SqL K H a xs \/ SqT K H a xs := by
 cases k with
 | false => exact .inl h
 | true => exact .inr h
def iSeq (K : PySem.W.Frag) (tl : TE) : TI := fun σ H R => tl σ H fun x H1 => ∃ a, x = .ref a /\ (((∃ xs, SqL K H1 a xs) /\ R (Itl K a) H1) \/ ((∃ xs, SqT K H1 a xs) /\ R (Itt K a) H1))
theorem pi_seq {X : Cx} {tg : Expr} {l : Expr} {tl : TE} (hl : PE X l tl) : PI X tg l (iSeq X.K tl) := by
 intro pins s σ H R I h
 refine thn (hl pins s σ H _ I h) fun v s1 ⟨x, H1, I1, r1, q1⟩ => ?_
 obtain ⟨a, e, q⟩ := q1
 subst e
 cases r1
 rcases q with ⟨⟨xs, hq⟩, q⟩ | ⟨⟨xs, hq⟩, q⟩
 ·obtain ⟨its, rv, p, hz⟩ := I1.list hq
  refine wpAny_pyIter_list p.isList ?_
  refine ⟨s1.heap.objs.size, [s1.heap.objs.size], _, _, H1, rfl, I1.kept (t' := s1.toks) fun b o e => Heap.get?_push_of_some _ e, turn_list a _, ⟨_, Heap.get?_push_size _ rfl, rfl, rfl⟩, fun b hb => ?_, q⟩
  have e : b = s1.heap.objs.size := by simpa using hb
  subst e
  exact I1.fpOk (Nat.le_refl _) (I1.hok.fresh (Nat.le_refl _))
 ·obtain ⟨its, rv, p, hz⟩ := I1.tuple hq
  refine wpAny_pyIter_tuple (show s1.heap.IsTuple a its.toArray from p) ?_
  refine ⟨s1.heap.objs.size, [s1.heap.objs.size], _, _, H1, rfl, I1.kept (t' := s1.toks) fun b o e => Heap.get?_push_of_some _ e, turn_tuple a _, ⟨_, Heap.get?_push_size _ rfl, rfl, rfl⟩, fun b hb => ?_, q⟩
  have e : b = s1.heap.objs.size := by simpa using hb
  subst e
  exact I1.fpOk (Nat.le_refl _) (I1.hok.fresh (Nat.le_refl _))
theorem for_seq {K : PySem.W.Frag} {k : Bool} {a : Addr} {xs : List V} {g : TG} {tb : TS} {D : Ends} {σ : St} {H : Hp} (Pv : Nat -> St -> Hp -> Prop) (h0 : Pv 0 σ H) (hl : ∀ i σ H, i <= xs.length -> Pv i σ H -> SqK k K H a xs)
  (hs : ∀ i x σ H, xs[i]? = some x -> Pv i σ H -> g x σ H fun σ2 H2 => tb { D with nx := Pv (i + 1), ct := Pv (i + 1), bk := D.nx } σ2 H2) (hd : ∀ σ H, Pv xs.length σ H -> D.nx σ H) :
  (((∃ xs, SqL K H a xs) /\ ∃ W : Nat -> Nat -> St -> Hp -> Prop, (∃ m, W 0 m σ H) /\ ∀ i m σ H, W i m σ H ->
   ((Itl K a).stop i H /\ D.nx σ H) \/ ((Itl K a).go i H /\ ∃ N : St -> Hp -> Prop, (∀ σ' H', N σ' H' -> ∃ m', m' < m /\ W (i + 1) m' σ' H') /\ ∀ x H', (Itl K a).yld i H x H' -> g x σ H' fun σ2 H2 => tb { D with nx := N, ct := N, bk := D.nx } σ2 H2)) \/
  ((∃ xs, SqT K H a xs) /\ ∃ W : Nat -> Nat -> St -> Hp -> Prop, (∃ m, W 0 m σ H) /\ ∀ i m σ H, W i m σ H ->
   ((Itt K a).stop i H /\ D.nx σ H) \/ ((Itt K a).go i H /\ ∃ N : St -> Hp -> Prop, (∀ σ' H', N σ' H' -> ∃ m', m' < m /\ W (i + 1) m' σ' H') /\ ∀ x H', (Itt K a).yld i H x H' -> g x σ H' fun σ2 H2 => tb { D with nx := N, ct := N, bk := D.nx } σ2 H2))) := by
 cases k with
 | false => exact .inl ⟨⟨xs, hl 0 σ H (Nat.zero_le _) h0⟩, for_list (K := K) (a := a) (xs := xs) Pv h0 hl hs hd⟩
 | true => exact .inr ⟨⟨xs, hl 0 σ H (Nat.zero_le _) h0⟩, for_tup (K := K) (a := a) (xs := xs) Pv h0 hl hs hd⟩
def PairV (H : Hp) (v : V) (p : Int × Int) : Prop := ∃ t, v = .ref t /\ H t = some (.tup [.int p.1, .int p.2])
def PairsV (H : Hp) (xs : List V) (ps : List (Int × Int)) : Prop := xs.length = ps.length /\ ∀ (i : Nat) (p : Int × Int), ps[i]? = some p -> ∃ v, xs[i]? = some v /\ PairV H v p
theorem PairV.same {H H' : Hp} {v : V} {p : Int × Int} (s : Same H H') (h : PairV H v p) : PairV H' v p := let ⟨t, e, q⟩ := h; ⟨t, e, s _ _ q⟩
theorem PairsV.same {H H' : Hp} {xs : List V} {ps : List (Int × Int)} (s : Same H H') (h : PairsV H xs ps) : PairsV H' xs ps := ⟨h.1, fun i p e => let ⟨v, e1, q⟩ := h.2 i p e; ⟨v, e1, q.same s⟩⟩
theorem PairsV.at {H : Hp} {xs : List V} {ps : List (Int × Int)} (h : PairsV H xs ps) {i : Nat} {v : V} (e : xs[i]? = some v) : ∃ p, ps[i]? = some p /\ PairV H v p := by
 have hi : i < xs.length := (List.getElem?_eq_some_iff.mp e).1
 have hp : i < ps.length := by rw [<- h.1]; exact hi
 obtain ⟨v', e1, q⟩ := h.2 i ps[i] (List.getElem?_eq_getElem hp)
 rw [e] at e1
 cases e1
 exact ⟨_, List.getElem?_eq_getElem hp, q⟩
theorem PairsV.nil {H : Hp} : PairsV H [] [] := ⟨rfl, fun i p e => by simp at e⟩
theorem PairsV.snoc {H : Hp} {xs : List V} {ps : List (Int × Int)} {v : V} {p : Int × Int} (h : PairsV H xs ps) (q : PairV H v p) : PairsV H (xs ++ [v]) (ps ++ [p]) := by
 refine ⟨by rw [List.length_append, List.length_append, h.1]; rfl, fun i p' e => ?_⟩
 by_cases hi : i < ps.length
 ·rw [List.getElem?_append_left hi] at e
  rw [List.getElem?_append_left (by rw [h.1]; exact hi)]
  exact h.2 i p' e
 ·have hl : i = ps.length := by
   have := (List.getElem?_eq_some_iff.mp e).1
   rw [List.length_append, List.length_singleton] at this
   omega
  subst hl
  rw [List.getElem?_append_right (Nat.le_refl _), Nat.sub_self] at e
  rw [List.getElem?_append_right (by rw [h.1]; exact Nat.le_refl _), h.1, Nat.sub_self]
  have e' : p = p' := Option.some.inj e
  subst e'
  exact ⟨v, rfl, q⟩
theorem PairsV.drop {H : Hp} {xs : List V} {ps : List (Int × Int)} (h : PairsV H xs ps) (n : Nat) : PairsV H (xs.drop n) (ps.drop n) := by
 refine ⟨by rw [List.length_drop, List.length_drop, h.1], fun i p e => ?_⟩
 rw [List.getElem?_drop] at e ⊢
 exact h.2 _ p e
theorem PairsV.take {H : Hp} {xs : List V} {ps : List (Int × Int)} (h : PairsV H xs ps) (n : Nat) : PairsV H (xs.take n) (ps.take n) := by
 refine ⟨by rw [List.length_take, List.length_take, h.1], fun i p e => ?_⟩
 by_cases hi : i < n
 ·rw [List.getElem?_take_of_lt hi] at e ⊢
  exact h.2 _ p e
 ·rw [List.getElem?_take_eq_none (by omega)] at e
  cases e
theorem PairsV.app {H : Hp} {xs ys : List V} {ps qs : List (Int × Int)} (h : PairsV H xs ps) (h2 : PairsV H ys qs) : PairsV H (xs ++ ys) (ps ++ qs) := by
 refine ⟨by rw [List.length_append, List.length_append, h.1, h2.1], fun i p e => ?_⟩
 by_cases hi : i < ps.length
 ·rw [List.getElem?_append_left hi] at e
  rw [List.getElem?_append_left (by rw [h.1]; exact hi)]
  exact h.2 i p e
 ·rw [List.getElem?_append_right (by omega)] at e
  rw [List.getElem?_append_right (by rw [h.1]; omega), h.1]
  exact h2.2 _ p e
theorem pt_ne : ¬ (("places" : Str) = "ties") := by decide +kernel
def wf (n : Int) (tl : Addr) : List (Str × V) := putF "ties" (.ref tl) (putF "places" (.int n) [])
theorem wf_places (n : Int) (tl : Addr) : (wf n tl).lookup ("places" : Str) = some (.int n) := by
 unfold wf
 rw [lookup_putF, if_neg pt_ne, lookup_putF, if_pos rfl]
theorem wf_ties (n : Int) (tl : Addr) : (wf n tl).lookup ("ties" : Str) = some (.ref tl) := by
 unfold wf
 rw [lookup_putF, if_pos rfl]
def WebAt (C : Addr) (H : Hp) (w : Addr) (n : Int) (ps : List (Int × Int)) : Prop := ∃ dx tl xs, H w = some (.ins C dx (wf n tl)) /\ H tl = some (.lst xs) /\ PairsV H xs ps
theorem WebAt.same {C : Addr} {H H' : Hp} {w : Addr} {n : Int} {ps : List (Int × Int)} (s : Same H H') (h : WebAt C H w n ps) : WebAt C H' w n ps := let ⟨dx, tl, xs, a, b, c⟩ := h; ⟨dx, tl, xs, s _ _ a, s _ _ b, c.same s⟩
def GoodW (n : Int) (ps : List (Int × Int)) : Prop := 1 <= n /\ n <= 14 /\ ps.length <= 30 /\ ∀ p ∈ ps, 0 <= p.1 /\ p.1 < n /\ 0 <= p.2 /\ p.2 < n
def FX (K : PySem.W.Frag) (mg : Str -> Option Value) (x qual : Str) (st : Stmt) : Prop := ∃ (f : Addr) (fd : FuncData), mg x = some (.ref f) /\ Fun K x qual st f fd
theorem fx_mk {K : PySem.W.Frag} {h : Heap} {mg : Str -> Option Value} {x : Str} {st : Stmt} {f : Addr} {oc : Value} {od an : Option Addr} {osl : Array (Option Value)} {kV doc pm cdv ct : Value} (X : K.In h) (G : h.Ns mainGlobals mg)
  (a : PySem.W.nsIn K mainGlobals x = some (some (.ref f))) (l : K.lookup f = some ⟨oc, od, .func (PySem.W.fnOf x x (defArgs st) (defBody st) (defScope st) .none kV doc pm an cdv ct), osl⟩) (c : PySem.W.codeIn K cdv x = true) (k : PySem.W.keepIn K (.ref f) = true) : FX K mg x x st :=
 ⟨f, _, PySem.W.mg_of X G a, fun_mk l c k⟩
def CXF (K : PySem.W.Frag) (mg : Str -> Option Value) (x qual : Str) (st : Stmt) (fs : List Str) : Prop := ∃ (C f : Addr) (fd : FuncData), mg x = some (.ref C) /\ Fun K "__init__" qual st f fd /\ Cls K C /\ Mk K C f /\ ∀ a ∈ fs, NoAttr K C a
theorem cx_mk {K : PySem.W.Frag} {h : Heap} {mg : Str -> Option Value} {x qual : Str} {fs : List Str} {st : Stmt} {C f : Addr} {oc : Value} {od an : Option Addr} {osl : Array (Option Value)} {kV doc pm cdv ct : Value} (X : K.In h) (G : h.Ns mainGlobals mg)
  (aC : PySem.W.nsIn K mainGlobals x = some (some (.ref C))) (a : PySem.W.findIn K (.ref C) "__init__" = some (some (.ref f))) (i : PySem.W.isFn K (.ref f) = true)
  (l : K.lookup f = some ⟨oc, od, .func (PySem.W.fnOf "__init__" qual (defArgs st) (defBody st) (defScope st) .none kV doc pm an cdv ct), osl⟩) (c : PySem.W.codeIn K cdv qual = true) (k : PySem.W.keepIn K (.ref f) = true)
  (pg : PySem.W.plainGet K C Str.empty = true) (hd : PySem.W.hasDictIn K C = true) (po : PySem.W.plainOver K C = true) (sa : PySem.W.findIn K (.ref C) "__setattr__" = some (some (.builtin "object.__setattr__"))) (mk : PySem.W.makesIn K C = true) (kc : PySem.W.keepIn K (.ref C) = true)
  (na : ∀ a ∈ fs, PySem.W.findIn K (.ref C) a = some none) : CXF K mg x qual st fs :=
 ⟨C, f, _, PySem.W.mg_of X G aC, fun_mk l c k, ⟨pg, hd, po, sa⟩, ⟨mk, a, i, kc⟩, na⟩
theorem const_mk {K : PySem.W.Frag} {h : Heap} {mg : Str -> Option Value} {x : Str} {z : Int} {v : Value} (X : K.In h) (G : h.Ns mainGlobals mg) (a : PySem.W.nsIn K mainGlobals x = some (some v)) (e : ∃ tk, v = .int z tk) : ∃ tk, mg x = some (.int z tk) := by
 obtain ⟨tk, rfl⟩ := e
 exact ⟨tk, PySem.W.mg_of X G a⟩
theorem nmY {i : Nat} {x : V} {σ : St} {H : Hp} {A B : St -> Hp -> Prop} (h : A (σ.set i (some x)) H) : gName i x σ H fun σ2 H2 => tYes σ2 H2 fun b H3 => if b = true then A σ2 H3 else B σ2 H3 :=
 (show if true = true then A (σ.set i (some x)) H else B (σ.set i (some x)) H from iteT h)
theorem nm {i : Nat} {x : V} {σ : St} {H : Hp} {Q : St -> Hp -> Prop} (h : Q (σ.set i (some x)) H) : gName i x σ H Q := h
section
variable {K : PySem.W.Frag} {a : Addr} {xs : List V} {g : TG} {tt : TT} {te : TE} {o : Nat} {fr : List Nat} {σ : St} {H : Hp} {Q : VK}
abbrev LcTurn (Pv : Nat -> List V -> Hp -> Prop) (g : TG) (tt : TT) (te : TE) (o : Nat) (fr : List Nat) (σ : St) (i : Nat) (x : V) (ys : List V) (H : Hp) : Prop :=
 ∀ S : Nat -> List V -> Hp -> Prop, (∀ ys H, Pv (i + 1) ys H -> S (i + 1) ys H) -> g x (σC o fr σ) H fun σ2 H2 => tt σ2 H2 fun b H3 => if b = true then te σ2 H3 fun y H4 => S (i + 1) (ys ++ [y]) H4 else S (i + 1) ys H3
theorem lc_list (Pv : Nat -> List V -> Hp -> Prop) (h0 : Pv 0 [] H) (hz : xs.length < sizeLine) (hl : ∀ i ys H, i <= xs.length -> Pv i ys H -> SqL K H a xs /\ ys.length <= i)
  (hs : ∀ i x ys H, xs[i]? = some x -> Pv i ys H -> LcTurn Pv g tt te o fr σ i x ys H) (hd : ∀ ys H, Pv xs.length ys H -> ∀ p, H p = none -> Q (.ref p) (upd H p (.lst ys))) : LcR (Itl K a) g tt te o fr σ H Q := by
 refine ⟨fun i m ys H => m = xs.length - i /\ i <= xs.length /\ Pv i ys H, ⟨xs.length, by simp, Nat.zero_le _, h0⟩, ?_⟩
 rintro i m ys H ⟨rfl, hi, p⟩
 obtain ⟨q, hy⟩ := hl i ys H hi p
 by_cases hlt : i < xs.length
 ·refine .inr ⟨⟨xs, xs[i], q, by simp [hlt]⟩, by omega, fun x H' ⟨e, y⟩ => ?_⟩
  subst e
  have hx := y xs q
  exact hs i x ys _ hx p (fun j ys H => ∃ m', m' < xs.length - i /\ m' = xs.length - j /\ j <= xs.length /\ Pv j ys H) fun ys H p' => ⟨xs.length - (i + 1), by omega, rfl, hlt, p'⟩
 ·have e : i = xs.length := by omega
  subst e
  exact .inl ⟨⟨xs, q, Nat.le_refl _⟩, by omega, hd ys H p⟩
theorem lc_tup (Pv : Nat -> List V -> Hp -> Prop) (h0 : Pv 0 [] H) (hz : xs.length < sizeLine) (hl : ∀ i ys H, i <= xs.length -> Pv i ys H -> SqT K H a xs /\ ys.length <= i)
  (hs : ∀ i x ys H, xs[i]? = some x -> Pv i ys H -> LcTurn Pv g tt te o fr σ i x ys H) (hd : ∀ ys H, Pv xs.length ys H -> ∀ p, H p = none -> Q (.ref p) (upd H p (.lst ys))) : LcR (Itt K a) g tt te o fr σ H Q := by
 refine ⟨fun i m ys H => m = xs.length - i /\ i <= xs.length /\ Pv i ys H, ⟨xs.length, by simp, Nat.zero_le _, h0⟩, ?_⟩
 rintro i m ys H ⟨rfl, hi, p⟩
 obtain ⟨q, hy⟩ := hl i ys H hi p
 by_cases hlt : i < xs.length
 ·refine .inr ⟨⟨xs, xs[i], q, by simp [hlt]⟩, by omega, fun x H' ⟨e, y⟩ => ?_⟩
  subst e
  have hx := y xs q
  exact hs i x ys _ hx p (fun j ys H => ∃ m', m' < xs.length - i /\ m' = xs.length - j /\ j <= xs.length /\ Pv j ys H) fun ys H p' => ⟨xs.length - (i + 1), by omega, rfl, hlt, p'⟩
 ·have e : i = xs.length := by omega
  subst e
  exact .inl ⟨⟨xs, q, Nat.le_refl _⟩, by omega, hd ys H p⟩
theorem lc_seq {k : Bool} (Pv : Nat -> List V -> Hp -> Prop) (h0 : Pv 0 [] H) (hz : xs.length < sizeLine) (hl : ∀ i ys H, i <= xs.length -> Pv i ys H -> SqK k K H a xs /\ ys.length <= i)
  (hs : ∀ i x ys H, xs[i]? = some x -> Pv i ys H -> LcTurn Pv g tt te o fr σ i x ys H) (hd : ∀ ys H, Pv xs.length ys H -> ∀ p, H p = none -> Q (.ref p) (upd H p (.lst ys))) :
  ((∃ xs, SqL K H a xs) /\ LcR (Itl K a) g tt te o fr σ H Q) \/ ((∃ xs, SqT K H a xs) /\ LcR (Itt K a) g tt te o fr σ H Q) := by
 cases k with
 | false => exact .inl ⟨⟨xs, (hl 0 [] H (Nat.zero_le _) h0).1⟩, lc_list Pv h0 hz hl hs hd⟩
 | true => exact .inr ⟨⟨xs, (hl 0 [] H (Nat.zero_le _) h0).1⟩, lc_tup Pv h0 hz hl hs hd⟩
end
theorem nodup_get {α : Type} {l : List α} (h : l.Nodup) {i j : Nat} {x : α} (a : l[i]? = some x) (b : l[j]? = some x) : i = j := by
 obtain ⟨h1, e1⟩ := List.getElem?_eq_some_iff.mp a
 obtain ⟨h2, e2⟩ := List.getElem?_eq_some_iff.mp b
 exact (List.getElem_inj h).mp (e1.trans e2.symm)
theorem getD_of {α : Type} {l : List α} {i : Nat} {x d : α} (h : l[i]? = some x) : l.getD i d = x := by rw [List.getD_eq_getElem?_getD, h]; rfl
theorem nd_snoc {α : Type} {l : List α} {x : α} (h : l.Nodup) (hx : x ∉ l) : (l ++ [x]).Nodup := by
 rw [List.nodup_append]
 refine ⟨h, by simp, fun a ha b hb => ?_⟩
 rw [List.mem_singleton] at hb
 subst hb
 rintro rfl
 exact hx ha
theorem for_enum {K : PySem.W.Frag} {a : Addr} {xs : List V} {g : TG} {tb : TS} {D : Ends} {σ : St} {H : Hp} (Pv : Nat -> St -> Hp -> Prop) (h0 : Pv 0 σ H) (hl : ∀ i σ H, i <= xs.length -> Pv i σ H -> SqL K H a xs)
  (hs : ∀ (i : Nat) x σ H (p : Addr), H p = none -> xs[i]? = some x -> Pv i σ H -> g (.ref p) σ (upd H p (.tup [.int i, x])) fun σ2 H2 => tb { D with nx := Pv (i + 1), ct := Pv (i + 1), bk := D.nx } σ2 H2) (hd : ∀ σ H, Pv xs.length σ H -> D.nx σ H) :
  ∃ W : Nat -> Nat -> St -> Hp -> Prop, (∃ m, W 0 m σ H) /\ ∀ i m σ H, W i m σ H ->
   ((Ite K a).stop i H /\ D.nx σ H) \/ ((Ite K a).go i H /\ ∃ N : St -> Hp -> Prop, (∀ σ' H', N σ' H' -> ∃ m', m' < m /\ W (i + 1) m' σ' H') /\ ∀ x H', (Ite K a).yld i H x H' -> g x σ H' fun σ2 H2 => tb { D with nx := N, ct := N, bk := D.nx } σ2 H2) := by
 refine ⟨fun i m σ H => m = xs.length - i /\ i <= xs.length /\ Pv i σ H, ⟨xs.length, by simp, Nat.zero_le _, h0⟩, ?_⟩
 rintro i m σ H ⟨rfl, hi, p⟩
 have q := hl i σ H hi p
 by_cases hlt : i < xs.length
 ·refine .inr ⟨⟨xs, xs[i], q, by simp [hlt]⟩, Pv (i + 1), fun σ' H' p' => ⟨xs.length - (i + 1), by omega, rfl, hlt, p'⟩, fun x H' ⟨T, y, hT, ex, eH, hy⟩ => ?_⟩
  subst ex eH
  exact hs i y σ H T hT (hy xs q) p
 ·have e : i = xs.length := by omega
  subst e
  exact .inl ⟨⟨xs, q, Nat.le_refl _⟩, hd σ H p⟩
end My
namespace L2
open PySem PySem.Spec PyProof.Rows
section
variable {X : Cx} {a b o e : Expr} {es : List Expr} {ta tb te to : TE} {t : TA} {pos : Pos}
theorem ix_listK (K : PySem.W.Frag) (h : X.K = K := by rfl) : IxR X (rIxL K) := h ▸ ix_list
theorem ix_tupK (K : PySem.W.Frag) (h : X.K = K := by rfl) : IxR X (rIxT K) := h ▸ ix_tup
theorem sl_listK (K : PySem.W.Frag) (h : X.K = K := by rfl) : SlR X (rSlL K) := h ▸ sl_list
theorem op_notInK (K : PySem.W.Frag) (h : X.K = K := by rfl) : OpR X (compareOp .NotIn) (fun x y H Q => ∃ p xs, y = .ref p /\ (SqL K H p xs \/ SqT K H p xs) /\ flatV x = true /\ xs.all flatV = true /\ Q (.bl (!inV x xs)) H) := h ▸ op_notIn_seq
theorem op_eqDK (K : PySem.W.Frag) (hu : X.A.units + 8 < cLine) (h : X.K = K := by rfl) : OpR X (compareOp .Eq) (rEqD K false) := h ▸ op_eqD hu
theorem op_neDK (K : PySem.W.Frag) (hu : X.A.units + 8 < cLine) (h : X.K = K := by rfl) : OpR X (compareOp .NotEq) (rEqD K true) := h ▸ op_neD hu
theorem op_catTK (K : PySem.W.Frag) (h : X.K = K := by rfl) : OpR X (binaryOp .Add) (rCatT K) := h ▸ op_catT
theorem pe_fldK (K : PySem.W.Frag) {f : Str} (he : PE X e ta) (hb : attributeBase e f X.env (eval e X.env) = eval e X.env) (h : X.K = K := by rfl) : PE X (.Attribute e f pos) (tFld K ta f) := h ▸ pe_fld he hb
theorem call_lenK (K : PySem.W.Frag) (h : X.K = K := by rfl) : CallR X (.builtin "len") (fun xs H Q => ∃ p ys, xs = [.ref p] /\ (SqL K H p ys \/ SqT K H p ys) /\ Q (.int ys.length) H) := h ▸ call_len_seq
theorem call_listK (K : PySem.W.Frag) (h : X.K = K := by rfl) : CallR X (.type "list") (fun xs H Q => ∃ p ys, xs = [.ref p] /\ (SqL K H p ys \/ SqT K H p ys) /\ ∀ l, H l = none -> Q (.ref l) (upd H l (.lst ys))) := h ▸ call_list_of
theorem call_tupleK (K : PySem.W.Frag) (h : X.K = K := by rfl) : CallR X (.type "tuple") (fun xs H Q => ∃ p ys, xs = [.ref p] /\ ((SqL K H p ys /\ ∀ l, H l = none -> Q (.ref l) (upd H l (.tup ys))) \/ (SqT K H p ys /\ Q (.ref p) H))) := h ▸ call_tuple_of
theorem call_sumK (K : PySem.W.Frag) (hc : X.calm = true) (h : X.K = K := by rfl) : CallR X (.builtin "sum") (fun xs H Q => ∃ (p : Addr) (ns : List Int), xs = [.ref p] /\ SqL K H p (ns.map V.int) /\ Q (.int ns.sum) H) := h ▸ call_sum_ints hc
theorem call_setK (K : PySem.W.Frag) (hc : X.calm = true) (h : X.K = K := by rfl) : CallR X (.type "set") (fun xs H Q => ∃ (p : Addr) (ns : List Int), xs = [.ref p] /\ SqL K H p (ns.map V.int) /\ ns.length + 1 < scanBound /\
  ∀ l, H l = none -> Q (.ref l) (upd H l (.set (fun k => (seen ns).any (· == k)) (seen ns).length))) := h ▸ call_set_ints hc
theorem call_isiK (K : PySem.W.Frag) {T : String} (h : X.K = K := by rfl) : CallR X (.builtin "isinstance") (fun xs H Q => ∃ x t b, xs = [x, .ty T] /\ TyOf K H x t /\ PySem.W.kitOne K t (.type T) = some b /\ Q (.bl b) H) := h ▸ call_isi
theorem pi_listK (K : PySem.W.Frag) {tg : Expr} {l : Expr} {tl : TE} (hl : PE X l tl) (h : X.K = K := by rfl) : PI X tg l (iList K tl) := h ▸ pi_list hl
theorem pi_tupK (K : PySem.W.Frag) {tg : Expr} {l : Expr} {tl : TE} (hl : PE X l tl) (h : X.K = K := by rfl) : PI X tg l (iTup K tl) := h ▸ pi_tup hl
theorem pi_seqK (K : PySem.W.Frag) {tg : Expr} {l : Expr} {tl : TE} (hl : PE X l tl) (h : X.K = K := by rfl) : PI X tg l (My.iSeq K tl) := h ▸ My.pi_seq hl
theorem pi_enumK (K : PySem.W.Frag) {elts : List Expr} {x1 : Nat} {tpos : Pos} {a : Expr} {ta : TA} {p pos : Pos} (hg : Gl X "enumerate") (hm : X.mg "enumerate" = none) (ha : PA X [a] ta) (hs : starEach [a] X.env = [(false, eval a X.env)] := by rfl) (h : X.K = K := by rfl) :
  PI X (.Tuple elts x1 tpos) (.Call (.Name "enumerate" p) [a] [] pos) (iEnum K ta) := h ▸ pi_enum hg hm ha hs
theorem pg_tupK (K : PySem.W.Frag) {es : List Expr} {k : Nat} {t : TGs} {n : Nat} (hc : X.calm = true) (ht : PGs X es t)
  (hn : (assignEach es X.env).length = n := by rfl) (hst : (assignEach es X.env).findIdx? (·.1) = none := by rfl) (h : X.K = K := by rfl) : PG X (.Tuple es k pos) (gTup K n t) := h ▸ pg_tup hc ht hn hst
theorem pe_bmK (K : PySem.W.Frag) {name : Str} {apos cpos : Pos} {T id : String} {r : V -> List V -> Hp -> VK -> Prop} (pa : PlainAttrs T) (slot : Slot T name id) (hty : typeOf (.builtin id) = pure (.type "method_descriptor")) (hm : MtR X id r) (ho : PE X o to) (ha : PA X (e :: es) t)
  (hbase : attributeBase o name X.env (eval o X.env) = eval o X.env := by rfl)
  (hfew : ((backTo cpos (starEach (e :: es) X.env)).all (fun x => !x.1) && (backToKw cpos (keywordEach [] X.env)).all (fun x => x.1.isSome)
   && decide ((e :: es).length + ([] : List Keyword).length + (if ([] : List Keyword).isEmpty then 0 else 1) < 30)) = true := by rfl)
  (hline : (apos.endLine == cpos.line) = true := by rfl) (hs : starEach (e :: es) X.env = (false, eval e X.env) :: starEach es X.env := by rfl) (hplain : (backTo cpos (starEach es X.env)).any (·.1) = false := by rfl) (h : X.K = K := by rfl) :
  PE X (.Call (.Attribute o name apos) (e :: es) [] cpos) (tBM K T r to t) := h ▸ pe_bm pa slot hty hm ho ha hbase hfew hline hs hplain
theorem pe_bm0K (K : PySem.W.Frag) {name : Str} {apos cpos : Pos} {T id : String} {r : V -> List V -> Hp -> VK -> Prop} (pa : PlainAttrs T) (slot : Slot T name id) (hty : typeOf (.builtin id) = pure (.type "method_descriptor")) (hm : MtR X id r) (ho : PE X o to)
  (hbase : attributeBase o name X.env (eval o X.env) = eval o X.env := by rfl) (hline : (apos.endLine == cpos.line) = true := by rfl) (h : X.K = K := by rfl) : PE X (.Call (.Attribute o name apos) [] [] cpos) (tBM0 K T r to) := h ▸ pe_bm0 pa slot hty hm ho hbase hline
end
end L2
namespace My
abbrev mk (m : List Int) (i : Nat) : Int := m.getD i 0
def pm (m : List Int) (a b : Nat) : List Int :=
 if min (mk m a) (mk m b) < max (mk m a) (mk m b) then m.map (fun k => if k = max (mk m a) (mk m b) then min (mk m a) (mk m b) else k) else m
def lm (m : List Int) (a b : Nat) : List Int :=
 if mk m a ≠ mk m b then m.map (fun k => if k = mk m b then mk m a else k) else m
def SameP (m l : List Int) : Prop := m.length = l.length /\ ∀ i j, i < m.length -> j < m.length -> (mk m i = mk m j ↔ mk l i = mk l j)
theorem mk_map (m : List Int) (f : Int -> Int) {i : Nat} (h : i < m.length) : mk (m.map f) i = f (mk m i) := by
 simp [mk, List.getD_eq_getElem?_getD, List.getElem?_map, List.getElem?_eq_getElem h]
theorem pm_length (m : List Int) (a b : Nat) : (pm m a b).length = m.length := by unfold pm; split <;> simp
theorem lm_length (m : List Int) (a b : Nat) : (lm m a b).length = m.length := by unfold lm; split <;> simp
def Mrg (m : List Int) (a b i j : Nat) : Prop := mk m i = mk m j \/ ((mk m i = mk m a \/ mk m i = mk m b) /\ (mk m j = mk m a \/ mk m j = mk m b))
theorem pm_iff {m : List Int} {a b i j : Nat} (hi : i < m.length) (hj : j < m.length) : mk (pm m a b) i = mk (pm m a b) j ↔ Mrg m a b i j := by
 unfold pm Mrg
 split
 ·rename_i h
  rw [mk_map _ _ hi, mk_map _ _ hj]
  generalize mk m i = x at *
  generalize mk m j = y at *
  generalize mk m a = p at *
  generalize mk m b = q at *
  by_cases hpq : p < q
  ·rw [Int.min_eq_left (by omega), Int.max_eq_right (by omega)]
   split <;> split <;> omega
  ·rw [Int.min_eq_right (by omega), Int.max_eq_left (by omega)] at *
   split <;> split <;> omega
 ·rename_i h
  generalize mk m i = x at *
  generalize mk m j = y at *
  generalize mk m a = p at *
  generalize mk m b = q at *
  omega
theorem lm_iff {m : List Int} {a b i j : Nat} (hi : i < m.length) (hj : j < m.length) : mk (lm m a b) i = mk (lm m a b) j ↔ Mrg m a b i j := by
 unfold lm Mrg
 split
 ·rename_i h
  rw [mk_map _ _ hi, mk_map _ _ hj]
  generalize mk m i = x at *
  generalize mk m j = y at *
  generalize mk m a = p at *
  generalize mk m b = q at *
  split <;> split <;> omega
 ·rename_i h
  generalize mk m i = x at *
  generalize mk m j = y at *
  generalize mk m a = p at *
  generalize mk m b = q at *
  omega
theorem SameP.step {m l : List Int} (s : SameP m l) {a b : Nat} (ha : a < m.length) (hb : b < m.length) : SameP (pm m a b) (lm l a b) := by
 obtain ⟨hl, h⟩ := s
 refine ⟨by rw [pm_length, lm_length, hl], fun i j hi hj => ?_⟩
 rw [pm_length] at hi hj
 rw [pm_iff hi hj, lm_iff (by omega) (by omega)]
 unfold Mrg
 rw [h i j hi hj, h i a hi ha, h i b hi hb, h j a hj ha, h j b hj hb]
def pms (n : Nat) (es : List (Nat × Nat)) : List Int := es.foldl (fun m e => pm m e.1 e.2) ((List.range n).map fun (i : Nat) => (i : Int))
def lms (n : Nat) (es : List (Nat × Nat)) : List Int := es.foldl (fun m e => lm m e.1 e.2) ((List.range n).map fun (i : Nat) => (i : Int))
theorem pms_length (n : Nat) (es : List (Nat × Nat)) : (pms n es).length = n := by
 have : ∀ (es : List (Nat × Nat)) (m : List Int), (es.foldl (fun m e => pm m e.1 e.2) m).length = m.length := by
  intro es
  induction es with
  | nil => intro m; rfl
  | cons e es ih => intro m; rw [List.foldl_cons, ih, pm_length]
 unfold pms; rw [this]; simp
theorem lms_length (n : Nat) (es : List (Nat × Nat)) : (lms n es).length = n := by
 have : ∀ (es : List (Nat × Nat)) (m : List Int), (es.foldl (fun m e => lm m e.1 e.2) m).length = m.length := by
  intro es
  induction es with
  | nil => intro m; rfl
  | cons e es ih => intro m; rw [List.foldl_cons, ih, lm_length]
 unfold lms; rw [this]; simp
theorem pms_snoc (n : Nat) (es : List (Nat × Nat)) (e : Nat × Nat) : pms n (es ++ [e]) = pm (pms n es) e.1 e.2 := by unfold pms; rw [List.foldl_append]; rfl
theorem lms_snoc (n : Nat) (es : List (Nat × Nat)) (e : Nat × Nat) : lms n (es ++ [e]) = lm (lms n es) e.1 e.2 := by unfold lms; rw [List.foldl_append]; rfl
theorem same_pms {n : Nat} : ∀ {es : List (Nat × Nat)}, (∀ e ∈ es, e.1 < n /\ e.2 < n) -> SameP (pms n es) (lms n es) := by
 intro es
 have key : ∀ (es : List (Nat × Nat)) (m l : List Int), SameP m l -> m.length = n -> (∀ e ∈ es, e.1 < n /\ e.2 < n) -> SameP (es.foldl (fun m e => pm m e.1 e.2) m) (es.foldl (fun m e => lm m e.1 e.2) l) := by
  intro es
  induction es with
  | nil => intro m l s _ _; exact s
  | cons e es ih =>
   intro m l s hm he
   have h1 := he e List.mem_cons_self
   exact ih _ _ (s.step (by omega) (by omega)) (by rw [pm_length]; exact hm) fun x hx => he x (List.mem_cons_of_mem _ hx)
 exact key es _ _ ⟨rfl, fun i j _ _ => Iff.rfl⟩ (by simp)
def gstep (g : List (Int × List Int)) (place k : Int) : List (Int × List Int) :=
 if k ∈ g.map (·.1) then g.map (fun kv => if kv.1 = k then (kv.1, kv.2 ++ [place]) else kv) else g ++ [(k, [place])]
def grpA (M : List Int) : Nat -> List (Int × List Int)
 | 0 => []
 | i + 1 => gstep (grpA M i) (i : Int) (mk M i)
def grp (M : List Int) : List (Int × List Int) := grpA M M.length
theorem gstep_keys (g : List (Int × List Int)) (p k : Int) : (gstep g p k).map (·.1) = if k ∈ g.map (·.1) then g.map (·.1) else g.map (·.1) ++ [k] := by
 unfold gstep
 split
 ·rw [List.map_map]
  refine List.map_congr_left fun kv _ => ?_
  show (if kv.1 = k then (kv.1, kv.2 ++ [p]) else kv).1 = kv.1
  split <;> rfl
 ·simp
theorem gstep_nodup {g : List (Int × List Int)} {p k : Int} (h : (g.map (·.1)).Nodup) : ((gstep g p k).map (·.1)).Nodup := by
 rw [gstep_keys]
 split
 ·exact h
 ·rename_i hk
  rw [List.nodup_append]
  refine ⟨h, by simp, fun a ha b hb => ?_⟩
  rw [List.mem_singleton] at hb
  subst hb
  rintro rfl
  exact hk ha
theorem grpA_nodup (M : List Int) : ∀ i, ((grpA M i).map (·.1)).Nodup
 | 0 => by simp [grpA]
 | i + 1 => gstep_nodup (grpA_nodup M i)
theorem grpA_mem (M : List Int) : ∀ i kv, kv ∈ grpA M i -> ∀ z : Int, z ∈ kv.2 ↔ (0 <= z /\ z < (i : Int) /\ mk M z.toNat = kv.1)
 | 0, kv, h, z => by simp [grpA] at h
 | i + 1, kv, h, z => by
  unfold grpA gstep at h
  split at h
  ·rename_i hk
   obtain ⟨kv0, h0, e⟩ := List.mem_map.mp h
   have ih := grpA_mem M i kv0 h0 z
   by_cases hc : kv0.1 = mk M i
   ·rw [if_pos hc] at e
    subst e
    rw [List.mem_append, ih, List.mem_singleton]
    constructor
    ·rintro (⟨a, b, c⟩ | rfl)
     ·exact ⟨a, by omega, c⟩
     ·exact ⟨by omega, by omega, by simpa using hc.symm⟩
    ·rintro ⟨a, b, c⟩
     by_cases hz : z < (i : Int)
     ·exact .inl ⟨a, hz, c⟩
     ·exact .inr (by omega)
   ·rw [if_neg hc] at e
    subst e
    rw [ih]
    constructor
    ·rintro ⟨a, b, c⟩; exact ⟨a, by omega, c⟩
    ·rintro ⟨a, b, c⟩
     refine ⟨a, ?_, c⟩
     by_cases hz : z < (i : Int)
     ·exact hz
     ·have e : z.toNat = i := by omega
      rw [e] at c
      exact absurd c.symm hc
  ·rename_i hk
   rcases List.mem_append.mp h with h0 | h0
   ·have ih := grpA_mem M i kv h0 z
    rw [ih]
    constructor
    ·rintro ⟨a, b, c⟩; exact ⟨a, by omega, c⟩
    ·rintro ⟨a, b, c⟩
     refine ⟨a, ?_, c⟩
     by_cases hz : z < (i : Int)
     ·exact hz
     ·have e : z.toNat = i := by omega
      rw [e] at c
      exact absurd (List.mem_map.mpr ⟨kv, h0, c.symm⟩) hk
   ·rw [List.mem_singleton] at h0
    subst h0
    simp only [List.mem_singleton]
    constructor
    ·rintro rfl; exact ⟨by omega, by omega, by simp⟩
    ·rintro ⟨a, b, c⟩
     by_cases hz : z < (i : Int)
     ·exfalso
      have key := grpA_key M i z.toNat (by omega)
      rw [c] at key
      exact hk key
     ·omega
where
 grpA_key (M : List Int) : ∀ i j, j < i -> mk M j ∈ (grpA M i).map (·.1)
  | 0, j, h => absurd h (Nat.not_lt_zero j)
  | i + 1, j, h => by
   show mk M j ∈ (gstep (grpA M i) (i : Int) (mk M i)).map (·.1)
   rw [gstep_keys]
   by_cases hj : j < i
   ·have := grpA_key M i j hj
    split
    ·exact this
    ·exact List.mem_append_left _ this
   ·have e : j = i := by omega
    subst e
    split
    ·assumption
    ·simp
theorem grpA_key {M : List Int} {i j : Nat} (h : j < i) : mk M j ∈ (grpA M i).map (·.1) := grpA_mem.grpA_key M i j h
theorem grpA_of_key (M : List Int) : ∀ i k, k ∈ (grpA M i).map (·.1) -> ∃ j, j < i /\ mk M j = k
 | 0, k, h => by simp [grpA] at h
 | i + 1, k, h => by
  have h : k ∈ (gstep (grpA M i) (i : Int) (mk M i)).map (·.1) := h
  rw [gstep_keys] at h
  have old : k ∈ (grpA M i).map (·.1) -> ∃ j, j < i + 1 /\ mk M j = k := fun q => by
   obtain ⟨j, hj, e⟩ := grpA_of_key M i k q
   exact ⟨j, by omega, e⟩
  split at h
  ·exact old h
  ·rcases List.mem_append.mp h with q | q
   ·exact old q
   ·rw [List.mem_singleton] at q
    exact ⟨i, by omega, q.symm⟩
theorem grp_one {M : List Int} (hM : 1 <= M.length) : (grp M).length = 1 ↔ ∀ i j, i < M.length -> j < M.length -> mk M i = mk M j := by
 unfold grp
 constructor
 ·intro h i j hi hj
  obtain ⟨kv, e⟩ := List.length_eq_one_iff.mp h
  have h1 := grpA_key (M := M) hi
  have h2 := grpA_key (M := M) hj
  rw [e] at h1 h2
  rw [List.map_singleton, List.mem_singleton] at h1 h2
  rw [h1, h2]
 ·intro h
  have nd := grpA_nodup M M.length
  have h0 := grpA_key (M := M) (i := M.length) (j := 0) (by omega)
  generalize hg : (grpA M M.length) = g at *
  match g, hg with
  | [], _ => simp at h0
  | [kv], _ => rfl
  | a :: b :: r, hg =>
   exfalso
   obtain ⟨i, hi, e1⟩ := grpA_of_key M M.length a.1 (by rw [hg]; simp)
   obtain ⟨j, hj, e2⟩ := grpA_of_key M M.length b.1 (by rw [hg]; simp)
   have e3 := h i j hi hj
   have : a.1 = b.1 := by rw [<- e1, <- e2, e3]
   simp [this] at nd
theorem SameP.one {m l : List Int} (s : SameP m l) : (∀ i j, i < m.length -> j < m.length -> mk m i = mk m j) ↔ (∀ i j, i < l.length -> j < l.length -> mk l i = mk l j) := by
 obtain ⟨hl, h⟩ := s
 rw [<- hl]
 constructor
 ·intro q i j hi hj; exact (h i j hi hj).mp (q i j hi hj)
 ·intro q i j hi hj; exact (h i j hi hj).mpr (q i j hi hj)
theorem grpA_len {M : List Int} : ∀ {i : Nat} {kv : Int × List Int}, kv ∈ grpA M i -> kv.2.length <= i
 | 0, kv, h => by simp [grpA] at h
 | i + 1, kv, h => by
  unfold grpA gstep at h
  split at h
  ·obtain ⟨kv0, h0, e⟩ := List.mem_map.mp h
   have ih := grpA_len h0
   by_cases hc : kv0.1 = mk M i
   ·rw [if_pos hc] at e
    subst e
    rw [List.length_append, List.length_singleton]
    omega
   ·rw [if_neg hc] at e
    subst e
    omega
  ·rcases List.mem_append.mp h with h0 | h0
   ·have ih := grpA_len h0
    omega
   ·rw [List.mem_singleton] at h0
    subst h0
    simp
end My
namespace My
open PySem L2 PyProof.Rows
theorem met_nodup (val : Nat -> Int) : ∀ i, (firstMet val i).Nodup
 | 0 => List.nodup_nil
 | i + 1 => by
  rw [firstMet_succ]
  unfold step_dedup
  split
  ·exact met_nodup val i
  ·rename_i h
   refine nd_snoc (met_nodup val i) fun z => h ?_
   rw [List.any_eq_true]
   exact ⟨val i, z, by simp⟩
theorem met_mem (val : Nat -> Int) : ∀ i (k : Int), k ∈ firstMet val i ↔ ∃ j, j < i /\ val j = k
 | 0, k => by
  rw [firstMet_zero]
  constructor
  ·intro h; cases h
  ·rintro ⟨j, h, _⟩; exact absurd h (Nat.not_lt_zero j)
 | i + 1, k => by
  rw [firstMet_succ]
  have ih := met_mem val i k
  unfold step_dedup
  split
  ·rename_i h
   rw [ih]
   constructor
   ·rintro ⟨j, hj, e⟩; exact ⟨j, by omega, e⟩
   ·rintro ⟨j, hj, e⟩
    by_cases hji : j < i
    ·exact ⟨j, hji, e⟩
    ·have e2 : j = i := by omega
     subst e2
     obtain ⟨y, hy, ey⟩ := List.any_eq_true.mp h
     have ey' : y = val j := by simpa using ey
     rw [ey', e] at hy
     exact ih.mp hy
  ·rw [List.mem_append, ih, List.mem_singleton]
   constructor
   ·rintro (⟨j, hj, e⟩ | e)
    ·exact ⟨j, by omega, e⟩
    ·exact ⟨i, by omega, e.symm⟩
   ·rintro ⟨j, hj, e⟩
    by_cases hji : j < i
    ·exact .inl ⟨j, hji, e⟩
    ·have e2 : j = i := by omega
     subst e2
     exact .inr e.symm
theorem seen_one {ns : List Int} (h : 1 <= ns.length) : (L2.seen ns).length = 1 ↔ ∀ i j, i < ns.length -> j < ns.length -> mk ns i = mk ns j := by
 have nd := met_nodup (fun i => ns.getD i 0) ns.length
 have mm := met_mem (fun i => ns.getD i 0) ns.length
 unfold L2.seen
 generalize firstMet (fun i => ns.getD i 0) ns.length = l at *
 constructor
 ·intro h1 i j hi hj
  obtain ⟨x, e⟩ := List.length_eq_one_iff.mp h1
  have a := (mm (ns.getD i 0)).mpr ⟨i, hi, rfl⟩
  have b := (mm (ns.getD j 0)).mpr ⟨j, hj, rfl⟩
  rw [e, List.mem_singleton] at a b
  show ns.getD i 0 = ns.getD j 0
  rw [a, b]
 ·intro q
  have h0 := (mm (ns.getD 0 0)).mpr ⟨0, by omega, rfl⟩
  match l, nd, mm, h0 with
  | [], _, _, h0 => cases h0
  | [x], _, _, _ => rfl
  | x :: y :: r, nd, mm, _ =>
   exfalso
   obtain ⟨i, hi, e1⟩ := (mm x).mp (by simp)
   obtain ⟨j, hj, e2⟩ := (mm y).mp (by simp)
   have e3 : ns.getD i 0 = ns.getD j 0 := q i j hi hj
   have e : x = y := by rw [<- e1, <- e2]; exact e3
   simp [e] at nd
theorem inV_ints (z : Int) (l : List Int) : inV (.int z) (IL l) = decide (z ∈ l) := by
 unfold inV
 rw [List.any_map]
 rw [Bool.eq_iff_iff, List.any_eq_true, decide_eq_true_iff]
 constructor
 ·rintro ⟨y, hy, e⟩
  have e' : y = z := by simpa [eqV] using e
  rw [<- e']; exact hy
 ·intro h; exact ⟨z, h, by simp [eqV]⟩
theorem flat_ints (l : List Int) : (IL l).all flatV = true := by
 rw [List.all_map, List.all_eq_true]
 intro x _
 rfl
theorem kit_same {K : PySem.W.Frag} {t : Value} : PySem.W.kitOne K t t = some true := by
 unfold PySem.W.kitOne
 rw [if_pos (beq_self_eq_true t)]
theorem dec_int {a b : Int} : decide (V.int a = V.int b) = decide (a = b) := by
 by_cases h : a = b
 ·subst h; simp
 ·have h' : ¬ V.int a = V.int b := fun z => h (V.int.inj z)
  rw [decide_eq_false h, decide_eq_false h']
theorem dec_bl {a b : Bool} : decide (V.bl a = V.bl b) = decide (a = b) := by
 by_cases h : a = b
 ·subst h; simp
 ·have h' : ¬ V.bl a = V.bl b := fun z => h (V.bl.inj z)
  rw [decide_eq_false h, decide_eq_false h']
end My
namespace My
open PySem L2
def IsSet (m : Nat) (ns : List Int) : Prop := ∀ i z, ns[i]? = some z -> 0 <= z /\ z < (m : Int) /\ ∀ y, i ≠ 0 -> ns[i - 1]? = some y -> y < z
def endsOf (ps : List (Int × Int)) (ns : List Int) : List (Nat × Nat) := ns.map fun z => ((ps.getD z.toNat (0, 0)).1.toNat, (ps.getD z.toNat (0, 0)).2.toNat)
theorem endsOf_snoc {ps : List (Int × Int)} {ns : List Int} {i : Nat} {z : Int} (h : ns[i]? = some z) : endsOf ps (ns.take (i + 1)) = endsOf ps (ns.take i) ++ [((ps.getD z.toNat (0, 0)).1.toNat, (ps.getD z.toNat (0, 0)).2.toNat)] := by
 unfold endsOf
 rw [List.take_succ, h]
 simp
theorem mk_some {m : List Int} {i : Nat} (h : i < m.length) : m[i]? = some (mk m i) := by
 rw [List.getElem?_eq_getElem h]
 simp [mk, List.getD_eq_getElem?_getD, List.getElem?_eq_getElem h]
theorem rngI_zero (n : Int) : rngI 0 n = (List.range n.toNat).map fun (i : Nat) => (i : Int) := by
 unfold rngI
 rw [Int.sub_zero]
 refine List.map_congr_left fun i _ => ?_
 omega
def gkv (g : List (Int × List Int)) (as : List Addr) : List (Key × V) := List.zipWith (fun kv a => ((Sum.inl kv.1 : Key), V.ref a)) g as
theorem gkv_length {g : List (Int × List Int)} {as : List Addr} (h : as.length = g.length) : (gkv g as).length = g.length := by unfold gkv; rw [List.length_zipWith]; omega
theorem gkv_snd : ∀ {g : List (Int × List Int)} {as : List Addr}, as.length = g.length -> (gkv g as).map (·.2) = as.map V.ref
 | [], [], _ => rfl
 | [], _ :: _, h => by simp at h
 | _ :: _, [], h => by simp at h
 | kv :: g, a :: as, h => by
  show V.ref a :: (gkv g as).map (·.2) = V.ref a :: as.map V.ref
  rw [gkv_snd (Nat.succ.inj h)]
theorem gkv_keys : ∀ {g g' : List (Int × List Int)} {as : List Addr}, g.map (·.1) = g'.map (·.1) -> gkv g as = gkv g' as
 | [], [], _, _ => rfl
 | [], _ :: _, _, h => by simp at h
 | _ :: _, [], _, h => by simp at h
 | kv :: g, kv' :: g', [], _ => rfl
 | kv :: g, kv' :: g', a :: as, h => by
  rw [List.map_cons, List.map_cons, List.cons.injEq] at h
  show ((Sum.inl kv.1 : Key), V.ref a) :: gkv g as = ((Sum.inl kv'.1 : Key), V.ref a) :: gkv g' as
  rw [h.1, gkv_keys h.2]
theorem gkv_snoc : ∀ {g : List (Int × List Int)} {as : List Addr} {kv : Int × List Int} {a : Addr}, as.length = g.length -> gkv (g ++ [kv]) (as ++ [a]) = gkv g as ++ [((Sum.inl kv.1 : Key), V.ref a)]
 | [], [], _, _, _ => rfl
 | [], _ :: _, _, _, h => by simp at h
 | _ :: _, [], _, _, h => by simp at h
 | x :: g, y :: as, kv, a, h => by
  show _ :: gkv (g ++ [kv]) (as ++ [a]) = _ :: (gkv g as ++ _)
  rw [gkv_snoc (Nat.succ.inj h)]
theorem gkv_val : ∀ {g : List (Int × List Int)} {as : List Addr} {k : Int}, as.length = g.length ->
  (valV (gkv g as) (Sum.inl k : Key) = none /\ k ∉ g.map (·.1)) \/ ∃ (j : Nat) (kv : Int × List Int) (a : Addr), g[j]? = some kv /\ as[j]? = some a /\ kv.1 = k /\ valV (gkv g as) (Sum.inl k : Key) = some (.ref a)
 | [], [], k, _ => .inl ⟨rfl, by simp⟩
 | [], _ :: _, _, h => by simp at h
 | _ :: _, [], _, h => by simp at h
 | kv :: g, a :: as, k, h => by
  by_cases e : kv.1 = k
  ·refine .inr ⟨0, kv, a, rfl, rfl, e, ?_⟩
   show valV (((Sum.inl kv.1 : Key), V.ref a) :: gkv g as) _ = _
   rw [valV_pos (by rw [e])]
  ·have e' : ¬ ((Sum.inl kv.1 : Key) = Sum.inl k) := fun z => e (Sum.inl.inj z)
   have ev : valV (gkv (kv :: g) (a :: as)) (Sum.inl k : Key) = valV (gkv g as) (Sum.inl k : Key) := valV_neg (p := ((Sum.inl kv.1 : Key), V.ref a)) e'
   rcases gkv_val (g := g) (as := as) (k := k) (Nat.succ.inj h) with ⟨h1, h2⟩ | ⟨j, kv', a', h1, h2, h3, h4⟩
   ·refine .inl ⟨by rw [ev]; exact h1, ?_⟩
    rw [List.map_cons, List.mem_cons]
    rintro (z | z)
    ·exact e z.symm
    ·exact h2 z
   ·exact .inr ⟨j + 1, kv', a', by simpa using h1, by simpa using h2, h3, by rw [ev]; exact h4⟩
structure GrpAt (H0 H : Hp) (g : List (Int × List Int)) (as : List Addr) : Prop where
 len : as.length = g.length
 nd : as.Nodup
 at_ : ∀ (i : Nat) (kv : Int × List Int) (a : Addr), g[i]? = some kv -> as[i]? = some a -> H a = some (.lst (IL kv.2))
 new : ∀ a ∈ as, H0 a = none
theorem GrpAt.same {H0 H H' : Hp} {g : List (Int × List Int)} {as : List Addr} (s : Same H H') (h : GrpAt H0 H g as) : GrpAt H0 H' g as := ⟨h.len, h.nd, fun i kv a e1 e2 => s _ _ (h.at_ i kv a e1 e2), h.new⟩
theorem GrpAt.mem {H0 H : Hp} {g : List (Int × List Int)} {as : List Addr} (h : GrpAt H0 H g as) {a : Addr} (ha : a ∈ as) : ∃ l, H a = some (.lst l) := by
 obtain ⟨i, hi, e⟩ := List.getElem_of_mem ha
 have hg : i < g.length := by rw [<- h.len]; exact hi
 exact ⟨_, h.at_ i g[i] a (List.getElem?_eq_getElem hg) (by rw [List.getElem?_eq_getElem hi, e])⟩
theorem IsSet.all {m : Nat} {ns : List Int} (h : IsSet m ns) : ∀ z ∈ ns, 0 <= z /\ z < (m : Int) := fun z hz => by
 obtain ⟨i, hi, e⟩ := List.getElem_of_mem hz
 obtain ⟨a, b, _⟩ := h i z (by rw [List.getElem?_eq_getElem hi, e])
 exact ⟨a, b⟩
theorem IsSet.nil (m : Nat) : IsSet m [] := fun i z e => by simp at e
theorem IsSet.up {m : Nat} {ns : List Int} (h : IsSet m ns) : IsSet (m + 1) ns := fun i z e => by
 obtain ⟨a, b, c⟩ := h i z e
 exact ⟨a, by omega, c⟩
theorem IsSet.snoc {m : Nat} {ns : List Int} (h : IsSet m ns) : IsSet (m + 1) (ns ++ [(m : Int)]) := fun i z e => by
 by_cases hi : i < ns.length
 ·rw [List.getElem?_append_left hi] at e
  obtain ⟨a, b, c⟩ := h i z e
  refine ⟨a, by omega, fun y h0 ey => ?_⟩
  rw [List.getElem?_append_left (by omega)] at ey
  exact c y h0 ey
 ·have hl : i = ns.length := by
   have := (List.getElem?_eq_some_iff.mp e).1
   rw [List.length_append, List.length_singleton] at this
   omega
  subst hl
  rw [List.getElem?_append_right (Nat.le_refl _), Nat.sub_self] at e
  have e : (m : Int) = z := Option.some.inj e
  subst e
  refine ⟨by omega, by omega, fun y h0 ey => ?_⟩
  rw [List.getElem?_append_left (by omega)] at ey
  exact (h _ y ey).2.1
theorem IsSet.len {m : Nat} : ∀ {ns : List Int}, IsSet m ns -> ns.length <= m := fun {ns} h => by
 have key : ∀ (i : Nat) (z : Int), ns[i]? = some z -> (i : Int) <= z := by
  intro i
  induction i with
  | zero => intro z e; exact (h 0 z e).1
  | succ i ih =>
   intro z e
   have hi : i < ns.length := by have := (List.getElem?_eq_some_iff.mp e).1; omega
   have e2 : ns[i]? = some ns[i] := List.getElem?_eq_getElem hi
   have := ih _ e2
   have := (h (i + 1) z e).2.2 ns[i] (by omega) (by rw [Nat.add_sub_cancel]; exact e2)
   omega
 by_cases h0 : ns.length = 0
 ·omega
 ·have e : ns[ns.length - 1]? = some (ns[ns.length - 1]'(by omega)) := List.getElem?_eq_getElem _
  have a := key _ _ e
  have b := (h _ _ e).2.1
  omega
end My
namespace L2
open PySem PySem.Spec PyProof.Rows
section
variable {X : Cx}
end
end L2
namespace My
open PySem L2
section
variable {K : PySem.W.Frag} {H : Hp} {α : Type} [DecidableEq α]
def Bears (R : V -> α -> Prop) (xs : List V) (l : List α) : Prop := xs.length = l.length /\ ∀ (i : Nat) (a : α), l[i]? = some a -> ∃ x, xs[i]? = some x /\ R x a
theorem Bears.at {R : V -> α -> Prop} {xs : List V} {l : List α} (h : Bears R xs l) {i : Nat} {x : V} (e : xs[i]? = some x) : ∃ a, l[i]? = some a /\ R x a := by
 have hi : i < xs.length := (List.getElem?_eq_some_iff.mp e).1
 have hl : i < l.length := by rw [<- h.1]; exact hi
 obtain ⟨x', e1, q⟩ := h.2 i l[i] (List.getElem?_eq_getElem hl)
 rw [e] at e1
 cases e1
 exact ⟨_, List.getElem?_eq_getElem hl, q⟩
theorem all_dec {l m : List α} (h : l.length = m.length) : (List.range l.length).all (fun i => decide (l[i]? = m[i]?)) = decide (l = m) := by
 rw [Bool.eq_iff_iff, List.all_eq_true, decide_eq_true_iff]
 constructor
 ·intro q
  refine List.ext_getElem? fun i => ?_
  by_cases hi : i < l.length
  ·exact of_decide_eq_true (q i (List.mem_range.mpr hi))
  ·rw [List.getElem?_eq_none (by omega), List.getElem?_eq_none (by omega)]
 ·rintro rfl i _
  simp
theorem eqd_lists {R : V -> α -> Prop} {n : Nat} {p q : Addr} {xs ys : List V} {l m : List α} (hp : SqL K H p xs) (hq : SqL K H q ys) (h1 : Bears R xs l) (h2 : Bears R ys m) (hR : ∀ x y a b, R x a -> R y b -> EqD K H n x y (decide (a = b))) : EqD K H (n + 1) (.ref p) (.ref q) (decide (l = m)) := by
 by_cases hl : xs.length = ys.length
 ·have e := all_dec (l := l) (m := m) (by rw [<- h1.1, <- h2.1, hl])
  rw [<- e, <- h1.1]
  refine EqD.lsts hp hq hl fun i x y ex ey => ?_
  obtain ⟨a, ea, ra⟩ := h1.at ex
  obtain ⟨b, eb, rb⟩ := h2.at ey
  rw [ea, eb, show decide (some a = some b) = decide (a = b) by simp]
  exact hR x y a b ra rb
 ·have e : decide (l = m) = false := decide_eq_false fun z => hl (by rw [h1.1, h2.1, z])
  rw [e]
  exact EqD.lens hp hq hl
theorem eqd_tups {R : V -> α -> Prop} {n : Nat} {p q : Addr} {xs ys : List V} {l m : List α} (hp : SqT K H p xs) (hq : SqT K H q ys) (h1 : Bears R xs l) (h2 : Bears R ys m) (hR : ∀ x y a b, R x a -> R y b -> EqD K H n x y (decide (a = b))) : EqD K H (n + 1) (.ref p) (.ref q) (decide (l = m)) := by
 have key := EqD.tups (e := fun i => decide (l[i]? = m[i]?)) hp hq fun i x y ex ey => by
  obtain ⟨a, ea, ra⟩ := h1.at ex
  obtain ⟨b, eb, rb⟩ := h2.at ey
  rw [ea, eb, show decide (some a = some b) = decide (a = b) by simp]
  exact hR x y a b ra rb
 by_cases hl : xs.length = ys.length
 ·have e := all_dec (l := l) (m := m) (by rw [<- h1.1, <- h2.1, hl])
  rw [<- hl, Nat.min_self, h1.1, e, show (l.length == l.length) = true by simp, Bool.and_true] at key
  exact key
 ·have e : decide (l = m) = false := decide_eq_false fun z => hl (by rw [h1.1, h2.1, z])
  rw [show (xs.length == ys.length) = false by simpa using hl, Bool.and_false] at key
  rw [e]
  exact key
theorem bears_ints (ns : List Int) : Bears (fun x (z : Int) => x = .int z) (IL ns) ns := ⟨il_length ns, fun i z e => ⟨_, il_at e, rfl⟩⟩
theorem eqd_int {n : Nat} {x y : V} {a b : Int} (hx : x = .int a) (hy : y = .int b) : EqD K H n x y (decide (a = b)) := by
 subst hx hy
 have e : decide (a = b) = eqV (.int a) (.int b) := by
  show decide (a = b) = (a == b)
  rw [Bool.beq_eq_decide_eq]
 rw [e]
 exact EqD.flat rfl rfl
theorem eqd_tints {p q : Addr} {ns ms : List Int} (hp : SqT K H p (IL ns)) (hq : SqT K H q (IL ms)) : EqD K H 1 (.ref p) (.ref q) (decide (ns = ms)) :=
 eqd_tups hp hq (bears_ints ns) (bears_ints ms) fun _ _ _ _ => eqd_int
theorem eqd_bools {p q : Addr} {bs cs : List Bool} (hp : SqL K H p (bs.map V.bl)) (hq : SqL K H q (cs.map V.bl)) : EqD K H 1 (.ref p) (.ref q) (decide (bs = cs)) := by
 have be : ∀ bs : List Bool, Bears (fun x (b : Bool) => x = .bl b) (bs.map V.bl) bs := fun bs => ⟨List.length_map .., fun i b e => ⟨_, by rw [List.getElem?_map, e]; rfl, rfl⟩⟩
 refine eqd_lists hp hq (be bs) (be cs) fun x y a b hx hy => ?_
 subst hx hy
 have e : decide (a = b) = eqV (.bl a) (.bl b) := by
  show decide (a = b) = (a == b)
  rw [Bool.beq_eq_decide_eq]
 rw [e]
 exact EqD.flat rfl rfl
theorem bears_pairs {xs : List V} {ps : List (Int × Int)} (h : PairsV H xs ps) : Bears (PairV H) xs ps := h
theorem eqd_pair {n : Nat} {x y : V} {a b : Int × Int} (hx : PairV H x a) (hy : PairV H y b) : EqD K H (n + 1) x y (decide (a = b)) := by
 obtain ⟨t, rfl, ht⟩ := hx
 obtain ⟨u, rfl, hu⟩ := hy
 have be : ∀ c : Int × Int, Bears (fun x (z : Int) => x = .int z) ([.int c.1, .int c.2] : List V) [c.1, c.2] := fun c => bears_ints [c.1, c.2]
 have k := eqd_tups (n := n) (SqT.of ht) (SqT.of hu) (be a) (be b) fun _ _ _ _ => eqd_int (K := K) (H := H)
 have e : decide ([a.1, a.2] = [b.1, b.2]) = decide (a = b) := by
  obtain ⟨a1, a2⟩ := a
  obtain ⟨b1, b2⟩ := b
  simp
 rw [e] at k
 exact k
theorem eqd_pairs {p q : Addr} {xs ys : List V} {ps qs : List (Int × Int)} (hp : SqL K H p xs) (hq : SqL K H q ys) (h1 : PairsV H xs ps) (h2 : PairsV H ys qs) : EqD K H 2 (.ref p) (.ref q) (decide (ps = qs)) :=
 eqd_lists hp hq (bears_pairs h1) (bears_pairs h2) fun _ _ _ _ => eqd_pair
def ListV (H : Hp) (v : V) (l : List Int) : Prop := ∃ a, v = .ref a /\ H a = some (.lst (IL l))
end
end My
namespace My
def fstB (M : List Int) (p : Nat) : Bool := (List.range p).all fun i => decide (mk M i ≠ mk M p)
def posA (M : List Int) (k : Int) (i : Nat) : List Int := ((List.range i).filter fun j => decide (mk M j = k)).map fun (j : Nat) => (j : Int)
def fstA (M : List Int) (i : Nat) : List Nat := (List.range i).filter (fstB M)
theorem fstB_iff {M : List Int} {p : Nat} : fstB M p = true ↔ ∀ i, i < p -> mk M i ≠ mk M p := by
 unfold fstB
 rw [List.all_eq_true]
 constructor
 ·intro h i hi; exact of_decide_eq_true (h i (List.mem_range.mpr hi))
 ·intro h i hi; exact decide_eq_true (h i (List.mem_range.mp hi))
theorem posA_succ (M : List Int) (k : Int) (i : Nat) : posA M k (i + 1) = posA M k i ++ (if mk M i = k then [(i : Int)] else []) := by
 unfold posA
 rw [List.range_succ, List.filter_append, List.map_append]
 congr 1
 by_cases h : mk M i = k
 ·rw [if_pos h, List.filter_cons, if_pos (by simpa using h)]; rfl
 ·rw [if_neg h, List.filter_cons, if_neg (by simpa using h)]; rfl
theorem fstA_succ (M : List Int) (i : Nat) : fstA M (i + 1) = fstA M i ++ (if fstB M i = true then [i] else []) := by
 unfold fstA
 rw [List.range_succ, List.filter_append]
 congr 1
 by_cases h : fstB M i = true
 ·rw [if_pos h, List.filter_cons, if_pos h]; rfl
 ·rw [if_neg h, List.filter_cons, if_neg h]; rfl
theorem grpA_eq (M : List Int) : ∀ i, grpA M i = (fstA M i).map fun p => (mk M p, posA M (mk M p) i)
 | 0 => rfl
 | i + 1 => by
  have ih := grpA_eq M i
  show gstep (grpA M i) (i : Int) (mk M i) = _
  have hk : (mk M i ∈ (grpA M i).map (·.1)) ↔ fstB M i ≠ true := by
   constructor
   ·intro h q
    obtain ⟨j, hj, e⟩ := grpA_of_key M i _ h
    exact fstB_iff.mp q j hj e
   ·intro h
    by_cases q : ∃ j, j < i /\ mk M j = mk M i
    ·obtain ⟨j, hj, e⟩ := q
     rw [<- e]
     exact grpA_key hj
    ·exact absurd (fstB_iff.mpr fun j hj e => q ⟨j, hj, e⟩) h
  unfold gstep
  by_cases h : mk M i ∈ (grpA M i).map (·.1)
  ·have hf := hk.mp h
   rw [if_pos h, fstA_succ, if_neg hf, List.append_nil, ih, List.map_map]
   refine List.map_congr_left fun p _ => ?_
   show (if mk M p = mk M i then (mk M p, posA M (mk M p) i ++ [(i : Int)]) else (mk M p, posA M (mk M p) i)) = (mk M p, posA M (mk M p) (i + 1))
   rw [posA_succ]
   by_cases e : mk M p = mk M i
   ·rw [if_pos e, if_pos e.symm]
   ·rw [if_neg e, if_neg (fun z => e z.symm), List.append_nil]
  ·have hf : fstB M i = true := by
    cases q : fstB M i with
    | true => rfl
    | false => exact absurd (hk.mpr (by rw [q]; exact Bool.false_ne_true)) h
   rw [if_neg h, fstA_succ, if_pos hf, List.map_append, ih]
   congr 1
   ·refine List.map_congr_left fun p hp => ?_
    have hpi : p < i := List.mem_range.mp (List.mem_filter.mp hp).1
    rw [posA_succ, if_neg (fun z => fstB_iff.mp hf p hpi z.symm), List.append_nil]
   ·show [(mk M i, [(i : Int)])] = [(mk M i, posA M (mk M i) (i + 1))]
    rw [posA_succ, if_pos rfl]
    have e0 : posA M (mk M i) i = [] := by
     unfold posA
     rw [List.filter_eq_nil_iff.mpr fun j hj => by simpa using fstB_iff.mp hf j (List.mem_range.mp hj)]
     rfl
    rw [e0]
    rfl
end My
namespace My
open PySem L2
theorem Bears.snoc {α : Type} [DecidableEq α] {R : V -> α -> Prop} {xs : List V} {l : List α} {x : V} {a : α} (h : Bears R xs l) (hx : R x a) : Bears R (xs ++ [x]) (l ++ [a]) := by
 refine ⟨by rw [List.length_append, List.length_append, h.1]; rfl, fun i b e => ?_⟩
 by_cases hi : i < l.length
 ·rw [List.getElem?_append_left hi] at e
  rw [List.getElem?_append_left (by rw [h.1]; exact hi)]
  exact h.2 i b e
 ·have hl : i = l.length := by
   have := (List.getElem?_eq_some_iff.mp e).1
   rw [List.length_append, List.length_singleton] at this
   omega
  subst hl
  rw [List.getElem?_append_right (Nat.le_refl _), Nat.sub_self] at e
  rw [List.getElem?_append_right (by rw [h.1]; exact Nat.le_refl _), h.1, Nat.sub_self]
  have e' : a = b := Option.some.inj e
  subst e'
  exact ⟨x, rfl, hx⟩
theorem Bears.imp {α : Type} [DecidableEq α] {R R' : V -> α -> Prop} {xs : List V} {l : List α} (h : Bears R xs l) (f : ∀ x a, R x a -> R' x a) : Bears R' xs l := ⟨h.1, fun i a e => let ⟨x, e1, r⟩ := h.2 i a e; ⟨x, e1, f x a r⟩⟩
end My
namespace L2
open PySem PySem.Spec PyProof.Rows
theorem ObjOk.there {P : Program} {w : World} {H : Hp} {h : Heap} {a : Addr} {o : HO} (x : ObjOk P w H h a o) : ∃ u, h.get? a = some u := by
 cases o with
 | lst xs => obtain ⟨_, _, _, _, e⟩ := x; exact ⟨_, e⟩
 | tup xs => obtain ⟨_, _, _, o, e, _⟩ := x; exact ⟨_, e⟩
 | dK kvs => obtain ⟨_, _, _, _, o, _, _, e, _⟩ := x; exact ⟨_, e⟩
 | dT kvs => obtain ⟨_, _, _, _, o, _, _, e, _⟩ := x; exact ⟨_, e⟩
 | set S n => obtain ⟨o, _, _, _, e, _⟩ := x; exact ⟨_, e⟩
 | ins C dx fs => obtain ⟨_, _, _, e, _⟩ := x; exact ⟨_, e⟩
 | own y => exact x
 | xd fs => obtain ⟨_, ⟨_, _, _, e, _⟩, _⟩ := x; exact ⟨_, e⟩
 | rng lo hi => obtain ⟨_, _, _, e⟩ := x; exact ⟨_, e⟩
 | frz ob u => obtain ⟨e, _⟩ := x; exact ⟨_, e⟩
 | tbl ps => exact ⟨_, x⟩
 | met f y => exact ⟨_, x⟩
 | ext φ => obtain ⟨_, e, _⟩ := x; exact e
structure Fly (h0 : Heap) (H : Hp) (e C : Addr) (h : Heap) : Prop where
 ex : ∃ oe vs T oT ts a0, h.get? e = some oe /\ oe.cls = .ref C /\ oe.data = .fields vs /\ vs[0]? = some a0 /\ vs[1]? = some (.ref T) /\ T ≠ e /\ h.get? T = some oT /\ oT.data = .fields ts /\ ts[3]? = some .none /\ h0.get? T = none /\ H T = none
 new : h0.get? e = none
 free : H e = none
def CXW (P : Program) (w : World) : CXT := fun outer H s E ev s' => ∃ (e C : Addr) (H' : Hp), ev = Value.ref e /\ s'.os = s.os /\ AllBare s'.gens /\ Un (frs outer) [] H H' s.heap s'.heap /\ HOk P w H' s'.heap /\ Fly s.heap H' e C s'.heap /\ E (.ref C) none H'
section
variable {X : Cx} {pins : List (Addr × Obj)} {σ : St} {H : Hp} {s : Shared} {e C : Addr}
abbrev grd (X : Cx) (h : Heap) (ns : List Addr) : Heap := PySem.W.hideAll h (frs X.stack ++ ns)
theorem grd_get {h : Heap} {ns : List Addr} {b : Addr} {o : Obj} (q : h.get? b = some o) (h1 : b ∉ frs X.stack) (h2 : b ∉ ns) : (grd X h ns).get? b = some o :=
 PySem.W.hideAll_get _ q fun z => (List.mem_append.mp z).elim h1 h2
theorem grd_of {h : Heap} {ns : List Addr} : (grd X h ns).StaysIn h := fun _ _ q => PySem.W.of_hideAll _ q
theorem Inv.was (I : Inv X pins σ H s) (hex : X.ex = []) {b : Addr} (h : s.heap.get? b = none) : X.s₀.heap.get? b = none := by
 cases q : X.s₀.heap.get? b with
 | none => rfl
 | some o =>
  obtain ⟨o', e⟩ := I.base.there b o q (by rw [hex]; simp)
  rw [h] at e; cases e
theorem hok_grd {P : Program} {w : World} {h' : Heap} {ns : List Addr} {h : Heap} (ok : HOk P w H h) (hf : ∀ b ∈ frs X.stack, H b = none) (hns : ∀ b ∈ ns, H b = none) (k : (grd X h ns).StaysIn h') : HOk P w H h' := fun a o q =>
 (ok a o q).stay (fun b u hb g => k b u (grd_get g (fun z => by
  have := hf b z
  rcases hb with rfl | hb
  ·rw [q] at this; cases this
  ·rw [hb] at this; cases this) fun z => by
  have := hns b z
  rcases hb with rfl | hb
  ·rw [q] at this; cases this
  ·rw [hb] at this; cases this)) (fun _ z => z) fun _ _ z => z
theorem frs_stack (hst : X.stack = X.env :: X.outer) (hfr : X.env.frame = some X.env.locals) : frs X.stack = X.env.locals :: frs X.outer := by
 rw [hst]
 unfold frs
 rw [List.filterMap_cons, hfr]
theorem cx_left (hst : X.stack = X.env :: X.outer) (hfr : X.env.frame = some X.env.locals) (hex : X.ex = []) (I : Inv X pins σ H s) {ns : List Addr} (hns : ∀ b ∈ ns, X.s₀.heap.get? b = none /\ H b = none) {h' : Heap} {a0 : Value} {E : XK} {s' : Shared}
  (hfl : Heap.FlyingW (grd X s.heap ns) X.outer e (.ref C) a0 h') (up : s.heap.UpToSlots h') (ne : X.s₀.heap.get? e = none) (fe : H e = none) (hE : E (.ref C) none H) (hs : s'.heap = h') (ho : s'.os = s.os) (hg : s'.gens = s.gens) :
  CXW X.prog X.w X.outer X.H₀ X.s₀ E (.ref e) s' := by
 subst hs
 have fst := frs_stack (X := X) hst hfr
 have noL : ∀ b o, X.s₀.heap.get? b = some o -> b ≠ X.env.locals := fun b o q => Nat.ne_of_lt (Nat.lt_of_lt_of_le (Heap.lt_size q) I.ok.above)
 have nns : ∀ b o, X.s₀.heap.get? b = some o -> b ∉ ns := fun b o q z => by rw [(hns b z).1] at q; cases q
 have nfs : ∀ b o, X.s₀.heap.get? b = some o -> b ∉ frs X.outer -> b ∉ frs X.stack := fun b o q n z => by
  rw [fst] at z
  rcases List.mem_cons.mp z with z | z
  ·exact noL b o q z
  ·exact n z
 have nex : ∀ b, b ∉ X.ex := fun b z => by rw [hex] at z; cases z
 have keep : ∀ b o u, X.s₀.heap.get? b = some o -> b ∉ frs X.outer -> s.heap.get? b = some u -> s'.heap.get? b = some u := fun b o u q n g => hfl.1 b u (grd_get g (nfs b o q n) (nns b o q))
 have slot : ∀ b u, b ∈ frs X.outer -> s.heap.get? b = some u -> ∃ sl, s'.heap.get? b = some { u with slots := sl } := fun b u hb g => by
  obtain ⟨_, o', ho', hd⟩ := I.funs.mem hb
  rw [g] at ho'
  cases ho'
  exact up b u g hd
 refine ⟨e, C, H, rfl, ho.trans I.os, hg ▸ I.bare, ⟨fun b o q n hb _ => ?_, fun b o q n hb _ => ?_, fun b o q n _ => I.base.free b o q n (nex b), fun b o q _ => ?_, I.base.tups, I.base.frzs, I.base.tbls⟩, hok_grd I.hok I.stkFree (fun b hb => (hns b hb).2) hfl.1, ⟨?_, ne, fe⟩, hE⟩
 ·exact keep b o o q hb (I.base.keep b o q n hb (nex b))
 ·obtain ⟨sl, g⟩ := I.base.slot b o q n hb (nex b)
  obtain ⟨sl', g'⟩ := slot b _ hb g
  exact ⟨sl', g'⟩
 ·obtain ⟨u, g⟩ := I.base.there b o q (nex b)
  by_cases hb : b ∈ frs X.outer
  ·obtain ⟨sl, g'⟩ := slot b u hb g
   exact ⟨_, g'⟩
  ·exact ⟨u, keep b o u q hb g⟩
 ·obtain ⟨f1, f2, f3, oe, vs, T, oT, ts, he, ⟨hc, h0⟩, hd, h1, hnT, hTe, hT, hdT, h3⟩ := hfl
  refine ⟨oe, vs, T, oT, ts, a0, he, hc, hd, h0, h1, hTe, hT, hdT, h3, ?_, ?_⟩
  ·cases q : X.s₀.heap.get? T with
   | none => rfl
   | some o =>
    obtain ⟨u, g⟩ := I.base.there T o q (nex T)
    by_cases hb : T ∈ frs X.outer
    ·obtain ⟨_, o', ho', hd'⟩ := f3.mem hb
     rw [hT] at ho'
     cases ho'
     exact absurd hdT (hd' ts)
    ·rw [grd_get g (nfs T o q hb) (nns T o q)] at hnT
     cases hnT
  ·cases q : H T with
   | none => rfl
   | some ho =>
    obtain ⟨u, g⟩ := (I.hok T ho q).there
    rw [grd_get g (fun z => by rw [I.stkFree T z] at q; cases q) (fun z => by rw [(hns T z).2] at q; cases q)] at hnT
    cases hnT
theorem fly_base (hst : X.stack = X.env :: X.outer) (I : Inv X pins σ H s) {h0 : Heap} (F : Fly h0 H e C s.heap) : ∃ T a0, Heap.FlyingW (grd X s.heap [e, T]) X.stack e (.ref C) a0 s.heap /\ h0.get? T = none /\ H T = none := by
 obtain ⟨oe, vs, T, oT, ts, a0, he, hc, hd, h0', h1, hTe, hT, hdT, h3, nT, fT⟩ := F.ex
 refine ⟨T, a0, ⟨grd_of, PySem.W.hideAll_none _ (by simp), ?_, oe, vs, T, oT, ts, he, ⟨hc, h0'⟩, hd, h1, PySem.W.hideAll_none _ (by simp), hTe, hT, hdT, h3⟩, nT, fT⟩
 exact PySem.W.funFrames_hide I.stack fun env henv a hf => List.mem_append_left _ (List.mem_filterMap.mpr ⟨env, henv, hf⟩)
theorem leave_fly (hst : X.stack = X.env :: X.outer) (hfr : X.env.frame = some X.env.locals) (hex : X.ex = []) (I : Inv X pins σ H s) (F : Fly X.s₀.heap H e C s.heap) {E : XK} (hE : E (.ref C) none H) {E' : Value -> Shared -> Prop} :
  wpAny (model X.prog X.w) X.A (leaving X.env (.ref e)) (fun _ s'' => CXW X.prog X.w X.outer X.H₀ X.s₀ E (.ref e) s'') E' s := by
 obtain ⟨T, a0, fl, nT, fT⟩ := fly_base hst I F
 rw [hst] at fl
 refine wpAny_leaves_onW (by rw [I.ok.frames, hst]) hfr fl fun h' fl' up => ?_
 refine cx_left hst hfr hex I (fun b hb => ?_) fl' up F.new F.free hE rfl rfl rfl
 rcases List.mem_cons.mp hb with rfl | hb
 ·exact ⟨F.new, F.free⟩
 ·rw [List.mem_singleton.mp hb]; exact ⟨nT, fT⟩
theorem leave_made (hst : X.stack = X.env :: X.outer) (hfr : X.env.frame = some X.env.locals) (hex : X.ex = []) (I : Inv X pins σ H s) {h' : Heap} {vs : List Value} (hm : Heap.MadeExcOf s.heap h' e (.ref C) vs) {E : XK} (hE : E (.ref C) none H) {E' : Value -> Shared -> Prop} :
  wpAny (model X.prog X.w) X.A (leaving X.env (.ref e)) (fun _ s'' => CXW X.prog X.w X.outer X.H₀ X.s₀ E (.ref e) s'') E' { s with heap := h' } := by
 have ff : s.heap.FunFrames (grd X s.heap []) X.stack := PySem.W.funFrames_hide I.stack fun env henv a hf => List.mem_append_left _ (List.mem_filterMap.mpr ⟨env, henv, hf⟩)
 rw [hst] at ff
 refine wpAny_leaves_madeW (base := grd X s.heap []) (h := s.heap) (by rw [I.ok.frames, hst]) hfr grd_of ff hm fun h'' t fl _ _ up => ?_
 have fe : H e = none := by
  cases q : H e with
  | none => rfl
  | some ho =>
   obtain ⟨u, g⟩ := (I.hok e ho q).there
   rw [hm.new] at g
   cases g
 exact cx_left (s' := { s with heap := h'' }) hst hfr hex I (fun b hb => by cases hb) fl ((Heap.UpToSlots.of_keeps hm.keeps).trans up) (I.was hex hm.new) fe hE rfl rfl rfl
theorem Inv.flown {E : XK} {ev : Value} {s' : Shared} (I : Inv X pins σ H s) (h : CXW X.prog X.w X.stack H s E ev s') : ∃ e C H', ev = Value.ref e /\ Inv X pins σ H' s' /\ Fly s.heap H' e C s'.heap /\ E (.ref C) none H' := by
 obtain ⟨e, C, H', rfl, ho, hg, u, ok, F, hE⟩ := h
 exact ⟨e, C, H', rfl, I.call' (ch := []) ho u ok hg (fun _ z => nomatch z), F, hE⟩
theorem Fly.older {h0 h1 h : Heap} (F : Fly h0 H e C h) (k : ∀ b, h0.get? b = none -> h1.get? b = none) : Fly h1 H e C h := by
 obtain ⟨oe, vs, T, oT, ts, a0, he, hc, hd, h0', h1', hTe, hT, hdT, h3, nT, fT⟩ := F.ex
 exact ⟨⟨oe, vs, T, oT, ts, a0, he, hc, hd, h0', h1', hTe, hT, hdT, h3, k _ nT, fT⟩, k _ F.new, F.free⟩
end
section
variable {P : Program} {w : World} {K : PySem.W.Frag} {mg : Str -> Option Value} {base : Heap}
theorem pxs {N : List Str} {qual : Str} {scope : Scope} {f : Addr} {cd : Value} {A : Around} {outer : List Env} {s : Shared} {H : Hp} {E : XK} : Passes (CXW P w) (cxOf (CXW P w) P w K mg base N qual scope f cd A outer s H E) E := by
 intro pins σ H1 s1 ev s' I h
 obtain ⟨e, C, H', rfl, J, F, hE⟩ := I.flown h
 exact leave_fly rfl rfl rfl J (F.older fun b hb => I.was rfl hb) hE
theorem Fun.okX {x qual : Str} {st : Stmt} {f : Addr} {fd : FuncData} {N ps : List Str} {k : Nat} {sp : Sp} (F : Fun K x qual st f fd) (S : FnScope N ps (defScope st)) (len : ∀ vs H Q E, sp vs H Q E -> vs.length = ps.length)
  (hbody : ∀ (cdv : Value) (A : Around) (outer : List Env) (s : Shared) (H : Hp) (vs : List V) (Q : VK) (E : XK), Room k (A.deeper (envOfC qual (defScope st) s.heap.objs.size f cdv)) -> sp vs H Q E ->
   ∃ t, PSs (cxOf (CXW P w) P w K mg base N qual (defScope st) f cdv A outer s H E) (defBody st) t /\ t { nx := fun _ H' => Q .non H', rt := Q } (start N vs) H) : FnOk P w K mg base (CXW P w) (k + 1) f fd ps sp := by
 obtain ⟨oc, od, kV, doc, pm, an, cdv, ct, osl, rfl, lk, hcd⟩ := F.ex
 exact fn_of lk hcd S len fun A outer s H vs Q E hr hsp => hbody cdv A outer s H vs Q E hr hsp
end
structure XCls (K : PySem.W.Frag) (C : Addr) : Prop where
 ex : PySem.W.excIn K C [.type "ValueError", .type "Exception", .type "BaseException", .type "object"] "ValueError.__new__" = true
 ga : PySem.W.findIn K (.ref C) "__getattribute__" = some (some (.builtin "BaseException.__getattribute__"))
 gh : PySem.W.findIn K (.ref C) "__getattr__" = some none
 cl : PySem.W.findIn K (.ref C) "__class__" = some (some (.builtin "object.__class__"))
 ob : PySem.W.mroIn K C (.type "object") = some true
 bx : PySem.W.mroIn K C (.type "BaseException") = some true
theorem XCls.obj {K : PySem.W.Frag} {C : Addr} {h : Heap} (c : XCls K C) (X : K.In h) : ∃ bm N nm q bs hdct sn sub ab col dd k0 k1 k2 k3 k5 mN, h.get? C = some (excClassObj nm q C N bs bm hdct sn sub ab col dd k0 k1 k2 k3 k5 "ValueError.__new__") /\ h.Ns N mN /\ mN "__init__" = none /\ OwnTail h [.type "ValueError", .type "Exception", .type "BaseException", .type "object"] bm := by
 have q := c.ex
 unfold PySem.W.excIn at q
 split at q
 ·rename_i dd cd sl ho
  split at q
  ·rename_i C' bm k0 k1 k2 k3 n k5 hm hs
   simp only [Bool.and_eq_true, beq_iff_eq, Bool.not_eq_true'] at q
   obtain ⟨⟨⟨⟨⟨rfl, rfl⟩, hdel⟩, ht⟩, hok⟩, hni⟩ := q
   obtain ⟨nm, bs, mro, ns, qn, hd, sn, sub, ab, col, del⟩ := cd
   dsimp only at hm hdel hok hni
   subst hm hdel
   have hsl : sl = #[k0, k1, k2, k3, some (.builtin "ValueError.__new__"), k5] := by
    obtain ⟨l⟩ := sl
    simp only at hs
    rw [hs]
   subst hsl
   exact ⟨bm, ns, nm, qn, bs, hd, sn, sub, ab, col, dd, k0, k1, k2, k3, k5, _, X _ _ ho, .of_isNs (PySem.W.isNs_of_in X hok), PySem.W.nsMap_none_of_in X hok hni, PySem.W.tail_of_in X ht⟩
  ·cases q
 ·cases q
def tRaise (C : Addr) (E : XK) (t : TA) : TS := fun _ σ H => t σ H fun vs H1 => vs.length <= sizeLine /\ E (.ref C) none H1
theorem ps_raise {P : Program} {w : World} {K : PySem.W.Frag} {mg : Str -> Option Value} {base : Heap} {N : List Str} {qual : Str} {scope : Scope} {f : Addr} {cd : Value} {A : Around} {outer : List Env} {s0 : Shared} {H0 : Hp} {E : XK} {C : Addr} {x : Str} {np cpos pos : Pos} {e₀ : Expr} {rest : List Expr} {t : TA}
  (c : XCls K C) (hm : mg x = some (.ref C)) (ha : PA (cxOf (CXW P w) P w K mg base N qual scope f cd A outer s0 H0 E) (e₀ :: rest) t)
  (hg : Gl (cxOf (CXW P w) P w K mg base N qual scope f cd A outer s0 H0 E) x := by rfl) (hd : (x == ("__debug__" : Str)) = false := by decide)
  (he : starEach (e₀ :: rest) (cxOf (CXW P w) P w K mg base N qual scope f cd A outer s0 H0 E).env = (false, eval e₀ (cxOf (CXW P w) P w K mg base N qual scope f cd A outer s0 H0 E).env) :: starEach rest (cxOf (CXW P w) P w K mg base N qual scope f cd A outer s0 H0 E).env := by rfl)
  (hplain : (backTo cpos (starEach rest (cxOf (CXW P w) P w K mg base N qual scope f cd A outer s0 H0 E).env)).any (·.1) = false := by rfl) :
  PS (cxOf (CXW P w) P w K mg base N qual scope f cd A outer s0 H0 E) (.Raise (some (.Call (.Name x np) (e₀ :: rest) [] cpos)) none pos) (tRaise C E t) := by
 intro pins s σ H D I h
 obtain ⟨tl, NN, nm, q, bs, hdct, sn, sub, ab, col, dd, k0, k1, k2, k3, k5, mN, hC, hN, hni, T⟩ := c.obj I.ok.mod.kin
 refine wpAny_Raise_call_subT (C := C) (nm := nm) (q := q) (N := NN) (bs := bs) (bm := tl) (hdct := hdct) (sn := sn) (sub := sub) (ab := ab) (col := col) (dd := dd) (k0 := k0) (k1 := k1) (k2 := k2) (k3 := k3) (k5 := k5)
  PySem.F.excBase_ValueError (mN := mN) (T.hasType PySem.F.excBase_ValueError.hasBase) (I.ok.hd rfl) (by rw [he]; show (false || (backTo cpos (starEach rest _)).any (·.1)) = false; rw [hplain]; rfl) hni (ld_glob I hg hm ⟨rfl, ?_⟩ hd)
 have h := ha cpos pins s σ H _ I h
 rw [he] at h ⊢
 refine Calls.evalArgs_plain (wpAny_mono h (fun vs s₂ h₂ => ?_) fun _ _ y => y)
 obtain ⟨zs, H2, I2, rz, hz, hE⟩ := h₂
 refine ⟨rfl, by rw [<- rz.length]; exact hz, I2.bk _ _ hC, hN.keeps I2.bk, T.keeps I2.bk, fun h' e hme => ?_⟩
 exact leave_made rfl rfl rfl I2 hme hE
section
variable {X : Cx} {pins : List (Addr × Obj)} {σ : St} {H : Hp} {s : Shared} {e C : Addr}
theorem Inv.held (I : Inv X pins σ H s) {ns : List Addr} {h' : Heap} {tk : Nat} (hns : ∀ b ∈ ns, X.s₀.heap.get? b = none /\ H b = none /\ (∀ p ∈ X.pn ++ pins, p.1 ≠ b)) (k : (grd X s.heap ns).StaysIn h') (up : s.heap.UpToSlots h') : Inv X pins σ H { s with heap := h', toks := tk } := by
 have nns : ∀ b o, X.s₀.heap.get? b = some o -> b ∉ ns := fun b o q z => by rw [(hns b z).1] at q; cases q
 have noL : ∀ b o, X.s₀.heap.get? b = some o -> b ≠ X.env.locals := fun b o q => Nat.ne_of_lt (Nat.lt_of_lt_of_le (Heap.lt_size q) I.ok.above)
 have nfs : ∀ b, b ≠ X.env.locals -> b ∉ X.fs -> b ∉ frs X.stack := fun b h1 h2 z => (List.mem_cons.mp (I.stkSub b z)).elim h1 h2
 have slot : ∀ b u, b ∈ X.fs -> s.heap.get? b = some u -> ∃ sl, h'.get? b = some { u with slots := sl } := fun b u hb g => by
  obtain ⟨_, o', ho', hd⟩ := I.funs.mem hb
  rw [g] at ho'
  cases ho'
  exact up b u g hd
 have cellK : ∀ c v, s.heap.IsCell c v -> h'.IsCell c v := fun c v ⟨o, ho, hd⟩ => by
  obtain ⟨sl, g⟩ := up c o ho fun vs q => by rw [hd] at q; cases q
  exact ⟨_, g, hd⟩
 refine ⟨I.ok, I.os, I.bare, ⟨fun b o q n hb hx => ?_, fun b o q n hb hx => ?_, I.base.free, fun b o q hx => ?_, I.base.tups, I.base.frzs, I.base.tbls⟩, ?_, fun x c q => ?_, I.free, I.freeC, fun p hp => ?_, hok_grd I.hok I.stkFree (fun b hb => (hns b hb).2.1) k, I.len⟩
 ·exact k b o (grd_get (I.base.keep b o q n hb hx) (nfs b (noL b o q) hb) (nns b o q))
 ·obtain ⟨sl, g⟩ := I.base.slot b o q n hb hx
  obtain ⟨sl', g'⟩ := slot b _ hb g
  exact ⟨sl', g'⟩
 ·obtain ⟨u, g⟩ := I.base.there b o q hx
  by_cases hb : b ∈ X.fs
  ·obtain ⟨sl, g'⟩ := slot b u hb g
   exact ⟨_, g'⟩
  ·exact ⟨u, k b u (grd_get g (nfs b (noL b o q) hb) (nns b o q))⟩
 ·obtain ⟨m, hn, hl⟩ := I.loc
  refine ⟨m, up.ns hn, fun i x v e1 e2 e3 => ?_⟩
  obtain ⟨u, r, l⟩ := hl i x v e1 e2 e3
  refine ⟨u, r, ?_⟩
  rcases l with l | ⟨kk, c, q, z⟩
  ·exact .inl l
  ·exact .inr ⟨kk, c, q, cellK c _ z⟩
 ·obtain ⟨v, z⟩ := I.cell x c q
  exact ⟨v, cellK c v z⟩
 ·obtain ⟨q, n, ne, nf, d⟩ := I.pin p hp
  exact ⟨k p.1 p.2 (grd_get q (nfs p.1 ne nf) fun z => (hns p.1 z).2.2 p hp rfl), n, ne, nf, d⟩
theorem Inv.gone (I : Inv X pins σ H s) (hN : X.N.Nodup) {i : Nat} {n : Str} {h' : Heap} {tk : Nat} {m : Str -> Option Value} {v : Option Value} (hi : X.N[i]? = some n) (hn : s.heap.Ns X.env.locals m)
  (hn' : h'.Ns X.env.locals (fun x => if x = n then v else m x)) (hs : Heap.SameBut X.env.locals s.heap h') : Inv X pins (σ.set i none) H { s with heap := h', toks := tk } := by
 obtain ⟨m0, hn0, hl⟩ := id I.loc
 have em : m0 = m := by
  funext x
  obtain ⟨o, es, ep, ho, hd, _, hf⟩ := hn0
  obtain ⟨o', es', ep', ho', hd', _, hf'⟩ := hn
  rw [ho] at ho'
  cases ho'
  rw [hd] at hd'
  cases hd'
  rw [<- hf, <- hf']
 subst em
 have cne := I.cne
 have hiσ : i < σ.length := by rw [I.len]; exact (List.getElem?_eq_some_iff.mp hi).1
 obtain ⟨oL, _, _, hoL, _⟩ := id hn
 refine ⟨I.ok, I.os, I.bare, ⟨fun b o q n hb hx => ?_, fun b o q n hb hx => ?_, I.base.free, fun b o q hx => ?_, I.base.tups, I.base.frzs, I.base.tbls⟩, ⟨_, hn', fun j y v' e1 e2 e3 => ?_⟩, fun y c q => ?_, I.free, I.freeC, fun p hp => ?_, fun b ob q => ?_, by simpa using I.len⟩
 ·exact (hs.2 b (Nat.ne_of_lt (Nat.lt_of_lt_of_le (Heap.lt_size q) I.ok.above))).trans (I.base.keep b o q n hb hx)
 ·obtain ⟨sl, e1⟩ := I.base.slot b o q n hb hx
  exact ⟨sl, (hs.2 b (Nat.ne_of_lt (Nat.lt_of_lt_of_le (Heap.lt_size q) I.ok.above))).trans e1⟩
 ·obtain ⟨o', e1⟩ := I.base.there b o q hx
  exact ⟨o', (hs.2 b (Nat.ne_of_lt (Nat.lt_of_lt_of_le (Heap.lt_size q) I.ok.above))).trans e1⟩
 ·by_cases hj : j = i
  ·subst hj
   rw [List.getElem?_set_self hiσ] at e2
   cases e2
  ·rw [List.getElem?_set_ne (Ne.symm hj)] at e2
   obtain ⟨u', r', q⟩ := hl j y v' e1 e2 e3
   refine ⟨u', r', ?_⟩
   rcases q with ⟨k, e⟩ | ⟨k, c, e, z⟩
   ·refine .inl ⟨k, ?_⟩
    have : y ≠ n := fun e => hj (nodup_ix hN e1 (e ▸ hi))
    simp [this, e]
   ·exact .inr ⟨k, c, e, z.sameBut hs (cne y c e)⟩
 ·obtain ⟨w', z⟩ := I.cell y c q
  exact ⟨w', z.sameBut hs (cne y c q)⟩
 ·obtain ⟨q, n, ne, nf, d⟩ := I.pin p hp
  exact ⟨(hs.2 p.1 ne).trans q, n, ne, nf, d⟩
 ·refine (I.hok b ob q).stay (fun c w' hc q' => (hs.2 c ?_).trans q') (fun _ q => q) fun _ _ q => q
  rintro rfl
  rcases hc with z | hc
  ·subst z
   rw [I.free] at q; cases q
  ·rw [I.free] at hc; cases hc
end
abbrev tryCx (X : Cx) (pins : List (Addr × Obj)) (R : St -> XK) : Cx := { X with pn := X.pn ++ pins, xe := fun ev s' => ∃ (σ : St) (H1 : Hp) (s1 : Shared), Inv X pins σ H1 s1 /\ CXW X.prog X.w X.stack H1 s1 (R σ) ev s' }
abbrev hanCx (X : Cx) (pins : List (Addr × Obj)) (e : Addr) (oe : Obj) : Cx := { X with A := X.A.mark (some (.ref e)), calm := false, pn := X.pn ++ pins ++ [(e, oe)], xe := fun _ _ => False }
section
variable {X : Cx} {pins pins' : List (Addr × Obj)} {σ : St} {H : Hp} {s : Shared} {R : St -> XK} {e C : Addr} {oe : Obj}
theorem Inv.inTry (I : Inv X pins σ H s) : Inv (tryCx X pins R) [] σ H s :=
 ⟨⟨I.ok.mod, I.ok.kind, I.ok.glob, I.ok.blt, I.ok.above, I.ok.inj, I.ok.has, I.ok.cab, I.ok.hd, I.ok.frames, I.ok.stk, I.ok.exf, I.ok.bs, I.ok.bsz, I.ok.noex, I.ok.exfs, I.ok.funs, I.ok.frf⟩, I.os, I.bare, I.base, I.loc, I.cell, I.free, I.freeC, fun p hp => I.pin p (by simpa using hp), I.hok, I.len⟩
theorem Inv.outTry (I : Inv (tryCx X pins R) pins' σ H s) : Inv X pins σ H s :=
 ⟨⟨I.ok.mod, I.ok.kind, I.ok.glob, I.ok.blt, I.ok.above, I.ok.inj, I.ok.has, I.ok.cab, I.ok.hd, I.ok.frames, I.ok.stk, I.ok.exf, I.ok.bs, I.ok.bsz, I.ok.noex, I.ok.exfs, I.ok.funs, I.ok.frf⟩, I.os, I.bare, I.base, I.loc, I.cell, I.free, I.freeC, fun p hp => I.pin p (List.mem_append_left _ hp), I.hok, I.len⟩
theorem SP.outTry {D : Ends} {f : Flow} (h : SP (tryCx X pins R) [] D f s) : SP X pins D f s := by
 cases f with
 | next => obtain ⟨σ', H', I, q⟩ := h; exact ⟨σ', H', I.outTry, q⟩
 | brk => obtain ⟨σ', H', I, q⟩ := h; exact ⟨σ', H', I.outTry, q⟩
 | cont => obtain ⟨σ', H', I, q⟩ := h; exact ⟨σ', H', I.outTry, q⟩
 | ret u => obtain ⟨v, σ', H', I, r, q⟩ := h; exact ⟨v, σ', H', I.outTry, r, q⟩
theorem Inv.inHan (I : Inv X pins σ H s) (h1 : s.heap.get? e = some oe) (h2 : H e = none) (h3 : e ≠ X.env.locals) (h4 : e ∉ X.fs) (h5 : ∀ v, oe.data ≠ .cell v) : Inv (hanCx X pins e oe) [] σ H s :=
 ⟨⟨I.ok.mod, I.ok.kind, I.ok.glob, I.ok.blt, I.ok.above, I.ok.inj, I.ok.has, I.ok.cab, (fun z => (nomatch z)), I.ok.frames, I.ok.stk, I.ok.exf, I.ok.bs, I.ok.bsz, I.ok.noex, I.ok.exfs, I.ok.funs, I.ok.frf⟩, I.os, I.bare, I.base, I.loc, I.cell, I.free, I.freeC, fun p hp => by
  rw [List.append_nil] at hp
  rcases List.mem_append.mp hp with z | z
  ·exact I.pin p z
  ·rw [List.mem_singleton.mp z]; exact ⟨h1, h2, h3, h4, h5⟩, I.hok, I.len⟩
theorem Inv.outHan (hd : X.calm = true -> X.A.handled = none) (fr : X.A.frames = some X.stack) (I : Inv (hanCx X pins e oe) pins' σ H s) : Inv X pins σ H s :=
 ⟨⟨I.ok.mod, I.ok.kind, I.ok.glob, I.ok.blt, I.ok.above, I.ok.inj, I.ok.has, I.ok.cab, hd, fr, I.ok.stk, I.ok.exf, I.ok.bs, I.ok.bsz, I.ok.noex, I.ok.exfs, I.ok.funs, I.ok.frf⟩, I.os, I.bare, I.base, I.loc, I.cell, I.free, I.freeC, fun p hp => I.pin p (List.mem_append_left _ (List.mem_append_left _ hp)), I.hok, I.len⟩
end
def PassesX (CX : CXT) (X : Cx) (R : St -> XK) : Prop := ∀ (pins : List (Addr × Obj)) (σ : St) (H : Hp) (s : Shared) (e : Value) (s' : Shared), Inv X pins σ H s -> CX X.stack H s (R σ) e s' -> X.xe e s'
theorem pxT {X : Cx} {pins : List (Addr × Obj)} {P : Program} {w : World} {R : St -> XK} (hP : P = X.prog := by rfl) (hw : w = X.w := by rfl) : PassesX (CXW P w) (tryCx X pins R) R := by
 subst hP hw
 exact fun _ σ H s _ _ I h => ⟨σ, H, s, I.outTry, h⟩
theorem Passes.x {CX : CXT} {X : Cx} {E : XK} (h : Passes CX X E) : PassesX CX X fun _ => E := fun pins σ H s e s' I q => h pins σ H s e s' I q
def tCallX (sp : Sp) (dvs : List V) (R : St -> XK) (t : TA) : TE := fun σ H Q => t σ H fun vs H1 => sp (vs ++ dvs) H1 Q (R σ)
section
variable {X : Cx} {CX : CXT} {k : Nat} {f C : Addr} {fd : FuncData} {ps : List Str} {sp : Sp} {dvs : List V} {ds : List Value} {R : St -> XK} {x m : Str} {p pos apos : Pos} {e o : Expr} {es : List Expr} {ta : TE} {t : TA}
theorem run_fnX {pins : List (Addr × Obj)} {σ : St} {H : Hp} {s : Shared} {Q : VK} {us : List Value} {vs : List V} (F : FnOk X.prog X.w X.K X.mg X.base CX k f fd ps sp) (hr : Room k X.A) (hb : Binds X.K fd ps ds) (hd : Vals dvs ds) (hx : PassesX CX X R)
  (I : Inv X pins σ H s) (r : Vals vs us) (h : sp (vs ++ dvs) H Q (R σ)) : wpAny (model X.prog X.w) X.A (call (.ref f) us) (EP X pins σ Q) X.xe s := by
 have r2 : Vals (vs ++ dvs) (us ++ ds) := r.append hd
 have hl : (us ++ ds).length = ps.length := by rw [<- r2.length]; exact F.len _ _ _ _ h
 refine wpAny_call (codeAny_mono (F.run X.A X.stack s H ⟨us, []⟩ (us ++ ds) (vs ++ dvs) Q (R σ) hr I.env0 (hb s us I.kIn hl) r2 h) fun r s' hq => ?_)
 cases r with
 | error e => exact hx pins σ H s e s' I hq
 | ok fl =>
  cases fl with
  | ret u => exact I.after hq
  | next => exact False.elim hq
  | brk => exact False.elim hq
  | cont => exact False.elim hq
theorem pe_callX (F : FnOk X.prog X.w X.K X.mg X.base CX k f fd ps sp) (hr : Room k X.A) (hg : Gl X x) (hm : X.mg x = some (.ref f)) (hk : PySem.W.keepIn X.K (.ref f) = true) (hb : Binds X.K fd ps ds) (hd : Vals dvs ds) (hx : PassesX CX X R)
  (ha : PA X (e :: es) t) (hdb : (x == ("__debug__" : Str)) = false := by decide) (he : starEach (e :: es) X.env = (false, eval e X.env) :: starEach es X.env := by rfl) (hpl : (backTo pos (starEach es X.env)).any (·.1) = false := by rfl) :
  PE X (.Call (.Name x p) (e :: es) [] pos) (tCallX sp dvs R t) := by
 intro pins s σ H Q I h
 refine wpAny_Call_Name_kw (ld_glob I hg hm ?_ hdb)
 refine PySem.W.callWith_K (h₀ := X.base) I.ok.mod.kin hk (thn (ha pos pins s σ H _ I h) fun us s1 ⟨vs, H1, I1, r, q⟩ => ⟨I1.kIn, ?_⟩) he hpl
 exact run_fnX F hr hb hd hx I1 r q
end
def Ends.less (D : Ends) (i : Nat) : Ends := { nx := fun σ H => D.nx (σ.set i none) H, rt := D.rt, bk := fun σ H => D.bk (σ.set i none) H, ct := fun σ H => D.ct (σ.set i none) H }
def tTry (K : PySem.W.Frag) (W : Addr) (i : Nat) (tb : (St -> XK) -> TS) (th : Addr -> Addr -> TS) : TS := fun D σ H =>
 tb (fun σ' c _ H' => ∃ C, c = Value.ref C /\ PySem.W.exmOne K (.ref C) (.ref W) = some true /\ ∀ e : Addr, H' e = none -> th e C (D.less i) (σ'.set i (some (.ref e))) H') D σ H
theorem ps_try {X : Cx} {W : Addr} {i : Nat} {x n : Str} {np hpos pos : Pos} {body : List Stmt} {b₀ : Stmt} {suite : List Stmt} {tb : (St -> XK) -> TS} {th : Addr -> Addr -> TS}
  (hst : X.stack = X.env :: X.outer) (hfr : X.env.frame = some X.env.locals) (hex : X.ex = []) (hN : X.N.Nodup) (hi : X.N[i]? = some n) (hl : X.env.kindOf n = some .local) (hm : X.mg x = some (.ref W)) (hg : Gl X x)
  (hb : ∀ (R : St -> XK) (pins : List (Addr × Obj)), PSs (tryCx X pins R) body (tb R)) (hs : ∀ (e C : Addr) (oe : Obj) (pins : List (Addr × Obj)), oe.cls = .ref C -> PSs (hanCx X pins e oe) (b₀ :: suite) (th e C)) (hdb : (x == ("__debug__" : Str)) = false := by decide) :
  PS X (.Try body [.ExceptHandler (some (.Name x np)) (some n) (b₀ :: suite) hpos] [] [] pos) (tTry X.K W i tb th) := by
 intro pins s σ H D I h
 refine wpAny_Try_except (wpAny_mono (hb _ pins [] s σ H D I.inTry h) (fun f s1 q => ?_) (fun ev s1 q => ?_))
 ·have q := SP.outTry q
  cases f with
  | next => exact wpAny_execs_nil q
  | brk => exact q
  | cont => exact q
  | ret u => exact q
 ·obtain ⟨σ1, H1, s0, I0, hcx⟩ := q
  obtain ⟨e, C, H', rfl, J, F, C', eC, hmt, hR⟩ := I0.flown hcx
  cases eC
  have hR := hR e F.free
  obtain ⟨T, a0, fl, nT, fT⟩ := fly_base hst J F
  have hns : ∀ b ∈ [e, T], X.s₀.heap.get? b = none /\ H' b = none /\ (∀ p ∈ X.pn ++ pins, p.1 ≠ b) := fun b hb => by
   have key : ∀ b, s0.heap.get? b = none -> H' b = none -> X.s₀.heap.get? b = none /\ H' b = none /\ (∀ p ∈ X.pn ++ pins, p.1 ≠ b) := fun b n0 f0 => ⟨I0.was hex n0, f0, fun p hp z => by
    have := (I0.pin p hp).1
    rw [z, n0] at this
    cases this⟩
   rcases List.mem_cons.mp hb with rfl | hb
   ·exact key _ F.new F.free
   ·rw [List.mem_singleton.mp hb]; exact key _ nT fT
  rw [hst] at fl
  refine wpAny_looks_onW (by rw [J.ok.frames, hst]) hfr fl fun h₄ held₄ up₄ => ?_
  refine wpAny_landsW held₄ fun h₅ fl₅ up₅' => ?_
  have up₅ := up₄.trans up₅'
  have J₅ : Inv X pins σ1 H' { s1 with heap := h₅ } := J.held (tk := s1.toks) hns fl₅.1 up₅
  obtain ⟨ob, hob, hobc⟩ := fl₅.there
  refine wpAny_handleBy_cons (codeAny_handlers_test (Calls.Name_function_global J₅.ok.kind hg (Calls.loadGlobal_global (by rw [J₅.ok.glob]; exact J₅.mod.glob.keeps J₅.bk) hm ?_) hdb)) (by intro q; cases q)
  have LT : PySem.W.Looks (model X.prog X.w) h₅ (typeOf (.ref e)) (.ref C) := by
   rw [<- hobc]
   exact (PySem.W.Looks.ld hob).andThen .now
  refine (PySem.W.exm_one J₅.kIn LT hmt).here ?_
  refine codeAny_handlers_suite_as ?_
  refine lands_againW fl₅ fun h₆ fl₆ up₆ => ?_
  have J₆ : Inv X pins σ1 H' { s1 with heap := h₆ } := J.held (tk := s1.toks) hns fl₆.1 (up₅.trans up₆)
  obtain ⟨oe, ws, hoe, hoec, hoed, hoe0⟩ := fl₆.first
  have neL : e ≠ X.env.locals := fun z => by
   obtain ⟨m, ⟨o', es, ep, ho', hd', _⟩, _⟩ := J₆.loc
   rw [<- z] at ho'
   have hoe' : h₆.get? e = some oe := hoe
   have ho'' : h₆.get? e = some o' := ho'
   rw [hoe'] at ho''
   cases ho''
   rw [hoed] at hd'
   cases hd'
  have nfs : e ∉ X.fs := fun z => by
   obtain ⟨_, o', ho', hd⟩ := J₆.funs.mem z
   have hoe' : h₆.get? e = some oe := hoe
   have ho'' : h₆.get? e = some o' := ho'
   rw [hoe'] at ho''
   cases ho''
   exact hd ws hoed
  refine store_ok2 J₆ hN hi (.inl hl) (v := .ref e) rfl (fun s7 J₇ hsb => ?_) (.inr hl)
  obtain ⟨a, hsame, ha⟩ := hsb
  have hea : e ≠ a := by
   rcases ha with rfl | ha
   ·exact neL
   ·intro z
    obtain ⟨v, o', ho', hd'⟩ := J₆.cell _ _ ha
    rw [<- z] at ho'
    have hoe' : h₆.get? e = some oe := hoe
    have ho'' : h₆.get? e = some o' := ho'
    rw [hoe'] at ho''
    cases ho''
    rw [hoed] at hd'
    cases hd'
  have hoe7 : s7.heap.get? e = some oe := (hsame.2 e hea).trans hoe
  have JH := J₇.inHan (oe := oe) hoe7 F.free neL nfs (fun v z => by rw [hoed] at z; cases z)
  refine wpAny_mono (hs e C oe pins hoec [] s7 _ H' (D.less i) JH hR) (fun f s8 q => ?_) fun _ _ z => False.elim z
  have hp : (X.env.scope.kind == .class || (X.env.scope.kind == .module && X.env.locals != X.env.globals)) = false := by rw [J.ok.kind]; rfl
  have fin : ∀ {σ8 : St} {H8 : Hp}, Inv (hanCx X pins e oe) [] σ8 H8 s8 -> ∀ {Q : Flow -> Shared -> Prop}, (∀ s9, Inv X pins (σ8.set i none) H8 s9 -> Q f s9) -> wpAny (model X.prog X.w) X.A (do bindName X.env n .none; unbindBehindTheSuite X.env n hpos) (fun _ s9 => Q f s9) X.xe s8 := fun {σ8 H8} J8 {Q} k => by
   have J9 := J8.outHan I.ok.hd I.ok.frames
   obtain ⟨m, hn, _⟩ := id J9.loc
   exact wpAny_nameGoes_keeps hl hn hp fun h' v hn' hsm => k _ (J9.gone hN hi hn hn' hsm)
  cases f with
  | next => obtain ⟨σ8, H8, J8, q⟩ := q; exact fin J8 fun s9 J9 => ⟨_, H8, J9, q⟩
  | brk => obtain ⟨σ8, H8, J8, q⟩ := q; exact fin J8 fun s9 J9 => ⟨_, H8, J9, q⟩
  | cont => obtain ⟨σ8, H8, J8, q⟩ := q; exact fin J8 fun s9 J9 => ⟨_, H8, J9, q⟩
  | ret u => obtain ⟨v, σ8, H8, J8, r, q⟩ := q; exact fin J8 fun s9 J9 => ⟨v, _, H8, J9, r, q⟩
end L2
namespace L2
open PySem PySem.Spec PyProof.Rows PySem.W PySem.Calls Builtin Builtin.ObjectAttr Builtin.Getset_descriptor
section
variable {prog : Program} {w : World} {A : Around} {E : Value -> Shared -> Prop} {K : PySem.W.Frag} {x C : Addr} {ox : Obj}
theorem xc_get {R : Result -> Shared -> Prop} {s : Shared} {tp : Value} (X : K.In s.heap) (hx : s.heap.get? x = some ox) (hc : ox.cls = .ref C) (hm : mroIn K C (.type "object") = some true)
  (h : R (.ok (.ret (.ref C))) s) : codeAny (model prog w) A (.call (.builtin "getset_descriptor.__get__") ⟨[.builtin "object.__class__", .ref x, tp], []⟩) R s := by
 obtain ⟨hh, g, dr, t, os⟩ := s
 have L0 : Looks (model prog w) hh (typeOf (.ref x)) (.ref C) := by
  rw [<- hc]
  exact (Looks.ld hx).andThen .now
 have L1 := looks_mroIn (M := model prog w) X hm
 refine codeAny_call_builtin KF.slot_gs.plain KF.entry_gs (KF.slot_gs.check _ _ _ _ _ _ _ _ KF.type_class (KF.args_gs _ _ _) ?_)
 unfold Builtin.«getset_descriptor.__get__» descrGet
 rw [dga_obj]
 refine wpAny_bind (wpAny_pure ?_)
 unfold descrGetter descrCheckInstance descrNameAndClass isInstance
 simp only [KF.owner_class]
 repeat lk
 refine ⟨Code.quiet_builtin _ (by decide +kernel), codeAny_builtin KF.entry_class ?_⟩
 unfold Builtin.«object.__class__» shownTypeOf
 repeat lk
 exact h
theorem xc_entry {tk : Tok} {Q : Fin -> Shared -> Prop} {s : Shared} (X : K.In s.heap) (hx : s.heap.get? x = some ox) (hc : ox.cls = .ref C) (c : XCls K C) (hq : Q (.done (.ret (.ref C))) s) :
  wpAny (model prog w) A (Builtin.«object.__getattribute__» ⟨[.ref x, .str "__class__" tk], []⟩) Q E s := by
 obtain ⟨hh, g, dr, t, os⟩ := s
 have L0 : Looks (model prog w) hh (typeOf (.ref x)) (.ref C) := by
  rw [<- hc]
  exact (Looks.ld hx).andThen .now
 have L1 := looks_findIn (M := model prog w) X c.cl
 have hT5 : (⟨hh, g, dr, t, os⟩ : Shared).TypeIs (.builtin "object.__class__") "getset_descriptor" := F.typeOf_object_class
 have f5 := F.typeOf_object_class
 have f6 := F.slot_gs_get.lookup
 have f7 := F.slot_gs_set.lookup
 repeat (any_goals (first | assumption | (with_reducible refine L0.at ?_) | (with_reducible refine L1.at ?_) | wp_step))
 refine xc_get (s := ⟨hh, g, dr, t, os⟩) X hx hc c.ob ?_
 exact wpAny_pure hq
theorem xc_check {M : Model} {nameV : Value} {Q : Unit -> Shared -> Prop} {s : Shared} (X : K.In s.heap) (hx : s.heap.get? x = some ox) (hc : ox.cls = .ref C) (c : XCls K C) (hq : Q () s) :
  wpAny M A (checkBuiltinCall "BaseException.__getattribute__" ⟨[.ref x, nameV], []⟩) Q E s := by
 obtain ⟨hh, g, dr, t, os⟩ := s
 have hk : builtinKind "BaseException.__getattribute__" = some .slot := by decide +kernel
 have hsplit : splitId "BaseException.__getattribute__" = some ("BaseException", "__getattribute__") := by decide +kernel
 have ha := PySem.F.args_bexc_ga (.ref x) nameV
 have L0 : Looks M hh (typeOf (.ref x)) (.ref C) := by
  rw [<- hc]
  exact (Looks.ld hx).andThen .now
 have L1 := looks_mroIn (M := M) X c.bx
 simp only [checkBuiltinCall, hk, hsplit]
 refine wpAny_bind ?_
 refine wpAny_bind (L0.at (L1.at ?_))
 repeat (any_goals (first | assumption | wp_step))
theorem xc_call {tk : Tok} {R : Result -> Shared -> Prop} {s : Shared} (X : K.In s.heap) (hx : s.heap.get? x = some ox) (hc : ox.cls = .ref C) (c : XCls K C) (hq : R (.ok (.ret (.ref C))) s) :
  codeAny (model prog w) A (.call (.builtin "BaseException.__getattribute__") ⟨[.ref x, .str "__class__" tk], []⟩) R s :=
 codeAny_call_builtin PySem.F.attr_ValueError.ga.plain PySem.F.entry_bexc_ga (xc_check X hx hc c (xc_entry X hx hc c hq))
theorem xc_by {tk : Tok} {Q : Value -> Shared -> Prop} {s : Shared} (X : K.In s.heap) (hx : s.heap.get? x = some ox) (hc : ox.cls = .ref C) (c : XCls K C) (hq : Q (.ref C) s) :
  wpAny (model prog w) A (getAttrBy (.ref x) (.str "__class__" tk) false) Q E s := by
 obtain ⟨hh, g, dr, t, os⟩ := s
 have f3 := PySem.F.attr_ValueError.ga.bind (.ref x)
 have hx2 : (Value.builtin "BaseException.__getattribute__" == Value.builtin "object.__getattribute__") = false := by decide +kernel
 have hx1 : (onTheHeap (Value.ref C) && Value.builtin "BaseException.__getattribute__" == Value.builtin "object.__getattribute__") = false := by rw [hx2]; rfl
 have L0 : Looks (model prog w) hh (typeOf (.ref x)) (.ref C) := by
  rw [<- hc]
  exact (Looks.ld hx).andThen .now
 have L1 := looks_findIn (M := model prog w) X c.ga
 have L2 := looks_findIn (M := model prog w) X c.gh
 repeat (any_goals (first | assumption | (with_reducible refine L0.at ?_) | (with_reducible refine L1.at ?_) | (with_reducible refine L2.at ?_) | wp_step))
 refine xc_call (s := ⟨hh, g, dr, t, os⟩) X hx hc c ?_
 repeat (any_goals (first | assumption | wp_step))
theorem xc_attr {Q : Option Value -> Shared -> Prop} {s : Shared} (X : K.In s.heap) (hx : s.heap.get? x = some ox) (hc : ox.cls = .ref C) (c : XCls K C) (hq : Q (some (.ref C)) { s with toks := s.toks + 1 }) :
  wpAny (model prog w) A (getAttr? (.ref x) "__class__") Q E s := by
 obtain ⟨hh, g, dr, t, os⟩ := s
 unfold getAttr? getAttrBy?
 repeat (any_goals (first | assumption | with_reducible refine xc_by (s := ⟨hh, g, dr, _, os⟩) X hx hc c ?_ | wp_step))
theorem kitx_exc (c : XCls K C) (hcl : (clsIn K C).isSome = true) (hc : ox.cls = .ref C) : KitX K (.ref x) (.ref C) (fun h => h.get? x = some ox) where
 ty := fun _ _ _ hx => by
  rw [<- hc]
  exact (Looks.ld hx).andThen .now
 it := fun _ _ X _ => by
  unfold clsIn at hcl
  split at hcl
  ·rename_i c' d' cd' sl' ho
   intro A' Q' E' s' k q
   unfold isType loadHead
   exact wpAny_bind (wpAny_loadPart (k _ _ (X _ _ ho)) (wpAny_pure q))
  ·cases hcl
 ne := fun h tp dd its n sl X htp => by
  refine Bool.eq_false_iff.mpr fun q => ?_
  have e : C = tp := Value.ref.inj (beq_iff_eq.mp q)
  subst e
  unfold clsIn at hcl
  split at hcl
  ·rename_i c' d' cd' sl' ho
   have := X _ _ ho
   rw [htp] at this
   cases this
  ·cases hcl
 ca := fun {_ _ _ _ _ s} X hx hq => xc_attr X hx hc c hq
end
theorem XCls.isSome {K : PySem.W.Frag} {C : Addr} (c : XCls K C) : (clsIn K C).isSome = true := by
 have q := c.ex
 unfold excIn at q
 unfold clsIn
 split at q
 ·rename_i dd cd sl ho
  rw [ho]
  rfl
 ·cases q
section
variable {X : Cx}
theorem call_isiX (K : PySem.W.Frag) {e C : Addr} {oe : Obj} (hp : (e, oe) ∈ X.pn) (hc : oe.cls = .ref C) (h : X.K = K := by rfl) : CallR X (.builtin "isinstance") (fun xs H Q => ∃ (d : V) (u : Value) (b : Bool), xs = [.ref e, d] /\ (∀ z, RelV d z -> z = u) /\ XCls K C /\ kitOne K (.ref C) u = some b /\ Q (.bl b) H) := by
 subst h
 intro pins s σ H xs us Q I r h
 obtain ⟨d, u, b, rfl, hd, c, hk, q⟩ := h
 obtain ⟨u1, v, rfl, ru, rv⟩ := vals_two r
 obtain rfl : u1 = Value.ref e := ru
 obtain rfl := hd v rv
 have hx := (I.pin (e, oe) (List.mem_append_left _ hp)).1
 exact kia_one (kitx_exc c c.isSome hc) I.kIn hx hk (fun z => nomatch z) fun tk => ⟨.bl b, H, I.tok tk, rfl, q⟩
end
end L2
namespace L2
open PySem PySem.Spec PyProof.Rows
theorem log_small {a : Int} (h1 : -(10 ^ 70) < a) (h2 : a < 10 ^ 70) : a.natAbs.log2 < 1920 := by
 have h : a.natAbs < 10 ^ 70 := by omega
 by_cases h0 : a.natAbs = 0
 ·rw [h0]; decide
 ·exact (Nat.log2_lt h0).mpr (Nat.lt_trans h (by decide))
def PJ (X : Cx) (es : List Expr) (t : St -> Hp -> (Hp -> Prop) -> Prop) : Prop := ∀ (n : Nat) (pins : List (Addr × Obj)) (s : Shared) (σ : St) (H : Hp) (acc : Str) (Q : Hp -> Prop), acc.length <= 4000 * n -> n + es.length <= 100 -> Inv X pins σ H s -> t σ H Q ->
 wpAny (model X.prog X.w) X.A (joinParts acc (evalEach es X.env)) (fun v s' => ∃ x tk H', v = Value.str x tk /\ Inv X pins σ H' s' /\ Q H') X.xe s
section
variable {X : Cx} {es : List Expr} {e : Expr} {te : TE} {t : St -> Hp -> (Hp -> Prop) -> Prop} {pos : Pos}
theorem line4 : 4000 * 100 <= sizeLine := by decide
theorem pj_nil : PJ X [] (fun _ H Q => Q H) := fun n pins s σ H acc Q ha hn I h => by
 refine joinParts_nil ⟨acc, _, H, rfl, I.tok _, h⟩ (Nat.le_trans ha (Nat.le_trans (Nat.mul_le_mul_left _ ?_) line4))
 simpa using hn
theorem pj_str {x : Str} {j : Nat} {p : Pos} (hr : PJ X es t) (hz : x.length <= 4000 := by decide +kernel) : PJ X (.Constant (.str x) j p :: es) t := fun n pins s σ H acc Q ha hn I h => by
 have hl : (acc ++ x).length = acc.length + x.length := strLen_append ..
 rw [List.length_cons] at hn
 have hb : (acc ++ x).length <= 4000 * (n + 1) := by rw [hl]; omega
 refine joinParts_cons (Calls.Constant_str ⟨Nat.le_trans hb (Nat.le_trans (Nat.mul_le_mul_left _ (by omega)) line4), ?_⟩)
 exact hr (n + 1) pins _ σ H _ Q hb (by omega) (I.tok _) h
def jInt (te : TE) (t : St -> Hp -> (Hp -> Prop) -> Prop) : St -> Hp -> (Hp -> Prop) -> Prop := fun σ H Q => te σ H fun v H1 => ∃ a : Int, v = .int a /\ -(10 ^ 70) < a /\ a < 10 ^ 70 /\ t σ H1 Q
theorem pj_int {p : Pos} (he : PE X e te) (hr : PJ X es t) : PJ X (.FormattedValue e (-1) none p :: es) (jInt te t) := fun n pins s σ H acc Q ha hn I h => by
 rw [List.length_cons] at hn
 refine joinParts_cons (FormattedValue_plain (thn (he pins s σ H _ I h) fun u s1 ⟨v, H1, I1, r, a, ev, a1, a2, q⟩ => ?_))
 subst ev
 obtain ⟨tk, rfl⟩ := r
 have hlog := log_small a1 a2
 have hlen : (Str.ofString (toString a)).length <= 4000 := by
  have z := int_text_length_le (k := 1920) (by decide) hlog
  rw [PySem.ofString_length]
  omega
 refine formatField_int_small hlog ?_
 have hl : (acc ++ Str.ofString (toString a)).length = acc.length + (Str.ofString (toString a)).length := strLen_append ..
 have hb : (acc ++ Str.ofString (toString a)).length <= 4000 * (n + 1) := by rw [hl]; omega
 refine ⟨Nat.le_trans hb (Nat.le_trans (Nat.mul_le_mul_left _ (by omega)) line4), ?_⟩
 exact hr (n + 1) pins _ σ H1 _ Q hb (by omega) (I1.tok _) q
def tJoin (t : St -> Hp -> (Hp -> Prop) -> Prop) : TE := fun σ H Q => t σ H fun H' => ∀ x : Str, Q (.str x) H'
theorem pe_fstr {v₁ v₂ : Expr} {rest : List Expr} (h : PJ X (v₁ :: v₂ :: rest) t) (hn : (v₁ :: v₂ :: rest).length <= 100 := by decide) : PE X (.JoinedStr (v₁ :: v₂ :: rest) pos) (tJoin t) := fun pins s σ H Q I hq =>
 JoinedStr_many (thn (h 0 pins s σ H Str.empty _ (by decide) (by simpa using hn) I hq) fun u s1 ⟨x, tk, H1, eu, I1, q⟩ => by
  subst eu
  exact ⟨.str x, H1, I1, ⟨tk, rfl⟩, q x⟩)
end
end L2
namespace My
open PySem L2
theorem cat_ok {H : Hp} {p1 p2 : Addr} {l1 l2 : List Int} {Q : VK} (h1 : H p1 = some (.lst (IL l1))) (h2 : H p2 = some (.lst (IL l2))) (hl : l1.length + l2.length <= 1000000) (k : ∀ r, H r = none -> Q (.ref r) (upd H r (.lst (IL (l1 ++ l2))))) : rCat (.ref p1) (.ref p2) H Q := by
 refine ⟨p1, p2, _, _, rfl, rfl, h1, h2, ?_, fun r hr => ?_⟩
 ·rw [il_length, il_length]
  exact small60 hl
 ·have := k r hr
  rw [il_append] at this
  exact this
def cutI (ns : List Int) (lo hi : Option Int) : List Int := (ns.drop (HT.sIx ns.length 0 lo)).take (HT.sIx ns.length ns.length hi - HT.sIx ns.length 0 lo)
theorem cutI_eq (ns : List Int) (lo hi : Option Int) : cutV (IL ns) lo hi = IL (cutI ns lo hi) := by
 unfold cutV cutI
 rw [il_take, il_drop, il_length]
theorem xI {α : Type} {p : α -> Prop} {w : α} (h : p w) : ∃ x, p x := ⟨w, h⟩
end My
namespace L2
open PySem PySem.Spec PyProof.Rows
theorem vals_of_ints : ∀ {us : List Value} {ns : List Int}, IntsAre us ns -> Vals (ns.map V.int) us
 | [], [], _ => .nil
 | _ :: _, [], h => by cases h
 | [], _ :: _, h => by cases h
 | u :: us, n :: ns, h => by
  cases h with
  | cons _ _ t => exact .cons ⟨_, rfl⟩ (vals_of_ints t)
theorem Vals.rev : ∀ {xs : List V} {us : List Value}, Vals xs us -> Vals xs.reverse us.reverse
 | _, _, .nil => .nil
 | _, _, .cons r t => by
  rw [List.reverse_cons, List.reverse_cons]
  exact (Vals.rev t).append (.cons r .nil)
section
variable {X : Cx}
theorem call_sortedK (K : PySem.W.Frag) (hk : X.K = K := by rfl) : CallR X (.builtin "sorted") (fun xs H Q => ∃ (p : Addr) (ns : List Int), xs = [.ref p] /\ SqL K H p (ns.map V.int) /\ ns.length < 64 /\
  ∀ ms : List Int, ms.Perm ns -> ms.Pairwise (· <= ·) -> ∀ l, H l = none -> Q (.ref l) (upd H l (.lst (ms.map V.int)))) := by
 subst hk
 intro pins s σ H xs us Q I r h
 obtain ⟨p, ns, rfl, hq, hn, q⟩ := h
 obtain ⟨u, rfl, ru⟩ := vals1 r
 obtain rfl : u = Value.ref p := ru
 obtain ⟨its, rv, pl, hz⟩ := I.list hq
 have hi := ints_of_vals rv
 have hl : its.length = ns.length := by rw [<- rv.length, List.length_map]
 refine sorted_ints pl.isList hi (by omega) fun out ms h1 h2 h3 => ?_
 obtain ⟨e, he⟩ := sortedAll_at s.heap its out
 have hml : ms.length = ns.length := h2.length_eq
 refine ⟨.ref (s.heap.objs.size + 1), _, I.laid (t' := s.toks) (o := .lst (ms.map V.int)) (fun b o g => sortedAll_old g) (Nat.le_succ _) ⟨?_, out.toList, e, vals_of_ints h1, ?_⟩, rfl, q ms h2 h3 _ (I.hok.fresh (Nat.le_succ _))⟩
 ·rw [List.length_map, hml]
  have : sizeLine = 16777216 := sizeLine_eq
  omega
 ·exact he
section
variable {prog : Program} {w : World} {A : Around} {E : Value -> Shared -> Prop} {s : Shared} {it a : Addr} {items : Array Value}
end
end
section
variable {X : Cx} {p p2 pos pos2 : Pos} {e : Expr} {t : TA}
end
end L2
namespace My
open PySem L2
theorem isSet_iff {m : Nat} {ns : List Int} : IsSet m ns ↔ (∀ z ∈ ns, 0 <= z /\ z < (m : Int)) /\ ns.Pairwise (· < ·) := by
 constructor
 ·intro h
  refine ⟨h.all, ?_⟩
  rw [List.pairwise_iff_getElem]
  intro i j hi hj hij
  induction j with
  | zero => exact absurd hij (Nat.not_lt_zero i)
  | succ j ih =>
   have hj' : j < ns.length := by omega
   have key := (h (j + 1) ns[j + 1] (List.getElem?_eq_getElem hj)).2.2 ns[j] (by omega) (by rw [Nat.add_sub_cancel]; exact List.getElem?_eq_getElem hj')
   by_cases e : i = j
   ·subst e; exact key
   ·have := ih hj' (by omega)
    omega
 ·rintro ⟨ha, hp⟩ i z hz
  obtain ⟨hi, ei⟩ := List.getElem?_eq_some_iff.mp hz
  have hm := ha z (List.mem_of_getElem? hz)
  refine ⟨hm.1, hm.2, fun y h0 hy => ?_⟩
  obtain ⟨hi', ei'⟩ := List.getElem?_eq_some_iff.mp hy
  have := List.pairwise_iff_getElem.mp hp (i - 1) i hi' hi (by omega)
  rw [ei, ei'] at this
  exact this
theorem lt_nodup {ns : List Int} (h : ns.Pairwise (· < ·)) : ns.Nodup := h.imp fun hab e => by omega
theorem IsSet.nodup {m : Nat} {ns : List Int} (h : IsSet m ns) : ns.Nodup := lt_nodup (isSet_iff.mp h).2
end My
namespace My
theorem snoc_ind {α : Type} {P : List α -> Prop} (h0 : P []) (h1 : ∀ l x, P l -> P (l ++ [x])) : ∀ l, P l := by
 intro l
 rw [<- List.reverse_reverse l]
 induction l.reverse with
 | nil => exact h0
 | cons x r ih =>
  rw [List.reverse_cons]
  exact h1 _ _ ih
inductive Conn (es : List (Nat × Nat)) : Nat -> Nat -> Prop
 | refl (i : Nat) : Conn es i i
 | edge {a b : Nat} (h : (a, b) ∈ es) : Conn es a b
 | symm {i j : Nat} : Conn es i j -> Conn es j i
 | trans {i j k : Nat} : Conn es i j -> Conn es j k -> Conn es i k
theorem Conn.mono {es fs : List (Nat × Nat)} (h : ∀ e ∈ es, e ∈ fs) {i j : Nat} (c : Conn es i j) : Conn fs i j := by
 induction c with
 | refl i => exact .refl i
 | edge q => exact .edge (h _ q)
 | symm _ ih => exact .symm ih
 | trans _ _ i1 i2 => exact .trans i1 i2
theorem mk_range {n i : Nat} (h : i < n) : mk ((List.range n).map fun (i : Nat) => (i : Int)) i = (i : Int) := by
 rw [mk_map' h]
where
 mk_map' {n i : Nat} (h : i < n) : mk ((List.range n).map fun (i : Nat) => (i : Int)) i = (i : Int) := by
  simp [mk, List.getD_eq_getElem?_getD, List.getElem?_map, List.getElem?_range h]
def InN (n : Nat) (es : List (Nat × Nat)) : Prop := ∀ e ∈ es, e.1 < n /\ e.2 < n
theorem InN.snoc {n : Nat} {es : List (Nat × Nat)} {e : Nat × Nat} (h : InN n (es ++ [e])) : InN n es /\ e.1 < n /\ e.2 < n := ⟨fun x hx => h x (List.mem_append_left _ hx), h e (by simp)⟩
theorem lms_edge {n : Nat} : ∀ es : List (Nat × Nat), InN n es -> ∀ e ∈ es, mk (lms n es) e.1 = mk (lms n es) e.2 := by
 refine snoc_ind (fun _ e h => by cases h) fun es x ih hn e he => ?_
 obtain ⟨h1, h2, h3⟩ := hn.snoc
 have hl := lms_length n es
 have hx := hn e he
 rw [lms_snoc]
 refine (lm_iff (by omega) (by omega)).mpr ?_
 rcases List.mem_append.mp he with q | q
 ·exact .inl (ih h1 e q)
 ·rw [List.mem_singleton.mp q]
  exact .inr ⟨.inl rfl, .inr rfl⟩
theorem lms_conn {n : Nat} : ∀ es : List (Nat × Nat), InN n es -> ∀ i j, i < n -> j < n -> mk (lms n es) i = mk (lms n es) j -> Conn es i j := by
 refine snoc_ind (fun _ i j hi hj h => ?_) fun es x ih hn i j hi hj h => ?_
 ·have h : mk ((List.range n).map fun (i : Nat) => (i : Int)) i = mk ((List.range n).map fun (i : Nat) => (i : Int)) j := h
  rw [mk_range hi, mk_range hj] at h
  have : i = j := by omega
  subst this
  exact .refl i
 ·obtain ⟨h1, h2, h3⟩ := hn.snoc
  have hl := lms_length n es
  have up : ∀ {i j : Nat}, Conn es i j -> Conn (es ++ [x]) i j := fun c => c.mono fun e he => List.mem_append_left _ he
  have ex : Conn (es ++ [x]) x.1 x.2 := .edge (by simp)
  rw [lms_snoc] at h
  rcases (lm_iff (by omega) (by omega)).mp h with q | ⟨q1, q2⟩
  ·exact up (ih h1 i j hi hj q)
  ·have ci : Conn (es ++ [x]) i x.1 := by
    rcases q1 with q | q
    ·exact up (ih h1 i _ hi h2 q)
    ·exact (up (ih h1 i _ hi h3 q)).trans ex.symm
   have cj : Conn (es ++ [x]) j x.1 := by
    rcases q2 with q | q
    ·exact up (ih h1 j _ hj h2 q)
    ·exact (up (ih h1 j _ hj h3 q)).trans ex.symm
   exact ci.trans cj.symm
theorem conn_lms {n : Nat} {es : List (Nat × Nat)} (hn : InN n es) {i j : Nat} (c : Conn es i j) : i = j \/ (i < n /\ j < n /\ mk (lms n es) i = mk (lms n es) j) := by
 induction c with
 | refl i => exact .inl rfl
 | edge q => exact .inr ⟨(hn _ q).1, (hn _ q).2, lms_edge es hn _ q⟩
 | symm _ ih =>
  rcases ih with e | ⟨a, b, c⟩
  ·exact .inl e.symm
  ·exact .inr ⟨b, a, c.symm⟩
 | trans _ _ i1 i2 =>
  rcases i1 with e | ⟨a, b, c⟩
  ·rw [e]; exact i2
  ·rcases i2 with e | ⟨a', b', c'⟩
   ·rw [<- e]; exact .inr ⟨a, b, c⟩
   ·exact .inr ⟨a, b', c.trans c'⟩
theorem lms_iff {n : Nat} {es : List (Nat × Nat)} (hn : InN n es) {i j : Nat} (hi : i < n) (hj : j < n) : mk (lms n es) i = mk (lms n es) j ↔ Conn es i j := by
 constructor
 ·exact lms_conn es hn i j hi hj
 ·intro c
  rcases conn_lms hn c with e | ⟨_, _, e⟩
  ·rw [e]
  ·exact e
theorem pms_iff {n : Nat} {es : List (Nat × Nat)} (hn : InN n es) {i j : Nat} (hi : i < n) (hj : j < n) : mk (pms n es) i = mk (pms n es) j ↔ Conn es i j := by
 rw [<- lms_iff hn hi hj]
 have s := same_pms (n := n) (es := es) hn
 exact s.2 i j (by rw [pms_length]; exact hi) (by rw [pms_length]; exact hj)
def cnt (M : List Int) : Nat := (fstA M M.length).length
theorem fst_ex (M : List Int) {i : Nat} : ∃ p, p <= i /\ mk M p = mk M i /\ fstB M p = true := by
 induction i using Nat.strongRecOn with
 | ind i ih =>
  by_cases h : fstB M i = true
  ·exact ⟨i, Nat.le_refl _, rfl, h⟩
  ·have : ∃ j, j < i /\ mk M j = mk M i := by
    by_cases q : ∃ j, j < i /\ mk M j = mk M i
    ·exact q
    ·exact absurd (fstB_iff.mpr fun j hj e => q ⟨j, hj, e⟩) h
   obtain ⟨j, hj, e⟩ := this
   obtain ⟨p, h1, h2, h3⟩ := ih j hj
   exact ⟨p, by omega, h2.trans e, h3⟩
theorem count_less {p q : Nat -> Bool} {x n : Nat} (hx : x < n) (hpx : p x = true) (h : ∀ y, y < n -> q y = (p y && !decide (y = x))) : ((List.range n).filter q).length + 1 = ((List.range n).filter p).length := by
 induction n with
 | zero => exact absurd hx (Nat.not_lt_zero x)
 | succ n ih =>
  rw [List.range_succ, List.filter_append, List.filter_append, List.length_append, List.length_append]
  by_cases e : x = n
  ·subst e
   have e1 : (List.range x).filter q = (List.range x).filter p := List.filter_congr fun y hy => by
    have hy := List.mem_range.mp hy
    rw [h y (by omega), show decide (y = x) = false from decide_eq_false (by omega)]
    simp
   have e2 : q x = false := by rw [h x (by omega)]; simp
   rw [e1]
   simp [List.filter_cons, e2, hpx]
  ·have hq : q n = p n := by rw [h n (by omega), show decide (n = x) = false from decide_eq_false (fun z => e z.symm)]; simp
   have := ih (by omega) fun y hy => h y (by omega)
   simp only [List.filter_cons, List.filter_nil, hq]
   omega
theorem fst_uniq {M : List Int} {p q : Nat} (hp : fstB M p = true) (hq : fstB M q = true) (e : mk M p = mk M q) : p = q := by
 rcases Nat.lt_trichotomy p q with h | h | h
 ·exact absurd e (fstB_iff.mp hq p h)
 ·exact h
 ·exact absurd e.symm (fstB_iff.mp hp q h)
theorem cnt_step {m : List Int} {a b : Nat} (ha : a < m.length) (hb : b < m.length) (hne : mk m a ≠ mk m b) : cnt (lm m a b) + 1 = cnt m := by
 obtain ⟨A, hA1, hA2, hA3⟩ := fst_ex m (i := a)
 obtain ⟨B, hB1, hB2, hB3⟩ := fst_ex m (i := b)
 have hAB : A ≠ B := fun e => hne (by rw [<- hA2, <- hB2, e])
 unfold cnt fstA
 rw [lm_length]
 refine count_less (x := max A B) (by omega) ?_ fun y hy => ?_
 ·rcases Nat.le_total A B with h | h
  ·rw [Nat.max_eq_right h]; exact hB3
  ·rw [Nat.max_eq_left h]; exact hA3
 ·rw [Bool.eq_iff_iff, Bool.and_eq_true, fstB_iff, fstB_iff]
  have key : ∀ i, i < y -> (mk (lm m a b) i = mk (lm m a b) y ↔ Mrg m a b i y) := fun i hi => lm_iff (by omega) hy
  have nmax : (!decide (y = max A B)) = true ↔ y ≠ max A B := by simp
  rw [nmax]
  constructor
  ·intro q
   refine ⟨fun i hi e => q i hi ((key i hi).mpr (.inl e)), fun e => ?_⟩
   rcases Nat.lt_or_gt_of_ne hAB with h | h
   ·have ey : y = B := by omega
    subst ey
    exact q A h ((key A h).mpr (.inr ⟨.inl hA2, .inr hB2⟩))
   ·have ey : y = A := by omega
    subst ey
    exact q B h ((key B h).mpr (.inr ⟨.inr hB2, .inl hA2⟩))
  ·rintro ⟨q1, q2⟩ i hi e
   rcases (key i hi).mp e with e | ⟨e1, e2⟩
   ·exact q1 i hi e
   ·have fy : fstB m y = true := fstB_iff.mpr q1
    rcases e2 with e2 | e2
    ·have ey : y = A := fst_uniq fy hA3 (e2.trans hA2.symm)
     rcases e1 with e1 | e1
     ·exact q1 i hi (e1.trans e2.symm)
     ·obtain ⟨p, p1, p2, p3⟩ := fst_ex m (i := i)
      have : p = B := fst_uniq p3 hB3 (by rw [p2, e1, hB2])
      omega
    ·have ey : y = B := fst_uniq fy hB3 (e2.trans hB2.symm)
     rcases e1 with e1 | e1
     ·obtain ⟨p, p1, p2, p3⟩ := fst_ex m (i := i)
      have : p = A := fst_uniq p3 hA3 (by rw [p2, e1, hA2])
      omega
     ·exact q1 i hi (e1.trans e2.symm)
theorem cnt_range (n : Nat) : cnt ((List.range n).map fun (i : Nat) => (i : Int)) = n := by
 unfold cnt fstA
 rw [List.length_map, List.length_range]
 have e : (List.range n).filter (fstB ((List.range n).map fun (i : Nat) => (i : Int))) = List.range n := by
  refine List.filter_eq_self.mpr fun p hp => fstB_iff.mpr fun i hi e => ?_
  have hp := List.mem_range.mp hp
  rw [mk_range (by omega), mk_range hp] at e
  omega
 rw [e, List.length_range]
theorem cnt_one {M : List Int} (hM : 1 <= M.length) : cnt M = 1 ↔ ∀ i j, i < M.length -> j < M.length -> mk M i = mk M j := by
 have e : cnt M = (grp M).length := by
  unfold cnt grp
  rw [grpA_eq, List.length_map]
 rw [e]
 exact grp_one hM
end My
namespace My
open PySem L2
theorem seq_ix {i : Int} {n : Nat} (h0 : 0 <= i) (h1 : i < (n : Int)) : seqIndex? i n = some i.toNat := by
 have e : (if i < 0 then i + (n : Int) else i) = i := if_neg (by omega)
 unfold seqIndex?
 simp only [e]
 rw [if_pos (by simp; omega)]
def IsTree (n : Int) (ps : List (Int × Int)) (ns : List Int) : Prop := IsSet ps.length ns /\ (ns.length : Int) = n - 1 /\ ∀ i j, i < n.toNat -> j < n.toNat -> Conn (endsOf ps ns) i j
theorem ends_in {n : Int} {ps : List (Int × Int)} {ns : List Int} (g : GoodW n ps) (h : ∀ z ∈ ns, 0 <= z /\ z < (ps.length : Int)) : InN n.toNat (endsOf ps ns) := fun e he => by
 obtain ⟨z, hz, rfl⟩ := List.mem_map.mp he
 obtain ⟨z0, z1⟩ := h z hz
 have hp : ps[z.toNat]? = some (ps[z.toNat]'(by omega)) := List.getElem?_eq_getElem _
 rw [getD_of hp]
 obtain ⟨b1, b2, b3, b4⟩ := g.2.2.2 _ (List.mem_of_getElem? hp)
 exact ⟨by omega, by omega⟩
theorem ends_sub {ps : List (Int × Int)} {ns ms : List Int} (h : ∀ z ∈ ns, z ∈ ms) : ∀ e ∈ endsOf ps ns, e ∈ endsOf ps ms := fun e he => by
 obtain ⟨z, hz, rfl⟩ := List.mem_map.mp he
 exact List.mem_map.mpr ⟨z, h z hz, rfl⟩
theorem one_conn {n : Nat} {es : List (Nat × Nat)} (h : InN n es) : (∀ i j, i < (lms n es).length -> j < (lms n es).length -> mk (lms n es) i = mk (lms n es) j) ↔ ∀ i j, i < n -> j < n -> Conn es i j := by
 rw [lms_length]
 constructor
 ·intro q i j hi hj; exact (lms_iff h hi hj).mp (q i j hi hj)
 ·intro q i j hi hj; exact (lms_iff h hi hj).mpr (q i j hi hj)
theorem grp_conn {n : Nat} {es : List (Nat × Nat)} (hn : 1 <= n) (h : InN n es) : (grp (pms n es)).length = 1 ↔ ∀ i j, i < n -> j < n -> Conn es i j := by
 rw [grp_one (by rw [pms_length]; exact hn), (same_pms h).one]
 exact one_conn h
theorem conn_perm {ps : List (Int × Int)} {ns ms : List Int} (h : ∀ z, z ∈ ns ↔ z ∈ ms) {i j : Nat} : Conn (endsOf ps ns) i j ↔ Conn (endsOf ps ms) i j :=
 ⟨fun c => c.mono (ends_sub fun z hz => (h z).mp hz), fun c => c.mono (ends_sub fun z hz => (h z).mpr hz)⟩
section
variable {K : PySem.W.Frag} {a : Addr} {xs : List V} {g : TG} {tt : TT} {te : TE} {o : Nat} {fr : List Nat} {σ : St} {H : Hp} {Q : VK}
theorem lc_enum (Pv : Nat -> List V -> Hp -> Prop) (h0 : Pv 0 [] H) (hz : xs.length < sizeLine) (hl : ∀ i ys H, i <= xs.length -> Pv i ys H -> SqL K H a xs /\ ys.length <= i)
  (hs : ∀ (i : Nat) x ys H (p : Addr), H p = none -> xs[i]? = some x -> Pv i ys H -> LcTurn Pv g tt te o fr σ i (.ref p) ys (upd H p (.tup [.int i, x]))) (hd : ∀ ys H, Pv xs.length ys H -> ∀ p, H p = none -> Q (.ref p) (upd H p (.lst ys))) : LcR (Ite K a) g tt te o fr σ H Q := by
 refine ⟨fun i m ys H => m = xs.length - i /\ i <= xs.length /\ Pv i ys H, ⟨xs.length, by simp, Nat.zero_le _, h0⟩, ?_⟩
 rintro i m ys H ⟨rfl, hi, p⟩
 obtain ⟨q, hy⟩ := hl i ys H hi p
 by_cases hlt : i < xs.length
 ·refine .inr ⟨⟨xs, xs[i], q, by simp [hlt]⟩, by omega, fun x H' ⟨T, y, hT, ex, eH, hyy⟩ => ?_⟩
  subst ex eH
  exact hs i y ys H T hT (hyy xs q) p (fun j ys H => ∃ m', m' < xs.length - i /\ m' = xs.length - j /\ j <= xs.length /\ Pv j ys H) fun ys H p' => ⟨xs.length - (i + 1), by omega, rfl, hlt, p'⟩
 ·have e : i = xs.length := by omega
  subst e
  exact .inl ⟨⟨xs, q, Nat.le_refl _⟩, by omega, hd ys H p⟩
end
def unlike (M : List Int) (ps : List (Int × Int)) (i : Nat) : List Int := ((List.range i).filter fun k => decide (mk M (ps.getD k (0, 0)).1.toNat ≠ mk M (ps.getD k (0, 0)).2.toNat)).map fun (k : Nat) => (k : Int)
theorem unlike_succ (M : List Int) (ps : List (Int × Int)) (i : Nat) : unlike M ps (i + 1) = unlike M ps i ++ (if mk M (ps.getD i (0, 0)).1.toNat ≠ mk M (ps.getD i (0, 0)).2.toNat then [(i : Int)] else []) := by
 unfold unlike
 rw [List.range_succ, List.filter_append, List.map_append]
 congr 1
 by_cases h : mk M (ps.getD i (0, 0)).1.toNat ≠ mk M (ps.getD i (0, 0)).2.toNat
 ·rw [if_pos h, List.filter_cons, if_pos (decide_eq_true h)]; rfl
 ·rw [if_neg h, List.filter_cons, if_neg (by simpa using h)]; rfl
theorem unlike_len (M : List Int) (ps : List (Int × Int)) (i : Nat) : (unlike M ps i).length <= i := by
 unfold unlike
 rw [List.length_map]
 exact Nat.le_trans (List.length_filter_le _ _) (by simp)
def wo (ns : List Int) (z : Int) : List Int := ns.filter fun y => decide (y ≠ z)
theorem wo_mem {ns : List Int} {z y : Int} : y ∈ wo ns z ↔ y ∈ ns /\ y ≠ z := by unfold wo; rw [List.mem_filter]; simp
theorem wo_len (ns : List Int) (z : Int) : (wo ns z).length <= ns.length := List.length_filter_le _ _
theorem wo_take_succ {ns : List Int} {i : Nat} {y z : Int} (h : ns[i]? = some y) : wo (ns.take (i + 1)) z = wo (ns.take i) z ++ (if y ≠ z then [y] else []) := by
 unfold wo
 rw [List.take_succ, h, List.filter_append]
 congr 1
 by_cases e : y ≠ z
 ·rw [if_pos e]; show List.filter _ [y] = _; rw [List.filter_cons, if_pos (decide_eq_true e)]; rfl
 ·rw [if_neg e]; show List.filter _ [y] = _; rw [List.filter_cons, if_neg (by simpa using e)]; rfl
theorem unlike_same {n : Int} {ps : List (Int × Int)} {M L : List Int} (g : GoodW n ps) (hM : M.length = n.toNat) (s : SameP M L) : unlike M ps ps.length = unlike L ps ps.length := by
 unfold unlike
 congr 1
 refine List.filter_congr fun k hk => ?_
 have hk := List.mem_range.mp hk
 have hp : ps[k]? = some ps[k] := List.getElem?_eq_getElem hk
 rw [getD_of hp]
 obtain ⟨b1, b2, b3, b4⟩ := g.2.2.2 _ (List.mem_of_getElem? hp)
 have := s.2 ps[k].1.toNat ps[k].2.toNat (by omega) (by omega)
 rw [Bool.eq_iff_iff, decide_eq_true_iff, decide_eq_true_iff]
 exact not_congr this
def ringA (n : Int) (ps : List (Int × Int)) (ns : List Int) (z : Int) (l : List Int) : List Int := l.filter fun y => decide (z ∈ unlike (lms n.toNat (endsOf ps (wo ns y))) ps ps.length)
theorem unlike_mem {M : List Int} {ps : List (Int × Int)} {z : Int} (h0 : 0 <= z) (h1 : z < (ps.length : Int)) : z ∈ unlike M ps ps.length ↔ mk M (ps.getD z.toNat (0, 0)).1.toNat ≠ mk M (ps.getD z.toNat (0, 0)).2.toNat := by
 unfold unlike
 rw [List.mem_map]
 constructor
 ·rintro ⟨k, hk, rfl⟩
  have := of_decide_eq_true (List.mem_filter.mp hk).2
  rw [Int.toNat_natCast]
  exact this
 ·intro h
  exact ⟨z.toNat, List.mem_filter.mpr ⟨List.mem_range.mpr (by omega), decide_eq_true h⟩, by omega⟩
theorem sorted_uniq {a b : List Int} (h : a.Perm b) (h1 : a.Pairwise (· <= ·)) (h2 : b.Pairwise (· <= ·)) : a = b := by
 induction a generalizing b with
 | nil => exact (List.Perm.nil_eq h)
 | cons x a ih =>
  cases b with
  | nil => exact absurd h.length_eq (by simp)
  | cons y b =>
   obtain ⟨hx, ha⟩ := List.pairwise_cons.mp h1
   obtain ⟨hy, hb⟩ := List.pairwise_cons.mp h2
   have e : x = y := by
    have m1 : y ∈ x :: a := h.mem_iff.mpr List.mem_cons_self
    have m2 : x ∈ y :: b := h.mem_iff.mp List.mem_cons_self
    rcases List.mem_cons.mp m1 with e1 | e1
    ·exact e1.symm
    ·rcases List.mem_cons.mp m2 with e2 | e2
     ·exact e2
     ·have := hx y e1; have := hy x e2; omega
   subst e
   rw [ih (List.Perm.cons_inv h) ha hb]
end My
namespace L2
open PySem PySem.Spec PyProof.Rows
section
variable {prog : Program} {w : World} {A : Around} {E : Value -> Shared -> Prop} {s : Shared}
theorem collect_tup {tp : Addr} {vs : List Value} {Q : List Value -> Shared -> Prop} {ot : Obj} {m : Nat} (ht : s.heap.get? tp = some ot) (hc : ot.cls = .type "tuple") (hd : ot.data = .seq vs.toArray m) (hz : vs.length <= sizeLine)
  (k : Q vs { s with heap := (s.heap.push (seqObj "list" #[] 0)).update s.heap.objs.size (Obj.mapSeq (· ++ vs.toArray)) }) : wpAny (model prog w) A (collect (.ref tp)) Q E s := by
 have ht1 : (s.heap.push (seqObj "list" #[] 0)).get? tp = some ot := Heap.get?_push_of_some _ ht
 have hL1 : (s.heap.push (seqObj "list" #[] 0)).get? s.heap.objs.size = some (seqObj "list" #[] 0) := Heap.get?_push_size _ rfl
 unfold collect
 refine wpAny_bind (wpAny_runValue (codeAny_builtin entry_proto_collect' ?_))
 show wpAny _ _ (do again (.builtin "list.__iadd__" ⟨[<- newList [], .ref tp], []⟩)) _ _ s
 refine wpAny_bind (wpAny_newList (wpAny_pure ⟨Code.quiet_builtin _ (by decide +kernel), codeAny_builtin entry_list_iadd' ?_⟩))
 show wpAny _ _ (Builtin.List.listExtendWith (.ref s.heap.objs.size) (.ref tp) (.ref s.heap.objs.size)) _ _ { s with heap := s.heap.push (seqObj "list" #[] 0) }
 unfold Builtin.List.listExtendWith
 refine wpAny_bind (wpAny_typeOf (T := "tuple") ⟨ot, ht1, hc⟩ ?_)
 rw [if_pos (by rw [show (Value.type "tuple" == Value.type "tuple") = true from rfl]; simp)]
 refine wpAny_bind (listItems_at ht1 hd ?_)
 refine wpAny_bind (listItems_at (xs := #[]) (n := 0) hL1 rfl ?_)
 rw [if_neg (by simp)]
 refine wpAny_bind (listUpdate_at (xs := #[]) (n := 0) hL1 rfl ?_ (Nat.zero_le _) (by show (#[] ++ vs.toArray).size <= sizeLine + 1; simp only [Array.size_append, List.size_toArray, List.length_nil]; omega))
 refine wpAny_pure ?_
 refine wpAny_bind (wpAny_load (get?_update_seq hL1 _) ?_)
 show wpAny _ _ (pure ((#[] : Array Value) ++ vs.toArray).toList) Q E _
 rw [show ((#[] : Array Value) ++ vs.toArray).toList = vs by simp]
 exact wpAny_pure k
theorem sorted_tupI {tp : Addr} {vs : List Value} {ns : List Int} {Q : Value -> Shared -> Prop} {ot : Obj} {m : Nat} (ht : s.heap.get? tp = some ot) (hc : ot.cls = .type "tuple") (hd : ot.data = .seq vs.toArray m) (hI : IntsAre vs ns) (h64 : vs.length < 64)
  (k : ∀ (out : Array Value) (ms : List Int), IntsAre out.toList ms -> ms.Perm ns -> ms.Pairwise (· <= ·) -> Q (.ref (s.heap.objs.size + 1)) { s with heap := sortedAll s.heap vs out }) :
  wpAny (model prog w) A (call (.builtin "sorted") [.ref tp]) Q E s := by
 have hsl : sizeLine = 16777216 := sizeLine_eq
 have hsz : ((s.heap.push (seqObj "list" #[] 0)).update s.heap.objs.size (Obj.mapSeq (· ++ vs.toArray))).objs.size = s.heap.objs.size + 1 := by
  rw [Heap.size_update, size_push']
 have hoL : (((s.heap.push (seqObj "list" #[] 0)).update s.heap.objs.size (Obj.mapSeq (· ++ vs.toArray))).push (seqObj "list" vs.toArray 0)).get? (s.heap.objs.size + 1) = some (seqObj "list" vs.toArray 0) := by
  rw [<- hsz]
  exact Heap.get?_push_size _ rfl
 refine Calls.call_function_entry kind_sorted plain_sorted entry_sorted (args_sorted1 _) ?_
 unfold Builtin.«sorted»
 refine wpAny_bind (m := checkCount "sorted" 1 1 _) (wpAny_pure ?_)
 refine wpAny_bind (collect_tup ht hc hd (by omega) ?_)
 refine wpAny_bind (wpAny_newList ?_)
 show wpAny _ _ _ _ _ { s with heap := ((s.heap.push (seqObj "list" #[] 0)).update s.heap.objs.size (Obj.mapSeq (· ++ vs.toArray))).push (seqObj "list" vs.toArray 0) }
 rw [hsz]
 refine wpAny_bind (wpAny_holding (wpAny_call_entry slot_list_sort ⟨_, hoL, rfl⟩ entry_list_sort (list_sort_tree hoL hI h64 fun out ms b1 b2 b3 => ⟨_, rfl, ?_⟩) (args_list_sort _)))
 exact wpAny_pure ⟨_, rfl, k out ms b1 b2 b3⟩
end
section
variable {X : Cx}
theorem call_sortedT (K : PySem.W.Frag) (hk : X.K = K := by rfl) : CallR X (.builtin "sorted") (fun xs H Q => ∃ (p : Addr) (ns : List Int), xs = [.ref p] /\ SqT K H p (ns.map V.int) /\ ns.length < 64 /\
  ∀ ms : List Int, ms.Perm ns -> ms.Pairwise (· <= ·) -> ∀ l, H l = none -> Q (.ref l) (upd H l (.lst (ms.map V.int)))) := by
 subst hk
 intro pins s σ H xs us Q I r h
 obtain ⟨p, ns, rfl, hq, hn, q⟩ := h
 obtain ⟨u, rfl, ru⟩ := vals1 r
 obtain rfl : u = Value.ref p := ru
 obtain ⟨its, rv, ⟨ot, h1, h2, m, h3⟩, hz⟩ := I.tuple hq
 have hi := ints_of_vals rv
 have hl : its.length = ns.length := by rw [<- rv.length, List.length_map]
 refine sorted_tupI h1 h2 h3 hi (by omega) fun out ms b1 b2 b3 => ?_
 obtain ⟨e, he⟩ := sortedAll_at s.heap its out
 have hml : ms.length = ns.length := b2.length_eq
 refine ⟨.ref (s.heap.objs.size + 1), _, I.laid (t' := s.toks) (o := .lst (ms.map V.int)) (fun b o g => sortedAll_old g) (Nat.le_succ _) ⟨?_, out.toList, e, vals_of_ints b1, he⟩, rfl, q ms b2 b3 _ (I.hok.fresh (Nat.le_succ _))⟩
 rw [List.length_map, hml]
 have : sizeLine = 16777216 := sizeLine_eq
 omega
end
section
variable {X : Cx}
def rCatU (K : PySem.W.Frag) : R2 := fun x y H Q => ∃ a b xs ys, x = .ref a /\ y = .ref b /\ SqT K H a xs /\ SqT K H b ys /\ xs.length + ys.length <= sizeLine /\
 (xs = [] -> Q (.ref b) H) /\ (xs ≠ [] -> ys = [] -> Q (.ref a) H) /\ (xs ≠ [] -> ys ≠ [] -> ∀ p, H p = none -> Q (.ref p) (upd H p (.tup (xs ++ ys))))
theorem op_catU (K : PySem.W.Frag) (hk : X.K = K := by rfl) : OpR X (binaryOp .Add) (rCatU K) := by
 intro pins s σ H x y v u Q I rx ry h
 obtain ⟨a, b, xs, ys, e1, e2, ha, hb, hz, q0, q1, q2⟩ := id h
 by_cases hx : xs = []
 ·subst hk e1 e2
  cases rx
  cases ry
  obtain ⟨its, r1, p1, _⟩ := I.tuple ha
  obtain ⟨its2, r2, p2, _⟩ := I.tuple hb
  have hi : its = [] := r1.nil_iff.mpr hx
  obtain ⟨⟨cls, dd, data, sl⟩, ho, hc, n, hd⟩ := id p1
  obtain ⟨⟨cls2, dd2, data2, sl2⟩, ho2, hc2, n2, hd2⟩ := id p2
  simp only at hc hd hc2 hd2
  subst hc hd hc2 hd2
  exact concat_meets ⟨_, ho, rfl⟩ ⟨_, ho2, rfl⟩ noFill_tuple_add seq_tuple_add PySem.F.slot_tuple_add PySem.F.entry_tuple_add (PySem.F.args_tuple_add_2 _ _)
   (tuple_addW0 a b its.toArray its2.toArray n n2 dd dd2 sl sl2 (by simp [hi])) ⟨ho, ho2, ⟨.ref b, H, I, rfl, q0 hx⟩⟩
 ·exact op_catTK K hk pins s σ H x y v u Q I rx ry ⟨a, b, xs, ys, e1, e2, ha, hb, hx, hz, q1 hx, q2 hx⟩
end
end L2
namespace My
open PySem L2
theorem lm_id {m : List Int} {a b : Nat} (h : mk m a = mk m b) : lm m a b = m := by unfold lm; rw [if_neg (fun z => z h)]
theorem cnt_less {m : List Int} {a b : Nat} (ha : a < m.length) (hb : b < m.length) : cnt m <= cnt (lm m a b) + 1 := by
 by_cases e : mk m a = mk m b
 ·rw [lm_id e]; omega
 ·have := cnt_step ha hb e; omega
theorem cnt_lms {n : Nat} : ∀ es : List (Nat × Nat), InN n es -> n <= cnt (lms n es) + es.length := by
 refine snoc_ind (fun _ => ?_) fun es x ih hn => ?_
 ·have : cnt (lms n []) = n := cnt_range n
  omega
 ·obtain ⟨h1, h2, h3⟩ := hn.snoc
  have hl := lms_length n es
  have := cnt_less (m := lms n es) (a := x.1) (b := x.2) (by omega) (by omega)
  have := ih h1
  rw [lms_snoc, List.length_append, List.length_cons, List.length_nil]
  omega
theorem cnt_pos {M : List Int} (h : 1 <= M.length) : 1 <= cnt M := by
 unfold cnt fstA
 refine List.length_pos_of_mem (a := 0) (List.mem_filter.mpr ⟨List.mem_range.mpr (by omega), fstB_iff.mpr fun i hi => absurd hi (Nat.not_lt_zero i)⟩)
theorem cnt_conn {n : Nat} {es : List (Nat × Nat)} (hn : 1 <= n) (h : InN n es) : cnt (lms n es) = 1 ↔ ∀ i j, i < n -> j < n -> Conn es i j := by
 rw [cnt_one (by rw [lms_length]; exact hn)]
 exact one_conn h
theorem wo_length {ts : List Int} {o : Int} (hn : ts.Nodup) (ho : o ∈ ts) : (wo ts o).length + 1 = ts.length := by
 induction ts with
 | nil => cases ho
 | cons x r ih =>
  obtain ⟨h1, h2⟩ := List.nodup_cons.mp hn
  unfold wo
  rw [List.filter_cons]
  by_cases e : x = o
  ·subst e
   rw [if_neg (by simp)]
   have : r.filter (fun y => decide (y ≠ x)) = r := List.filter_eq_self.mpr fun y hy => decide_eq_true fun e => h1 (e ▸ hy)
   rw [this]; rfl
  ·rw [if_pos (decide_eq_true e)]
   have := ih h2 ((List.mem_cons.mp ho).resolve_left fun z => e z.symm)
   unfold wo at this
   rw [List.length_cons, List.length_cons]
   omega
def endOf (ps : List (Int × Int)) (z : Int) : Nat × Nat := ((ps.getD z.toNat (0, 0)).1.toNat, (ps.getD z.toNat (0, 0)).2.toNat)
theorem ends_snoc (ps : List (Int × Int)) (ns : List Int) (z : Int) : endsOf ps (ns ++ [z]) = endsOf ps ns ++ [endOf ps z] := by unfold endsOf endOf; rw [List.map_append]; rfl
theorem end_in {n : Int} {ps : List (Int × Int)} {z : Int} (g : GoodW n ps) (z0 : 0 <= z) (z1 : z < (ps.length : Int)) : (endOf ps z).1 < n.toNat /\ (endOf ps z).2 < n.toNat := by
 have := ends_in (ns := [z]) g (fun y hy => by rw [List.mem_singleton.mp hy]; exact ⟨z0, z1⟩)
 exact this (endOf ps z) (by unfold endsOf endOf; simp)
theorem wo_all {n : Int} {ps : List (Int × Int)} {ts : List Int} {o : Int} (hT : IsTree n ps ts) : ∀ y ∈ wo ts o, 0 <= y /\ y < (ps.length : Int) := fun y hy => hT.1.all y (wo_mem.mp hy).1
theorem exch {n : Int} {ps : List (Int × Int)} {ts : List Int} {o z : Int} (g : GoodW n ps) (hT : IsTree n ps ts) (ho : o ∈ ts) (z0 : 0 <= z) (z1 : z < (ps.length : Int)) :
  (∀ i j, i < n.toNat -> j < n.toNat -> Conn (endsOf ps (wo ts o ++ [z])) i j) ↔ ¬ Conn (endsOf ps (wo ts o)) (endOf ps z).1 (endOf ps z).2 := by
 have hn : 1 <= n.toNat := by have := g.1; omega
 have hw := wo_length hT.1.nodup ho
 have hl : (ts.length : Int) = n - 1 := hT.2.1
 have i0 : InN n.toNat (endsOf ps (wo ts o)) := ends_in g (wo_all hT)
 have hz := end_in g z0 z1
 have ob := hT.1.all o ho
 have hoe := end_in g ob.1 ob.2
 have i1 : InN n.toNat (endsOf ps (wo ts o) ++ [endOf ps z]) := fun e he => (List.mem_append.mp he).elim (i0 e) fun q => by rw [List.mem_singleton.mp q]; exact hz
 have i2 : InN n.toNat (endsOf ps (wo ts o) ++ [endOf ps o]) := fun e he => (List.mem_append.mp he).elim (i0 e) fun q => by rw [List.mem_singleton.mp q]; exact hoe
 have hL := lms_length n.toNat (endsOf ps (wo ts o))
 have le : (endsOf ps (wo ts o)).length = (wo ts o).length := by unfold endsOf; rw [List.length_map]
 rw [ends_snoc]
 constructor
 ·intro hc c
  have h1 : cnt (lms n.toNat (endsOf ps (wo ts o) ++ [endOf ps z])) = 1 := (cnt_conn hn i1).mpr hc
  rw [lms_snoc, lm_id ((lms_iff i0 hz.1 hz.2).mpr c)] at h1
  have := cnt_lms _ i0
  omega
 ·intro hc
  have h2 : cnt (lms n.toNat (endsOf ps (wo ts o) ++ [endOf ps o])) = 1 := by
   refine (cnt_conn hn i2).mpr fun i j hi hj => ?_
   rw [<- ends_snoc]
   refine (conn_perm fun y => ?_).mp (hT.2.2 i j hi hj)
   rw [List.mem_append, wo_mem, List.mem_singleton]
   constructor
   ·intro hy
    by_cases e : y = o
    ·exact .inr e
    ·exact .inl ⟨hy, e⟩
   ·rintro (q | q)
    ·exact q.1
    ·rw [q]; exact ho
  rw [lms_snoc] at h2
  have h3 := cnt_less (m := lms n.toNat (endsOf ps (wo ts o))) (a := (endOf ps o).1) (b := (endOf ps o).2) (by omega) (by omega)
  have h4 := cnt_step (m := lms n.toNat (endsOf ps (wo ts o))) (a := (endOf ps z).1) (b := (endOf ps z).2) (by omega) (by omega) (fun e => hc ((lms_iff i0 hz.1 hz.2).mp e))
  have h5 := cnt_pos (M := lm (lms n.toNat (endsOf ps (wo ts o))) (endOf ps z).1 (endOf ps z).2) (by rw [lm_length]; omega)
  refine (cnt_conn hn i1).mp ?_
  rw [lms_snoc]
  omega
def cutT (n : Int) (ps : List (Int × Int)) (ts : List Int) (o : Int) : List Int := unlike (lms n.toNat (endsOf ps (wo ts o))) ps ps.length
theorem unlike_bnd {M : List Int} {ps : List (Int × Int)} {i : Nat} {z : Int} (h : z ∈ unlike M ps i) : 0 <= z /\ z < (i : Int) := by
 unfold unlike at h
 obtain ⟨k, hk, rfl⟩ := List.mem_map.mp h
 have := List.mem_range.mp (List.mem_filter.mp hk).1
 omega
theorem cutT_mem {n : Int} {ps : List (Int × Int)} {ts : List Int} {o z : Int} (g : GoodW n ps) (hT : IsTree n ps ts) (z0 : 0 <= z) (z1 : z < (ps.length : Int)) : z ∈ cutT n ps ts o ↔ ¬ Conn (endsOf ps (wo ts o)) (endOf ps z).1 (endOf ps z).2 := by
 have hz := end_in g z0 z1
 unfold cutT
 rw [unlike_mem z0 z1]
 exact not_congr (lms_iff (ends_in g (wo_all hT)) hz.1 hz.2)
def exg (n : Int) (ps : List (Int × Int)) (ts : List Int) (o z : Int) : Prop := o ∈ ts /\ z ≠ o /\ z ∈ cutT n ps ts o
instance (n : Int) (ps : List (Int × Int)) (ts : List Int) (o z : Int) : Decidable (exg n ps ts o z) := by unfold exg; infer_instance
theorem exg_iff {n : Int} {ps : List (Int × Int)} {ts : List Int} {o z : Int} (g : GoodW n ps) (hT : IsTree n ps ts) :
  exg n ps ts o z ↔ o ∈ ts /\ z ∉ ts /\ 0 <= z /\ z < (ps.length : Int) /\ ∀ i j, i < n.toNat -> j < n.toNat -> Conn (endsOf ps (wo ts o ++ [z])) i j := by
 constructor
 ·rintro ⟨h1, h2, h3⟩
  obtain ⟨z0, z1⟩ := unlike_bnd h3
  have hc := (cutT_mem g hT z0 z1).mp h3
  refine ⟨h1, fun hz => hc ?_, z0, z1, (exch g hT h1 z0 z1).mpr hc⟩
  refine .edge ?_
  exact List.mem_map.mpr ⟨z, wo_mem.mpr ⟨hz, h2⟩, rfl⟩
 ·rintro ⟨h1, h2, z0, z1, hc⟩
  exact ⟨h1, fun e => h2 (e ▸ h1), (cutT_mem g hT z0 z1).mpr ((exch g hT h1 z0 z1).mp hc)⟩
theorem PairsV.mut {H : Hp} {l : Addr} {ys zs xs : List V} {ps : List (Int × Int)} (hP : PairsV H xs ps) (hl : H l = some (.lst ys)) : PairsV (upd H l (.lst zs)) xs ps := by
 refine ⟨hP.1, fun j p e => ?_⟩
 obtain ⟨v, e1, tt, e2, e3⟩ := hP.2 j p e
 exact ⟨v, e1, tt, e2, by rw [upd_ne (ne_of e3 hl (fun z => nomatch z))]; exact e3⟩
end My
namespace L2
open PySem PySem.Spec PyProof.Rows
theorem rv_mro : mroOf (.type "reversed") = pure [.type "reversed", .type "object"] := by rw [mroOf_type]; kernel_rfl
theorem rv_init : PySem.Slot "reversed" "__init__" "object.__init__" :=
 .of (owner := "object") (n := "__init__") (by rw [typeLookup_type, builtinLookup_eq_fast]; kernel_rfl) (by decide +kernel) (by decide +kernel) (by decide +kernel)
  (by first | exact .inl (by decide +kernel) | exact .inr (by decide +kernel)) (by rw [isSubtype_type]; kernel_rfl)
theorem rv_called : TypeCalled "reversed" "reversed.__new__" "object.__init__" :=
 ⟨by decide +kernel, by decide +kernel, ⟨_, _, rv_mro⟩, madeBy_type rv_mro PySem.F.lookup_reversed_new (by decide +kernel), by decide +kernel, by rw [isSubtype_type]; kernel_rfl, rv_init⟩
theorem rv_owner : Manifest.owners.lookup (String.ofList ['d', 'e', 's', 'r', 'e', 'v', 'e', 'r'].reverse) = some Manifest.sig_reversed := by kernel_rfl
theorem rv_next : PySem.Slot "reversed" "__next__" "reversed.__next__" :=
 .of (owner := "reversed") (n := "__next__") (by rw [typeLookup_type, builtinLookup_eq_fast]; kernel_rfl) (by decide +kernel) (by decide +kernel) (by decide +kernel)
  (by first | exact .inl (by decide +kernel) | exact .inr (by decide +kernel)) (by rw [isSubtype_type]; kernel_rfl)
theorem rv_enext : entryFor table "reversed.__next__" = some Builtin.«reversed.__next__» := entryFor_of_tree (by kernel_rfl)
theorem rv_anext (a : Value) : argsOk "reversed.__next__" ⟨[a], []⟩ := by
 unfold argsOk; rw [signature?_of (id := "reversed.__next__") (n := ['_', '_', 't', 'x', 'e', 'n', '_', '_']) (o := ['d', 'e', 's', 'r', 'e', 'v', 'e', 'r']) (by kernel_rfl) rv_owner]; kernel_rfl
theorem rv_iter : PySem.Slot "reversed" "__iter__" "reversed.__iter__" :=
 .of (owner := "reversed") (n := "__iter__") (by rw [typeLookup_type, builtinLookup_eq_fast]; kernel_rfl) (by decide +kernel) (by decide +kernel) (by decide +kernel)
  (by first | exact .inl (by decide +kernel) | exact .inr (by decide +kernel)) (by rw [isSubtype_type]; kernel_rfl)
theorem rv_aiter (a : Value) : argsOk "reversed.__iter__" ⟨[a], []⟩ := by
 unfold argsOk; rw [signature?_of (id := "reversed.__iter__") (n := ['_', '_', 'r', 'e', 't', 'i', '_', '_']) (o := ['d', 'e', 's', 'r', 'e', 'v', 'e', 'r']) (by kernel_rfl) rv_owner]; kernel_rfl
theorem rv_eiter : entryFor table "reversed.__iter__" = some Builtin.«dict_keyiterator.__iter__» :=
 entryFor_alias (id' := "dict_keyiterator.__iter__") (by kernel_rfl) (by first | rfl | decide +kernel | (unfold String.splitOn; simp +decide [String.splitOnAux])) (by decide +kernel) (by kernel_rfl)
theorem rv_none : typeLookup (.type "tuple") "__reversed__" = pure none := by rw [typeLookup_type, builtinLookup_eq_fast]; kernel_rfl
theorem rv_nodict : isSubtype (.type "tuple") (.type "dict") = pure false := by rw [isSubtype_type]; kernel_rfl
theorem rv_hint : typeLookup (.type "reversed") "__length_hint__" = pure (some (.builtin "reversed.__length_hint__")) := by rw [typeLookup_type, builtinLookup_eq_fast]; kernel_rfl
theorem rv_nolen : typeLookup (.type "reversed") "__len__" = pure none := by rw [typeLookup_type, builtinLookup_eq_fast]; kernel_rfl
theorem rv_meets (l : Addr) (items : Array Value) (n : Nat) (dd : Option Addr) (sl : Array (Option Value)) :
  Meets (Builtin.«reversed.__new__» ⟨[.type "reversed", .ref l], []⟩) (fun _ R s => s.heap.get? l = some { cls := .type "tuple", dict := dd, data := .seq items n, slots := sl } /\ ¬ (items.size : Int) >= 2 ^ 63 /\
   ∀ tk, R (.ok (.ret (.ref s.heap.objs.size))) { s with heap := s.heap.push { cls := .type "reversed", data := .fields #[.ref l, rawInt ((items.size : Int) - 1)] }, toks := tk }) :=
 .of_wp fun prog w A R s h => by
  obtain ⟨hl, hf, h⟩ := h
  have hT : s.TypeIs (.ref l) "tuple" := ⟨_, hl, rfl⟩
  have f0 := PySem.F.sub_reversed_self
  have f1 := rv_none
  have f2 := rv_nodict
  have f3 := PySem.F.slot_tuple_getitem.lookup
  unfold Builtin.«reversed.__new__»
  refine wpAny_bind (wpAny_of_eq (newClass_reversed _) ?_)
  try dsimp only
  refine wpAny_bind (wpAny_of_eq (a := ()) (by first | rfl | kernel_rfl) ?_)
  refine wpAny_bind (wpAny_of_eq (a := ()) (by first | rfl | kernel_rfl) ?_)
  try dsimp only
  refine wpAny_bind (wpAny_specialOf hT f1 ?_)
  try dsimp only
  refine wpAny_bind ?_
  wp_delta
  refine wpAny_bind (wpAny_isInstance (T := "tuple") (b := false) hT f2 ?_)
  rw [if_neg (by decide)]
  refine wpAny_bind (wpAny_specialOf hT f3 ?_)
  dsimp only
  rw [if_pos (by decide +kernel)]
  refine wpAny_pure ?_
  rw [if_neg (by decide)]
  refine wpAny_bind (len_tuple ⟨_, hl, rfl, n, rfl⟩ (by omega) ?_)
  refine wpAny_bind (wpAny_of_eq (a := some (items.size : Int)) rfl ?_)
  dsimp only
  refine wpAny_bind ?_
  unfold Builtin.SmallTypes.newRecord
  refine wpAny_newObj_type ?_ (by size_fits)
  exact wpAny_pure ⟨_, rfl, h _⟩
def IsRv (h : Heap) (r l : Addr) (i : Int) : Prop := ∃ o, h.get? r = some o /\ o.cls = .type "reversed" /\ o.data = .fields #[.ref l, rawInt i]
theorem IsRv.ty {s : Shared} {r l : Addr} {i : Int} (x : IsRv s.heap r l i) : s.TypeIs (.ref r) "reversed" := let ⟨o, a, b, _⟩ := x; ⟨o, a, b⟩
theorem IsRv.keep {h h' : Heap} {r l : Addr} {i : Int} (x : IsRv h r l i) (e : ∀ o, h.get? r = some o -> h'.get? r = some o) : IsRv h' r l i := let ⟨o, a, b⟩ := x; ⟨o, e _ a, b⟩
section
variable {prog : Program} {w : World} {A : Around} {E : Value -> Shared -> Prop} {s : Shared}
theorem rv_call {l : Addr} {items : Array Value} {Q : Value -> Shared -> Prop} (hl : IsTup s.heap l items) (hf : (items.size : Int) < 2 ^ 63)
  (k : ∀ tk h', IsRv h' s.heap.objs.size l ((items.size : Int) - 1) -> (∀ b o, s.heap.get? b = some o -> h'.get? b = some o) -> h'.objs.size = s.heap.objs.size + 1 -> Q (.ref s.heap.objs.size) { s with heap := h', toks := tk }) :
  wpAny (model prog w) A (call (.type "reversed") [.ref l]) Q E s := by
 obtain ⟨⟨cls, dd, data, sl⟩, ho, hc, n, hd⟩ := id hl
 simp only at hc hd
 subst hc hd
 refine callType_new rv_called (by decide) (PySem.F.typeCall_reversed_1 _) (PySem.F.newCall_reversed_1 _) (fun obj => PySem.F.args_object_init_2 obj _) PySem.F.entry_reversed_new (rv_meets l items n dd sl) ⟨ho, by omega, fun tk => ?_⟩
 have e := Heap.get?_push_size s.heap (o := { cls := .type "reversed", data := .fields #[.ref l, rawInt ((items.size : Int) - 1)] }) rfl
 exact ⟨⟨_, e, rfl⟩, k tk _ ⟨_, e, rfl, rfl⟩ (fun b o g => Heap.get?_push_of_some _ g) (Heap.size_push ..)⟩
theorem rv_item {r l : Addr} {i : Nat} {items : Array Value} {x : Value} {Q : Option Value -> Shared -> Prop} (hr : IsRv s.heap r l (i : Int)) (hl : IsTup s.heap l items) (hx : items[i]? = some x) (h63 : (i : Int) < 2 ^ 63)
  (hQ : ∀ h' tk, IsRv h' r l ((i : Int) - 1) -> Heap.SameBut r s.heap h' -> Q (some x) { s with heap := h', toks := tk }) : wpAny (model prog w) A (pyNext (.ref r)) Q E s := by
 obtain ⟨o, ho, hc, hd⟩ := id hr
 have hi : i < items.size := (Array.getElem?_eq_some_iff.mp hx).1
 unfold pyNext
 refine wpAny_bind (wpAny_attempt (wpAny_callSpecial?_slot (name := Str.ofString "__next__") hr.ty rv_next (wpAny_call_entry rv_next hr.ty rv_enext ?_ (rv_anext _))))
 unfold Builtin.«reversed.__next__»
 refine wpAny_bind (wpAny_of_eq (a := (Value.ref r, [])) rfl ?_)
 dsimp only
 refine wpAny_bind (wpAny_field ho hd (x := .ref l) rfl ?_)
 refine wpAny_bind (wpAny_field ho hd (x := rawInt (i : Int)) rfl ?_)
 show wpAny _ _ (if (i : Int) < 0 then _ else _) _ _ s
 rw [if_neg (by omega)]
 refine wpAny_bind (wpAny_specialOf hl.typeIs PySem.F.slot_tuple_getitem.lookup ?_)
 rw [if_neg (by simp)]
 refine wpAny_bind (wpAny_mkInt ?_)
 refine wpAny_bind (wpAny_attempt (getItem_tuple (j := i) hl (by omega) h63 (My.seq_ix (by omega) (by omega)) hx ?_))
 dsimp only
 refine wpAny_bind (wpAny_field ho hd (x := rawInt (i : Int)) rfl ?_)
 show wpAny _ _ (setField (.ref r) 1 (rawInt ((i : Int) - 1)) >>= _) _ _ _
 refine wpAny_bind (wpAny_setField ho hd (by simp) ?_)
 refine wpAny_pure ⟨x, rfl, wpAny_pure (hQ _ _ ⟨_, Heap.get?_update_self _ ho (Obj.isFreed_of_fields (Obj.data_mapFields hd _)), (Obj.cls_mapFields ..).trans hc, ?_⟩ (Heap.SameBut.update ..))⟩
 rw [Obj.data_mapFields hd]
 simp
theorem rv_end {r l : Addr} {Q : Option Value -> Shared -> Prop} (hh : A.handled = none) (hr : IsRv s.heap r l (-1)) (hQ : ∀ h', Heap.ExtBut r s.heap h' -> Q none { s with heap := h' }) : wpAny (model prog w) A (pyNext (.ref r)) Q E s := by
 obtain ⟨o, ho, hc, hd⟩ := id hr
 unfold pyNext
 refine wpAny_bind (wpAny_attempt (wpAny_callSpecial?_slot (name := Str.ofString "__next__") hr.ty rv_next (wpAny_call_entry rv_next hr.ty rv_enext ?_ (rv_anext _))))
 unfold Builtin.«reversed.__next__»
 refine wpAny_bind (wpAny_of_eq (a := (Value.ref r, [])) rfl ?_)
 dsimp only
 refine wpAny_bind (wpAny_field ho hd (x := .ref l) rfl ?_)
 refine wpAny_bind (wpAny_field ho hd (x := rawInt (-1)) rfl ?_)
 show wpAny _ _ (if (-1 : Int) < 0 then _ else _) _ _ s
 rw [if_pos (by decide)]
 refine wpAny_bind (wpAny_rule ?_)
 refine wpAny_bind ?_
 wp_delta
 refine wpAny_bind (wpAny_setField ho hd (by simp) ?_)
 have ho2 := Heap.get?_update_self (Obj.mapFields (fun vs => vs.setIfInBounds 1 (rawInt (-1)))) ho (Obj.isFreed_of_fields (Obj.data_mapFields hd _))
 refine wpAny_setField ho2 (Obj.data_mapFields hd _) (by simp) ?_
 refine wpAny_bind ?_
 show wpAny _ _ (newExc (.type "StopIteration") [] >>= _) _ _ _
 refine wpAny_bind ?_
 simp only [newExc, newTuple]
 refine wpAny_bind (wpAny_newObj_type ?_ (by size_fits))
 refine wpAny_bind (m := firstArgMember _ _) (wpAny_of_eq (a := Value.none) (by first | rfl | (simp only [firstArgMember]; rfl)) ?_)
 refine wpAny_newObj_type ?_ (by size_fits)
 simp only [raiseNew]
 refine wpAny_bind (wpAny_handled ?_)
 rw [show A.in1.handled = none from hh]
 refine wpAny_bind (wpAny_pure (wpAny_throw ?_))
 refine wpAny_bind (wpAny_isInstance (T := "StopIteration") (b := true) ⟨_, Heap.get?_push_size _ rfl, rfl⟩ isSubtype_stop ?_)
 exact wpAny_pure (hQ _ (((((Heap.SameBut.update ..).trans (Heap.SameBut.update ..)).extBut).push _).push _))
theorem rv_self {r l : Addr} {i : Int} {Q : Value -> Shared -> Prop} (hr : IsRv s.heap r l i) (h : Q (.ref r) s) : wpAny (model prog w) A (pyIter (.ref r)) Q E s := by
 refine wpAny_pyIter_slot hr.ty rv_iter (wpAny_call_entry rv_iter hr.ty rv_eiter ?_ (rv_aiter _))
 show wpAny _ _ (ret (.ref r)) _ _ s
 exact wpAny_pure ⟨_, rfl, "reversed", _, hr.ty, rv_next.lookup, h⟩
end
theorem rv_walks {prog : Program} {w : World} {A : Around} (hh : A.handled = none) (r l : Addr) (hne : l ≠ r) (items : Array Value) (h63 : (items.size : Int) < 2 ^ 63) :
  Walks prog w A r [r, l] [r] items.size (fun i v => items[items.size - 1 - i]? = some v) (fun i h => i <= items.size /\ IsRv h r l ((items.size : Int) - 1 - (i : Int)) /\ IsTup h l items) where
 sub := fun b hb => List.mem_cons.mpr (.inl (List.mem_singleton.mp hb))
 frame := fun _ _ _ x hk => ⟨x.1, x.2.1.keep fun o e => hk r (by simp) o e, let ⟨o, a, b⟩ := x.2.2; ⟨o, hk l (by simp) o a, b⟩⟩
 item := fun i s Q E hi ⟨_, x1, x2⟩ hQ => by
  have hx : items[items.size - 1 - i]? = some (items[items.size - 1 - i]'(by omega)) := Array.getElem?_eq_getElem (by omega)
  rw [show (items.size : Int) - 1 - (i : Int) = ((items.size - 1 - i : Nat) : Int) by omega] at x1
  refine rv_item x1 x2 hx (by omega) fun h' tk y hs => ?_
  rw [show ((items.size - 1 - i : Nat) : Int) - 1 = (items.size : Int) - 1 - ((i + 1 : Nat) : Int) by omega] at y
  exact hQ _ h' tk hx ⟨hi, y, let ⟨o, a, b⟩ := x2; ⟨o, (hs.2 l hne).trans a, b⟩⟩ fun b o hb eo => hs.extBut b o (fun e => hb (by simp [e])) eo
 done := fun s Q E ⟨_, x1, _⟩ hQ => by
  rw [show (items.size : Int) - 1 - (items.size : Int) = -1 by omega] at x1
  exact rv_end hh x1 fun h' he => hQ h' s.toks fun b o hb eo => he b o (fun e => hb (by simp [e])) eo
 self := fun _ _ _ _ x hQ => rv_self x.2.1 hQ
theorem rv_lh : PySem.Slot "reversed" "__length_hint__" "reversed.__length_hint__" :=
 .of (owner := "reversed") (n := "__length_hint__") (by rw [typeLookup_type, builtinLookup_eq_fast]; kernel_rfl) (by decide +kernel) (by decide +kernel) (by decide +kernel)
  (by first | exact .inl (by decide +kernel) | exact .inr (by decide +kernel)) (by rw [isSubtype_type]; kernel_rfl)
theorem rv_elh : entryFor table "reversed.__length_hint__" = some Builtin.«reversed.__length_hint__» := entryFor_of_tree (by kernel_rfl)
theorem rv_alh (a : Value) : argsOk "reversed.__length_hint__" ⟨[a], []⟩ := by
 unfold argsOk; rw [signature?_of (id := "reversed.__length_hint__") (n := ['_', '_', 't', 'n', 'i', 'h', '_', 'h', 't', 'g', 'n', 'e', 'l', '_', '_']) (o := ['d', 'e', 's', 'r', 'e', 'v', 'e', 'r']) (by kernel_rfl) rv_owner]; kernel_rfl
theorem rvt_hint {prog : Program} {w : World} {A : Around} {E : Value -> Shared -> Prop} {s : Shared} {r l : Addr} {items : Array Value} {Q : Bool -> Shared -> Prop} (hr : IsRv s.heap r l ((items.size : Int) - 1)) (hl : IsTup s.heap l items) (hz : items.size <= sizeLine) (h : ∀ b tk, Q b { s with toks := tk }) : wpAny (model prog w) A (Builtin.List.listLengthHint (.ref r)) Q E s := by
 have hT := hr.ty
 have hzl : sizeLine = 16777216 := sizeLine_eq
 obtain ⟨o, ho, hc, hd⟩ := id hr
 unfold Builtin.List.listLengthHint
 refine wpAny_bind (wpAny_specialOf hT rv_nolen ?_)
 show wpAny _ A (specialOf (Value.ref r) (Str.ofString "__length_hint__") >>= _) _ _ _
 refine wpAny_bind (wpAny_specialOf hT rv_hint ?_)
 generalize hid : ("reversed.__length_hint__" : String) = id0
 wp_delta
 rw [show splitId id0 = some ("reversed", "__length_hint__") from by subst hid; decide +kernel]
 subst hid
 refine wpAny_bind (wpAny_isInstance (T := "reversed") (b := true) hT (by rw [isSubtype_type]; kernel_rfl) ?_)
 refine wpAny_ite_split (fun z => absurd z (by decide)) (fun _ => ?_)
 refine wpAny_ite_split (fun z => absurd z (by decide +kernel)) (fun _ => ?_)
 refine wpAny_bind (wpAny_rule ?_)
 refine wpAny_bind (wpAny_of_eq (rv_lh.bind _) ?_)
 dsimp only
 refine wpAny_bind (wpAny_attempt (wpAny_call_entry rv_lh hT rv_elh ?_ (rv_alh _)))
 unfold Builtin.«reversed.__length_hint__»
 refine wpAny_bind (wpAny_of_eq (a := Value.ref r) rfl ?_)
 refine wpAny_bind (wpAny_field ho hd (x := .ref l) rfl ?_)
 refine wpAny_ite_split (fun z => absurd z (by rw [show (Value.ref l == Value.none) = false from rfl]; decide)) (fun _ => ?_)
 refine wpAny_bind (len_tuple hl (by omega) ?_)
 refine wpAny_bind (wpAny_of_eq (a := some (items.size : Int)) rfl ?_)
 dsimp only
 refine wpAny_bind (wpAny_field ho hd (x := rawInt ((items.size : Int) - 1)) rfl ?_)
 show wpAny _ _ (if (items.size : Int) < (items.size : Int) - 1 + 1 then _ else _) _ _ _
 rw [if_neg (by omega)]
 show wpAny _ _ (mkInt ((items.size : Int) - 1 + 1) >>= _) _ _ _
 refine wpAny_bind (wpAny_mkInt (wpAny_pure ⟨_, rfl, ?_⟩))
 dsimp only
 refine wpAny_bind (wpAny_of_eq (a := some ((items.size : Int) - 1 + 1)) rfl ?_)
 dsimp only
 rw [show (items.size : Int) - 1 + 1 = (items.size : Int) by omega]
 have htl : Builtin.List.listTooLong ((items.size : Int).toNat) = false := by simp [Builtin.List.listTooLong]; omega
 have hfi : Builtin.List.listFitsIndex (items.size : Int) = true := by simp [Builtin.List.listFitsIndex]; omega
 simp only [hfi, htl, Bool.not_true, Bool.false_eq_true, if_false, show ¬ ((items.size : Int) < 0) by omega]
 exact wpAny_pure (h _ _)
section
variable {prog : Program} {w : World} {A : Around} {E : Value -> Shared -> Prop} {s : Shared} {it a : Addr} {items : Array Value}
theorem rvt_extend {R : Result -> Shared -> Prop} (hh : A.handled = none) (hi : IsRv s.heap it a ((items.size : Int) - 1)) (hl : IsTup s.heap a items) (hne : a ≠ it) {S : Addr} (h1 : S ≠ it) (h2 : S ≠ a) {res : Value} {c0 : Nat}
  (hS : s.heap.get? S = some { cls := .type "list", data := .seq #[] c0 }) (hz : items.size <= sizeLine)
  (k : ∀ h' tk acc c, (∀ b o, b ≠ S -> b ≠ it -> s.heap.get? b = some o -> h'.get? b = some o) -> h'.get? S = some { cls := .type "list", dict := none, data := .seq acc c, slots := #[] } -> ItemsOf (fun i v => items[items.size - 1 - i]? = some v) acc items.size -> R (.ok (.ret res)) { s with heap := h', toks := tk }) :
  wpAny (model prog w) A.in1 (Builtin.List.listExtendWith (.ref S) (.ref it) res)
   (fun fin s' => match fin with | .done f => R (.ok f) s' | .again c' => c'.quiet = true /\ codeAny (model prog w) A c' R s') (fun e s' => R (.error e) s') s := by
 have hzl : sizeLine = 16777216 := sizeLine_eq
 have W := rv_walks (prog := prog) (w := w) (A := A.in1) hh it a hne items (by omega)
 have hSf : S ∉ [it, a] := by simp only [List.mem_cons, List.not_mem_nil, or_false, not_or]; exact ⟨h1, h2⟩
 have key : ∀ (hp : Heap) (c1 tk : Nat), IsRv hp it a ((items.size : Int) - 1) -> IsTup hp a items -> (∀ b o, b ≠ S -> s.heap.get? b = some o -> hp.get? b = some o) -> hp.get? S = some { cls := .type "list", data := .seq #[] c1 } ->
   codeAny (model prog w) A (.builtin "list.extend.loop" ⟨[.ref S, .ref it, res], []⟩) R { s with heap := hp, toks := tk } := by
  intro hp c1 tk hi' hl' hk' hS1
  have st0 : (0 <= items.size /\ IsRv hp it a ((items.size : Int) - 1 - ((0 : Nat) : Int)) /\ IsTup hp a items) := ⟨Nat.zero_le _, by rw [show ((items.size : Int) - 1 - ((0 : Nat) : Int)) = (items.size : Int) - 1 by omega]; exact hi', hl'⟩
  refine codeAny_extend_loopS W.toS hz S hSf res items.size 0 _ #[] c1 rfl (Nat.zero_le _) st0 hS1 (ItemsOf.nil _) fun s' acc c hm hS' hacc => ?_
  rw [Moved.eq_with hm]
  refine k s'.heap s'.toks acc c (fun b o hb hbi e => hm.heap b o (fun hmem => ?_) (hk' b o hb e)) hS' hacc
  rcases List.mem_cons.mp hmem with e' | hmem
  ·exact hb e'
  ·exact hbi (List.mem_singleton.mp hmem)
 unfold Builtin.List.listExtendWith
 refine wpAny_bind (wpAny_typeOf (T := "reversed") hi.ty ?_)
 have e1 : Builtin.List.listSameRef (.ref S) (.ref it) = false := by simp [Builtin.List.listSameRef, h1]
 rw [if_neg (by rw [e1]; decide)]
 refine wpAny_bind (rv_self hi ?_)
 refine wpAny_bind (wpAny_holding (rvt_hint hi hl hz fun bb tk => ?_))
 refine wpAny_ite_split (fun _ => ?_) (fun _ => wpAny_pure ⟨plainId_quiet PySem.F.plain_extend_loop _, key _ c0 tk hi hl (fun b o _ e => e) hS⟩)
 refine wpAny_bind (wpAny_rule ?_)
 refine wpAny_bind ?_
 show wpAny _ _ (updateSeq S (·.push .none) >>= fun _ => updateSeq S (·.pop)) _ _ _
 refine wpAny_bind (wpAny_updateSeq hS rfl ?_)
 have hS2 := Heap.get?_update_self (Obj.mapSeq (·.push Value.none)) hS rfl
 refine wpAny_updateSeq (hz := by seq_fits) hS2 rfl ?_
 have hS3 := Heap.get?_update_self (Obj.mapSeq (·.pop)) hS2 rfl
 have oth : ∀ b o, b ≠ S -> s.heap.get? b = some o -> ((s.heap.update S (Obj.mapSeq (·.push Value.none))).update S (Obj.mapSeq (·.pop))).get? b = some o := fun b o hb e => (Heap.get?_update_other _ _ (Ne.symm hb)).trans ((Heap.get?_update_other _ _ (Ne.symm hb)).trans e)
 exact wpAny_pure ⟨plainId_quiet PySem.F.plain_extend_loop _, key _ _ tk (hi.keep fun o e => oth it o (Ne.symm h1) e) (let ⟨o, e, z⟩ := hl; ⟨o, oth a o (Ne.symm h2) e, z⟩) oth hS3⟩
end
section
variable {X : Cx} {p p2 pos pos2 : Pos} {e : Expr} {t : TA}
end
section
variable {prog : Program} {w : World} {A : Around} {E : Value -> Shared -> Prop} {s : Shared}
theorem tup_whole {t sl : Addr} {items : Array Value} {vl vu : Value} {lo hi : Option Int} {Q : Value -> Shared -> Prop} (ht : IsTup s.heap t items) (hs : s.heap.IsSliceOf sl vl vu .none) (pl : IsPart vl lo) (pu : IsPart vu hi)
  (h0 : HT.sIx items.size 0 lo = 0) (h1 : HT.sIx items.size items.size hi = items.size) (h : Q (.ref t) s) : wpAny (model prog w) A (getItem (.ref t) (.ref sl)) Q E s := by
 have hTs : s.TypeIs (.ref sl) "slice" := let ⟨o, a, b, _⟩ := hs; ⟨o, a, b⟩
 unfold getItem
 try with_reducible refine wpAny_holding ?_
 first | refine wpAny_bind (wpAny_pure ?_) | skip
 refine wpAny_bind (wpAny_sequenceKey ht.typeIs (by decide) ?_)
 refine wpAny_bind (wpAny_callSpecial?_slot (name := Str.ofString "__getitem__") ht.typeIs PyProof.Rows.slot_tuple_getitem (wpAny_call_entry PyProof.Rows.slot_tuple_getitem ht.typeIs entry_tuple_getitem ?_ (args_tuple_getitem _ _)))
 show wpAny _ _ (Builtin.Tuple.tupleItemsOf (.ref t) >>= _) _ _ s
 refine wpAny_bind (tupleItemsOf_ ht (wpAny_bind (wpAny_typeOf hTs ?_)))
 rw [if_pos (by decide)]
 refine wpAny_bind (HT.sliceApplied_gen hs pl pu ?_)
 rw [h0, h1]
 show wpAny _ _ (if (((0 : Nat) : Int) == 0 && (1 : Int) == 1 && (items.size - 0) == items.size) = true then _ else _) _ _ s
 rw [if_pos (by simp)]
 have ex : ∀ {Q : Bool -> Shared -> Prop} {E : Value -> Shared -> Prop}, Q true s -> wpAny (model prog w) A.in1 (Builtin.Tuple.tupleIsExact (.ref t)) Q E s := fun q => wpAny_bind (wpAny_typeOf ht.typeIs (wpAny_pure (by rw [show (Value.type "tuple" == Value.type "tuple") = true by decide]; exact q)))
 refine wpAny_bind (ex ?_)
 rw [if_pos rfl]
 exact wpAny_bind (wpAny_rule (wpAny_pure ⟨_, rfl, wpAny_pure h⟩))
end
section
variable {X : Cx}
def rSlU (K : PySem.W.Frag) : V -> Option Int -> Option Int -> Hp -> VK -> Prop := fun x lo hi H Q => ∃ a xs, x = .ref a /\ SqT K H a xs /\
 (HT.sIx xs.length 0 lo = 0 /\ HT.sIx xs.length xs.length hi = xs.length -> Q (.ref a) H) /\ (¬ (HT.sIx xs.length 0 lo = 0 /\ HT.sIx xs.length xs.length hi = xs.length) -> ∀ p, H p = none -> Q (.ref p) (upd H p (.tup (cutV xs lo hi))))
theorem sl_tupU (K : PySem.W.Frag) (hk : X.K = K := by rfl) : SlR X (rSlU K) := by
 subst hk
 intro pins s σ H x v vl vu lo hi sl Q I rx hs pl pu h
 obtain ⟨a, xs, e1, hx, q1, q2⟩ := id h
 by_cases hw : HT.sIx xs.length 0 lo = 0 /\ HT.sIx xs.length xs.length hi = xs.length
 ·subst e1
  cases rx
  obtain ⟨its, r, ht, hz⟩ := I.tuple hx
  have hlen : its.toArray.size = xs.length := by rw [List.size_toArray]; exact r.length.symm
  refine ⟨"tuple", _, PyProof.Rows.slot_tuple_getitem.lookup, ht.typeIs, ?_⟩
  exact tup_whole ht hs pl pu (by rw [hlen]; exact hw.1) (by rw [hlen]; exact hw.2) ⟨.ref a, H, I, rfl, q1 hw⟩
 ·exact sl_tup pins s σ H x v vl vu lo hi sl Q I rx hs pl pu ⟨a, xs, e1, hx, hw, q2 hw⟩
end
end L2
namespace My
open PySem L2
end My
namespace L2
open PySem PySem.Spec PyProof.Rows
section
variable {X : Cx}
def refB (e : Addr -> Bool) : V -> Bool
 | .ref a => e a
 | _ => false
def rInR (K : PySem.W.Frag) : R2 := fun x y H Q => ∃ (n : Nat) (p : Addr) (xs : List V) (e : Addr -> Bool), y = .ref p /\ SqL K H p xs /\ n <= 6 /\ (∀ v ∈ xs, ∃ a, v = .ref a /\ EqD K H n v x (e a)) /\ Q (.bl (xs.any (refB e))) H
theorem any_refB {e : Addr -> Bool} : ∀ {xs : List V} {us : List Value}, Vals xs us -> (∀ v ∈ xs, ∃ a, v = .ref a) -> (us.any fun u => match u with | .ref a => e a | _ => false) = xs.any (refB e)
 | _, _, .nil, _ => rfl
 | x :: xs, u :: us, .cons r t, h => by
  obtain ⟨a, rfl⟩ := h x List.mem_cons_self
  obtain rfl : u = Value.ref a := r
  rw [List.any_cons, List.any_cons, any_refB t fun v hv => h v (List.mem_cons_of_mem _ hv)]
  rfl
theorem mem_refB {e : Addr -> Bool} {n : Nat} {x : V} {w : Value} {pins : List (Addr × Obj)} {σ : St} {H : Hp} {s : Shared} (I : Inv X pins σ H s) {A : Around} (hu : A.units + n < cLine) (rx : RelV x w) : ∀ {xs : List V} {us : List Value}, Vals xs us -> (∀ v ∈ xs, ∃ a, v = .ref a /\ EqD X.K H n v x (e a)) -> ∀ u ∈ us, SeqAt.EqAt A s u w (match u with | .ref a => e a | _ => false)
 | _, _, .nil, _ => fun u hu => by cases hu
 | y :: xs, u :: us, .cons r t, h => fun u' hu' => by
  rcases List.mem_cons.mp hu' with rfl | hu'
  ·obtain ⟨a, rfl, q⟩ := h y List.mem_cons_self
   obtain rfl : u' = Value.ref a := r
   exact q.at I hu rfl rx
  ·exact mem_refB I hu rx t (fun v hv => h v (List.mem_cons_of_mem _ hv)) u' hu'
theorem op_inR (K : PySem.W.Frag) (hu : X.A.units + 8 < cLine) (hk : X.K = K := by rfl) : OpR X (compareOp .In) (rInR K) := by
 subst hk
 intro pins s σ H x y v u Q I rx ry h
 obtain ⟨n, p, xs, e, rfl, hq, hn, he, q⟩ := h
 cases ry
 obtain ⟨its, r, pl, hz⟩ := I.list hq
 refine SeqAt.in_listAt (fun u => match u with | .ref a => e a | _ => false) pl.isList (fun w hw => mem_refB I (by show X.A.units + 1 + n < cLine; omega) rx r he w (by simpa using hw)) ⟨.bl _, H, I, rfl, ?_⟩
 rw [show its.toArray.any (fun u => match u with | .ref a => e a | _ => false) = its.any (fun u => match u with | .ref a => e a | _ => false) by simp, any_refB r fun v hv => let ⟨a, ea, _⟩ := he v hv; ⟨a, ea⟩]
 exact q
end
end L2
namespace My
open PySem L2
open Classical in
theorem in_pairs {K : PySem.W.Frag} {H : Hp} {x : V} {p : Addr} {xs : List V} {ps : List (Int × Int)} {z : Int × Int} {Q : VK} (hx : PairV H x z) (hp : SqL K H p xs) (hP : PairsV H xs ps) (q : Q (.bl (decide (z ∈ ps))) H) : rInR K x (.ref p) H Q := by
 have key : ∀ {a : Addr} {w : Int × Int}, PairV H (.ref a) w -> (PairV H (.ref a) z ↔ w = z) := by
  rintro a w ⟨t, e, h⟩
  cases e
  constructor
  ·rintro ⟨t, e, h2⟩
   cases e
   rw [h] at h2
   injection h2 with h2
   injection h2 with h2
   obtain ⟨w1, w2⟩ := w
   obtain ⟨z1, z2⟩ := z
   simp at h2
   simp [h2]
  ·rintro rfl
   exact ⟨_, rfl, h⟩
 refine ⟨1, p, xs, fun a => decide (PairV H (.ref a) z), rfl, hp, by decide, fun v hv => ?_, ?_⟩
 ·obtain ⟨i, hi⟩ := List.getElem?_of_mem hv
  obtain ⟨w, hw, t, rfl, ht⟩ := hP.at hi
  refine ⟨t, rfl, ?_⟩
  have k := key ⟨t, rfl, ht⟩
  show EqD K H 1 (V.ref t) x (decide (PairV H (V.ref t) z))
  rw [show decide (PairV H (.ref t) z) = decide (w = z) by rw [decide_eq_decide]; exact k]
  exact eqd_pair ⟨t, rfl, ht⟩ hx
 ·have e : xs.any (refB fun a => decide (PairV H (.ref a) z)) = decide (z ∈ ps) := by
   rw [Bool.eq_iff_iff, List.any_eq_true, decide_eq_true_iff]
   constructor
   ·rintro ⟨v, hv, h⟩
    obtain ⟨i, hi⟩ := List.getElem?_of_mem hv
    obtain ⟨w, hw, t, rfl, ht⟩ := hP.at hi
    have h : decide (PairV H (.ref t) z) = true := h
    have := (key ⟨t, rfl, ht⟩).mp (of_decide_eq_true h)
    exact this ▸ List.mem_of_getElem? hw
   ·intro h
    obtain ⟨i, hi⟩ := List.getElem?_of_mem h
    obtain ⟨v, hv, t, rfl, ht⟩ := hP.2 i z hi
    exact ⟨_, List.mem_of_getElem? hv, decide_eq_true ⟨t, rfl, ht⟩⟩
  rw [e]
  exact q
end My
namespace My
open PySem L2
theorem cut_own {n : Int} {ps : List (Int × Int)} {ts : List Int} {o y : Int} (g : GoodW n ps) (hT : IsTree n ps ts) (ho : o ∈ ts) (hy : y ∈ ts) : y ∈ cutT n ps ts o ↔ y = o := by
 have yb := hT.1.all y hy
 rw [cutT_mem g hT yb.1 yb.2]
 constructor
 ·intro h
  by_cases e : y = o
  ·exact e
  ·exact absurd (.edge (List.mem_map.mpr ⟨y, wo_mem.mpr ⟨hy, e⟩, rfl⟩)) h
 ·rintro rfl
  refine (exch g hT hy yb.1 yb.2).mp fun i j hi hj => (conn_perm fun z => ?_).mp (hT.2.2 i j hi hj)
  rw [List.mem_append, wo_mem, List.mem_singleton]
  constructor
  ·intro hz
   by_cases e : z = y
   ·exact .inr e
   ·exact .inl ⟨hz, e⟩
  ·rintro (q | q)
   ·exact q.1
   ·rw [q]; exact hy
theorem ringA_mem {n : Int} {ps : List (Int × Int)} {ts l : List Int} {z y : Int} : y ∈ ringA n ps ts z l ↔ y ∈ l /\ z ∈ cutT n ps ts y := by
 unfold ringA
 rw [List.mem_filter, decide_eq_true_iff]
 exact Iff.rfl
theorem exg_tree {n : Int} {ps : List (Int × Int)} {ts ms : List Int} {o z : Int} (g : GoodW n ps) (hT : IsTree n ps ts) (hx : exg n ps ts o z) (hpm : ms.Perm (wo ts o ++ [z])) (hpw : ms.Pairwise (· <= ·)) : IsTree n ps ms := by
 obtain ⟨ho, hz, z0, z1, hc⟩ := (exg_iff g hT).mp hx
 have nd : (wo ts o ++ [z]).Nodup := nd_snoc (hT.1.nodup.sublist List.filter_sublist) fun h => hz (wo_mem.mp h).1
 have ndm : ms.Nodup := hpm.nodup_iff.mpr nd
 have hl := wo_length hT.1.nodup ho
 have hl2 := hpm.length_eq
 rw [List.length_append, List.length_singleton] at hl2
 refine ⟨isSet_iff.mpr ⟨fun y hy => ?_, (List.pairwise_and_iff.mpr ⟨hpw, ndm⟩).imp fun {x y} h => by have := h.1; have := h.2; omega⟩, by rw [hl2, hl]; exact hT.2.1, fun i j hi hj => (conn_perm fun y => hpm.mem_iff).mpr (hc i j hi hj)⟩
 rcases List.mem_append.mp (hpm.mem_iff.mp hy) with h | h
 ·exact hT.1.all y (wo_mem.mp h).1
 ·rw [List.mem_singleton.mp h]; exact ⟨z0, z1⟩
section
variable {n : Int} {ps : List (Int × Int)} {ts ms : List Int} {o z : Int} (g : GoodW n ps) (hT : IsTree n ps ts) (hx : exg n ps ts o z) (hpm : ms.Perm (wo ts o ++ [z])) (hpw : ms.Pairwise (· <= ·))
include g hT hx hpm hpw
end
def grd (n : Nat) (ps : List (Int × Int)) : Nat -> List Int
 | 0 => []
 | k + 1 => if mk (lms n (endsOf ps (grd n ps k))) (endOf ps (k : Int)).1 = mk (lms n (endsOf ps (grd n ps k))) (endOf ps (k : Int)).2 then grd n ps k else grd n ps k ++ [(k : Int)]
theorem lex_eq : ∀ {a b : List Int}, HT.lexLt a b = false -> HT.lexLt b a = false -> a = b
 | [], [], _, _ => rfl
 | [], _ :: _, h, _ => by cases h
 | _ :: _, [], _, h => by cases h
 | x :: xs, y :: ys, h1, h2 => by
  rw [HT.lexLt_cons] at h1 h2
  by_cases q : x = y
  ·subst q
   rw [if_pos rfl] at h1 h2
   rw [lex_eq h1 h2]
  ·rw [if_neg q] at h1
   rw [if_neg (fun e => q e.symm)] at h2
   have := of_decide_eq_false h1
   have := of_decide_eq_false h2
   omega
theorem lex_trans : ∀ {a b c : List Int}, HT.lexLt a b = true -> HT.lexLt b c = true -> HT.lexLt a c = true
 | [], [], _, h, _ => by cases h
 | [], _ :: _, [], _, h => by cases h
 | [], _ :: _, _ :: _, _, _ => rfl
 | _ :: _, [], _, h, _ => by cases h
 | _ :: _, _ :: _, [], _, h => by cases h
 | x :: xs, y :: ys, z :: zs, h1, h2 => by
  rw [HT.lexLt_cons] at h1 h2 ⊢
  by_cases e1 : x = y
  ·subst e1
   rw [if_pos rfl] at h1
   by_cases e2 : x = z
   ·subst e2
    rw [if_pos rfl] at h2 ⊢
    exact lex_trans h1 h2
   ·rw [if_neg e2] at h2 ⊢
    exact h2
  ·rw [if_neg e1] at h1
   have h1 := of_decide_eq_true h1
   by_cases e2 : y = z
   ·subst e2
    rw [if_neg e1]
    exact decide_eq_true h1
   ·rw [if_neg e2] at h2
    have h2 := of_decide_eq_true h2
    rw [if_neg (by omega)]
    exact decide_eq_true (by omega)
theorem lex_irrefl : ∀ a : List Int, HT.lexLt a a = false
 | [] => rfl
 | x :: xs => by rw [HT.lexLt_cons, if_pos rfl]; exact lex_irrefl xs
end My
namespace L2
open PySem PySem.Spec PyProof.Rows
section
variable {prog : Program} {w : World} {A : Around} {I S : Addr} {fp wr : List Addr} {n : Nat} {P : Nat -> Value -> Prop} {St : Nat -> Heap -> Prop} {R : Result -> Shared -> Prop}
def TupsAt (S : Addr) (wr : List Addr) (P : Nat -> Value -> Prop) (L : Nat -> List Int) (h : Heap) : Prop := ∀ i v, P i v -> ∃ a vs, v = .ref a /\ a ≠ S /\ a ∉ wr /\ IsTup h a vs /\ IntsAre vs.toList (L i)
theorem TupsAt.keep {L : Nat -> List Int} {h h' : Heap} (x : TupsAt S wr P L h) (k : ∀ b o, b ≠ S -> b ∉ wr -> h.get? b = some o -> h'.get? b = some o) : TupsAt S wr P L h' := fun i v p => by
 obtain ⟨a, vs, e, n1, n2, ⟨o, ho, z⟩, hi⟩ := x i v p
 exact ⟨a, vs, e, n1, n2, ⟨o, k a o n1 n2 ho, z⟩, hi⟩
end
section
variable {X : Cx}
end
end L2
namespace My
open PySem L2
def TupV (H : Hp) (v : V) (l : List Int) : Prop := ∃ a, v = .ref a /\ H a = some (.tup (IL l))
def TupsV (H : Hp) (xs : List V) (L : List (List Int)) : Prop := xs.length = L.length /\ ∀ (i : Nat) (l : List Int), L[i]? = some l -> ∃ v, xs[i]? = some v /\ TupV H v l
theorem TupsV.same {H H' : Hp} {xs : List V} {L : List (List Int)} (s : Same H H') (h : TupsV H xs L) : TupsV H' xs L := ⟨h.1, fun i l e => let ⟨v, e1, a, e2, e3⟩ := h.2 i l e; ⟨v, e1, a, e2, s _ _ e3⟩⟩
theorem TupsV.at {H : Hp} {xs : List V} {L : List (List Int)} (h : TupsV H xs L) {i : Nat} {v : V} (e : xs[i]? = some v) : ∃ l, L[i]? = some l /\ TupV H v l := by
 have hi : i < xs.length := (List.getElem?_eq_some_iff.mp e).1
 have hp : i < L.length := by rw [<- h.1]; exact hi
 obtain ⟨v', e1, q⟩ := h.2 i L[i] (List.getElem?_eq_getElem hp)
 rw [e] at e1
 cases e1
 exact ⟨_, List.getElem?_eq_getElem hp, q⟩
theorem TupsV.nil {H : Hp} : TupsV H [] [] := ⟨rfl, fun i p e => by simp at e⟩
theorem TupsV.app {H : Hp} {xs ys : List V} {L M : List (List Int)} (h : TupsV H xs L) (h2 : TupsV H ys M) : TupsV H (xs ++ ys) (L ++ M) := by
 refine ⟨by rw [List.length_append, List.length_append, h.1, h2.1], fun i l e => ?_⟩
 by_cases hi : i < L.length
 ·rw [List.getElem?_append_left hi] at e
  obtain ⟨v, e1, q⟩ := h.2 i l e
  exact ⟨v, by rw [List.getElem?_append_left (by rw [h.1]; exact hi)]; exact e1, q⟩
 ·rw [List.getElem?_append_right (by omega)] at e
  obtain ⟨v, e1, q⟩ := h2.2 _ l e
  exact ⟨v, by rw [List.getElem?_append_right (by rw [h.1]; omega), h.1]; exact e1, q⟩
theorem TupsV.one {H : Hp} {v : V} {l : List Int} (q : TupV H v l) : TupsV H [v] [l] := ⟨rfl, fun i m e => by
 cases i with
 | zero => have e : l = m := (by simpa using e); exact ⟨v, rfl, e ▸ q⟩
 | succ i => simp at e⟩
theorem TupsV.snoc {H : Hp} {xs : List V} {L : List (List Int)} {v : V} {l : List Int} (h : TupsV H xs L) (q : TupV H v l) : TupsV H (xs ++ [v]) (L ++ [l]) := h.app (.one q)
theorem TupsV.mut {H : Hp} {d : Addr} {ys zs xs : List V} {L : List (List Int)} (hP : TupsV H xs L) (hl : H d = some (.lst ys)) : TupsV (upd H d (.lst zs)) xs L := by
 refine ⟨hP.1, fun j p e => ?_⟩
 obtain ⟨v, e1, tt, e2, e3⟩ := hP.2 j p e
 exact ⟨v, e1, tt, e2, by rw [upd_ne (ne_of e3 hl (fun z => nomatch z))]; exact e3⟩
theorem eqd_tupv {K : PySem.W.Frag} {H : Hp} {x y : V} {a b : List Int} (hx : TupV H x a) (hy : TupV H y b) : EqD K H 1 x y (decide (a = b)) := by
 obtain ⟨t, rfl, ht⟩ := hx
 obtain ⟨u, rfl, hu⟩ := hy
 exact eqd_tints (SqT.of ht) (SqT.of hu)
def nxt (s : List Int) : Int := match s.getLast? with | none => 0 | some x => x + 1
def ext1 (m : Int) (s : List Int) : List (List Int) := (List.range (m - nxt s).toNat).map fun (i : Nat) => s ++ [nxt s + (i : Int)]
def cmb (m : Int) : Nat -> List (List Int)
 | 0 => [[]]
 | k + 1 => (cmb m k).flatMap (ext1 m)
theorem filtL_succ {α : Type} {l : List α} {f : α -> Bool} {i : Nat} {y : α} (h : l[i]? = some y) : (l.take (i + 1)).filter f = (l.take i).filter f ++ (if f y = true then [y] else []) := by
 rw [List.take_succ, h, List.filter_append]
 congr 1
 by_cases e : f y = true
 ·rw [if_pos e]; show List.filter _ [y] = _; rw [List.filter_cons, if_pos e]; rfl
 ·rw [if_neg e]; show List.filter _ [y] = _; rw [List.filter_cons, if_neg e]; rfl
theorem asc_sub : ∀ {w t : List Int}, t.Pairwise (· < ·) -> w.Pairwise (· < ·) -> (∀ z ∈ t, z ∈ w) -> t.Sublist w
 | [], [], _, _, _ => List.Sublist.slnil
 | [], x :: t, _, _, h => absurd (h x List.mem_cons_self) (by simp)
 | y :: w, [], _, _, _ => List.nil_sublist _
 | y :: w, x :: t, ht, hw, h => by
  obtain ⟨h1, h2⟩ := List.pairwise_cons.mp ht
  obtain ⟨h3, h4⟩ := List.pairwise_cons.mp hw
  by_cases e : x = y
  ·subst e
   refine List.Sublist.cons₂ _ (asc_sub h2 h4 fun z hz => ?_)
   rcases List.mem_cons.mp (h z (List.mem_cons_of_mem _ hz)) with q | q
   ·have := h1 z hz; omega
   ·exact q
  ·have hx : x ∈ w := (List.mem_cons.mp (h x List.mem_cons_self)).resolve_left e
   refine List.Sublist.cons _ (asc_sub ht h4 fun z hz => ?_)
   rcases List.mem_cons.mp (h z hz) with q | q
   ·have := h3 x hx
    rcases List.mem_cons.mp hz with q2 | q2
    ·rw [q2]; exact hx
    ·have := h1 z q2; omega
   ·exact q
theorem cross {n : Int} {ps : List (Int × Int)} {T W : List Int} {o : Int} (g : GoodW n ps) (hT : IsTree n ps T) (hW : IsTree n ps W) (ho : o ∈ T) : ∃ z ∈ W, z ∈ cutT n ps T o := by
 refine Classical.byContradiction fun hno => ?_
 have all : ∀ i j, Conn (endsOf ps W) i j -> Conn (endsOf ps (wo T o)) i j := fun i j c => by
  induction c with
  | refl i => exact .refl i
  | symm _ ih => exact .symm ih
  | trans _ _ i1 i2 => exact .trans i1 i2
  | @edge a b h =>
   obtain ⟨z, hz, e⟩ := List.mem_map.mp h
   obtain ⟨z0, z1⟩ := hW.1.all z hz
   have c : Conn (endsOf ps (wo T o)) (endOf ps z).1 (endOf ps z).2 := Classical.byContradiction fun hc => hno ⟨z, hz, (cutT_mem g hT z0 z1).mpr hc⟩
   have ea : a = (endOf ps z).1 := (congrArg Prod.fst e).symm
   have eb : b = (endOf ps z).2 := (congrArg Prod.snd e).symm
   rw [ea, eb]
   exact c
 have ob := hT.1.all o ho
 have he := end_in g ob.1 ob.2
 exact (cutT_mem g hT ob.1 ob.2).mp ((cut_own g hT ho ho).mpr rfl) (all _ _ (hW.2.2 _ _ he.1 he.2))
theorem reach {n : Int} {ps : List (Int × Int)} {W : List Int} (g : GoodW n ps) (hW : IsTree n ps W) (R : List Int -> Prop)
  (close : ∀ T o z ms, R T -> IsTree n ps T -> exg n ps T o z -> ms.Perm (wo T o ++ [z]) -> ms.Pairwise (· <= ·) -> R ms) : ∀ (k : Nat) (T : List Int), R T -> IsTree n ps T -> (T.filter fun y => decide (y ∉ W)).length = k -> R W
 | 0, T, hR, hT, h => by
  have hsub : ∀ z ∈ T, z ∈ W := fun z hz => Classical.byContradiction fun hn => by
   have : z ∈ T.filter fun y => decide (y ∉ W) := List.mem_filter.mpr ⟨hz, decide_eq_true hn⟩
   rw [List.length_eq_zero_iff.mp h] at this
   cases this
  have := (asc_sub (isSet_iff.mp hT.1).2 (isSet_iff.mp hW.1).2 hsub).eq_of_length (by have := hT.2.1; have := hW.2.1; omega)
  exact this ▸ hR
 | k + 1, T, hR, hT, h => by
  obtain ⟨o, hof⟩ : ∃ o, o ∈ T.filter fun y => decide (y ∉ W) := List.exists_mem_of_length_pos (by omega)
  have ho := (List.mem_filter.mp hof).1
  have hoW : o ∉ W := of_decide_eq_true (List.mem_filter.mp hof).2
  obtain ⟨z, hzW, hzc⟩ := cross g hT hW ho
  have hzo : z ≠ o := fun e => hoW (e ▸ hzW)
  have hx : exg n ps T o z := ⟨ho, hzo, hzc⟩
  have hpm : ((wo T o ++ [z]).mergeSort fun a b => decide (a <= b)).Perm (wo T o ++ [z]) := List.mergeSort_perm ..
  have hpw : ((wo T o ++ [z]).mergeSort fun a b => decide (a <= b)).Pairwise (· <= ·) := by
   have := List.pairwise_mergeSort (le := fun (a b : Int) => decide (a <= b)) (fun a b c h1 h2 => by simp only [decide_eq_true_eq] at *; omega) (fun a b => by simp only [Bool.or_eq_true, decide_eq_true_eq]; omega) (wo T o ++ [z])
   exact this.imp fun h => by simpa using h
  refine reach g hW R close k _ (close T o z _ hR hT hx hpm hpw) (exg_tree g hT hx hpm hpw) ?_
  rw [(hpm.filter _).length_eq, List.filter_append]
  have e1 : [z].filter (fun y => decide (y ∉ W)) = [] := by rw [List.filter_cons, if_neg (by simpa using hzW)]; rfl
  rw [e1, List.append_nil]
  have e2 : (wo T o).filter (fun y => decide (y ∉ W)) = wo (T.filter fun y => decide (y ∉ W)) o := by
   unfold wo
   rw [List.filter_filter, List.filter_filter]
   refine List.filter_congr fun y _ => Bool.and_comm ..
  rw [e2]
  have := wo_length (hT.1.nodup.sublist List.filter_sublist) hof
  omega
def pmf (M : List Int) (es : List (Nat × Nat)) : List Int := es.foldl (fun m e => pm m e.1 e.2) M
theorem pmf_snoc (M : List Int) (es : List (Nat × Nat)) (e : Nat × Nat) : pmf M (es ++ [e]) = pm (pmf M es) e.1 e.2 := by unfold pmf; rw [List.foldl_append]; rfl
theorem pmf_length (M : List Int) : ∀ es : List (Nat × Nat), (pmf M es).length = M.length := by
 intro es
 unfold pmf
 induction es generalizing M with
 | nil => rfl
 | cons e l ih => rw [List.foldl_cons, ih, pm_length]
theorem cut_upto {xs : List V} {i : Int} (h0 : 0 <= i) : cutV xs none (some i) = xs.take i.toNat := by
 have e : HT.sIx xs.length xs.length (some i) = min i.toNat xs.length := by
  show (if i < 0 then (i + (xs.length : Int)).toNat else min i.toNat xs.length) = _
  rw [if_neg (by omega)]
 unfold cutV
 rw [e, HT.sIx_none, List.drop_zero, Nat.sub_zero]
 by_cases h : i.toNat <= xs.length
 ·rw [Nat.min_eq_left h]
 ·rw [Nat.min_eq_right (by omega), List.take_of_length_le (Nat.le_refl _), List.take_of_length_le (by omega)]
end My
namespace L2
open PySem PySem.Spec PyProof.Rows
section
variable {prog : Program} {w : World} {A : Around} {E : Value -> Shared -> Prop} {s : Shared}
end
section
variable {X : Cx}
end
end L2
namespace My
open PySem L2
def gst (n : Nat) (ps : List (Int × Int)) (G : List Int) (z : Int) : List Int := if mk (lms n (endsOf ps G)) (endOf ps z).1 = mk (lms n (endsOf ps G)) (endOf ps z).2 then G else G ++ [z]
def grw (n : Nat) (ps : List (Int × Int)) (zs : List Int) : List Int := zs.foldl (gst n ps) []
end My
namespace PyProof.Rows
open PySem
def gallop' : Bool -> Keyed -> Array Keyed -> Nat -> Nat -> Nat -> StateT SortSt Sem (Option Nat) := sortPriv% PySem.Builtin.gallop
def mergeLo' : Array Keyed -> Array Keyed -> StateT SortSt Sem (Array Keyed) := sortPriv% PySem.Builtin.mergeLo
def mergeHi' : Array Keyed -> Array Keyed -> StateT SortSt Sem (Array Keyed) := sortPriv% PySem.Builtin.mergeHi
def LtOk (M : Model) (A : Around) (E : Value -> Shared -> Prop) (s : Shared) (O : KeyOrd) (key : Keyed -> O.α) (kd : SortKind) (S : Keyed -> Prop) : Prop :=
 ∀ (x y : Keyed) (st : SortSt) (Q : Option Bool -> SortSt -> Prop), S x -> S y -> kindOf st = kd -> Q (some (O.blt (key x) (key y))) st -> wpS M A E s (lt' x y) Q st
abbrev dK : Keyed := (Value.none, Value.none)
section
variable {M : Model} {A : Around} {E : Value -> Shared -> Prop} {s : Shared} {O : KeyOrd} {key : Keyed -> O.α} {kd : SortKind} {S : Keyed -> Prop}
def ke (key : Keyed -> O.α) (arr : Array Keyed) (i : Nat) : O.α := key (arr.getD i dK)
theorem ke_of {arr : Array Keyed} {i : Nat} {p : Keyed} (h : arr[i]? = some p) : ke key arr i = key p := by
 unfold ke; rw [Array.getD_eq_getD_getElem?, h]; rfl
theorem wpS_elem {arr : Array Keyed} {i : Nat} {p : Keyed} {Q : Keyed -> SortSt -> Prop} {st : SortSt} (h : arr[i]? = some p) (q : Q p st) : wpS M A E s (elem' arr i) Q st := by
 rw [elem'_eq, h]; exact wpS_pure q
def beyB (O : KeyOrd) (key : Keyed -> O.α) (left : Bool) (kx : Keyed) (arr : Array Keyed) (j : Nat) : Bool := if left then O.blt (ke key arr j) (key kx) else !O.blt (key kx) (ke key arr j)
theorem bey_down {left : Bool} {kx : Keyed} {arr : Array Keyed} {i j : Nat} (h : O.kle (ke key arr i) (ke key arr j)) (hb : beyB O key left kx arr j = true) : beyB O key left kx arr i = true := by
 unfold beyB at *
 cases left with
 | true =>
  simp only [if_true] at *
  exact KeyOrd.klt_of_kle_of_klt h hb
 | false =>
  simp only [Bool.false_eq_true, if_false, Bool.not_eq_true'] at *
  exact KeyOrd.kle_trans h hb
theorem wpS_gallop (L : LtOk M A E s O key kd S) {left : Bool} {kx : Keyed} {arr : Array Keyed} {base n hint : Nat} {st : SortSt} {Q : Option Nat -> SortSt -> Prop} (hk : kindOf st = kd) (hS : S kx) (hA : ∀ i, i < n -> ∃ p, arr[base + i]? = some p /\ S p) (hh : hint < n)
  (hm : ∀ i j, i <= j -> j < n -> O.kle (ke key arr (base + i)) (ke key arr (base + j)))
  (h : ∀ k, k <= n -> (∀ i, i < k -> beyB O key left kx arr (base + i) = true) -> (∀ i, k <= i -> i < n -> beyB O key left kx arr (base + i) = false) -> Q (some k) st) : wpS M A E s (gallop' left kx arr base n hint) Q st := by
 have bok : ∀ (i : Nat), i < n -> ∀ (Q : Option Bool -> SortSt -> Prop), Q (some (beyB O key left kx arr (base + i))) st ->
   wpS M A E s (do let x <- elem' arr (base + i); if left = true then lt' x kx else do let r <- lt' kx x; pure (Option.map (fun x => !x) r)) Q st := fun i hi Q q => by
  obtain ⟨p, e, hp⟩ := hA i hi
  refine wpS_bind (wpS_elem e ?_)
  unfold beyB at q
  rw [ke_of e] at q
  cases left with
  | true =>
   rw [if_pos rfl]
   exact L _ _ _ _ hp hS hk q
  | false =>
   rw [if_neg (by simp)]
   exact wpS_bind (L _ _ _ _ hS hp hk (wpS_pure q))
 have dn : ∀ {i j : Nat}, i <= j -> j < n -> beyB O key left kx arr (base + j) = true -> beyB O key left kx arr (base + i) = true := fun hij hj hb => bey_down (hm _ _ hij hj) hb
 have up : ∀ {i j : Nat}, i <= j -> j < n -> beyB O key left kx arr (base + i) = false -> beyB O key left kx arr (base + j) = false := fun {i j} hij hj hb => by
  cases e : beyB O key left kx arr (base + j) with
  | false => rfl
  | true => rw [dn hij hj e] at hb; cases hb
 generalize hB : (fun j => beyB O key left kx arr (base + j)) = B at *
 have eB : ∀ j, beyB O key left kx arr (base + j) = B j := fun j => congrFun hB j
 simp only [eB] at bok dn up h
 have last : ∀ (lo hi : Nat), lo <= hi -> hi <= n -> (∀ i, i < lo -> B i = true) -> (∀ i, hi <= i -> i < n -> B i = false) -> ∀ (f : Option (Option Nat) × Nat × Nat -> StateT SortSt Sem (Option Nat)), (∀ lo hi, f (none, lo, hi) = pure (some hi)) ->
   wpS M A E s (forIn [0:n] ((none, lo, hi) : Option (Option Nat) × Nat × Nat) (fun _ r => if r.2.1 >= r.2.2 then pure (ForInStep.done (none, r.2.1, r.2.2)) else do
    let x <- (do let x <- elem' arr (base + (r.2.1 + (r.2.2 - r.2.1) / 2)); if left = true then lt' x kx else do let r <- lt' kx x; pure (Option.map (fun x => !x) r))
    match x with
    | some more => if more = true then pure (ForInStep.yield (none, r.2.1 + (r.2.2 - r.2.1) / 2 + 1, r.2.2)) else pure (ForInStep.yield (none, r.2.1, r.2.1 + (r.2.2 - r.2.1) / 2))
    | _ => pure (ForInStep.done (some none, r.2.1, r.2.2))) >>= f) Q st := by
  intro lo hi h1 h2 h3 h4 f hf
  refine wpS_bind (wpS_mono (wpS_forRange (I := fun x c st' => st' = st /\ ∃ l r, c = (none, l, r) /\ l <= r /\ r <= n /\ r - l <= n - x /\ (∀ i, i < l -> B i = true) /\ (∀ i, r <= i -> i < n -> B i = false))
   (Q := fun c st' => st' = st /\ ∃ r, c = (none, r, r) /\ r <= n /\ (∀ i, i < r -> B i = true) /\ (∀ i, r <= i -> i < n -> B i = false)) ?_ ?_ ⟨rfl, lo, hi, rfl, h1, h2, by omega, h3, h4⟩) ?_)
  ·rintro x c st' _ hx ⟨rfl, l, r, rfl, a1, a2, a3, a4, a5⟩
   dsimp only
   by_cases hc : l >= r
   ·rw [if_pos hc]
    have : l = r := by omega
    subst this
    exact wpS_pure ⟨rfl, l, rfl, a2, a4, a5⟩
   ·rw [if_neg hc]
    refine wpS_bind (bok _ (by omega) _ ?_)
    dsimp only
    cases e : B (l + (r - l) / 2) with
    | true =>
     rw [if_pos rfl]
     exact wpS_pure ⟨rfl, _, _, rfl, by omega, a2, by omega, fun i hi => dn (j := l + (r - l) / 2) (by omega) (by omega) e, a5⟩
    | false =>
     rw [if_neg (by simp)]
     exact wpS_pure ⟨rfl, _, _, rfl, by omega, by omega, by omega, a4, fun i hi hin => up (i := l + (r - l) / 2) hi hin e⟩
  ·rintro c st' ⟨rfl, l, r, rfl, a1, a2, a3, a4, a5⟩
   have : l = r := by omega
   subst this
   exact ⟨rfl, l, rfl, a2, a4, a5⟩
  ·rintro c st' ⟨rfl, r, rfl, a2, a4, a5⟩
   rw [hf]
   exact wpS_pure (h r a2 a4 a5)
 unfold gallop'
 refine wpS_bind (bok hint hh _ ?_)
 dsimp only
 cases e0 : B hint with
 | true =>
  rw [if_pos rfl]
  refine wpS_bind (wpS_mono (wpS_forRange (I := fun x c st' => st' = st /\ ∃ l o, c = (none, l, o) /\ l < o /\ hint + l < n /\ x + 1 <= o /\ B (hint + l) = true)
   (Q := fun c st' => st' = st /\ ∃ l o, c = (none, l, o) /\ l < o /\ hint + l < n /\ B (hint + l) = true /\ (n - hint <= o \/ B (hint + o) = false)) ?_ ?_ ⟨rfl, 0, 1, rfl, by omega, by omega, by omega, e0⟩) ?_)
  ·rintro x c st' _ hx ⟨rfl, l, o, rfl, a1, a2, a3, a4⟩
   dsimp only
   by_cases hc : o >= n - hint
   ·rw [if_pos hc]
    exact wpS_pure ⟨rfl, l, o, rfl, a1, a2, a4, .inl hc⟩
   ·rw [if_neg hc]
    refine wpS_bind (bok _ (by omega) _ ?_)
    dsimp only
    cases e : B (hint + o) with
    | false =>
     rw [if_pos (by decide)]
     exact wpS_pure ⟨rfl, l, o, rfl, a1, a2, a4, .inr e⟩
    | true =>
     rw [if_neg (by decide)]
     exact wpS_pure ⟨rfl, o, 2 * o + 1, rfl, by omega, by omega, by omega, e⟩
  ·rintro c st' ⟨rfl, l, o, rfl, a1, a2, a3, a4⟩
   exact ⟨rfl, l, o, rfl, a1, a2, a4, .inl (by omega)⟩
  ·rintro c st' ⟨rfl, l, o, rfl, a1, a2, a4, a5⟩
   dsimp only
   refine last _ _ (by omega) (by omega) (fun i hi => dn (j := hint + l) (by omega) a2 a4) (fun i hi hin => ?_) _ (fun _ _ => rfl)
   rcases a5 with a5 | a5
   ·omega
   ·by_cases h9 : n - hint <= o
    ·omega
    ·exact up (i := hint + o) (by omega) hin a5
 | false =>
  rw [if_neg (by simp)]
  refine wpS_bind (wpS_mono (wpS_forRange (I := fun x c st' => st' = st /\ ∃ l o, c = (none, l, o) /\ l < o /\ l <= hint /\ x + 1 <= o /\ B (hint - l) = false)
   (Q := fun c st' => st' = st /\ ∃ l o, c = (none, l, o) /\ l < o /\ l <= hint /\ B (hint - l) = false /\ (hint + 1 <= o \/ (o <= hint /\ B (hint - o) = true))) ?_ ?_ ⟨rfl, 0, 1, rfl, by omega, by omega, by omega, e0⟩) ?_)
  ·rintro x c st' _ hx ⟨rfl, l, o, rfl, a1, a2, a3, a4⟩
   dsimp only
   by_cases hc : o >= hint + 1
   ·rw [if_pos hc]
    exact wpS_pure ⟨rfl, l, o, rfl, a1, a2, a4, .inl hc⟩
   ·rw [if_neg hc]
    refine wpS_bind (bok _ (by omega) _ ?_)
    dsimp only
    cases e : B (hint - o) with
    | true =>
     rw [if_pos rfl]
     exact wpS_pure ⟨rfl, l, o, rfl, a1, a2, a4, .inr ⟨by omega, e⟩⟩
    | false =>
     rw [if_neg (by simp)]
     exact wpS_pure ⟨rfl, o, 2 * o + 1, rfl, by omega, by omega, by omega, e⟩
  ·rintro c st' ⟨rfl, l, o, rfl, a1, a2, a3, a4⟩
   exact ⟨rfl, l, o, rfl, a1, a2, a4, .inl (by omega)⟩
  ·rintro c st' ⟨rfl, l, o, rfl, a1, a2, a4, a5⟩
   dsimp only
   refine last _ _ (by omega) (by omega) (fun i hi => ?_) (fun i hi hin => up (i := hint - l) (by omega) hin a4) _ (fun _ _ => rfl)
   rcases a5 with a5 | ⟨a5, a6⟩
   ·omega
   ·exact dn (j := hint - o) (by omega) (by omega) a6
end
section
variable {M : Model} {A : Around} {E : Value -> Shared -> Prop} {s : Shared} {O : KeyOrd} {key : Keyed -> O.α} {kd : SortKind} {S : Keyed -> Prop}
def RK (O : KeyOrd) (key : Keyed -> O.α) (x y : Keyed) : Prop := O.kle (key x) (key y)
structure MI (O : KeyOrd) (key : Keyed -> O.α) (la lb : List Keyed) (out : Array Keyed) (ia ib : Nat) : Prop where
 so : out.toList.Pairwise (RK O key)
 oa : ∀ x ∈ out.toList, ∀ y ∈ la.drop ia, RK O key x y
 ob : ∀ x ∈ out.toList, ∀ y ∈ lb.drop ib, RK O key x y
 pm : (out.toList ++ la.drop ia ++ lb.drop ib).Perm (la ++ lb)
def GoodM (O : KeyOrd) (key : Keyed -> O.α) (la lb : List Keyed) (r : Array Keyed) : Prop := r.toList.Pairwise (RK O key) /\ r.toList.Perm (la ++ lb)
theorem pw_cut {la : List Keyed} (h : la.Pairwise (RK O key)) (i k : Nat) : ((la.drop i).take k).Pairwise (RK O key) /\ ∀ x ∈ (la.drop i).take k, ∀ y ∈ la.drop (i + k), RK O key x y := by
 have h1 : (la.drop i).Pairwise (RK O key) := h.sublist (List.drop_sublist i la)
 rw [<- List.take_append_drop k (la.drop i), List.pairwise_append, List.drop_drop] at h1
 exact ⟨h1.1, h1.2.2⟩
theorem drop_more {α : Type} {la : List α} {i k : Nat} {y : α} (h : y ∈ la.drop (i + k)) : y ∈ la.drop i := by
 rw [<- List.drop_drop] at h
 exact List.mem_of_mem_drop h
theorem MI.a {la lb : List Keyed} {out : Array Keyed} {ia ib : Nat} (h : MI O key la lb out ia ib) (sa : la.Pairwise (RK O key)) (k : Nat) (hx : ∀ x ∈ (la.drop ia).take k, ∀ y ∈ lb.drop ib, RK O key x y) {out' : Array Keyed} (e : out'.toList = out.toList ++ (la.drop ia).take k) : MI O key la lb out' (ia + k) ib := by
 obtain ⟨p1, p2⟩ := pw_cut sa ia k
 refine ⟨?_, ?_, ?_, ?_⟩
 ·rw [e, List.pairwise_append]
  exact ⟨h.so, p1, fun x hx y hy => h.oa x hx y (List.mem_of_mem_take hy)⟩
 ·intro x hx' y hy
  rw [e, List.mem_append] at hx'
  rcases hx' with hx' | hx'
  ·exact h.oa x hx' y (drop_more hy)
  ·exact p2 x hx' y hy
 ·intro x hx' y hy
  rw [e, List.mem_append] at hx'
  rcases hx' with hx' | hx'
  ·exact h.ob x hx' y hy
  ·exact hx x hx' y hy
 ·rw [e, List.append_assoc out.toList, <- List.drop_drop, List.take_append_drop]
  exact h.pm
theorem MI.b {la lb : List Keyed} {out : Array Keyed} {ia ib : Nat} (h : MI O key la lb out ia ib) (sb : lb.Pairwise (RK O key)) (k : Nat) (hx : ∀ x ∈ (lb.drop ib).take k, ∀ y ∈ la.drop ia, RK O key x y) {out' : Array Keyed} (e : out'.toList = out.toList ++ (lb.drop ib).take k) : MI O key la lb out' ia (ib + k) := by
 obtain ⟨p1, p2⟩ := pw_cut sb ib k
 refine ⟨?_, ?_, ?_, ?_⟩
 ·rw [e, List.pairwise_append]
  exact ⟨h.so, p1, fun x hx y hy => h.ob x hx y (List.mem_of_mem_take hy)⟩
 ·intro x hx' y hy
  rw [e, List.mem_append] at hx'
  rcases hx' with hx' | hx'
  ·exact h.oa x hx' y hy
  ·exact hx x hx' y hy
 ·intro x hx' y hy
  rw [e, List.mem_append] at hx'
  rcases hx' with hx' | hx'
  ·exact h.ob x hx' y (drop_more hy)
  ·exact p2 x hx' y hy
 ·refine List.Perm.trans ?_ h.pm
  rw [e, <- List.drop_drop]
  refine List.Perm.trans (l₂ := out.toList ++ la.drop ia ++ ((lb.drop ib).take k ++ (lb.drop ib).drop k)) ?_ (by rw [List.take_append_drop])
  rw [List.append_assoc, List.append_assoc, List.append_assoc]
  refine List.Perm.append_left _ ?_
  rw [<- List.append_assoc, <- List.append_assoc]
  exact List.Perm.append_right _ List.perm_append_comm
theorem ex_all (a : Array Keyed) (i : Nat) : (a.extract i a.size).toList = a.toList.drop i := by
 rw [Array.toList_extract, List.extract_eq_take_drop]
 exact List.take_of_length_le (by simp)
theorem ex_some (a : Array Keyed) (i k : Nat) : (a.extract i (i + k)).toList = (a.toList.drop i).take k := by
 rw [Array.toList_extract, List.extract_eq_take_drop, Nat.add_sub_cancel_left]
theorem MI.last {a b out : Array Keyed} {ia ib : Nat} (h : MI O key a.toList b.toList out ia ib) (sa : a.toList.Pairwise (RK O key)) (sb : b.toList.Pairwise (RK O key)) (hx : ∀ x ∈ b.toList.drop ib, ∀ y ∈ a.toList.drop ia, RK O key x y) : GoodM O key a.toList b.toList (out ++ b.extract ib b.size ++ a.extract ia a.size) := by
 have e1 : (b.toList.drop ib).take b.size = b.toList.drop ib := List.take_of_length_le (by simp)
 have e2 : (a.toList.drop ia).take a.size = a.toList.drop ia := List.take_of_length_le (by simp)
 have d1 : b.toList.drop (ib + b.size) = [] := List.drop_eq_nil_of_le (by simp)
 have d2 : a.toList.drop (ia + a.size) = [] := List.drop_eq_nil_of_le (by simp)
 have h1 := h.b sb b.size (by rw [e1]; exact hx) (out' := out ++ b.extract ib b.size) (by rw [Array.toList_append, ex_all, e1])
 have h2 := h1.a sa a.size (by rw [d1]; intro _ _ _ hy; cases hy) (out' := out ++ b.extract ib b.size ++ a.extract ia a.size) (by rw [Array.toList_append, ex_all, e2])
 have p := h2.pm
 rw [d1, d2, List.append_nil, List.append_nil] at p
 exact ⟨h2.so, p⟩
theorem MI.done {a b out : Array Keyed} {ia ib : Nat} (h : MI O key a.toList b.toList out ia ib) (sa : a.toList.Pairwise (RK O key)) (sb : b.toList.Pairwise (RK O key)) (hx : b.toList.drop ib = [] \/ a.toList.drop ia = []) : GoodM O key a.toList b.toList (out ++ a.extract ia a.size ++ b.extract ib b.size) := by
 have e1 : (b.toList.drop ib).take b.size = b.toList.drop ib := List.take_of_length_le (by simp)
 have e2 : (a.toList.drop ia).take a.size = a.toList.drop ia := List.take_of_length_le (by simp)
 have d1 : b.toList.drop (ib + b.size) = [] := List.drop_eq_nil_of_le (by simp)
 have d2 : a.toList.drop (ia + a.size) = [] := List.drop_eq_nil_of_le (by simp)
 have h1 := h.a sa a.size (by rw [e2]; intro x hx' y hy; rcases hx with hx | hx; (rw [hx] at hy; cases hy); (rw [hx] at hx'; cases hx')) (out' := out ++ a.extract ia a.size) (by rw [Array.toList_append, ex_all, e2])
 have h2 := h1.b sb b.size (by rw [d2]; intro _ _ _ hy; cases hy) (out' := out ++ a.extract ia a.size ++ b.extract ib b.size) (by rw [Array.toList_append, ex_all, e1])
 have p := h2.pm
 rw [d1, d2, List.append_nil, List.append_nil] at p
 exact ⟨h2.so, p⟩
theorem hd_at {a : Array Keyed} {i : Nat} {p : Keyed} (h : a[i]? = some p) : (a.toList.drop i).take 1 = [p] := by
 have h' : a.toList[i]? = some p := by simpa using h
 obtain ⟨hi, e⟩ := List.getElem?_eq_some_iff.mp h'
 rw [List.drop_eq_getElem_cons hi, e]
 rfl
theorem hd_le {a : Array Keyed} {i : Nat} {p : Keyed} (sa : a.toList.Pairwise (RK O key)) (h : a[i]? = some p) : ∀ y ∈ a.toList.drop i, RK O key p y := by
 have h' : a.toList[i]? = some p := by simpa using h
 obtain ⟨hi, e⟩ := List.getElem?_eq_some_iff.mp h'
 have h1 : (a.toList.drop i).Pairwise (RK O key) := sa.sublist (List.drop_sublist i _)
 rw [List.drop_eq_getElem_cons hi, e] at h1 ⊢
 intro y hy
 rcases List.mem_cons.mp hy with rfl | hy
 ·exact KeyOrd.kle_refl _
 ·exact (List.pairwise_cons.mp h1).1 y hy
theorem cut_at {a : Array Keyed} {i k : Nat} {x : Keyed} (h : x ∈ (a.toList.drop i).take k) : ∃ j, j < k /\ a[i + j]? = some x := by
 obtain ⟨j, hj⟩ := List.getElem?_of_mem h
 have hjl := (List.getElem?_eq_some_iff.mp hj).1
 rw [List.length_take] at hjl
 rw [List.getElem?_take, if_pos (by omega), List.getElem?_drop] at hj
 exact ⟨j, by omega, by simpa using hj⟩
theorem drop_at {a : Array Keyed} {i : Nat} {x : Keyed} (h : x ∈ a.toList.drop i) : ∃ j, i <= j /\ j < a.size /\ a[j]? = some x := by
 obtain ⟨j, hj⟩ := List.getElem?_of_mem h
 rw [List.getElem?_drop] at hj
 have hjl := (List.getElem?_eq_some_iff.mp hj).1
 exact ⟨i + j, by omega, by simpa using hjl, by simpa using hj⟩
theorem srt_at {a : Array Keyed} (sa : a.toList.Pairwise (RK O key)) {i j : Nat} (hij : i <= j) (hj : j < a.size) : O.kle (ke key a i) (ke key a j) := by
 have hi : i < a.size := by omega
 rw [ke_of (getElem?_pos a i hi), ke_of (getElem?_pos a j hj)]
 by_cases e : i = j
 ·subst e; exact KeyOrd.kle_refl _
 ·have := List.pairwise_iff_getElem.mp sa i j (by simpa using hi) (by simpa using hj) (by omega)
  simpa [RK] using this
def setG' : Nat -> StateT SortSt Sem Unit := sortPriv% PySem.Builtin.setMinGallop
theorem wpS_setG {M : Model} {A : Around} {E : Value -> Shared -> Prop} {s : Shared} {g : Nat} {st : SortSt} {Q : Unit -> SortSt -> Prop} (h : Q () (SortSt.mk' (kindOf st) (arrOf st) (pendingOf st) g (failedOf st))) : wpS M A E s (setG' g) Q st := wpS_modify h
abbrev LoS := Option (Array Keyed) × Array Keyed × Nat × Nat × Nat × Nat × Nat
def loTwo (a b out : Array Keyed) (ia ib g ac bc : Nat) : StateT SortSt Sem (ForInStep LoS) := elem' a ia >>= fun x =>
 if (ia + 1 + 1 == a.size) = true then pure (.done (some (out.push x ++ b.extract ib b.size ++ a.extract (ia + 1) a.size), out.push x, ia + 1, ib, g, ac, bc))
 else if (decide (ac < 7) && decide (bc < 7)) = true then pure (.done (none, out.push x, ia + 1, ib, g, ac, bc)) else pure (.yield (none, out.push x, ia + 1, ib, g, ac, bc))
def loMid (a b out : Array Keyed) (ia ib g ac bc : Nat) : StateT SortSt Sem (ForInStep LoS) := elem' b ib >>= fun x =>
 if (ib + 1 == b.size) = true then pure (.done (some (out.push x ++ a.extract ia a.size ++ b.extract (ib + 1) b.size), out.push x, ia, ib + 1, g, ac, bc))
 else elem' a ia >>= fun y => gallop' true y b (ib + 1) (b.size - (ib + 1)) 0 >>= fun r => match r with
  | some k => if k > 0 then
    if (ib + 1 + k == b.size) = true then pure (.done (some (out.push x ++ b.extract (ib + 1) (ib + 1 + k) ++ a.extract ia a.size ++ b.extract (ib + 1 + k) b.size), out.push x ++ b.extract (ib + 1) (ib + 1 + k), ia, ib + 1 + k, g, ac, k))
    else loTwo a b (out.push x ++ b.extract (ib + 1) (ib + 1 + k)) ia (ib + 1 + k) g ac k
   else loTwo a b (out.push x) ia (ib + 1) g ac k
  | _ => pure (.done (some (out.push x ++ a.extract ia a.size ++ b.extract (ib + 1) b.size), out.push x, ia, ib + 1, g, ac, bc))
def loOne (a b out : Array Keyed) (ia ib g ac bc : Nat) : StateT SortSt Sem (ForInStep LoS) := setG' g >>= fun _ => elem' b ib >>= fun x => gallop' false x a ia (a.size - ia) 0 >>= fun r => match r with
 | some k => if k > 0 then
   if (ia + k + 1 == a.size) = true then pure (.done (some (out ++ a.extract ia (ia + k) ++ b.extract ib b.size ++ a.extract (ia + k) a.size), out ++ a.extract ia (ia + k), ia + k, ib, g, k, bc))
   else if (ia + k == a.size) = true then pure (.done (some (out ++ a.extract ia (ia + k) ++ a.extract (ia + k) a.size ++ b.extract ib b.size), out ++ a.extract ia (ia + k), ia + k, ib, g, k, bc))
   else loMid a b (out ++ a.extract ia (ia + k)) (ia + k) ib g k bc
  else loMid a b out ia ib g k bc
 | _ => pure (.done (some (out ++ a.extract ia a.size ++ b.extract ib b.size), out, ia, ib, g, ac, bc))
theorem wpS_yes {α σ : Type} {c : Prop} [Decidable c] {x y : StateT σ Sem α} {Q : α -> σ -> Prop} {st : σ} (hc : c) (h : wpS M A E s x Q st) : wpS M A E s (if c then x else y) Q st := by rw [if_pos hc]; exact h
theorem wpS_no {α σ : Type} {c : Prop} [Decidable c] {x y : StateT σ Sem α} {Q : α -> σ -> Prop} {st : σ} (hc : ¬ c) (h : wpS M A E s y Q st) : wpS M A E s (if c then x else y) Q st := by rw [if_neg hc]; exact h
section
variable {a b out : Array Keyed} {ia ib : Nat} {st : SortSt} {R : ForInStep LoS -> SortSt -> Prop}
theorem wpS_loTwo {g ac bc : Nat} {pa : Keyed} (sa : a.toList.Pairwise (RK O key)) (sb : b.toList.Pairwise (RK O key)) (h2 : ∀ x ∈ b.toList, ∀ y ∈ a.toList.drop (a.size - 1), RK O key x y) (ea : a[ia]? = some pa) (hia : ia + 1 < a.size) (hib : ib < b.size) (m : MI O key a.toList b.toList out ia ib) (below : ∀ y ∈ b.toList.drop ib, RK O key pa y)
  (hd : ∀ r z, GoodM O key a.toList b.toList r -> R (.done (some r, z)) st) (hn : ∀ o2 i2 j2 g3 a3 b3, MI O key a.toList b.toList o2 i2 j2 -> i2 + 1 < a.size -> j2 < b.size -> a.size - i2 + (b.size - j2) <= a.size - ia + (b.size - ib) -> R (.done (none, o2, i2, j2, g3, a3, b3)) st /\ R (.yield (none, o2, i2, j2, g3, a3, b3)) st) : wpS M A E s (loTwo a b out ia ib g ac bc) R st := by
 unfold loTwo
 refine wpS_bind (wpS_elem ea ?_)
 have m5 : MI O key a.toList b.toList (out.push pa) (ia + 1) ib := m.a sa 1 (by rw [hd_at ea]; intro x hx y hy; rw [List.mem_singleton.mp hx]; exact below y hy) (by rw [hd_at ea, Array.toList_push])
 by_cases d5 : ia + 1 + 1 = a.size
 ·exact wpS_yes (by simpa using d5) (wpS_pure (hd _ _ (m5.last sa sb fun x hx y hy => h2 x (List.mem_of_mem_drop hx) y (by rw [show a.size - 1 = ia + 1 by omega]; exact hy))))
 ·refine wpS_no (by simpa using d5) ?_
  have z := fun g3 a3 b3 => hn _ _ _ g3 a3 b3 m5 (by omega) hib (by omega)
  split
  ·exact wpS_pure (z _ _ _).1
  ·exact wpS_pure (z _ _ _).2
theorem wpS_loMid (L : LtOk M A E s O key kd S) {g ac bc : Nat} {pb : Keyed} (hk : kindOf st = kd) (hSa : ∀ x ∈ a.toList, S x) (hSb : ∀ x ∈ b.toList, S x) (sa : a.toList.Pairwise (RK O key)) (sb : b.toList.Pairwise (RK O key)) (h2 : ∀ x ∈ b.toList, ∀ y ∈ a.toList.drop (a.size - 1), RK O key x y) (eb : b[ib]? = some pb) (hia : ia + 1 < a.size) (hib : ib < b.size) (m : MI O key a.toList b.toList out ia ib) (above : ∀ y ∈ a.toList.drop ia, RK O key pb y)
  (hd : ∀ r z, GoodM O key a.toList b.toList r -> R (.done (some r, z)) st) (hn : ∀ o2 i2 j2 g3 a3 b3, MI O key a.toList b.toList o2 i2 j2 -> i2 + 1 < a.size -> j2 < b.size -> a.size - i2 + (b.size - j2) <= a.size - ia + (b.size - ib) -> R (.done (none, o2, i2, j2, g3, a3, b3)) st /\ R (.yield (none, o2, i2, j2, g3, a3, b3)) st) : wpS M A E s (loMid a b out ia ib g ac bc) R st := by
 have endB : ∀ {i}, i = b.size -> b.toList.drop i = [] := fun e => List.drop_eq_nil_of_le (by simp [e])
 unfold loMid
 refine wpS_bind (wpS_elem eb ?_)
 have m3 : MI O key a.toList b.toList (out.push pb) ia (ib + 1) := m.b sb 1 (by rw [hd_at eb]; intro x hx y hy; rw [List.mem_singleton.mp hx]; exact above y hy) (by rw [hd_at eb, Array.toList_push])
 by_cases d3 : ib + 1 = b.size
 ·exact wpS_yes (by simpa using d3) (wpS_pure (hd _ _ (m3.done sa sb (.inl (endB d3)))))
 refine wpS_no (by simpa using d3) ?_
 have ea : a[ia]? = some a[ia] := getElem?_pos a ia (by omega)
 have ha' : S a[ia] := hSa _ (by simp)
 refine wpS_bind (wpS_elem ea ?_)
 refine wpS_bind (wpS_gallop L hk ha' (fun i hi => ⟨b[ib + 1 + i], getElem?_pos b _ (by omega), hSb _ (by simp)⟩) (by omega) (fun i j hij hj => srt_at sb (by omega) (by omega)) fun kk hkk hl2 hr2' => ?_)
 dsimp only
 have below : ∀ y ∈ b.toList.drop (ib + 1 + kk), RK O key a[ia] y := fun y hy => by
  obtain ⟨j, j1, j2, ey⟩ := drop_at hy
  have := hr2' (j - (ib + 1)) (by omega) (by omega)
  unfold beyB at this
  rw [show ib + 1 + (j - (ib + 1)) = j by omega, ke_of ey] at this
  exact this
 by_cases hkk0 : kk > 0
 ·refine wpS_yes hkk0 ?_
  have m4 : MI O key a.toList b.toList (out.push pb ++ b.extract (ib + 1) (ib + 1 + kk)) ia (ib + 1 + kk) := m3.b sb kk (fun x hx y hy => by
   obtain ⟨j, hj, ex⟩ := cut_at hx
   have := hl2 j hj
   unfold beyB at this
   rw [ke_of ex] at this
   exact KeyOrd.kle_trans (KeyOrd.kle_of_klt this) (hd_le sa ea y hy)) (by rw [Array.toList_append, ex_some])
  by_cases d4 : ib + 1 + kk = b.size
  ·exact wpS_yes (by simpa using d4) (wpS_pure (hd _ _ (m4.done sa sb (.inl (endB d4)))))
  ·refine wpS_no (by simpa using d4) (wpS_loTwo sa sb h2 ea hia (by omega) m4 below hd fun o2 i2 j2 g3 a3 b3 m' e1 e2 e3 => hn o2 i2 j2 g3 a3 b3 m' e1 e2 (by omega))
 ·refine wpS_no hkk0 (wpS_loTwo sa sb h2 ea hia (by omega) m3 (fun y hy => below y (by rw [show kk = 0 by omega]; exact hy)) hd fun o2 i2 j2 g3 a3 b3 m' e1 e2 e3 => hn o2 i2 j2 g3 a3 b3 m' e1 e2 (by omega))
theorem wpS_loOne (L : LtOk M A E s O key kd S) {g ac bc : Nat} (hk : kindOf st = kd) (hSa : ∀ x ∈ a.toList, S x) (hSb : ∀ x ∈ b.toList, S x) (sa : a.toList.Pairwise (RK O key)) (sb : b.toList.Pairwise (RK O key)) (h2 : ∀ x ∈ b.toList, ∀ y ∈ a.toList.drop (a.size - 1), RK O key x y) (hia : ia + 1 < a.size) (hib : ib < b.size) (m : MI O key a.toList b.toList out ia ib)
  (hd : ∀ r z, GoodM O key a.toList b.toList r -> R (.done (some r, z)) (SortSt.mk' (kindOf st) (arrOf st) (pendingOf st) g (failedOf st))) (hn : ∀ o2 i2 j2 g3 a3 b3, MI O key a.toList b.toList o2 i2 j2 -> i2 + 1 < a.size -> j2 < b.size -> a.size - i2 + (b.size - j2) <= a.size - ia + (b.size - ib) -> R (.done (none, o2, i2, j2, g3, a3, b3)) (SortSt.mk' (kindOf st) (arrOf st) (pendingOf st) g (failedOf st)) /\ R (.yield (none, o2, i2, j2, g3, a3, b3)) (SortSt.mk' (kindOf st) (arrOf st) (pendingOf st) g (failedOf st))) : wpS M A E s (loOne a b out ia ib g ac bc) R st := by
 unfold loOne
 refine wpS_bind (wpS_setG ?_)
 have eb : b[ib]? = some b[ib] := getElem?_pos b ib hib
 refine wpS_bind (wpS_elem eb ?_)
 refine wpS_bind (wpS_gallop L hk (hSb _ (by simp)) (fun i hi => ⟨a[ia + i], getElem?_pos a _ (by omega), hSa _ (by simp)⟩) (by omega) (fun i j hij hj => srt_at sa (by omega) (by omega)) fun k hkn hl hr2 => ?_)
 dsimp only
 have above : ∀ y ∈ a.toList.drop (ia + k), RK O key b[ib] y := fun y hy => by
  obtain ⟨j, j1, j2, ey⟩ := drop_at hy
  have := hr2 (j - ia) (by omega) (by omega)
  unfold beyB at this
  rw [show ia + (j - ia) = j by omega, ke_of ey] at this
  simp only [Bool.false_eq_true, if_false, Bool.not_eq_false'] at this
  exact KeyOrd.kle_of_klt this
 by_cases hk0 : k > 0
 ·refine wpS_yes hk0 ?_
  have m2 : MI O key a.toList b.toList (out ++ a.extract ia (ia + k)) (ia + k) ib := m.a sa k (fun x hx y hy => by
   obtain ⟨j, hj, ex⟩ := cut_at hx
   have := hl j hj
   unfold beyB at this
   rw [ke_of ex] at this
   simp only [Bool.false_eq_true, if_false, Bool.not_eq_true'] at this
   exact KeyOrd.kle_trans this (hd_le sb eb y hy)) (by rw [Array.toList_append, ex_some])
  by_cases d1 : ia + k + 1 = a.size
  ·exact wpS_yes (by simpa using d1) (wpS_pure (hd _ _ (m2.last sa sb fun x hx y hy => h2 x (List.mem_of_mem_drop hx) y (by rw [show a.size - 1 = ia + k by omega]; exact hy))))
  refine wpS_no (by simpa using d1) ?_
  by_cases d2 : ia + k = a.size
  ·exact wpS_yes (by simpa using d2) (wpS_pure (hd _ _ (m2.done sa sb (.inr (List.drop_eq_nil_of_le (by simp [d2]))))))
  ·exact wpS_no (by simpa using d2) (wpS_loMid L hk hSa hSb sa sb h2 eb (by omega) hib m2 above hd fun o2 i2 j2 g3 a3 b3 m' e1 e2 e3 => hn o2 i2 j2 g3 a3 b3 m' e1 e2 (by omega))
 ·exact wpS_no hk0 (wpS_loMid L hk hSa hSb sa sb h2 eb hia hib m (fun y hy => above y (by rw [show k = 0 by omega]; exact hy)) hd fun o2 i2 j2 g3 a3 b3 m' e1 e2 e3 => hn o2 i2 j2 g3 a3 b3 m' e1 e2 (by omega))
end
abbrev LoT := Option (Array Keyed) × Array Keyed × Nat × Nat × Nat × Nat
def loB1 (a b : Array Keyed) (g : Nat) (c : LoT) : StateT SortSt Sem (ForInStep LoT) := elem' b c.2.2.2.1 >>= fun y => elem' a c.2.2.1 >>= fun x => lt' y x >>= fun r => match r with
 | some t => if t = true then elem' b c.2.2.2.1 >>= fun y =>
    if (c.2.2.2.1 + 1 == b.size) = true then pure (.done (some (c.2.1.push y ++ a.extract c.2.2.1 a.size ++ b.extract (c.2.2.2.1 + 1) b.size), c.2.1.push y, c.2.2.1, c.2.2.2.1 + 1, 0, c.2.2.2.2.2 + 1))
    else if c.2.2.2.2.2 + 1 >= g then pure (.done (none, c.2.1.push y, c.2.2.1, c.2.2.2.1 + 1, 0, c.2.2.2.2.2 + 1)) else pure (.yield (none, c.2.1.push y, c.2.2.1, c.2.2.2.1 + 1, 0, c.2.2.2.2.2 + 1))
   else elem' a c.2.2.1 >>= fun x =>
    if (c.2.2.1 + 1 + 1 == a.size) = true then pure (.done (some (c.2.1.push x ++ b.extract c.2.2.2.1 b.size ++ a.extract (c.2.2.1 + 1) a.size), c.2.1.push x, c.2.2.1 + 1, c.2.2.2.1, c.2.2.2.2.1 + 1, 0))
    else if c.2.2.2.2.1 + 1 >= g then pure (.done (none, c.2.1.push x, c.2.2.1 + 1, c.2.2.2.1, c.2.2.2.2.1 + 1, 0)) else pure (.yield (none, c.2.1.push x, c.2.2.1 + 1, c.2.2.2.1, c.2.2.2.2.1 + 1, 0))
 | _ => pure (.done (some (c.2.1 ++ a.extract c.2.2.1 a.size ++ b.extract c.2.2.2.1 b.size), c.2.1, c.2.2.1, c.2.2.2.1, c.2.2.2.2.1, c.2.2.2.2.2))
abbrev LoU := Option (Array Keyed) × Array Keyed × Nat × Nat × Nat
def loLeap (a b : Array Keyed) (c : LoS) : StateT SortSt Sem (ForInStep LoS) := if c.2.2.2.2.1 > 1 then loOne a b c.2.1 c.2.2.1 c.2.2.2.1 (c.2.2.2.2.1 - 1) c.2.2.2.2.2.1 c.2.2.2.2.2.2 else loOne a b c.2.1 c.2.2.1 c.2.2.2.1 c.2.2.2.2.1 c.2.2.2.2.2.1 c.2.2.2.2.2.2
def loEnd (c : LoS) : StateT SortSt Sem (ForInStep LoU) := match c.1 with
 | some r => pure (.done (some r, c.2.1, c.2.2.1, c.2.2.2.1, c.2.2.2.2.1))
 | none => setG' (c.2.2.2.2.1 + 1) >>= fun _ => pure (.yield (none, c.2.1, c.2.2.1, c.2.2.2.1, c.2.2.2.2.1 + 1))
def loRest (a b : Array Keyed) (g : Nat) (c : LoT) : StateT SortSt Sem (ForInStep LoU) := match c.1 with
 | some r => pure (.done (some r, c.2.1, c.2.2.1, c.2.2.2.1, g))
 | none => liftM (rule "list.sort.gallop") >>= fun _ => forIn [0:a.size + b.size] ((none, c.2.1, c.2.2.1, c.2.2.2.1, g + 1, c.2.2.2.2.1, c.2.2.2.2.2) : LoS) (fun _ s => loLeap a b s) >>= loEnd
def loBody (a b : Array Keyed) (c : LoU) : StateT SortSt Sem (ForInStep LoU) := forIn [0:a.size + b.size] ((none, c.2.1, c.2.2.1, c.2.2.2.1, 0, 0) : LoT) (fun _ s => loB1 a b c.2.2.2.2 s) >>= loRest a b c.2.2.2.2
def loFin (c : LoU) : StateT SortSt Sem (Array Keyed) := match c.1 with
 | some r => pure r
 | none => liftM (unsupported "internal:list.sort.merge-bound" : Sem (Array Keyed))
def loAll (a b : Array Keyed) : StateT SortSt Sem (Array Keyed) := liftM (rule "list.sort.merge-lo") >>= fun _ => elem' b 0 >>= fun x =>
 if (1 == b.size) = true then pure (#[x] ++ a.extract 0 a.size ++ b.extract 1 b.size) else if (0 + 1 == a.size) = true then pure (#[x] ++ b.extract 1 b.size ++ a.extract 0 a.size)
 else get >>= fun st => forIn [0:a.size + b.size] ((none, #[x], 0, 1, gallopOf st) : LoU) (fun _ c => loBody a b c) >>= loFin
theorem cong2 {α β γ : Type _} (f : α -> β -> γ) {a a' : α} {b b' : β} (h : a = a') (k : b = b') : f a b = f a' b' := by subst h k; rfl
theorem ite_cong {α : Type _} {c : Prop} [Decidable c] {a a' b b' : α} (h : a = a') (k : b = b') : (if c then a else b) = if c then a' else b' := by subst h k; rfl
theorem lo_eq (a b : Array Keyed) : mergeLo' a b = loAll a b := by
 unfold loAll
 refine congrArg (Bind.bind _) (funext fun _ => congrArg (Bind.bind _) (funext fun x => ?_))
 refine ite_cong rfl (ite_cong rfl (congrArg (Bind.bind _) (funext fun st => ?_)))
 refine cong2 Bind.bind (congrArg (forIn _ _) (funext fun _ => funext fun c => ?_)) ?_
 ·unfold loBody
  refine cong2 Bind.bind (congrArg (forIn _ _) (funext fun _ => funext fun c => ?_)) ?_
  ·unfold loB1
   refine congrArg (Bind.bind _) (funext fun _ => congrArg (Bind.bind _) (funext fun _ => congrArg (Bind.bind _) (funext fun r => ?_)))
   cases r with
   | none => rfl
   | some r => rfl
  ·funext c
   unfold loRest
   obtain ⟨c1, c2⟩ := c
   cases c1 with
   | some r => rfl
   | none =>
    refine congrArg (Bind.bind _) (funext fun _ => cong2 Bind.bind (congrArg (forIn _ _) (funext fun _ => funext fun c => ?_)) ?_)
    ·unfold loLeap
     refine ite_cong ?_ ?_
     ·unfold loOne
      refine congrArg (Bind.bind _) (funext fun _ => congrArg (Bind.bind _) (funext fun _ => congrArg (Bind.bind _) (funext fun r => ?_)))
      cases r with
      | none => rfl
      | some r => rfl
     ·rfl
    ·funext c
     obtain ⟨c1, c2⟩ := c
     cases c1 <;> rfl
 ·funext c
  obtain ⟨c1, c2⟩ := c
  cases c1 <;> rfl
section
variable {a b : Array Keyed} {st : SortSt}
theorem wpS_loB1 (L : LtOk M A E s O key kd S) {out : Array Keyed} {ja jb ac bc g : Nat} {R : ForInStep LoT -> SortSt -> Prop} (hk : kindOf st = kd) (hSa : ∀ x ∈ a.toList, S x) (hSb : ∀ x ∈ b.toList, S x) (sa : a.toList.Pairwise (RK O key)) (sb : b.toList.Pairwise (RK O key)) (h2 : ∀ x ∈ b.toList, ∀ y ∈ a.toList.drop (a.size - 1), RK O key x y) (hja : ja + 1 < a.size) (hjb : jb < b.size) (m : MI O key a.toList b.toList out ja jb)
  (hd : ∀ r z, GoodM O key a.toList b.toList r -> R (.done (some r, z)) st) (hn : ∀ o2 i2 j2 a3 b3, MI O key a.toList b.toList o2 i2 j2 -> i2 + 1 < a.size -> j2 < b.size -> i2 + j2 = ja + jb + 1 -> R (.done (none, o2, i2, j2, a3, b3)) st /\ R (.yield (none, o2, i2, j2, a3, b3)) st) : wpS M A E s (loB1 a b g (none, out, ja, jb, ac, bc)) R st := by
 have ea : a[ja]? = some a[ja] := getElem?_pos a ja (by omega)
 have eb : b[jb]? = some b[jb] := getElem?_pos b jb hjb
 unfold loB1
 refine wpS_bind (wpS_elem eb (wpS_bind (wpS_elem ea (wpS_bind (L _ _ _ _ (hSb _ (by simp)) (hSa _ (by simp)) hk ?_)))))
 dsimp only
 cases hc : O.blt (key b[jb]) (key a[ja]) with
 | true =>
  refine wpS_yes rfl (wpS_bind (wpS_elem eb ?_))
  have m' : MI O key a.toList b.toList (out.push b[jb]) ja (jb + 1) := m.b sb 1 (by rw [hd_at eb]; intro x hx y hy; rw [List.mem_singleton.mp hx]; exact KeyOrd.kle_trans (KeyOrd.kle_of_klt hc) (hd_le sa ea y hy)) (by rw [hd_at eb, Array.toList_push])
  by_cases d1 : jb + 1 = b.size
  ·exact wpS_yes (by simpa using d1) (wpS_pure (hd _ _ (m'.done sa sb (.inl (List.drop_eq_nil_of_le (by simp [d1]))))))
  ·refine wpS_no (by simpa using d1) ?_
   have z := fun a3 b3 => hn _ _ _ a3 b3 m' hja (by omega) (by omega)
   by_cases d2 : bc + 1 >= g
   ·exact wpS_yes d2 (wpS_pure (z _ _).1)
   ·exact wpS_no d2 (wpS_pure (z _ _).2)
 | false =>
  refine wpS_no (by simp) (wpS_bind (wpS_elem ea ?_))
  have m' : MI O key a.toList b.toList (out.push a[ja]) (ja + 1) jb := m.a sa 1 (by rw [hd_at ea]; intro x hx y hy; rw [List.mem_singleton.mp hx]; exact KeyOrd.kle_trans hc (hd_le sb eb y hy)) (by rw [hd_at ea, Array.toList_push])
  by_cases d1 : ja + 1 + 1 = a.size
  ·exact wpS_yes (by simpa using d1) (wpS_pure (hd _ _ (m'.last sa sb fun x hx y hy => h2 x (List.mem_of_mem_drop hx) y (by rw [show a.size - 1 = ja + 1 by omega]; exact hy))))
  ·refine wpS_no (by simpa using d1) ?_
   have z := fun a3 b3 => hn _ _ _ a3 b3 m' (by omega) hjb (by omega)
   by_cases d2 : ac + 1 >= g
   ·exact wpS_yes d2 (wpS_pure (z _ _).1)
   ·exact wpS_no d2 (wpS_pure (z _ _).2)
def Keeps (st st' : SortSt) : Prop := kindOf st' = kindOf st /\ arrOf st' = arrOf st /\ pendingOf st' = pendingOf st /\ failedOf st' = failedOf st
theorem wpS_loBody (L : LtOk M A E s O key kd S) {st' : SortSt} {out : Array Keyed} {ia ib g : Nat} {R : ForInStep LoU -> SortSt -> Prop} (hk : kindOf st = kd) (hSa : ∀ x ∈ a.toList, S x) (hSb : ∀ x ∈ b.toList, S x) (sa : a.toList.Pairwise (RK O key)) (sb : b.toList.Pairwise (RK O key)) (h2 : ∀ x ∈ b.toList, ∀ y ∈ a.toList.drop (a.size - 1), RK O key x y) (hia : ia + 1 < a.size) (hib : ib < b.size) (m : MI O key a.toList b.toList out ia ib) (ks : Keeps st st')
  (hd : ∀ r z st2, GoodM O key a.toList b.toList r -> Keeps st st2 -> R (.done (some r, z)) st2) (hn : ∀ o2 i2 j2 g3 st2, MI O key a.toList b.toList o2 i2 j2 -> i2 + 1 < a.size -> j2 < b.size -> ia + ib + 1 <= i2 + j2 -> Keeps st st2 -> R (.yield (none, o2, i2, j2, g3)) st2) : wpS M A E s (loBody a b (none, out, ia, ib, g)) R st' := by
 unfold loBody
 refine wpS_bind (wpS_mono (wpS_forRange
  (I := fun y c st2 => st2 = st' /\ ∃ out ja jb ac bc, c = (none, out, ja, jb, ac, bc) /\ MI O key a.toList b.toList out ja jb /\ ja + 1 < a.size /\ jb < b.size /\ ja + jb = ia + ib + y)
  (Q := fun c st2 => st2 = st' /\ ((∃ r z, c = (some r, z) /\ GoodM O key a.toList b.toList r) \/ ∃ out ja jb ac bc, c = (none, out, ja, jb, ac, bc) /\ MI O key a.toList b.toList out ja jb /\ ja + 1 < a.size /\ jb < b.size /\ ia + ib + 1 <= ja + jb)) ?_ ?_ ⟨rfl, _, _, _, _, _, rfl, m, hia, hib, rfl⟩) ?_)
 ·rintro y c st2 _ hy ⟨rfl, out, ja, jb, ac, bc, rfl, m, hja, hjb, hr⟩
  exact wpS_loB1 L (ks.1.trans hk) hSa hSb sa sb h2 hja hjb m (fun r z hr => ⟨rfl, .inl ⟨r, z, rfl, hr⟩⟩) fun o2 i2 j2 a3 b3 m' e1 e2 e3 => ⟨⟨rfl, .inr ⟨_, _, _, _, _, rfl, m', e1, e2, by omega⟩⟩, ⟨rfl, _, _, _, _, _, rfl, m', e1, e2, by omega⟩⟩
 ·rintro c st2 ⟨rfl, out, ja, jb, ac, bc, rfl, m, hja, hjb, hr⟩
  exact ⟨rfl, .inr ⟨_, _, _, _, _, rfl, m, hja, hjb, by omega⟩⟩
 rintro c st2 ⟨rfl, hcase⟩
 rcases hcase with ⟨r, z, rfl, hr⟩ | ⟨out, ja, jb, ac, bc, rfl, m, hja, hjb, hr⟩
 ·exact wpS_pure (hd r _ _ hr ks)
 refine wpS_bind (wpS_lift (wpAny_rule ⟨rfl, ?_⟩))
 refine wpS_bind (wpS_mono (wpS_forRange
  (I := fun y c st3 => Keeps st st3 /\ ∃ out ia' ib' g ac bc, c = (none, out, ia', ib', g, ac, bc) /\ MI O key a.toList b.toList out ia' ib' /\ ia' + 1 < a.size /\ ib' < b.size /\ a.size - ia' + (b.size - ib') <= a.size - ja + (b.size - jb))
  (Q := fun c st3 => Keeps st st3 /\ ((∃ r z, c = (some r, z) /\ GoodM O key a.toList b.toList r) \/ ∃ out ia' ib' g ac bc, c = (none, out, ia', ib', g, ac, bc) /\ MI O key a.toList b.toList out ia' ib' /\ ia' + 1 < a.size /\ ib' < b.size /\ a.size - ia' + (b.size - ib') <= a.size - ja + (b.size - jb))) ?_ (fun c st3 z => ⟨z.1, .inr z.2⟩) ⟨ks, _, _, _, _, _, _, rfl, m, hja, hjb, Nat.le_refl _⟩) ?_)
 ·rintro y c st3 _ hy ⟨k1, out, ia', ib', g', ac', bc', rfl, m, hia', hib', hr'⟩
  unfold loLeap
  by_cases hg : g' > 1
  ·exact wpS_yes hg (wpS_loOne L (k1.1.trans hk) hSa hSb sa sb h2 hia' hib' m (fun r z hr => ⟨k1, .inl ⟨r, z, rfl, hr⟩⟩) fun o2 i2 j2 g3 a3 b3 m3 e1 e2 e3 => ⟨⟨k1, .inr ⟨o2, i2, j2, g3, a3, b3, rfl, m3, e1, e2, Nat.le_trans e3 hr'⟩⟩, ⟨k1, o2, i2, j2, g3, a3, b3, rfl, m3, e1, e2, Nat.le_trans e3 hr'⟩⟩)
  ·exact wpS_no hg (wpS_loOne L (k1.1.trans hk) hSa hSb sa sb h2 hia' hib' m (fun r z hr => ⟨k1, .inl ⟨r, z, rfl, hr⟩⟩) fun o2 i2 j2 g3 a3 b3 m3 e1 e2 e3 => ⟨⟨k1, .inr ⟨o2, i2, j2, g3, a3, b3, rfl, m3, e1, e2, Nat.le_trans e3 hr'⟩⟩, ⟨k1, o2, i2, j2, g3, a3, b3, rfl, m3, e1, e2, Nat.le_trans e3 hr'⟩⟩)
 ·rintro c st3 ⟨k1, hcase⟩
  rcases hcase with ⟨r, z, rfl, hr3⟩ | ⟨out3, ia3, ib3, g3, ac3, bc3, rfl, m3, hia3, hib3, hr3⟩
  ·exact wpS_pure (hd r _ _ hr3 k1)
  ·exact wpS_bind (wpS_setG (wpS_pure (hn out3 ia3 ib3 (g3 + 1) _ m3 hia3 hib3 (by omega) k1)))
theorem wpS_mergeLo (L : LtOk M A E s O key kd S) {Q : Array Keyed -> SortSt -> Prop} (hk : kindOf st = kd) (hSa : ∀ x ∈ a.toList, S x) (hSb : ∀ x ∈ b.toList, S x) (sa : a.toList.Pairwise (RK O key)) (sb : b.toList.Pairwise (RK O key)) (ha : 1 <= a.size) (hb : 1 <= b.size)
  (h1 : ∀ x ∈ b.toList.take 1, ∀ y ∈ a.toList, RK O key x y) (h2 : ∀ x ∈ b.toList, ∀ y ∈ a.toList.drop (a.size - 1), RK O key x y)
  (h : ∀ r g, GoodM O key a.toList b.toList r -> Q r (SortSt.mk' (kindOf st) (arrOf st) (pendingOf st) g (failedOf st))) : wpS M A E s (mergeLo' a b) Q st := by
 have bump : ∀ (st' : SortSt), Keeps st st' -> ∀ r, GoodM O key a.toList b.toList r -> Q r st' := fun st' ⟨e1, e2, e3, e4⟩ r hr => by
  have := h r (gallopOf st') hr
  rw [<- e1, <- e2, <- e3, <- e4] at this
  exact this
 have k0 : Keeps st st := ⟨rfl, rfl, rfl, rfl⟩
 have e0 : b[0]? = some b[0] := getElem?_pos b 0 hb
 have m0 : MI O key a.toList b.toList #[] 0 0 := ⟨List.Pairwise.nil, fun _ h => (by cases h), fun _ h => (by cases h), by simp⟩
 have m1 : MI O key a.toList b.toList #[b[0]] 0 1 := m0.b sb 1 (by rw [List.drop_zero, List.drop_zero]; exact h1) (by rw [hd_at e0]; rfl)
 rw [lo_eq]
 unfold loAll
 refine wpS_bind (wpS_lift (wpAny_rule ⟨rfl, ?_⟩))
 refine wpS_bind (wpS_elem e0 ?_)
 by_cases c1 : 1 = b.size
 ·exact wpS_yes (by simpa using c1) (wpS_pure (bump st k0 _ (m1.done sa sb (.inl (List.drop_eq_nil_of_le (by simp [<- c1]))))))
 refine wpS_no (by simpa using c1) ?_
 by_cases c2 : 0 + 1 = a.size
 ·exact wpS_yes (by simpa using c2) (wpS_pure (bump st k0 _ (m1.last sa sb fun x hx y hy => h2 x (List.mem_of_mem_drop hx) y (by rw [show a.size - 1 = 0 by omega]; exact hy))))
 refine wpS_no (by simpa using c2) (wpS_bind (wpS_get ?_))
 refine wpS_bind (wpS_mono (wpS_forRange
  (I := fun x c st' => Keeps st st' /\ ∃ out ia ib g, c = (none, out, ia, ib, g) /\ MI O key a.toList b.toList out ia ib /\ ia + 1 < a.size /\ ib < b.size /\ x <= ia + ib)
  (Q := fun c st' => Keeps st st' /\ ∃ r, c.1 = some r /\ GoodM O key a.toList b.toList r) ?_ ?_ ⟨k0, _, _, _, _, rfl, m1, by omega, by omega, by omega⟩) ?_)
 ·rintro x c st' _ hx ⟨k1, out, ia, ib, g, rfl, m, hia, hib, hrem⟩
  exact wpS_loBody L hk hSa hSb sa sb h2 hia hib m k1 (fun r z st2 hr k2 => ⟨k2, r, rfl, hr⟩) fun o2 i2 j2 g3 st2 m' e1 e2 e3 k2 => ⟨k2, _, _, _, _, rfl, m', e1, e2, by omega⟩
 ·rintro c st' ⟨k1, out, ia, ib, g, rfl, m, hia, hib, hrem⟩
  omega
 ·rintro ⟨c1, c2⟩ st' ⟨k1, r, hc, hr⟩
  cases hc
  exact wpS_pure (bump st' k1 r hr)
end
end
section
variable {M : Model} {A : Around} {E : Value -> Shared -> Prop} {s : Shared} {O : KeyOrd} {key : Keyed -> O.α} {kd : SortKind} {S : Keyed -> Prop}
structure MH (O : KeyOrd) (key : Keyed -> O.α) (la lb : List Keyed) (out : Array Keyed) (na nb : Nat) : Prop where
 so : out.toList.Pairwise fun x y => RK O key y x
 oa : ∀ x ∈ la.take na, ∀ y ∈ out.toList, RK O key x y
 ob : ∀ x ∈ lb.take nb, ∀ y ∈ out.toList, RK O key x y
 pm : (la.take na ++ lb.take nb ++ out.toList).Perm (la ++ lb)
theorem take_less {α : Type} {la : List α} {i n : Nat} (hi : i <= n) {y : α} (h : y ∈ la.take i) : y ∈ la.take n := by
 rw [show i = min i n by omega, <- List.take_take] at h
 exact List.mem_of_mem_take h
theorem take_split {la : List Keyed} {i n : Nat} (hi : i <= n) : la.take n = la.take i ++ (la.take n).drop i := by
 have e := (List.take_append_drop i (la.take n)).symm
 rw [List.take_take, show min i n = i by omega] at e
 exact e
theorem pw_take {la : List Keyed} (h : la.Pairwise (RK O key)) {i n : Nat} (hi : i <= n) : ((la.take n).drop i).Pairwise (RK O key) /\ ∀ x ∈ la.take i, ∀ y ∈ (la.take n).drop i, RK O key x y := by
 have h1 : (la.take n).Pairwise (RK O key) := h.sublist (List.take_sublist n la)
 rw [take_split hi, List.pairwise_append] at h1
 exact ⟨h1.2.1, h1.2.2⟩
theorem MH.a {la lb : List Keyed} {out : Array Keyed} {na nb : Nat} (h : MH O key la lb out na nb) (sa : la.Pairwise (RK O key)) {i : Nat} (hi : i <= na) (hx : ∀ x ∈ lb.take nb, ∀ y ∈ (la.take na).drop i, RK O key x y) {out' : Array Keyed} (e : out'.toList = out.toList ++ ((la.take na).drop i).reverse) : MH O key la lb out' i nb := by
 obtain ⟨p1, p2⟩ := pw_take sa hi
 refine ⟨?_, ?_, ?_, ?_⟩
 ·rw [e, List.pairwise_append]
  exact ⟨h.so, List.pairwise_reverse.mpr p1, fun x hx y hy => h.oa y (List.mem_of_mem_drop (List.mem_reverse.mp hy)) x hx⟩
 ·intro x hx' y hy
  rw [e, List.mem_append, List.mem_reverse] at hy
  rcases hy with hy | hy
  ·exact h.oa x (take_less hi hx') y hy
  ·exact p2 x hx' y hy
 ·intro x hx' y hy
  rw [e, List.mem_append, List.mem_reverse] at hy
  rcases hy with hy | hy
  ·exact h.ob x hx' y hy
  ·exact hx x hx' y hy
 ·refine List.Perm.trans ?_ h.pm
  rw [e]
  conv => rhs; rw [take_split hi]
  rw [List.append_assoc, List.append_assoc, List.append_assoc]
  refine List.Perm.append_left _ ?_
  refine List.Perm.trans (l₂ := lb.take nb ++ (((la.take na).drop i) ++ out.toList)) ?_ ?_
  ·exact List.Perm.append_left _ (List.perm_append_comm.trans ((List.reverse_perm _).append_right _))
  ·rw [<- List.append_assoc, <- List.append_assoc]
   exact List.Perm.append_right _ List.perm_append_comm
theorem MH.b {la lb : List Keyed} {out : Array Keyed} {na nb : Nat} (h : MH O key la lb out na nb) (sb : lb.Pairwise (RK O key)) {i : Nat} (hi : i <= nb) (hx : ∀ x ∈ la.take na, ∀ y ∈ (lb.take nb).drop i, RK O key x y) {out' : Array Keyed} (e : out'.toList = out.toList ++ ((lb.take nb).drop i).reverse) : MH O key la lb out' na i := by
 obtain ⟨p1, p2⟩ := pw_take sb hi
 refine ⟨?_, ?_, ?_, ?_⟩
 ·rw [e, List.pairwise_append]
  exact ⟨h.so, List.pairwise_reverse.mpr p1, fun x hx y hy => h.ob y (List.mem_of_mem_drop (List.mem_reverse.mp hy)) x hx⟩
 ·intro x hx' y hy
  rw [e, List.mem_append, List.mem_reverse] at hy
  rcases hy with hy | hy
  ·exact h.oa x hx' y hy
  ·exact hx x hx' y hy
 ·intro x hx' y hy
  rw [e, List.mem_append, List.mem_reverse] at hy
  rcases hy with hy | hy
  ·exact h.ob x (take_less hi hx') y hy
  ·exact p2 x hx' y hy
 ·refine List.Perm.trans ?_ h.pm
  rw [e]
  conv => rhs; rw [take_split hi]
  rw [List.append_assoc, List.append_assoc, List.append_assoc]
  refine List.Perm.append_left _ (List.Perm.append_left _ ?_)
  exact List.perm_append_comm.trans ((List.reverse_perm _).append_right _)
theorem ex_to (a : Array Keyed) (n : Nat) : (a.extract 0 n).toList = a.toList.take n := by
 rw [Array.toList_extract, List.extract_eq_take_drop, List.drop_zero, Nat.sub_zero]
theorem ex_back (a : Array Keyed) (i n : Nat) : ((a.extract i n).reverse).toList = ((a.toList.take n).drop i).reverse := by
 rw [Array.toList_reverse, Array.toList_extract, List.extract_eq_take_drop, List.drop_take]
theorem MH.ab {a b out : Array Keyed} {na nb : Nat} (h : MH O key a.toList b.toList out na nb) (sa : a.toList.Pairwise (RK O key)) (sb : b.toList.Pairwise (RK O key)) (hx : ∀ x ∈ a.toList.take na, ∀ y ∈ b.toList.take nb, RK O key x y) : GoodM O key a.toList b.toList (a.extract 0 na ++ b.extract 0 nb ++ out.reverse) := by
 unfold GoodM
 rw [Array.toList_append, Array.toList_append, ex_to, ex_to, Array.toList_reverse]
 refine ⟨?_, (List.Perm.append_left _ (List.reverse_perm _)).trans h.pm⟩
 rw [List.pairwise_append, List.pairwise_append]
 refine ⟨⟨sa.sublist (List.take_sublist _ _), sb.sublist (List.take_sublist _ _), hx⟩, List.pairwise_reverse.mpr h.so, fun x hx' y hy => ?_⟩
 rw [List.mem_append] at hx'
 rcases hx' with hx' | hx'
 ·exact h.oa x hx' y (List.mem_reverse.mp hy)
 ·exact h.ob x hx' y (List.mem_reverse.mp hy)
theorem MH.ba {a b out : Array Keyed} {na nb : Nat} (h : MH O key a.toList b.toList out na nb) (sa : a.toList.Pairwise (RK O key)) (sb : b.toList.Pairwise (RK O key)) (hx : ∀ x ∈ b.toList.take nb, ∀ y ∈ a.toList.take na, RK O key x y) : GoodM O key a.toList b.toList (b.extract 0 nb ++ a.extract 0 na ++ out.reverse) := by
 unfold GoodM
 rw [Array.toList_append, Array.toList_append, ex_to, ex_to, Array.toList_reverse]
 refine ⟨?_, ((List.Perm.append_left _ (List.reverse_perm _)).trans (List.Perm.append_right _ List.perm_append_comm)).trans h.pm⟩
 rw [List.pairwise_append, List.pairwise_append]
 refine ⟨⟨sb.sublist (List.take_sublist _ _), sa.sublist (List.take_sublist _ _), hx⟩, List.pairwise_reverse.mpr h.so, fun x hx' y hy => ?_⟩
 rw [List.mem_append] at hx'
 rcases hx' with hx' | hx'
 ·exact h.ob x hx' y (List.mem_reverse.mp hy)
 ·exact h.oa x hx' y (List.mem_reverse.mp hy)
theorem tl_at {a : Array Keyed} {i n : Nat} {p : Keyed} (hn : n = i + 1) (h : a[i]? = some p) : ((a.toList.take n).drop i).reverse = [p] := by
 subst hn
 have h' : a.toList[i]? = some p := by simpa using h
 rw [List.drop_take, Nat.add_sub_cancel_left]
 obtain ⟨hi, e⟩ := List.getElem?_eq_some_iff.mp h'
 rw [List.drop_eq_getElem_cons hi, e]
 rfl
theorem tl_mem {a : Array Keyed} {i n : Nat} {p y : Keyed} (hn : n = i + 1) (h : a[i]? = some p) (hy : y ∈ (a.toList.take n).drop i) : y = p := by
 have := tl_at hn h
 rw [<- List.mem_reverse, this] at hy
 exact List.mem_singleton.mp hy
theorem take_at {a : Array Keyed} {n : Nat} {x : Keyed} (h : x ∈ a.toList.take n) : ∃ j, j < n /\ j < a.size /\ a[j]? = some x := by
 obtain ⟨j, hj⟩ := List.getElem?_of_mem h
 have hjl := (List.getElem?_eq_some_iff.mp hj).1
 rw [List.length_take] at hjl
 rw [List.getElem?_take, if_pos (by omega)] at hj
 exact ⟨j, by omega, by simp at hjl; omega, by simpa using hj⟩
theorem blk_at {a : Array Keyed} {i n : Nat} {x : Keyed} (h : x ∈ (a.toList.take n).drop i) : ∃ j, i <= j /\ j < n /\ j < a.size /\ a[j]? = some x := by
 obtain ⟨j, hj⟩ := List.getElem?_of_mem h
 have hjl := (List.getElem?_eq_some_iff.mp hj).1
 rw [List.length_drop, List.length_take] at hjl
 rw [List.getElem?_drop, List.getElem?_take, if_pos (by omega)] at hj
 exact ⟨i + j, by omega, by omega, by simp at hjl; omega, by simpa using hj⟩
theorem tl_le {a : Array Keyed} {i n : Nat} {p : Keyed} (sa : a.toList.Pairwise (RK O key)) (hn : n = i + 1) (h : a[i]? = some p) : ∀ x ∈ a.toList.take n, RK O key x p := fun x hx => by
 obtain ⟨j, j1, j2, ej⟩ := take_at hx
 have hi : i < a.size := (Array.getElem?_eq_some_iff.mp h).1
 have := srt_at sa (i := j) (j := i) (by omega) hi
 rw [ke_of ej, ke_of h] at this
 exact this
abbrev HiS := Option (Array Keyed) × Nat × Nat × Array Keyed × Nat × Nat × Nat
def hiTwo (a b out : Array Keyed) (na nb g ac bc : Nat) : StateT SortSt Sem (ForInStep HiS) := elem' a (na - 1) >>= fun x =>
 if (na - 1 == 0) = true then pure (.done (some (a.extract 0 (na - 1) ++ b.extract 0 nb ++ (out.push x).reverse), na - 1, nb, out.push x, g, ac, bc))
 else if (decide (ac < 7) && decide (bc < 7)) = true then pure (.done (none, na - 1, nb, out.push x, g, ac, bc)) else pure (.yield (none, na - 1, nb, out.push x, g, ac, bc))
def hiMid (a b out : Array Keyed) (na nb g ac bc : Nat) : StateT SortSt Sem (ForInStep HiS) := elem' b (nb - 1) >>= fun x =>
 if (nb - 1 == 1) = true then pure (.done (some (b.extract 0 (nb - 1) ++ a.extract 0 na ++ (out.push x).reverse), na, nb - 1, out.push x, g, ac, bc))
 else elem' a (na - 1) >>= fun y => gallop' true y b 0 (nb - 1) (nb - 1 - 1) >>= fun r => match r with
  | some k => if nb - 1 - k > 0 then
    if (k == 1) = true then pure (.done (some (b.extract 0 k ++ a.extract 0 na ++ (out.push x ++ (b.extract k (nb - 1)).reverse).reverse), na, k, out.push x ++ (b.extract k (nb - 1)).reverse, g, ac, nb - 1 - k))
    else if (k == 0) = true then pure (.done (some (a.extract 0 na ++ b.extract 0 k ++ (out.push x ++ (b.extract k (nb - 1)).reverse).reverse), na, k, out.push x ++ (b.extract k (nb - 1)).reverse, g, ac, nb - 1 - k))
    else hiTwo a b (out.push x ++ (b.extract k (nb - 1)).reverse) na k g ac (nb - 1 - k)
   else hiTwo a b (out.push x) na (nb - 1) g ac (nb - 1 - k)
  | _ => pure (.done (some (a.extract 0 na ++ b.extract 0 (nb - 1) ++ (out.push x).reverse), na, nb - 1, out.push x, g, ac, bc))
def hiOne (a b out : Array Keyed) (na nb g ac bc : Nat) : StateT SortSt Sem (ForInStep HiS) := setG' g >>= fun _ => elem' b (nb - 1) >>= fun x => gallop' false x a 0 na (na - 1) >>= fun r => match r with
 | some k => if na - k > 0 then
   if (k == 0) = true then pure (.done (some (a.extract 0 k ++ b.extract 0 nb ++ (out ++ (a.extract k na).reverse).reverse), k, nb, out ++ (a.extract k na).reverse, g, na - k, bc))
   else hiMid a b (out ++ (a.extract k na).reverse) k nb g (na - k) bc
  else hiMid a b out na nb g (na - k) bc
 | _ => pure (.done (some (a.extract 0 na ++ b.extract 0 nb ++ out.reverse), na, nb, out, g, ac, bc))
section
variable {a b out : Array Keyed} {na nb : Nat} {st : SortSt} {R : ForInStep HiS -> SortSt -> Prop}
theorem wpS_hiTwo {g ac bc : Nat} {pa : Keyed} (sa : a.toList.Pairwise (RK O key)) (sb : b.toList.Pairwise (RK O key)) (ea : a[na - 1]? = some pa) (hna : 1 <= na) (hna1 : na <= a.size) (hnb : 2 <= nb) (hnb1 : nb <= b.size) (m : MH O key a.toList b.toList out na nb) (below : ∀ x ∈ b.toList.take nb, RK O key x pa)
  (hd : ∀ r z, GoodM O key a.toList b.toList r -> R (.done (some r, z)) st) (hn : ∀ i2 j2 o2 g3 a3 b3, MH O key a.toList b.toList o2 i2 j2 -> 1 <= i2 -> i2 <= a.size -> 2 <= j2 -> j2 <= b.size -> i2 + j2 <= na + nb -> R (.done (none, i2, j2, o2, g3, a3, b3)) st /\ R (.yield (none, i2, j2, o2, g3, a3, b3)) st) : wpS M A E s (hiTwo a b out na nb g ac bc) R st := by
 have en : na = na - 1 + 1 := by omega
 unfold hiTwo
 refine wpS_bind (wpS_elem ea ?_)
 have m5 : MH O key a.toList b.toList (out.push pa) (na - 1) nb := m.a sa (by omega) (fun x hx y hy => by rw [tl_mem en ea hy]; exact below x hx) (by rw [tl_at en ea, Array.toList_push])
 by_cases d5 : na - 1 = 0
 ·exact wpS_yes (by simpa using d5) (wpS_pure (hd _ _ (m5.ab sa sb (by rw [d5]; intro _ h; cases h))))
 ·refine wpS_no (by simpa using d5) ?_
  have z := fun g3 a3 b3 => hn _ _ _ g3 a3 b3 m5 (by omega) (by omega) hnb hnb1 (by omega)
  split
  ·exact wpS_pure (z _ _ _).1
  ·exact wpS_pure (z _ _ _).2
theorem wpS_hiMid (L : LtOk M A E s O key kd S) {g ac bc : Nat} {pb : Keyed} (hk : kindOf st = kd) (hSa : ∀ x ∈ a.toList, S x) (hSb : ∀ x ∈ b.toList, S x) (sa : a.toList.Pairwise (RK O key)) (sb : b.toList.Pairwise (RK O key)) (h1 : ∀ x ∈ b.toList.take 1, ∀ y ∈ a.toList, RK O key x y) (eb : b[nb - 1]? = some pb) (hna : 1 <= na) (hna1 : na <= a.size) (hnb : 2 <= nb) (hnb1 : nb <= b.size) (m : MH O key a.toList b.toList out na nb) (above : ∀ x ∈ a.toList.take na, RK O key x pb)
  (hd : ∀ r z, GoodM O key a.toList b.toList r -> R (.done (some r, z)) st) (hn : ∀ i2 j2 o2 g3 a3 b3, MH O key a.toList b.toList o2 i2 j2 -> 1 <= i2 -> i2 <= a.size -> 2 <= j2 -> j2 <= b.size -> i2 + j2 <= na + nb -> R (.done (none, i2, j2, o2, g3, a3, b3)) st /\ R (.yield (none, i2, j2, o2, g3, a3, b3)) st) : wpS M A E s (hiMid a b out na nb g ac bc) R st := by
 have firstB : ∀ {i j}, i = 1 -> ∀ x ∈ b.toList.take i, ∀ y ∈ a.toList.take j, RK O key x y := fun {i j} e x hx y hy => h1 x (by rw [e] at hx; exact hx) y (List.mem_of_mem_take hy)
 have en : nb = nb - 1 + 1 := by omega
 unfold hiMid
 refine wpS_bind (wpS_elem eb ?_)
 have m3 : MH O key a.toList b.toList (out.push pb) na (nb - 1) := m.b sb (by omega) (fun x hx y hy => by rw [tl_mem en eb hy]; exact above x hx) (by rw [tl_at en eb, Array.toList_push])
 by_cases d3 : nb - 1 = 1
 ·exact wpS_yes (by simpa using d3) (wpS_pure (hd _ _ (m3.ba sa sb (firstB d3))))
 refine wpS_no (by simpa using d3) ?_
 have ha : na - 1 < a.size := by omega
 have ea : a[na - 1]? = some a[na - 1] := getElem?_pos a _ ha
 have en2 : na = na - 1 + 1 := by omega
 refine wpS_bind (wpS_elem ea ?_)
 refine wpS_bind (wpS_gallop L hk (hSa _ (by simp)) (fun i hi => ⟨b[0 + i], getElem?_pos b _ (by omega), hSb _ (by simp)⟩) (by omega) (fun i j hij hj => srt_at sb (by omega) (by omega)) fun kk hkk hl2 hr2' => ?_)
 dsimp only
 have below : ∀ x ∈ b.toList.take kk, RK O key x a[na - 1] := fun x hx => by
  obtain ⟨j, j1, j2, ex⟩ := take_at hx
  have := hl2 j j1
  unfold beyB at this
  rw [Nat.zero_add, ke_of ex] at this
  exact KeyOrd.kle_of_klt this
 by_cases hkk0 : nb - 1 - kk > 0
 ·refine wpS_yes hkk0 ?_
  have m4 : MH O key a.toList b.toList (out.push pb ++ (b.extract kk (nb - 1)).reverse) na kk := m3.b sb hkk (fun x hx y hy => by
   obtain ⟨j, j1, j2, j3, ey⟩ := blk_at hy
   have := hr2' j j1 j2
   unfold beyB at this
   rw [Nat.zero_add, ke_of ey] at this
   exact KeyOrd.kle_trans (tl_le sa en2 ea x hx) this) (by rw [Array.toList_append, ex_back])
  by_cases d4 : kk = 1
  ·exact wpS_yes (by simpa using d4) (wpS_pure (hd _ _ (m4.ba sa sb (firstB d4))))
  refine wpS_no (by simpa using d4) ?_
  by_cases d6 : kk = 0
  ·exact wpS_yes (by simpa using d6) (wpS_pure (hd _ _ (m4.ab sa sb (by rw [d6]; intro _ _ _ h; cases h))))
  ·exact wpS_no (by simpa using d6) (wpS_hiTwo sa sb ea hna hna1 (by omega) (by omega) m4 below hd fun i2 j2 o2 g3 a3 b3 m' e1 e2 e3 e4 e5 => hn i2 j2 o2 g3 a3 b3 m' e1 e2 e3 e4 (by omega))
 ·have ekk : kk = nb - 1 := by omega
  exact wpS_no hkk0 (wpS_hiTwo sa sb ea hna hna1 (by omega) (by omega) m3 (fun x hx => below x (by rw [ekk]; exact hx)) hd fun i2 j2 o2 g3 a3 b3 m' e1 e2 e3 e4 e5 => hn i2 j2 o2 g3 a3 b3 m' e1 e2 e3 e4 (by omega))
theorem wpS_hiOne (L : LtOk M A E s O key kd S) {g ac bc : Nat} (hk : kindOf st = kd) (hSa : ∀ x ∈ a.toList, S x) (hSb : ∀ x ∈ b.toList, S x) (sa : a.toList.Pairwise (RK O key)) (sb : b.toList.Pairwise (RK O key)) (h1 : ∀ x ∈ b.toList.take 1, ∀ y ∈ a.toList, RK O key x y) (hna : 1 <= na) (hna1 : na <= a.size) (hnb : 2 <= nb) (hnb1 : nb <= b.size) (m : MH O key a.toList b.toList out na nb)
  (hd : ∀ r z, GoodM O key a.toList b.toList r -> R (.done (some r, z)) (SortSt.mk' (kindOf st) (arrOf st) (pendingOf st) g (failedOf st))) (hn : ∀ i2 j2 o2 g3 a3 b3, MH O key a.toList b.toList o2 i2 j2 -> 1 <= i2 -> i2 <= a.size -> 2 <= j2 -> j2 <= b.size -> i2 + j2 <= na + nb -> R (.done (none, i2, j2, o2, g3, a3, b3)) (SortSt.mk' (kindOf st) (arrOf st) (pendingOf st) g (failedOf st)) /\ R (.yield (none, i2, j2, o2, g3, a3, b3)) (SortSt.mk' (kindOf st) (arrOf st) (pendingOf st) g (failedOf st))) : wpS M A E s (hiOne a b out na nb g ac bc) R st := by
 unfold hiOne
 refine wpS_bind (wpS_setG ?_)
 have hb : nb - 1 < b.size := by omega
 have eb : b[nb - 1]? = some b[nb - 1] := getElem?_pos b _ hb
 have en : nb = nb - 1 + 1 := by omega
 refine wpS_bind (wpS_elem eb ?_)
 refine wpS_bind (wpS_gallop L hk (hSb _ (by simp)) (fun i hi => ⟨a[0 + i], getElem?_pos a _ (by omega), hSa _ (by simp)⟩) (by omega) (fun i j hij hj => srt_at sa (by omega) (by omega)) fun k hkn hl hr2 => ?_)
 dsimp only
 have above : ∀ x ∈ a.toList.take k, RK O key x b[nb - 1] := fun x hx => by
  obtain ⟨j, j1, j2, ex⟩ := take_at hx
  have := hl j j1
  unfold beyB at this
  rw [Nat.zero_add, ke_of ex] at this
  simp only [Bool.false_eq_true, if_false, Bool.not_eq_true'] at this
  exact this
 by_cases hk0 : na - k > 0
 ·refine wpS_yes hk0 ?_
  have m2 : MH O key a.toList b.toList (out ++ (a.extract k na).reverse) k nb := m.a sa hkn (fun x hx y hy => by
   obtain ⟨j, j1, j2, j3, ey⟩ := blk_at hy
   have := hr2 j j1 j2
   unfold beyB at this
   rw [Nat.zero_add, ke_of ey] at this
   simp only [Bool.false_eq_true, if_false, Bool.not_eq_false'] at this
   exact KeyOrd.kle_trans (tl_le sb en eb x hx) (KeyOrd.kle_of_klt this)) (by rw [Array.toList_append, ex_back])
  by_cases d1 : k = 0
  ·exact wpS_yes (by simpa using d1) (wpS_pure (hd _ _ (m2.ab sa sb (by rw [d1]; intro _ h; cases h))))
  ·exact wpS_no (by simpa using d1) (wpS_hiMid L hk hSa hSb sa sb h1 eb (by omega) (by omega) hnb hnb1 m2 above hd fun i2 j2 o2 g3 a3 b3 m' e1 e2 e3 e4 e5 => hn i2 j2 o2 g3 a3 b3 m' e1 e2 e3 e4 (by omega))
 ·have ek : k = na := by omega
  exact wpS_no hk0 (wpS_hiMid L hk hSa hSb sa sb h1 eb hna hna1 hnb hnb1 m (fun x hx => above x (by rw [ek]; exact hx)) hd hn)
end
abbrev HiT := Option (Array Keyed) × Nat × Nat × Array Keyed × Nat × Nat
def hiB1 (a b : Array Keyed) (g : Nat) (c : HiT) : StateT SortSt Sem (ForInStep HiT) := elem' b (c.2.2.1 - 1) >>= fun y => elem' a (c.2.1 - 1) >>= fun x => lt' y x >>= fun r => match r with
 | some t => if t = true then elem' a (c.2.1 - 1) >>= fun x =>
    if (c.2.1 - 1 == 0) = true then pure (.done (some (a.extract 0 (c.2.1 - 1) ++ b.extract 0 c.2.2.1 ++ (c.2.2.2.1.push x).reverse), c.2.1 - 1, c.2.2.1, c.2.2.2.1.push x, c.2.2.2.2.1 + 1, 0))
    else if c.2.2.2.2.1 + 1 >= g then pure (.done (none, c.2.1 - 1, c.2.2.1, c.2.2.2.1.push x, c.2.2.2.2.1 + 1, 0)) else pure (.yield (none, c.2.1 - 1, c.2.2.1, c.2.2.2.1.push x, c.2.2.2.2.1 + 1, 0))
   else elem' b (c.2.2.1 - 1) >>= fun y =>
    if (c.2.2.1 - 1 == 1) = true then pure (.done (some (b.extract 0 (c.2.2.1 - 1) ++ a.extract 0 c.2.1 ++ (c.2.2.2.1.push y).reverse), c.2.1, c.2.2.1 - 1, c.2.2.2.1.push y, 0, c.2.2.2.2.2 + 1))
    else if c.2.2.2.2.2 + 1 >= g then pure (.done (none, c.2.1, c.2.2.1 - 1, c.2.2.2.1.push y, 0, c.2.2.2.2.2 + 1)) else pure (.yield (none, c.2.1, c.2.2.1 - 1, c.2.2.2.1.push y, 0, c.2.2.2.2.2 + 1))
 | _ => pure (.done (some (a.extract 0 c.2.1 ++ b.extract 0 c.2.2.1 ++ c.2.2.2.1.reverse), c.2.1, c.2.2.1, c.2.2.2.1, c.2.2.2.2.1, c.2.2.2.2.2))
abbrev HiU := Option (Array Keyed) × Nat × Nat × Array Keyed × Nat
def hiLeap (a b : Array Keyed) (c : HiS) : StateT SortSt Sem (ForInStep HiS) := if c.2.2.2.2.1 > 1 then hiOne a b c.2.2.2.1 c.2.1 c.2.2.1 (c.2.2.2.2.1 - 1) c.2.2.2.2.2.1 c.2.2.2.2.2.2 else hiOne a b c.2.2.2.1 c.2.1 c.2.2.1 c.2.2.2.2.1 c.2.2.2.2.2.1 c.2.2.2.2.2.2
def hiEnd (c : HiS) : StateT SortSt Sem (ForInStep HiU) := match c.1 with
 | some r => pure (.done (some r, c.2.1, c.2.2.1, c.2.2.2.1, c.2.2.2.2.1))
 | none => setG' (c.2.2.2.2.1 + 1) >>= fun _ => pure (.yield (none, c.2.1, c.2.2.1, c.2.2.2.1, c.2.2.2.2.1 + 1))
def hiRest (a b : Array Keyed) (g : Nat) (c : HiT) : StateT SortSt Sem (ForInStep HiU) := match c.1 with
 | some r => pure (.done (some r, c.2.1, c.2.2.1, c.2.2.2.1, g))
 | none => liftM (rule "list.sort.gallop") >>= fun _ => forIn [0:a.size + b.size] ((none, c.2.1, c.2.2.1, c.2.2.2.1, g + 1, c.2.2.2.2.1, c.2.2.2.2.2) : HiS) (fun _ s => hiLeap a b s) >>= hiEnd
def hiBody (a b : Array Keyed) (c : HiU) : StateT SortSt Sem (ForInStep HiU) := forIn [0:a.size + b.size] ((none, c.2.1, c.2.2.1, c.2.2.2.1, 0, 0) : HiT) (fun _ s => hiB1 a b c.2.2.2.2 s) >>= hiRest a b c.2.2.2.2
def hiFin (c : HiU) : StateT SortSt Sem (Array Keyed) := match c.1 with
 | some r => pure r
 | none => liftM (unsupported "internal:list.sort.merge-bound" : Sem (Array Keyed))
def hiAll (a b : Array Keyed) : StateT SortSt Sem (Array Keyed) := liftM (rule "list.sort.merge-hi") >>= fun _ => elem' a (a.size - 1) >>= fun x =>
 if (a.size - 1 == 0) = true then pure (a.extract 0 (a.size - 1) ++ b.extract 0 b.size ++ (#[x] : Array Keyed).reverse) else if (b.size == 1) = true then pure (b.extract 0 b.size ++ a.extract 0 (a.size - 1) ++ (#[x] : Array Keyed).reverse)
 else get >>= fun st => forIn [0:a.size + b.size] ((none, a.size - 1, b.size, #[x], gallopOf st) : HiU) (fun _ c => hiBody a b c) >>= hiFin
theorem hi_eq (a b : Array Keyed) : mergeHi' a b = hiAll a b := by
 unfold hiAll
 refine congrArg (Bind.bind _) (funext fun _ => congrArg (Bind.bind _) (funext fun x => ?_))
 refine ite_cong rfl (ite_cong rfl (congrArg (Bind.bind _) (funext fun st => ?_)))
 refine cong2 Bind.bind (congrArg (forIn _ _) (funext fun _ => funext fun c => ?_)) ?_
 ·unfold hiBody
  refine cong2 Bind.bind (congrArg (forIn _ _) (funext fun _ => funext fun c => ?_)) ?_
  ·unfold hiB1
   refine congrArg (Bind.bind _) (funext fun _ => congrArg (Bind.bind _) (funext fun _ => congrArg (Bind.bind _) (funext fun r => ?_)))
   cases r with
   | none => rfl
   | some r => rfl
  ·funext c
   unfold hiRest
   obtain ⟨c1, c2⟩ := c
   cases c1 with
   | some r => rfl
   | none =>
    refine congrArg (Bind.bind _) (funext fun _ => cong2 Bind.bind (congrArg (forIn _ _) (funext fun _ => funext fun c => ?_)) ?_)
    ·unfold hiLeap
     refine ite_cong ?_ ?_
     ·unfold hiOne
      refine congrArg (Bind.bind _) (funext fun _ => congrArg (Bind.bind _) (funext fun _ => congrArg (Bind.bind _) (funext fun r => ?_)))
      cases r with
      | none => rfl
      | some r => rfl
     ·rfl
    ·funext c
     obtain ⟨c1, c2⟩ := c
     cases c1 <;> rfl
 ·funext c
  obtain ⟨c1, c2⟩ := c
  cases c1 <;> rfl
section
variable {a b : Array Keyed} {st : SortSt}
theorem wpS_hiB1 (L : LtOk M A E s O key kd S) {out : Array Keyed} {ja jb ac bc g : Nat} {R : ForInStep HiT -> SortSt -> Prop} (hk : kindOf st = kd) (hSa : ∀ x ∈ a.toList, S x) (hSb : ∀ x ∈ b.toList, S x) (sa : a.toList.Pairwise (RK O key)) (sb : b.toList.Pairwise (RK O key)) (h1 : ∀ x ∈ b.toList.take 1, ∀ y ∈ a.toList, RK O key x y) (hja : 1 <= ja) (hja1 : ja <= a.size) (hjb : 2 <= jb) (hjb1 : jb <= b.size) (m : MH O key a.toList b.toList out ja jb)
  (hd : ∀ r z, GoodM O key a.toList b.toList r -> R (.done (some r, z)) st) (hn : ∀ i2 j2 o2 a3 b3, MH O key a.toList b.toList o2 i2 j2 -> 1 <= i2 -> i2 <= a.size -> 2 <= j2 -> j2 <= b.size -> i2 + j2 + 1 = ja + jb -> R (.done (none, i2, j2, o2, a3, b3)) st /\ R (.yield (none, i2, j2, o2, a3, b3)) st) : wpS M A E s (hiB1 a b g (none, ja, jb, out, ac, bc)) R st := by
 have ha : ja - 1 < a.size := by omega
 have hb : jb - 1 < b.size := by omega
 have ea : a[ja - 1]? = some a[ja - 1] := getElem?_pos a _ ha
 have eb : b[jb - 1]? = some b[jb - 1] := getElem?_pos b _ hb
 have en : ja = ja - 1 + 1 := by omega
 have en2 : jb = jb - 1 + 1 := by omega
 unfold hiB1
 refine wpS_bind (wpS_elem eb (wpS_bind (wpS_elem ea (wpS_bind (L _ _ _ _ (hSb _ (by simp)) (hSa _ (by simp)) hk ?_)))))
 dsimp only
 cases hc : O.blt (key b[jb - 1]) (key a[ja - 1]) with
 | true =>
  refine wpS_yes rfl (wpS_bind (wpS_elem ea ?_))
  have m' : MH O key a.toList b.toList (out.push a[ja - 1]) (ja - 1) jb := m.a sa (by omega) (fun x hx y hy => by rw [tl_mem en ea hy]; exact KeyOrd.kle_trans (tl_le sb en2 eb x hx) (KeyOrd.kle_of_klt hc)) (by rw [tl_at en ea, Array.toList_push])
  by_cases d1 : ja - 1 = 0
  ·exact wpS_yes (by simpa using d1) (wpS_pure (hd _ _ (m'.ab sa sb (by rw [d1]; intro _ h; cases h))))
  ·refine wpS_no (by simpa using d1) ?_
   have z := fun a3 b3 => hn _ _ _ a3 b3 m' (by omega) (by omega) hjb hjb1 (by omega)
   by_cases d2 : ac + 1 >= g
   ·exact wpS_yes d2 (wpS_pure (z _ _).1)
   ·exact wpS_no d2 (wpS_pure (z _ _).2)
 | false =>
  refine wpS_no (by simp) (wpS_bind (wpS_elem eb ?_))
  have m' : MH O key a.toList b.toList (out.push b[jb - 1]) ja (jb - 1) := m.b sb (by omega) (fun x hx y hy => by rw [tl_mem en2 eb hy]; exact KeyOrd.kle_trans (tl_le sa en ea x hx) hc) (by rw [tl_at en2 eb, Array.toList_push])
  by_cases d1 : jb - 1 = 1
  ·exact wpS_yes (by simpa using d1) (wpS_pure (hd _ _ (m'.ba sa sb fun x hx y hy => h1 x (by rw [d1] at hx; exact hx) y (List.mem_of_mem_take hy))))
  ·refine wpS_no (by simpa using d1) ?_
   have z := fun a3 b3 => hn _ _ _ a3 b3 m' hja hja1 (by omega) (by omega) (by omega)
   by_cases d2 : bc + 1 >= g
   ·exact wpS_yes d2 (wpS_pure (z _ _).1)
   ·exact wpS_no d2 (wpS_pure (z _ _).2)
theorem wpS_hiBody (L : LtOk M A E s O key kd S) {st' : SortSt} {out : Array Keyed} {na nb g : Nat} {R : ForInStep HiU -> SortSt -> Prop} (hk : kindOf st = kd) (hSa : ∀ x ∈ a.toList, S x) (hSb : ∀ x ∈ b.toList, S x) (sa : a.toList.Pairwise (RK O key)) (sb : b.toList.Pairwise (RK O key)) (h1 : ∀ x ∈ b.toList.take 1, ∀ y ∈ a.toList, RK O key x y) (hna : 1 <= na) (hna1 : na <= a.size) (hnb : 2 <= nb) (hnb1 : nb <= b.size) (m : MH O key a.toList b.toList out na nb) (ks : Keeps st st')
  (hd : ∀ r z st2, GoodM O key a.toList b.toList r -> Keeps st st2 -> R (.done (some r, z)) st2) (hn : ∀ i2 j2 o2 g3 st2, MH O key a.toList b.toList o2 i2 j2 -> 1 <= i2 -> i2 <= a.size -> 2 <= j2 -> j2 <= b.size -> i2 + j2 + 1 <= na + nb -> Keeps st st2 -> R (.yield (none, i2, j2, o2, g3)) st2) : wpS M A E s (hiBody a b (none, na, nb, out, g)) R st' := by
 unfold hiBody
 refine wpS_bind (wpS_mono (wpS_forRange
  (I := fun y c st2 => st2 = st' /\ ∃ ja jb out ac bc, c = (none, ja, jb, out, ac, bc) /\ MH O key a.toList b.toList out ja jb /\ 1 <= ja /\ ja <= a.size /\ 2 <= jb /\ jb <= b.size /\ ja + jb + y = na + nb)
  (Q := fun c st2 => st2 = st' /\ ((∃ r z, c = (some r, z) /\ GoodM O key a.toList b.toList r) \/ ∃ ja jb out ac bc, c = (none, ja, jb, out, ac, bc) /\ MH O key a.toList b.toList out ja jb /\ 1 <= ja /\ ja <= a.size /\ 2 <= jb /\ jb <= b.size /\ ja + jb + 1 <= na + nb)) ?_ ?_ ⟨rfl, _, _, _, _, _, rfl, m, hna, hna1, hnb, hnb1, rfl⟩) ?_)
 ·rintro y c st2 _ hy ⟨rfl, ja, jb, out, ac, bc, rfl, m, hja, hja1, hjb, hjb1, hr⟩
  exact wpS_hiB1 L (ks.1.trans hk) hSa hSb sa sb h1 hja hja1 hjb hjb1 m (fun r z hr => ⟨rfl, .inl ⟨r, z, rfl, hr⟩⟩) fun i2 j2 o2 a3 b3 m' e1 e2 e3 e4 e5 => ⟨⟨rfl, .inr ⟨_, _, _, _, _, rfl, m', e1, e2, e3, e4, by omega⟩⟩, ⟨rfl, _, _, _, _, _, rfl, m', e1, e2, e3, e4, by omega⟩⟩
 ·rintro c st2 ⟨rfl, ja, jb, out, ac, bc, rfl, m, hja, hja1, hjb, hjb1, hr⟩
  exact ⟨rfl, .inr ⟨_, _, _, _, _, rfl, m, hja, hja1, hjb, hjb1, by omega⟩⟩
 rintro c st2 ⟨rfl, hcase⟩
 rcases hcase with ⟨r, z, rfl, hr⟩ | ⟨ja, jb, out, ac, bc, rfl, m, hja, hja1, hjb, hjb1, hr⟩
 ·exact wpS_pure (hd r _ _ hr ks)
 refine wpS_bind (wpS_lift (wpAny_rule ⟨rfl, ?_⟩))
 refine wpS_bind (wpS_mono (wpS_forRange
  (I := fun y c st3 => Keeps st st3 /\ ∃ na' nb' out g ac bc, c = (none, na', nb', out, g, ac, bc) /\ MH O key a.toList b.toList out na' nb' /\ 1 <= na' /\ na' <= a.size /\ 2 <= nb' /\ nb' <= b.size /\ na' + nb' <= ja + jb)
  (Q := fun c st3 => Keeps st st3 /\ ((∃ r z, c = (some r, z) /\ GoodM O key a.toList b.toList r) \/ ∃ na' nb' out g ac bc, c = (none, na', nb', out, g, ac, bc) /\ MH O key a.toList b.toList out na' nb' /\ 1 <= na' /\ na' <= a.size /\ 2 <= nb' /\ nb' <= b.size /\ na' + nb' <= ja + jb)) ?_ (fun c st3 z => ⟨z.1, .inr z.2⟩) ⟨ks, _, _, _, _, _, _, rfl, m, hja, hja1, hjb, hjb1, Nat.le_refl _⟩) ?_)
 ·rintro y c st3 _ hy ⟨k1, na', nb', out, g', ac', bc', rfl, m, hna', hna1', hnb', hnb1', hr'⟩
  unfold hiLeap
  by_cases hg : g' > 1
  ·exact wpS_yes hg (wpS_hiOne L (k1.1.trans hk) hSa hSb sa sb h1 hna' hna1' hnb' hnb1' m (fun r z hr => ⟨k1, .inl ⟨r, z, rfl, hr⟩⟩) fun i2 j2 o2 g3 a3 b3 m3 e1 e2 e3 e4 e5 => ⟨⟨k1, .inr ⟨i2, j2, o2, g3, a3, b3, rfl, m3, e1, e2, e3, e4, Nat.le_trans e5 hr'⟩⟩, ⟨k1, i2, j2, o2, g3, a3, b3, rfl, m3, e1, e2, e3, e4, Nat.le_trans e5 hr'⟩⟩)
  ·exact wpS_no hg (wpS_hiOne L (k1.1.trans hk) hSa hSb sa sb h1 hna' hna1' hnb' hnb1' m (fun r z hr => ⟨k1, .inl ⟨r, z, rfl, hr⟩⟩) fun i2 j2 o2 g3 a3 b3 m3 e1 e2 e3 e4 e5 => ⟨⟨k1, .inr ⟨i2, j2, o2, g3, a3, b3, rfl, m3, e1, e2, e3, e4, Nat.le_trans e5 hr'⟩⟩, ⟨k1, i2, j2, o2, g3, a3, b3, rfl, m3, e1, e2, e3, e4, Nat.le_trans e5 hr'⟩⟩)
 ·rintro c st3 ⟨k1, hcase⟩
  rcases hcase with ⟨r, z, rfl, hr3⟩ | ⟨na3, nb3, out3, g3, ac3, bc3, rfl, m3, e1, e2, e3, e4, hr3⟩
  ·exact wpS_pure (hd r _ _ hr3 k1)
  ·exact wpS_bind (wpS_setG (wpS_pure (hn na3 nb3 out3 (g3 + 1) _ m3 e1 e2 e3 e4 (by omega) k1)))
theorem wpS_mergeHi (L : LtOk M A E s O key kd S) {Q : Array Keyed -> SortSt -> Prop} (hk : kindOf st = kd) (hSa : ∀ x ∈ a.toList, S x) (hSb : ∀ x ∈ b.toList, S x) (sa : a.toList.Pairwise (RK O key)) (sb : b.toList.Pairwise (RK O key)) (ha : 1 <= a.size) (hb : 1 <= b.size)
  (h1 : ∀ x ∈ b.toList.take 1, ∀ y ∈ a.toList, RK O key x y) (h2 : ∀ x ∈ b.toList, ∀ y ∈ a.toList.drop (a.size - 1), RK O key x y)
  (h : ∀ r g, GoodM O key a.toList b.toList r -> Q r (SortSt.mk' (kindOf st) (arrOf st) (pendingOf st) g (failedOf st))) : wpS M A E s (mergeHi' a b) Q st := by
 have bump : ∀ (st' : SortSt), Keeps st st' -> ∀ r, GoodM O key a.toList b.toList r -> Q r st' := fun st' ⟨e1, e2, e3, e4⟩ r hr => by
  have := h r (gallopOf st') hr
  rw [<- e1, <- e2, <- e3, <- e4] at this
  exact this
 have k0 : Keeps st st := ⟨rfl, rfl, rfl, rfl⟩
 have hl : a.size - 1 < a.size := by omega
 have e0 : a[a.size - 1]? = some a[a.size - 1] := getElem?_pos a _ hl
 have ta : a.toList.take a.size = a.toList := List.take_of_length_le (by simp)
 have tb : b.toList.take b.size = b.toList := List.take_of_length_le (by simp)
 have m0 : MH O key a.toList b.toList #[] a.size b.size := ⟨List.Pairwise.nil, fun _ _ _ h => (by cases h), fun _ _ _ h => (by cases h), by rw [ta, tb]; simp⟩
 have m1 : MH O key a.toList b.toList #[a[a.size - 1]] (a.size - 1) b.size := m0.a sa (by omega) (by rw [ta, tb]; exact h2) (by rw [tl_at (by omega) e0]; rfl)
 rw [hi_eq]
 unfold hiAll
 refine wpS_bind (wpS_lift (wpAny_rule ⟨rfl, ?_⟩))
 refine wpS_bind (wpS_elem e0 ?_)
 by_cases c1 : a.size - 1 = 0
 ·exact wpS_yes (by simpa using c1) (wpS_pure (bump st k0 _ (m1.ab sa sb (by rw [c1]; intro _ h; cases h))))
 refine wpS_no (by simpa using c1) ?_
 by_cases c2 : b.size = 1
 ·exact wpS_yes (by simpa using c2) (wpS_pure (bump st k0 _ (m1.ba sa sb fun x hx y hy => h1 x (by rw [c2] at hx; exact hx) y (List.mem_of_mem_take hy))))
 refine wpS_no (by simpa using c2) (wpS_bind (wpS_get ?_))
 refine wpS_bind (wpS_mono (wpS_forRange
  (I := fun x c st' => Keeps st st' /\ ∃ na nb out g, c = (none, na, nb, out, g) /\ MH O key a.toList b.toList out na nb /\ 1 <= na /\ na <= a.size /\ 2 <= nb /\ nb <= b.size /\ na + nb + x <= a.size + b.size)
  (Q := fun c st' => Keeps st st' /\ ∃ r, c.1 = some r /\ GoodM O key a.toList b.toList r) ?_ ?_ ⟨k0, _, _, _, _, rfl, m1, by omega, by omega, by omega, Nat.le_refl _, by omega⟩) ?_)
 ·rintro x c st' _ hx ⟨k1, na, nb, out, g, rfl, m, e1, e2, e3, e4, hrem⟩
  exact wpS_hiBody L hk hSa hSb sa sb h1 e1 e2 e3 e4 m k1 (fun r z st2 hr k2 => ⟨k2, r, rfl, hr⟩) fun i2 j2 o2 g3 st2 m' f1 f2 f3 f4 f5 k2 => ⟨k2, _, _, _, _, rfl, m', f1, f2, f3, f4, by omega⟩
 ·rintro c st' ⟨k1, na, nb, out, g, rfl, m, e1, e2, e3, e4, hrem⟩
  omega
 ·rintro ⟨c1, c2⟩ st' ⟨k1, r, hc, hr⟩
  cases hc
  exact wpS_pure (bump st' k1 r hr)
end
end
section
variable {M : Model} {A : Around} {E : Value -> Shared -> Prop} {s : Shared} {O : KeyOrd} {key : Keyed -> O.α} {kd : SortKind} {S : Keyed -> Prop}
theorem wpS_set {σ : Type} {st x : σ} {Q : PUnit -> σ -> Prop} (h : Q ⟨⟩ x) : wpS M A E s (set x : StateT σ Sem PUnit) Q st := by
 unfold wpS; rw [StateT.run_set]; exact wpAny_pure ⟨rfl, h⟩
theorem fold_set : ∀ (r : List Keyed) (o k : Nat) (arr : Array Keyed), o + k + r.length <= arr.size ->
  ((r.zipIdx k).foldl (fun a x => match x with | (p, j) => a.setIfInBounds (o + j) p) arr).toList = arr.toList.take (o + k) ++ r ++ arr.toList.drop (o + k + r.length)
 | [], o, k, arr, h => by simp
 | p :: r, o, k, arr, h => by
  rw [List.length_cons] at h
  have ih := fold_set r o (k + 1) (arr.setIfInBounds (o + k) p) (by rw [Array.size_setIfInBounds]; omega)
  rw [List.zipIdx_cons, List.foldl_cons]
  refine ih.trans ?_
  rw [Array.toList_setIfInBounds, List.length_cons]
  have hl : o + k < arr.toList.length := by simp; omega
  rw [List.drop_set_of_lt (by omega), show o + (k + 1) = o + k + 1 by omega, List.take_set, List.take_succ_eq_append_getElem hl, List.set_append_right _ _ (by rw [List.length_take]; omega)]
  simp [show o + k + 1 + r.length = o + k + (r.length + 1) by omega, Nat.min_eq_left (by simpa using Nat.le_of_lt hl : o + k <= arr.size)]
theorem wpS_mergeAt (L : LtOk M A E s O key kd S) {st : SortSt} {i sa na sb nb pw pw2 : Nat} {P X Y T : List Keyed} {PA PB : List (Nat × Nat × Nat)} {Q : Bool -> SortSt -> Prop} (hk : kindOf st = kd) (hf : failedOf st = none) (ea : (arrOf st).toList = P ++ X ++ Y ++ T) (hS : ∀ x ∈ (arrOf st).toList, S x)
  (ep : (pendingOf st).toList = PA ++ (sa, na, pw) :: (sb, nb, pw2) :: PB) (hi : PA.length = i) (h1 : P.length = sa) (h2 : X.length = na) (h3 : sb = sa + na) (h4 : Y.length = nb) (h5 : 1 <= na) (h6 : 1 <= nb) (sX : X.Pairwise (RK O key)) (sY : Y.Pairwise (RK O key))
  (h : ∀ Z st', Z.Pairwise (RK O key) -> Z.Perm (X ++ Y) -> (arrOf st').toList = P ++ Z ++ T -> (pendingOf st').toList = PA ++ (sa, na + nb, pw) :: PB -> kindOf st' = kd -> failedOf st' = none -> Q true st') : wpS M A E s (mergeAt' i) Q st := by
 have hsz : (arrOf st).size = P.length + X.length + Y.length + T.length := by rw [<- Array.length_toList, ea]; simp; omega
 have atX : ∀ j, j < na -> ∃ p, (arrOf st)[sa + j]? = some p /\ X[j]? = some p /\ S p := fun j hj => by
  have e : X[j]? = some X[j] := List.getElem?_eq_getElem (by omega)
  refine ⟨X[j], ?_, e, hS _ (by rw [ea]; simp)⟩
  rw [<- Array.getElem?_toList, ea, List.append_assoc, List.append_assoc, List.getElem?_append_right (by omega), List.getElem?_append_left (by omega), show sa + j - P.length = j by omega, e]
 have atY : ∀ j, j < nb -> ∃ p, (arrOf st)[sb + j]? = some p /\ Y[j]? = some p /\ S p := fun j hj => by
  have e : Y[j]? = some Y[j] := List.getElem?_eq_getElem (by omega)
  refine ⟨Y[j], ?_, e, hS _ (by rw [ea]; simp)⟩
  rw [<- Array.getElem?_toList, ea, List.append_assoc, List.getElem?_append_right (by simp; omega), List.getElem?_append_left (by simp; omega), show sb + j - (P ++ X).length = j by simp; omega, e]
 have srtL : ∀ {l : List Keyed} (_ : l.Pairwise (RK O key)) {i j : Nat} {p q : Keyed}, i <= j -> l[i]? = some p -> l[j]? = some q -> RK O key p q := fun {l} sl {i j p q} hij ei ej => by
  obtain ⟨h1, rfl⟩ := List.getElem?_eq_some_iff.mp ei
  obtain ⟨h2, rfl⟩ := List.getElem?_eq_some_iff.mp ej
  by_cases e : i = j
  ·subst e; exact KeyOrd.kle_refl _
  ·exact List.pairwise_iff_getElem.mp sl i j h1 h2 (by omega)
 have keX : ∀ {j p}, X[j]? = some p -> j < na -> ke key (arrOf st) (sa + j) = key p := fun {j p} e hj => by
  obtain ⟨q, e1, e2, _⟩ := atX j hj
  rw [e] at e2
  cases e2
  exact ke_of e1
 have keY : ∀ {j p}, Y[j]? = some p -> j < nb -> ke key (arrOf st) (sb + j) = key p := fun {j p} e hj => by
  obtain ⟨q, e1, e2, _⟩ := atY j hj
  rw [e] at e2
  cases e2
  exact ke_of e1
 have pe : ((((pendingOf st).setIfInBounds i (sa, na + nb, pw)).eraseIdxIfInBounds (i + 1)).toList) = PA ++ (sa, na + nb, pw) :: PB := by
  have e1 : ((pendingOf st).setIfInBounds i (sa, na + nb, pw)).toList = PA ++ (sa, na + nb, pw) :: (sb, nb, pw2) :: PB := by
   rw [Array.toList_setIfInBounds, ep, List.set_append_right _ _ (by omega), hi, Nat.sub_self]
   rfl
  unfold Array.eraseIdxIfInBounds
  have hlt : i + 1 < ((pendingOf st).setIfInBounds i (sa, na + nb, pw)).size := by rw [<- Array.length_toList, e1]; simp; omega
  rw [dif_pos hlt, Array.toList_eraseIdx, e1, List.eraseIdx_append_of_length_le (by omega), show i + 1 - PA.length = 1 by omega]
  rfl
 have gi : (pendingOf st)[i]? = some (sa, na, pw) := by rw [<- Array.getElem?_toList, ep, List.getElem?_append_right (by omega), show i - PA.length = 0 by omega]; rfl
 have gi1 : (pendingOf st)[i + 1]? = some (sb, nb, pw2) := by rw [<- Array.getElem?_toList, ep, List.getElem?_append_right (by omega), show i + 1 - PA.length = 1 by omega]; rfl
 obtain ⟨p0, q1, q2, q3⟩ := atY 0 h6
 have fY : ∀ y ∈ Y, RK O key p0 y := fun y hy => by
  obtain ⟨j, ej⟩ := List.getElem?_of_mem hy
  exact srtL sY (Nat.zero_le j) q2 ej
 unfold mergeAt'
 refine wpS_bind (wpS_get ?_)
 rw [gi, gi1]
 dsimp only
 refine wpS_bind (wpS_set ?_)
 refine wpS_bind (wpS_elem q1 ?_)
 refine wpS_bind (wpS_gallop L hk q3 (fun j hj => let ⟨p, a, _, b⟩ := atX j hj; ⟨p, a, b⟩) (by omega) (fun j l hjl hl => ?_) fun k hkn hl hr => ?_)
 ·obtain ⟨p, e1, e2, _⟩ := atX j (by omega)
  obtain ⟨q, e3, e4, _⟩ := atX l hl
  rw [ke_of e1, ke_of e3]
  exact srtL sX hjl e2 e4
 dsimp only
 have lowX : ∀ x ∈ X.take k, RK O key x p0 := fun x hx => by
  obtain ⟨j, ej⟩ := List.getElem?_of_mem hx
  have hj := (List.getElem?_eq_some_iff.mp ej).1
  rw [List.length_take] at hj
  rw [List.getElem?_take, if_pos (by omega)] at ej
  have := hl j (by omega)
  unfold beyB at this
  rw [keX ej (by omega)] at this
  simp only [Bool.false_eq_true, if_false, Bool.not_eq_true'] at this
  exact this
 have highX : ∀ x ∈ X.drop k, RK O key p0 x := fun x hx => by
  obtain ⟨j, ej⟩ := List.getElem?_of_mem hx
  have hj := (List.getElem?_eq_some_iff.mp ej).1
  rw [List.length_drop] at hj
  rw [List.getElem?_drop] at ej
  have := hr (k + j) (by omega) (by omega)
  unfold beyB at this
  rw [keX ej (by omega)] at this
  simp only [Bool.false_eq_true, if_false, Bool.not_eq_false'] at this
  exact KeyOrd.kle_of_klt this
 by_cases c1 : na - k = 0
 ·rw [if_pos (by simpa using c1)]
  refine wpS_pure (h (X ++ Y) _ ?_ (List.Perm.refl _) (by show (arrOf st).toList = _; rw [ea]; simp) pe hk hf)
  rw [List.pairwise_append]
  exact ⟨sX, sY, fun x hx y hy => KeyOrd.kle_trans (lowX x (by rw [List.take_of_length_le (by omega)]; exact hx)) (fY y hy)⟩
 rw [if_neg (by simpa using c1)]
 obtain ⟨pz, z1, z2, z3⟩ := atX (na - 1) (by omega)
 rw [show sa + (na - 1) = sa + k + (na - k) - 1 by omega] at z1
 refine wpS_bind (wpS_elem z1 ?_)
 refine wpS_bind (wpS_gallop L hk z3 (fun j hj => let ⟨p, a, _, b⟩ := atY j hj; ⟨p, a, b⟩) (by omega) (fun j l hjl hl => ?_) fun kb hkb hl2 hr2 => ?_)
 ·obtain ⟨p, e1, e2, _⟩ := atY j (by omega)
  obtain ⟨q, e3, e4, _⟩ := atY l hl
  rw [ke_of e1, ke_of e3]
  exact srtL sY hjl e2 e4
 dsimp only
 have lastX : ∀ x ∈ X, RK O key x pz := fun x hx => by
  obtain ⟨j, ej⟩ := List.getElem?_of_mem hx
  have hj := (List.getElem?_eq_some_iff.mp ej).1
  exact srtL sX (by omega) ej z2
 have lowY : ∀ y ∈ Y.take kb, RK O key y pz := fun y hy => by
  obtain ⟨j, ej⟩ := List.getElem?_of_mem hy
  have hj := (List.getElem?_eq_some_iff.mp ej).1
  rw [List.length_take] at hj
  rw [List.getElem?_take, if_pos (by omega)] at ej
  have := hl2 j (by omega)
  unfold beyB at this
  rw [keY ej (by omega)] at this
  exact KeyOrd.kle_of_klt this
 have highY : ∀ y ∈ Y.drop kb, RK O key pz y := fun y hy => by
  obtain ⟨j, ej⟩ := List.getElem?_of_mem hy
  have hj := (List.getElem?_eq_some_iff.mp ej).1
  rw [List.length_drop] at hj
  rw [List.getElem?_drop] at ej
  have := hr2 (kb + j) (by omega) (by omega)
  unfold beyB at this
  rw [keY ej (by omega)] at this
  exact this
 by_cases c2 : kb = 0
 ·rw [if_pos (by simpa using c2)]
  refine wpS_pure (h (X ++ Y) _ ?_ (List.Perm.refl _) (by show (arrOf st).toList = _; rw [ea]; simp) pe hk hf)
  rw [List.pairwise_append]
  exact ⟨sX, sY, fun x hx y hy => KeyOrd.kle_trans (lastX x hx) (highY y (by rw [c2, List.drop_zero]; exact hy))⟩
 rw [if_neg (by simpa using c2)]
 have eX : ((arrOf st).extract (sa + k) sb).toList = X.drop k := by
  rw [Array.toList_extract, List.extract_eq_take_drop, ea, List.append_assoc, List.append_assoc, List.drop_append, List.drop_eq_nil_of_le (by omega), List.nil_append, List.drop_append_of_le_length (by omega), List.take_append_of_le_length (by rw [List.length_drop]; omega), show sa + k - P.length = k by omega]
  exact List.take_of_length_le (by rw [List.length_drop]; omega)
 have eY : ((arrOf st).extract sb (sb + kb)).toList = Y.take kb := by
  rw [Array.toList_extract, List.extract_eq_take_drop, ea, List.append_assoc, List.drop_append, List.drop_eq_nil_of_le (by simp; omega), List.nil_append, show sb - (P ++ X).length = 0 by simp; omega, List.drop_zero, List.take_append_of_le_length (by omega), Nat.add_sub_cancel_left]
 have zX : ((arrOf st).extract (sa + k) sb).size = na - k := by rw [<- Array.length_toList, eX, List.length_drop]; omega
 have zY : ((arrOf st).extract sb (sb + kb)).size = kb := by rw [<- Array.length_toList, eY, List.length_take]; omega
 have pX := List.take_append_drop k X
 have pY := List.take_append_drop kb Y
 have sX2 : (X.drop k).Pairwise (RK O key) := sX.sublist (List.drop_sublist _ _)
 have sY1 : (Y.take kb).Pairwise (RK O key) := sY.sublist (List.take_sublist _ _)
 have cX : ∀ x ∈ X.take k, ∀ y ∈ X.drop k, RK O key x y := by
  have := sX
  rw [<- pX, List.pairwise_append] at this
  exact this.2.2
 have cY : ∀ x ∈ Y.take kb, ∀ y ∈ Y.drop kb, RK O key x y := by
  have := sY
  rw [<- pY, List.pairwise_append] at this
  exact this.2.2
 have hd1 : ∀ x ∈ ((arrOf st).extract sb (sb + kb)).toList.take 1, ∀ y ∈ ((arrOf st).extract (sa + k) sb).toList, RK O key x y := fun x hx y hy => by
  rw [eY, List.take_take, show min 1 kb = 1 by omega] at hx
  rw [eX] at hy
  have : x = p0 := by
   obtain ⟨y0, l, e⟩ : ∃ y0 l, Y = y0 :: l := by
    cases hY : Y with
    | nil => rw [hY] at h4; simp at h4; omega
    | cons y0 l => exact ⟨y0, l, rfl⟩
   rw [e] at hx q2
   simp at hx q2
   rw [hx, q2]
  rw [this]
  exact highX y hy
 have hd2 : ∀ x ∈ ((arrOf st).extract sb (sb + kb)).toList, ∀ y ∈ ((arrOf st).extract (sa + k) sb).toList.drop (((arrOf st).extract (sa + k) sb).size - 1), RK O key x y := fun x hx y hy => by
  rw [eY] at hx
  rw [eX, zX, List.drop_drop, show k + (na - k - 1) = na - 1 by omega] at hy
  have : y = pz := by
   obtain ⟨hlt, ez⟩ := List.getElem?_eq_some_iff.mp z2
   rw [List.drop_eq_getElem_cons hlt, ez, List.drop_eq_nil_of_le (by omega)] at hy
   exact List.mem_singleton.mp hy
  rw [this]
  exact lowY x hx
 have fin : ∀ (r : Array Keyed) (g : Nat) (ar : Array Keyed), ar = arrOf st -> GoodM O key ((arrOf st).extract (sa + k) sb).toList ((arrOf st).extract sb (sb + kb)).toList r ->
   Q true (SortSt.mk' (kindOf st) (List.foldl (fun a x => match x with | (p, j) => a.setIfInBounds (sa + k + j) p) ar r.toList.zipIdx) (((pendingOf st).setIfInBounds i (sa, na + nb, pw)).eraseIdxIfInBounds (i + 1)) g (failedOf st)) := by
  rintro r g _ rfl ⟨gs, gp⟩
  rw [eX, eY] at gp
  have rl : r.toList.length = na - k + kb := by rw [gp.length_eq, List.length_append, List.length_drop, List.length_take]; omega
  refine h (X.take k ++ r.toList ++ Y.drop kb) _ ?_ ?_ ?_ pe hk hf
  ·rw [List.pairwise_append, List.pairwise_append]
   refine ⟨⟨sX.sublist (List.take_sublist _ _), gs, fun x hx y hy => ?_⟩, sY.sublist (List.drop_sublist _ _), fun x hx y hy => ?_⟩
   ·rcases List.mem_append.mp (gp.mem_iff.mp hy) with hy | hy
    ·exact cX x hx y hy
    ·exact KeyOrd.kle_trans (lowX x hx) (fY y (List.mem_of_mem_take hy))
   ·rcases List.mem_append.mp hx with hx | hx
    ·exact KeyOrd.kle_trans (lastX x (List.mem_of_mem_take hx)) (highY y hy)
    ·rcases List.mem_append.mp (gp.mem_iff.mp hx) with hx | hx
     ·exact KeyOrd.kle_trans (lastX x (List.mem_of_mem_drop hx)) (highY y hy)
     ·exact cY x hx y hy
  ·have p1 : (X.take k ++ r.toList ++ Y.drop kb).Perm (X.take k ++ (X.drop k ++ Y.take kb) ++ Y.drop kb) := List.Perm.append_right _ (List.Perm.append_left _ gp)
   refine p1.trans (List.Perm.of_eq ?_)
   rw [<- List.append_assoc, pX, List.append_assoc, pY]
  ·have e := fold_set r.toList (sa + k) 0 (arrOf st) (by rw [rl]; omega)
   refine e.trans ?_
   rw [Nat.add_zero, rl, ea]
   have t1 : (P ++ X ++ Y ++ T).take (sa + k) = P ++ X.take k := by
    rw [List.append_assoc, List.append_assoc, List.take_append, List.take_of_length_le (by omega), List.take_append_of_le_length (by omega), show sa + k - P.length = k by omega]
   have t2 : (P ++ X ++ Y ++ T).drop (sa + k + (na - k + kb)) = Y.drop kb ++ T := by
    rw [List.append_assoc, List.drop_append, List.drop_eq_nil_of_le (by simp; omega), List.nil_append, show sa + k + (na - k + kb) - (P ++ X).length = kb by simp; omega, List.drop_append_of_le_length (by omega)]
   rw [t1, t2]
   simp
 have hSx : ∀ x ∈ ((arrOf st).extract (sa + k) sb).toList, S x := fun x hx => hS x (by rw [eX] at hx; rw [ea]; simp [List.mem_of_mem_drop hx])
 have hSy : ∀ x ∈ ((arrOf st).extract sb (sb + kb)).toList, S x := fun x hx => hS x (by rw [eY] at hx; rw [ea]; simp [List.mem_of_mem_take hx])
 have sx : ((arrOf st).extract (sa + k) sb).toList.Pairwise (RK O key) := by rw [eX]; exact sX2
 have sy : ((arrOf st).extract sb (sb + kb)).toList.Pairwise (RK O key) := by rw [eY]; exact sY1
 split
 ·refine wpS_bind (wpS_mergeLo L hk hSx hSy sx sy (by rw [zX]; omega) (by rw [zY]; omega) hd1 hd2 fun r g hg => ?_)
  refine wpS_bind (wpS_modify (wpS_bind (wpS_get (wpS_pure ?_))))
  show Q (failedOf st).isNone _
  rw [hf]
  have := fin r g _ rfl hg
  rw [hf] at this
  exact this
 ·refine wpS_bind (wpS_mergeHi L hk hSx hSy sx sy (by rw [zX]; omega) (by rw [zY]; omega) hd1 hd2 fun r g hg => ?_)
  refine wpS_bind (wpS_modify (wpS_bind (wpS_get (wpS_pure ?_))))
  show Q (failedOf st).isNone _
  rw [hf]
  have := fin r g _ rfl hg
  rw [hf] at this
  exact this
end
section
variable {M : Model} {A : Around} {E : Value -> Shared -> Prop} {s : Shared} {O : KeyOrd} {key : Keyed -> O.α} {kd : SortKind} {S : Keyed -> Prop}
def Stp (lo : Nat) (st st' : SortSt) : Prop := kindOf st' = kindOf st /\ failedOf st' = failedOf st /\ pendingOf st' = pendingOf st /\ (arrOf st').Perm (arrOf st) /\ ∀ i, i < lo -> (arrOf st')[i]? = (arrOf st)[i]?
theorem Stp.refl (lo : Nat) (st : SortSt) : Stp lo st st := ⟨rfl, rfl, rfl, Array.Perm.refl _, fun _ _ => rfl⟩
theorem Stp.trans {lo : Nat} {a b c : SortSt} (h : Stp lo a b) (k : Stp lo b c) : Stp lo a c := ⟨k.1.trans h.1, k.2.1.trans h.2.1, k.2.2.1.trans h.2.2.1, k.2.2.2.1.trans h.2.2.2.1, fun i hi => (k.2.2.2.2 i hi).trans (h.2.2.2.2 i hi)⟩
theorem Stp.size {lo : Nat} {a b : SortSt} (h : Stp lo a b) : (arrOf b).size = (arrOf a).size := h.2.2.2.1.size_eq
theorem Stp.all {lo : Nat} {a b : SortSt} (h : Stp lo a b) (hS : ∀ x ∈ (arrOf a).toList, S x) : ∀ x ∈ (arrOf b).toList, S x := fun x hx => hS x ((Array.perm_iff_toList_perm.mp h.2.2.2.1).mem_iff.mp hx)
theorem Stp.mirror {lo i j : Nat} {st : SortSt} (hi : lo <= i) (hj : j <= (arrOf st).size) : Stp lo st (setArr st (PyProof.Rows.mirror (arrOf st) i j ((j - i) / 2))) :=
 ⟨rfl, rfl, rfl, mirror_perm _ _ _ _, fun k hk => by show (PyProof.Rows.mirror (arrOf st) i j ((j - i) / 2))[k]? = _; rw [getElem?_mirror_all hj, if_neg (by omega)]⟩
theorem Stp.bubble {lo src d : Nat} {st : SortSt} (hs : src < (arrOf st).size) (hd : d <= src) (hlo : lo <= src - d) : Stp lo st (setArr st (PyProof.Rows.bubble (arrOf st) src d)) :=
 ⟨rfl, rfl, rfl, bubble_perm _ _ _, fun k hk => by show (PyProof.Rows.bubble (arrOf st) src d)[k]? = _; rw [getElem?_bubble hs d hd, if_neg (by omega), if_neg (by omega)]⟩
theorem ke_congr {xs ys : Array Keyed} {i j : Nat} (h : xs[i]? = ys[j]?) : ke key xs i = ke key ys j := by unfold ke; rw [Array.getD_eq_getD_getElem?, Array.getD_eq_getD_getElem?, h]
theorem ke_mirror {xs : Array Keyed} {i j : Nat} (hj : j <= xs.size) (k : Nat) : ke key (mirror xs i j ((j - i) / 2)) k = if i <= k /\ k < j then ke key xs (i + j - 1 - k) else ke key xs k := by
 have e := getElem?_mirror_all (i := i) hj k
 split
 ·rename_i h; rw [if_pos h] at e; exact ke_congr e
 ·rename_i h; rw [if_neg h] at e; exact ke_congr e
theorem ke_bubble {xs : Array Keyed} {src d : Nat} (hs : src < xs.size) (hd : d <= src) (k : Nat) : ke key (bubble xs src d) k = if k = src - d then ke key xs src else if src - d < k /\ k <= src then ke key xs (k - 1) else ke key xs k := by
 have e := getElem?_bubble hs d hd k
 split
 ·rename_i h; rw [if_pos h] at e; exact ke_congr e
 ·rename_i h
  rw [if_neg h] at e
  split
  ·rename_i h; rw [if_pos h] at e; exact ke_congr e
  ·rename_i h; rw [if_neg h] at e; exact ke_congr e
theorem wpS_lt2 (L : LtOk M A E s O key kd S) {st : SortSt} {i j : Nat} {Q : Option Bool -> SortSt -> Prop} (hk : kindOf st = kd) (hS : ∀ x ∈ (arrOf st).toList, S x) (hi : i < (arrOf st).size) (hj : j < (arrOf st).size)
  (h : Q (some (O.blt (ke key (arrOf st) i) (ke key (arrOf st) j))) st) : wpS M A E s (ltAt' i j) Q st := by
 have e1 := getElem?_pos (arrOf st) i hi
 have e2 := getElem?_pos (arrOf st) j hj
 rw [ke_of e1, ke_of e2] at h
 rw [ltAt'_eq]
 refine wpS_bind (wpS_get ?_)
 refine wpS_bind (wpS_elem e1 (wpS_bind (wpS_elem e2 ?_)))
 exact L _ _ _ _ (hS _ (by simp)) (hS _ (by simp)) hk h
theorem wpS_rev {st : SortSt} {i j : Nat} {Q : Unit -> SortSt -> Prop} (h : Q () (setArr st (mirror (arrOf st) i j ((j - i) / 2)))) : wpS M A E s (reverseSlice' i j) Q st := by
 rw [reverseSlice'_eq]
 exact wpS_modify h
def SrtI (O : KeyOrd) (key : Keyed -> O.α) (arr : Array Keyed) (lo k : Nat) : Prop := ∀ i j, i <= j -> j < k -> O.kle (ke key arr (lo + i)) (ke key arr (lo + j))
def NonI (O : KeyOrd) (key : Keyed -> O.α) (arr : Array Keyed) (lo k : Nat) : Prop := ∀ i j, i <= j -> j < k -> O.kle (ke key arr (lo + j)) (ke key arr (lo + i))
def ascL (lo a nrem : Nat) : StateT SortSt Sem (Option (Option Nat) × Nat) := forIn [a:nrem] ((none, a) : Option (Option Nat) × Nat) fun _ r => do
 let x <- ltAt' (lo + r.2) (lo + r.2 - 1)
 match x with
 | some b => if b = true then pure (.done (none, r.2)) else pure (.yield (none, r.2 + 1))
 | _ => pure (.done (some none, r.2))
theorem wpS_ascL (L : LtOk M A E s O key kd S) {st : SortSt} {lo a nrem : Nat} {Q : Option (Option Nat) × Nat -> SortSt -> Prop} (hk : kindOf st = kd) (hS : ∀ x ∈ (arrOf st).toList, S x) (hn : lo + nrem <= (arrOf st).size) (ha : 1 <= a) (han : a <= nrem) (hs : SrtI O key (arrOf st) lo a)
  (h : ∀ n, a <= n -> n <= nrem -> SrtI O key (arrOf st) lo n -> (n = nrem \/ O.klt (ke key (arrOf st) (lo + n)) (ke key (arrOf st) (lo + n - 1))) -> Q (none, n) st) : wpS M A E s (ascL lo a nrem) Q st := by
 unfold ascL
 refine wpS_forRange (I := fun x c st' => st' = st /\ c = (none, x) /\ SrtI O key (arrOf st) lo x) ?_ ?_ ⟨rfl, rfl, hs⟩
 ·rintro x c st' hax hxn ⟨rfl, rfl, hs'⟩
  refine wpS_bind (wpS_lt2 L hk hS (by omega) (by omega) ?_)
  dsimp only
  cases e : O.blt (ke key (arrOf st') (lo + x)) (ke key (arrOf st') (lo + x - 1)) with
  | true =>
   rw [if_pos rfl]
   exact wpS_pure (h x hax (by omega) hs' (.inr e))
  | false =>
   rw [if_neg (by simp)]
   refine wpS_pure ⟨rfl, rfl, fun i j hij hj => ?_⟩
   by_cases hjx : j < x
   ·exact hs' i j hij hjx
   ·have hj' : j = x := by omega
    subst hj'
    by_cases hi' : i = j
    ·subst hi'; exact KeyOrd.kle_refl _
    ·have := hs' i (j - 1) (by omega) (by omega)
     rw [show lo + (j - 1) = lo + j - 1 by omega] at this
     exact KeyOrd.kle_trans this e
 ·rintro c st' ⟨rfl, rfl, hs'⟩
  rw [show max a nrem = nrem by omega] at hs' ⊢
  exact h nrem han (Nat.le_refl _) hs' (.inl rfl)
def descL (lo n nrem : Nat) : StateT SortSt Sem (Option (Option Nat) × Nat × Nat) := forIn [n:nrem] ((none, n, 0) : Option (Option Nat) × Nat × Nat) fun _ r => do
 let x <- ltAt' (lo + r.2.1) (lo + r.2.1 - 1)
 match x with
 | some b =>
  if b = true then
   if r.2.2 > 0 then do
    reverseSlice' (lo + r.2.1 - (r.2.2 + 1)) (lo + r.2.1)
    pure (.yield (none, r.2.1 + 1, 0))
   else pure (.yield (none, r.2.1 + 1, 0))
  else do
   let y <- ltAt' (lo + r.2.1 - 1) (lo + r.2.1)
   match y with
   | some c => if c = true then pure (.done (none, r.2.1, r.2.2)) else pure (.yield (none, r.2.1 + 1, r.2.2 + 1))
   | _ => pure (.done (some none, r.2.1, r.2.2))
 | _ => pure (.done (some none, r.2.1, r.2.2))
theorem ke_mirror_same {xs : Array Keyed} {i j : Nat} (hj : j <= xs.size) (he : ∀ k, i <= k -> k < j -> ke key xs k = ke key xs (j - 1)) (k : Nat) : ke key (mirror xs i j ((j - i) / 2)) k = ke key xs k := by
 rw [ke_mirror hj]
 split
 ·rw [he _ (by omega) (by omega), he k (by omega) (by omega)]
 ·rfl
theorem wpS_descL (L : LtOk M A E s O key kd S) {st : SortSt} {lo n nrem : Nat} {Q : Option (Option Nat) × Nat × Nat -> SortSt -> Prop} (hk : kindOf st = kd) (hS : ∀ x ∈ (arrOf st).toList, S x) (hn : lo + nrem <= (arrOf st).size) (h1 : 1 <= n) (hnn : n <= nrem) (hs : NonI O key (arrOf st) lo n)
  (h : ∀ m neq st', Stp lo st st' -> n <= m -> m <= nrem -> NonI O key (arrOf st') lo m -> neq + 1 <= m -> (∀ i, lo + m - (neq + 1) <= i -> i < lo + m -> ke key (arrOf st') i = ke key (arrOf st') (lo + m - 1)) -> Q (none, m, neq) st') : wpS M A E s (descL lo n nrem) Q st := by
 unfold descL
 refine wpS_forRange (I := fun x c st' => ∃ neq, c = (none, x, neq) /\ Stp lo st st' /\ NonI O key (arrOf st') lo x /\ neq + 1 <= x /\ (∀ i, lo + x - (neq + 1) <= i -> i < lo + x -> ke key (arrOf st') i = ke key (arrOf st') (lo + x - 1))) ?_ ?_ ⟨0, rfl, Stp.refl _ _, hs, by omega, fun i h1 h2 => by congr 1; omega⟩
 ·rintro x c st' hax hxn ⟨neq, rfl, hst, hs', hq, he⟩
  have hk' := hst.1.trans hk
  have hS' := hst.all hS
  have hz := hst.size
  dsimp only
  refine wpS_bind (wpS_lt2 L hk' hS' (by omega) (by omega) ?_)
  dsimp only
  cases e : O.blt (ke key (arrOf st') (lo + x)) (ke key (arrOf st') (lo + x - 1)) with
  | true =>
   rw [if_pos rfl]
   have non : ∀ (ar : Array Keyed), (∀ k, k <= lo + x -> ke key ar k = ke key (arrOf st') k) -> NonI O key ar lo (x + 1) := fun ar hke i j hij hj => by
    rw [hke _ (by omega), hke _ (by omega)]
    by_cases hjx : j < x
    ·exact hs' i j hij hjx
    ·have hj' : j = x := by omega
     subst hj'
     by_cases hi' : i = j
     ·subst hi'; exact KeyOrd.kle_refl _
     ·have := hs' i (j - 1) (by omega) (by omega)
      rw [show lo + (j - 1) = lo + j - 1 by omega] at this
      exact KeyOrd.kle_trans (KeyOrd.kle_of_klt e) this
   by_cases c : neq > 0
   ·rw [if_pos c]
    refine wpS_bind (wpS_rev (wpS_pure ⟨0, rfl, hst.trans (Stp.mirror (by omega) (by omega)), ?_, by omega, fun i h1 h2 => by congr 1; omega⟩))
    exact non _ fun k hk => ke_mirror_same (by omega) he k
   ·rw [if_neg c]
    exact wpS_pure ⟨0, rfl, hst, non _ fun _ _ => rfl, by omega, fun i h1 h2 => by congr 1; omega⟩
  | false =>
   rw [if_neg (by simp)]
   refine wpS_bind (wpS_lt2 L hk' hS' (by omega) (by omega) ?_)
   dsimp only
   cases e2 : O.blt (ke key (arrOf st') (lo + x - 1)) (ke key (arrOf st') (lo + x)) with
   | true =>
    rw [if_pos rfl]
    exact wpS_pure (h x neq st' hst hax (by omega) hs' hq he)
   | false =>
    rw [if_neg (by simp)]
    have eq : ke key (arrOf st') (lo + x - 1) = ke key (arrOf st') (lo + x) := O.total _ _ e2 e
    refine wpS_pure ⟨neq + 1, rfl, hst, fun i j hij hj => ?_, by omega, fun i h1 h2 => ?_⟩
    ·by_cases hjx : j < x
     ·exact hs' i j hij hjx
     ·have hj' : j = x := by omega
      subst hj'
      by_cases hi' : i = j
      ·subst hi'; exact KeyOrd.kle_refl _
      ·have := hs' i (j - 1) (by omega) (by omega)
       rw [show lo + (j - 1) = lo + j - 1 by omega, eq] at this
       exact this
    ·rw [show lo + (x + 1) - 1 = lo + x by omega, <- eq]
     by_cases hi : i < lo + x
     ·exact he i (by omega) hi
     ·rw [show i = lo + x by omega, eq]
 ·rintro c st' ⟨neq, rfl, hst, hs', hq, he⟩
  rw [show max n nrem = nrem by omega] at *
  exact h nrem neq st' hst hnn (Nat.le_refl _) hs' hq he
theorem wpS_cntRun (L : LtOk M A E s O key kd S) {st : SortSt} {lo nrem : Nat} {Q : Option Nat -> SortSt -> Prop} (hk : kindOf st = kd) (hS : ∀ x ∈ (arrOf st).toList, S x) (hn : lo + nrem <= (arrOf st).size) (h1 : 1 <= nrem)
  (h : ∀ m st', Stp lo st st' -> 1 <= m -> m <= nrem -> SrtI O key (arrOf st') lo m -> Q (some m) st') : wpS M A E s (countRun' lo nrem) Q st := by
 rw [countRun'_eq]
 have one : SrtI O key (arrOf st) lo 1 := fun i j hij hj => by
  have : i = j := by omega
  subst this
  exact KeyOrd.kle_refl _
 refine wpS_bind (wpS_ascL L hk hS hn (Nat.le_refl _) h1 one fun n hn1 hn2 hs hx => ?_)
 dsimp only
 by_cases c1 : n = nrem
 ·rw [if_pos (by simpa using c1)]
  exact wpS_pure (h n st (Stp.refl _ _) hn1 hn2 hs)
 rw [if_neg (by simpa using c1)]
 have hlt : O.klt (ke key (arrOf st) (lo + n)) (ke key (arrOf st) (lo + n - 1)) := hx.resolve_left c1
 by_cases c2 : n > 1
 ·rw [if_pos c2]
  refine wpS_bind (wpS_lt2 L hk hS (by omega) (by omega) ?_)
  dsimp only
  cases e : O.blt (ke key (arrOf st) lo) (ke key (arrOf st) (lo + n - 1)) with
  | true =>
   rw [if_pos rfl]
   exact wpS_pure (h n st (Stp.refl _ _) hn1 hn2 hs)
  | false =>
   rw [if_neg (by simp)]
   refine wpS_bind (wpS_rev ?_)
   have t1 : Stp lo st (setArr st (mirror (arrOf st) lo (lo + n) ((lo + n - lo) / 2))) := Stp.mirror (Nat.le_refl _) (by omega)
   have eqs : ∀ k, lo <= k -> k < lo + n -> ke key (arrOf st) k = ke key (arrOf st) (lo + n - 1) := fun k k1 k2 => by
    have a1 := hs (k - lo) (n - 1) (by omega) (by omega)
    have a2 := hs 0 (k - lo) (by omega) (by omega)
    rw [show lo + (k - lo) = k by omega, show lo + (n - 1) = lo + n - 1 by omega] at a1
    rw [show lo + (k - lo) = k by omega, Nat.add_zero] at a2
    exact KeyOrd.kle_antisymm a1 (KeyOrd.kle_trans e a2)
   have non1 : NonI O key (mirror (arrOf st) lo (lo + n) ((lo + n - lo) / 2)) lo (n + 1) := fun i j hij hj => by
    rw [ke_mirror_same (by omega) eqs, ke_mirror_same (by omega) eqs]
    by_cases hjn : j < n
    ·rw [eqs (lo + i) (by omega) (by omega), eqs (lo + j) (by omega) (by omega)]
     exact KeyOrd.kle_refl _
    ·have hj' : j = n := by omega
     subst hj'
     by_cases hi' : i = j
     ·subst hi'; exact KeyOrd.kle_refl _
     ·rw [eqs (lo + i) (by omega) (by omega)]
      exact KeyOrd.kle_of_klt hlt
   obtain ⟨st1, e1⟩ : ∃ st1, st1 = setArr st (mirror (arrOf st) lo (lo + n) ((lo + n - lo) / 2)) := ⟨_, rfl⟩
   have non1 : NonI O key (arrOf st1) lo (n + 1) := by rw [e1]; exact non1
   rw [<- e1] at t1 ⊢
   refine wpS_bind (wpS_lift (wpAny_rule ⟨rfl, ?_⟩))
   refine wpS_bind (wpS_descL L (t1.1.trans hk) (t1.all hS) (by have := t1.size; omega) (by omega) (by omega) non1 fun m neq st2 t12 hm1 hm2 non2 hneq heq => ?_)
   dsimp only
   have t2 := t1.trans t12
   by_cases c3 : neq > 0
   ·rw [if_pos c3]
    refine wpS_bind (wpS_rev ?_)
    have t3 : Stp lo st (setArr st2 (mirror (arrOf st2) (lo + m - (neq + 1)) (lo + m) ((lo + m - (lo + m - (neq + 1))) / 2))) := t2.trans (Stp.mirror (by omega) (by have := t2.size; omega))
    have non3 : NonI O key (mirror (arrOf st2) (lo + m - (neq + 1)) (lo + m) ((lo + m - (lo + m - (neq + 1))) / 2)) lo m := fun i j hij hj => by
     rw [ke_mirror_same (by have := t2.size; omega) heq, ke_mirror_same (by have := t2.size; omega) heq]
     exact non2 i j hij hj
    obtain ⟨st3, e3⟩ : ∃ st3, st3 = setArr st2 (mirror (arrOf st2) (lo + m - (neq + 1)) (lo + m) ((lo + m - (lo + m - (neq + 1))) / 2)) := ⟨_, rfl⟩
    have non3 : NonI O key (arrOf st3) lo m := by rw [e3]; exact non3
    rw [<- e3] at t3 ⊢
    refine wpS_bind (wpS_rev ?_)
    have t4 : Stp lo st (setArr st3 (mirror (arrOf st3) lo (lo + m) ((lo + m - lo) / 2))) := t3.trans (Stp.mirror (Nat.le_refl _) (by have := t3.size; omega))
    refine wpS_bind (wpS_ascL L (t4.1.trans hk) (t4.all hS) (by have := t4.size; omega) (by omega) hm2 ?_ fun q hq1 hq2 hsq _ => ?_)
    ·intro i j hij hj
     show O.kle (ke key (mirror (arrOf st3) lo (lo + m) ((lo + m - lo) / 2)) (lo + i)) (ke key (mirror (arrOf st3) lo (lo + m) ((lo + m - lo) / 2)) (lo + j))
     rw [ke_mirror (by have := t3.size; omega), ke_mirror (by have := t3.size; omega), if_pos (by omega), if_pos (by omega), show lo + (lo + m) - 1 - (lo + i) = lo + (m - 1 - i) by omega, show lo + (lo + m) - 1 - (lo + j) = lo + (m - 1 - j) by omega]
     exact non3 _ _ (by omega) (by omega)
    ·exact wpS_pure (h q _ t4 (by omega) hq2 hsq)
   ·rw [if_neg c3]
    have t3 := t2
    have non3 := non2
    obtain ⟨st3, e3⟩ : ∃ st3, st3 = st2 := ⟨_, rfl⟩
    rw [<- e3] at t3 non3 ⊢
    refine wpS_bind (wpS_rev ?_)
    have t4 : Stp lo st (setArr st3 (mirror (arrOf st3) lo (lo + m) ((lo + m - lo) / 2))) := t3.trans (Stp.mirror (Nat.le_refl _) (by have := t3.size; omega))
    refine wpS_bind (wpS_ascL L (t4.1.trans hk) (t4.all hS) (by have := t4.size; omega) (by omega) hm2 ?_ fun q hq1 hq2 hsq _ => ?_)
    ·intro i j hij hj
     show O.kle (ke key (mirror (arrOf st3) lo (lo + m) ((lo + m - lo) / 2)) (lo + i)) (ke key (mirror (arrOf st3) lo (lo + m) ((lo + m - lo) / 2)) (lo + j))
     rw [ke_mirror (by have := t3.size; omega), ke_mirror (by have := t3.size; omega), if_pos (by omega), if_pos (by omega), show lo + (lo + m) - 1 - (lo + i) = lo + (m - 1 - i) by omega, show lo + (lo + m) - 1 - (lo + j) = lo + (m - 1 - j) by omega]
     exact non3 _ _ (by omega) (by omega)
    ·exact wpS_pure (h q _ t4 (by omega) hq2 hsq)
 ·rw [if_neg c2]
  have t1 := Stp.refl lo st
  have non1 : NonI O key (arrOf st) lo (n + 1) := fun i j hij hj => by
   by_cases hi' : i = j
   ·subst hi'; exact KeyOrd.kle_refl _
   ·have h3 : i = 0 := by omega
    have h4 : j = n := by omega
    subst h3 h4
    rw [show lo + 0 = lo + j - 1 by omega]
    exact KeyOrd.kle_of_klt hlt
  obtain ⟨st1, e1⟩ : ∃ st1, st1 = st := ⟨_, rfl⟩
  have non1 : NonI O key (arrOf st1) lo (n + 1) := by rw [e1]; exact non1
  have t1 : Stp lo st st1 := by rw [e1]; exact t1
  rw [<- e1]
  refine wpS_bind (wpS_lift (wpAny_rule ⟨rfl, ?_⟩))
  refine wpS_bind (wpS_descL L (t1.1.trans hk) (t1.all hS) (by have := t1.size; omega) (by omega) (by omega) non1 fun m neq st2 t12 hm1 hm2 non2 hneq heq => ?_)
  dsimp only
  have t2 := t1.trans t12
  by_cases c3 : neq > 0
  ·rw [if_pos c3]
   refine wpS_bind (wpS_rev ?_)
   have t3 : Stp lo st (setArr st2 (mirror (arrOf st2) (lo + m - (neq + 1)) (lo + m) ((lo + m - (lo + m - (neq + 1))) / 2))) := t2.trans (Stp.mirror (by omega) (by have := t2.size; omega))
   have non3 : NonI O key (mirror (arrOf st2) (lo + m - (neq + 1)) (lo + m) ((lo + m - (lo + m - (neq + 1))) / 2)) lo m := fun i j hij hj => by
    rw [ke_mirror_same (by have := t2.size; omega) heq, ke_mirror_same (by have := t2.size; omega) heq]
    exact non2 i j hij hj
   obtain ⟨st3, e3⟩ : ∃ st3, st3 = setArr st2 (mirror (arrOf st2) (lo + m - (neq + 1)) (lo + m) ((lo + m - (lo + m - (neq + 1))) / 2)) := ⟨_, rfl⟩
   have non3 : NonI O key (arrOf st3) lo m := by rw [e3]; exact non3
   rw [<- e3] at t3 ⊢
   refine wpS_bind (wpS_rev ?_)
   have t4 : Stp lo st (setArr st3 (mirror (arrOf st3) lo (lo + m) ((lo + m - lo) / 2))) := t3.trans (Stp.mirror (Nat.le_refl _) (by have := t3.size; omega))
   refine wpS_bind (wpS_ascL L (t4.1.trans hk) (t4.all hS) (by have := t4.size; omega) (by omega) hm2 ?_ fun q hq1 hq2 hsq _ => ?_)
   ·intro i j hij hj
    show O.kle (ke key (mirror (arrOf st3) lo (lo + m) ((lo + m - lo) / 2)) (lo + i)) (ke key (mirror (arrOf st3) lo (lo + m) ((lo + m - lo) / 2)) (lo + j))
    rw [ke_mirror (by have := t3.size; omega), ke_mirror (by have := t3.size; omega), if_pos (by omega), if_pos (by omega), show lo + (lo + m) - 1 - (lo + i) = lo + (m - 1 - i) by omega, show lo + (lo + m) - 1 - (lo + j) = lo + (m - 1 - j) by omega]
    exact non3 _ _ (by omega) (by omega)
   ·exact wpS_pure (h q _ t4 (by omega) hq2 hsq)
  ·rw [if_neg c3]
   have t3 := t2
   have non3 := non2
   obtain ⟨st3, e3⟩ : ∃ st3, st3 = st2 := ⟨_, rfl⟩
   rw [<- e3] at t3 non3 ⊢
   refine wpS_bind (wpS_rev ?_)
   have t4 : Stp lo st (setArr st3 (mirror (arrOf st3) lo (lo + m) ((lo + m - lo) / 2))) := t3.trans (Stp.mirror (Nat.le_refl _) (by have := t3.size; omega))
   refine wpS_bind (wpS_ascL L (t4.1.trans hk) (t4.all hS) (by have := t4.size; omega) (by omega) hm2 ?_ fun q hq1 hq2 hsq _ => ?_)
   ·intro i j hij hj
    show O.kle (ke key (mirror (arrOf st3) lo (lo + m) ((lo + m - lo) / 2)) (lo + i)) (ke key (mirror (arrOf st3) lo (lo + m) ((lo + m - lo) / 2)) (lo + j))
    rw [ke_mirror (by have := t3.size; omega), ke_mirror (by have := t3.size; omega), if_pos (by omega), if_pos (by omega), show lo + (lo + m) - 1 - (lo + i) = lo + (m - 1 - i) by omega, show lo + (lo + m) - 1 - (lo + j) = lo + (m - 1 - j) by omega]
    exact non3 _ _ (by omega) (by omega)
   ·exact wpS_pure (h q _ t4 (by omega) hq2 hsq)
theorem wpS_binSort (L : LtOk M A E s O key kd S) {st : SortSt} {lo n ok : Nat} {Q : Bool -> SortSt -> Prop} (hk : kindOf st = kd) (hS : ∀ x ∈ (arrOf st).toList, S x) (hn : lo + n <= (arrOf st).size) (hok : ok <= n) (hs : SrtI O key (arrOf st) lo ok)
  (h : ∀ st', Stp lo st st' -> SrtI O key (arrOf st') lo n -> Q true st') : wpS M A E s (binarySort' lo n ok) Q st := by
 rw [binarySort'_eq]
 refine wpS_bind (wpS_mono (wpS_forRange (I := fun k c st' => c = (none, ()) /\ Stp lo st st' /\ SrtI O key (arrOf st') lo (min k n))
  (Q := fun c st' => c = (none, ()) /\ Stp lo st st' /\ SrtI O key (arrOf st') lo n) ?_ ?_ ?_) ?_)
 ·rintro k c st' hak hkn ⟨rfl, hst, hs'⟩
  rw [show min k n = k by omega] at hs'
  have hz := hst.size
  have hk' := hst.1.trans hk
  have hS' := hst.all hS
  refine wpS_bind (wpS_mono (wpS_forRange (I := fun x c st'' => st'' = st' /\ ∃ l r, c = (none, l, r) /\ l <= r /\ r <= k /\ r - l <= k - x /\
    (∀ i, i < l -> O.kle (ke key (arrOf st') (lo + i)) (ke key (arrOf st') (lo + k))) /\ (∀ i, r <= i -> i < k -> O.klt (ke key (arrOf st') (lo + k)) (ke key (arrOf st') (lo + i))))
   (Q := fun c st'' => st'' = st' /\ ∃ l r, c = (none, l, r) /\ l <= k /\
    (∀ i, i < l -> O.kle (ke key (arrOf st') (lo + i)) (ke key (arrOf st') (lo + k))) /\ (∀ i, l <= i -> i < k -> O.klt (ke key (arrOf st') (lo + k)) (ke key (arrOf st') (lo + i)))) ?_ ?_ ⟨rfl, 0, k, rfl, by omega, by omega, by omega, fun i hi => by omega, fun i h1 h2 => by omega⟩) ?_)
  ·rintro x c st'' _ hxk ⟨rfl, l, r, rfl, hlr, hrk, hm, hlo, hhi⟩
   dsimp only
   by_cases hge : l >= r
   ·rw [if_pos hge]
    have : l = r := by omega
    subst this
    exact wpS_pure ⟨rfl, l, l, rfl, hrk, hlo, hhi⟩
   ·rw [if_neg hge]
    refine wpS_bind (wpS_lt2 L hk' hS' (by omega) (by omega) ?_)
    dsimp only
    cases hless : O.blt (ke key (arrOf st'') (lo + k)) (ke key (arrOf st'') (lo + (l + r) / 2)) with
    | true =>
     rw [if_pos rfl]
     refine wpS_pure ⟨rfl, l, (l + r) / 2, rfl, by omega, by omega, by omega, hlo, fun i h1 h2 => ?_⟩
     exact KeyOrd.klt_of_klt_of_kle hless (hs' _ _ h1 h2)
    | false =>
     rw [if_neg (by simp)]
     refine wpS_pure ⟨rfl, (l + r) / 2 + 1, r, rfl, by omega, by omega, by omega, fun i h1 => ?_, hhi⟩
     exact KeyOrd.kle_trans (hs' i ((l + r) / 2) (by omega) (by omega)) (show O.kle _ _ from hless)
  ·rintro c st'' ⟨rfl, l, r, rfl, hlr, hrk, hm, hlo, hhi⟩
   have : l = r := by omega
   subst this
   exact ⟨rfl, l, l, rfl, hrk, hlo, hhi⟩
  ·rintro c st'' ⟨rfl, l, r, rfl, hlk, hlo, hhi⟩
   dsimp only
   rw [moveDown'_eq]
   refine wpS_bind (wpS_modify (wpS_pure ⟨rfl, hst.trans (Stp.bubble (by omega) (by omega) (by omega)), ?_⟩))
   rw [show min (k + 1) n = k + 1 by omega]
   have hks : lo + k < (arrOf st'').size := by omega
   intro i j hij hj
   show O.kle (ke key (bubble (arrOf st'') (lo + k) (lo + k - (lo + l))) (lo + i)) (ke key (bubble (arrOf st'') (lo + k) (lo + k - (lo + l))) (lo + j))
   rw [ke_bubble hks (by omega), ke_bubble hks (by omega), show lo + k - (lo + k - (lo + l)) = lo + l by omega]
   have shf : ∀ i, l < i -> lo + i - 1 = lo + (i - 1) := fun i hi => by omega
   repeat' split
   all_goals first
    | (exfalso; omega)
    | exact KeyOrd.kle_refl _
    | exact hlo _ (by omega)
    | exact hs' _ _ (by omega) (by omega)
    | (rw [shf j (by omega)]; exact KeyOrd.kle_of_klt (hhi _ (by omega) (by omega)))
    | (rw [shf j (by omega)]; exact hs' _ _ (by omega) (by omega))
    | (rw [shf i (by omega), shf j (by omega)]; exact hs' _ _ (by omega) (by omega))
    | (rw [shf i (by omega)]; exact hs' _ _ (by omega) (by omega))
 ·rintro c st' ⟨hc, hst, hs'⟩
  refine ⟨hc, hst, ?_⟩
  rwa [show min (max (max ok 1) n) n = n by omega] at hs'
 ·refine ⟨rfl, Stp.refl _ _, fun i j hij hj => ?_⟩
  by_cases h1 : ok = 0
  ·have : i = j := by omega
   subst this; exact KeyOrd.kle_refl _
  ·exact hs i j hij (by omega)
 ·rintro c st' ⟨rfl, hst, hs'⟩
  exact wpS_pure (h st' hst hs')
end
section
variable {M : Model} {A : Around} {E : Value -> Shared -> Prop} {s : Shared} {O : KeyOrd} {key : Keyed -> O.α} {kd : SortKind} {S : Keyed -> Prop}
def offs : List (List Keyed) -> Nat -> List (Nat × Nat)
 | [], _ => []
 | g :: gs, o => (o, g.length) :: offs gs (o + g.length)
theorem offs_app : ∀ (a b : List (List Keyed)) (o : Nat), offs (a ++ b) o = offs a o ++ offs b (o + a.flatten.length)
 | [], b, o => by simp [offs]
 | g :: gs, b, o => by simp [offs, offs_app gs b, Nat.add_assoc]
theorem offs_len : ∀ (a : List (List Keyed)) (o : Nat), (offs a o).length = a.length
 | [], o => rfl
 | g :: gs, o => by simp [offs, offs_len gs]
structure PI (O : KeyOrd) (key : Keyed -> O.α) (kd : SortKind) (a₀ : Array Keyed) (st : SortSt) (segs : List (List Keyed)) (rest : List Keyed) : Prop where
 kind : kindOf st = kd
 fail : failedOf st = none
 perm : (arrOf st).Perm a₀
 arr : (arrOf st).toList = segs.flatten ++ rest
 srt : ∀ g ∈ segs, 1 <= g.length /\ g.Pairwise (RK O key)
 pend : (pendingOf st).toList.map (fun p => (p.1, p.2.1)) = offs segs 0
theorem PI.psize {a₀ : Array Keyed} {st : SortSt} {segs : List (List Keyed)} {rest : List Keyed} (h : PI O key kd a₀ st segs rest) : (pendingOf st).size = segs.length := by
 have := congrArg List.length h.pend
 rw [List.length_map, offs_len, Array.length_toList] at this
 exact this
theorem PI.size {a₀ : Array Keyed} {st : SortSt} {segs : List (List Keyed)} {rest : List Keyed} (h : PI O key kd a₀ st segs rest) : a₀.size = segs.flatten.length + rest.length := by
 rw [<- h.perm.size_eq, <- Array.length_toList, h.arr, List.length_append]
theorem segs_len : ∀ {segs : List (List Keyed)}, (∀ g ∈ segs, 1 <= g.length /\ g.Pairwise (RK O key)) -> segs.length <= segs.flatten.length
 | [], _ => Nat.le_refl _
 | g :: gs, h => by
  have := segs_len (segs := gs) fun x hx => h x (List.mem_cons_of_mem _ hx)
  have := (h g List.mem_cons_self).1
  simp
  simp at *
  omega
theorem wpS_mergePI (L : LtOk M A E s O key kd S) {a₀ : Array Keyed} (hS : ∀ x ∈ a₀.toList, S x) {st : SortSt} {segs : List (List Keyed)} {rest : List Keyed} {i : Nat} {Q : Bool -> SortSt -> Prop} (h : PI O key kd a₀ st segs rest) (hi : i + 1 < segs.length)
  (q : ∀ st' segs', PI O key kd a₀ st' segs' rest -> segs'.length + 1 = segs.length -> segs'.flatten.length = segs.flatten.length -> Q true st') : wpS M A E s (mergeAt' i) Q st := by
 obtain ⟨S1, X, Y, S2, e, hl⟩ : ∃ S1 X Y S2, segs = S1 ++ X :: Y :: S2 /\ S1.length = i := by
  refine ⟨segs.take i, segs[i], segs[i + 1], segs.drop (i + 2), ?_, by rw [List.length_take]; omega⟩
  rw [<- List.drop_eq_getElem_cons (i := i + 1) (by omega), <- List.drop_eq_getElem_cons (i := i) (by omega), List.take_append_drop]
 subst e
 have hp := h.pend
 rw [offs_app, Nat.zero_add] at hp
 obtain ⟨PA, PR, e1, e2, e3⟩ := List.map_eq_append_iff.mp hp
 simp only [offs] at e3
 obtain ⟨p1, PR1, e4, e5, e6⟩ := List.map_eq_cons_iff.mp e3
 obtain ⟨p2, PB, e7, e8, e9⟩ := List.map_eq_cons_iff.mp e6
 obtain ⟨sa, na, pw⟩ := p1
 obtain ⟨sb, nb, pw2⟩ := p2
 cases e5
 cases e8
 have hPA : PA.length = i := by
  have := congrArg List.length e2
  rw [List.length_map, offs_len] at this
  omega
 have hX := h.srt X (by simp)
 have hY := h.srt Y (by simp)
 have ep : (pendingOf st).toList = PA ++ (S1.flatten.length, X.length, pw) :: (S1.flatten.length + X.length, Y.length, pw2) :: PB := by rw [e1, e4, e7]; rfl
 refine wpS_mergeAt (P := S1.flatten) (X := X) (Y := Y) (T := S2.flatten ++ rest) L h.kind h.fail (by rw [h.arr]; simp) (fun x hx => hS x ((Array.perm_iff_toList_perm.mp h.perm).mem_iff.mp hx)) ep hPA rfl rfl rfl rfl hX.1 hY.1 hX.2 hY.2 fun Z st' z1 z2 z3 z4 z5 z6 => ?_
 have zl : Z.length = X.length + Y.length := by rw [z2.length_eq, List.length_append]
 refine q st' (S1 ++ Z :: S2) ⟨z5, z6, ?_, by rw [z3]; simp, ?_, ?_⟩ (by simp; omega) (by simp; omega)
 ·refine Array.perm_iff_toList_perm.mpr (List.Perm.trans ?_ (Array.perm_iff_toList_perm.mp h.perm))
  rw [z3, h.arr]
  have e : (S1 ++ X :: Y :: S2).flatten ++ rest = S1.flatten ++ (X ++ Y) ++ (S2.flatten ++ rest) := by simp
  rw [e]
  exact List.Perm.append_right _ (List.Perm.append_left _ z2)
 ·intro g hg
  rcases List.mem_append.mp hg with hg | hg
  ·exact h.srt g (by simp [hg])
  ·rcases List.mem_cons.mp hg with rfl | hg
   ·exact ⟨by have := hX.1; omega, z1⟩
   ·exact h.srt g (by simp [hg])
 ·rw [z4, List.map_append, List.map_cons, e2, e9, offs_app, Nat.zero_add]
  simp only [offs]
  rw [zl, Nat.add_assoc]
theorem run_list {arr : Array Keyed} {lo n : Nat} (h : SrtI O key arr lo n) : ((arr.toList.drop lo).take n).Pairwise (RK O key) := by
 rw [List.pairwise_iff_getElem]
 intro i j hi hj hij
 rw [List.length_take, List.length_drop] at hi hj
 have a1 : arr[lo + i]? = some ((arr.toList.drop lo).take n)[i] := by
  rw [<- Array.getElem?_toList]
  simp
 have a2 : arr[lo + j]? = some ((arr.toList.drop lo).take n)[j] := by
  rw [<- Array.getElem?_toList]
  simp
 have := h i j (by omega) (by omega)
 rw [ke_of a1, ke_of a2] at this
 exact this
theorem PI.push {a₀ : Array Keyed} {st st' : SortSt} {segs : List (List Keyed)} {rest : List Keyed} {n : Nat} (h : PI O key kd a₀ st segs rest) (hr : n <= rest.length) (t : Stp segs.flatten.length st st') (hs : SrtI O key (arrOf st') segs.flatten.length n) :
  ∃ run rest', run.length = n /\ rest'.length + n = rest.length /\ PI O key kd a₀ st' segs (run ++ rest') /\ run.Pairwise (RK O key) := by
 have hz := t.size
 have hz2 : (arrOf st).size = segs.flatten.length + rest.length := by rw [<- Array.length_toList, h.arr, List.length_append]
 have e0 : (arrOf st').toList.take segs.flatten.length = segs.flatten := by
  apply List.ext_getElem?
  intro i
  by_cases hi : i < segs.flatten.length
  ·rw [List.getElem?_take, if_pos hi, Array.getElem?_toList, t.2.2.2.2 i hi, <- Array.getElem?_toList, h.arr, List.getElem?_append_left hi]
  ·rw [List.getElem?_eq_none (by rw [List.length_take]; omega), List.getElem?_eq_none (by omega)]
 have e1 := List.take_append_drop segs.flatten.length (arrOf st').toList
 have e2 := List.take_append_drop n ((arrOf st').toList.drop segs.flatten.length)
 refine ⟨((arrOf st').toList.drop segs.flatten.length).take n, ((arrOf st').toList.drop segs.flatten.length).drop n, ?_, ?_, ⟨t.1.trans h.kind, t.2.1.trans h.fail, t.2.2.2.1.trans h.perm, ?_, h.srt, ?_⟩, run_list hs⟩
 ·rw [List.length_take, List.length_drop, Array.length_toList]; omega
 ·rw [List.length_drop, List.length_drop, Array.length_toList]; omega
 ·rw [e2]
  rw [e0] at e1
  exact e1.symm
 ·rw [t.2.2.1]; exact h.pend
theorem wpS_runs (L : LtOk M A E s O key kd S) {a₀ : Array Keyed} (hS : ∀ x ∈ a₀.toList, S x) {st : SortSt} {Q : Unit -> SortSt -> Prop} (hk : kindOf st = kd) (hf : failedOf st = none) (ha : arrOf st = a₀) (hp : pendingOf st = #[])
  (h : ∀ st', (arrOf st').Perm a₀ -> failedOf st' = none -> (arrOf st').toList.Pairwise (RK O key) -> Q () st') : wpS M A E s sortRuns' Q st := by
 rw [sortRuns'_eq]
 refine wpS_bind (wpS_get ?_)
 dsimp only
 rw [ha]
 have pi0 : PI O key kd a₀ st [] a₀.toList := ⟨hk, hf, ha ▸ Array.Perm.refl _, by rw [ha]; rfl, fun _ h => (by cases h), by rw [hp]; rfl⟩
 refine wpS_bind (wpS_mono (wpS_forRange
  (I := fun x c st' => ∃ lo, c = (none, lo) /\ ∃ segs rest, lo = segs.flatten.length /\ PI O key kd a₀ st' segs rest /\ (x <= lo \/ a₀.size <= lo))
  (Q := fun c st' => ∃ lo, c = (none, lo) /\ ∃ segs rest, lo = segs.flatten.length /\ PI O key kd a₀ st' segs rest /\ a₀.size <= lo) ?_ ?_ ⟨0, rfl, [], a₀.toList, rfl, pi0, .inl (Nat.le_refl _)⟩) ?_)
 ·rintro x c st' _ hx ⟨lo, rfl, segs, rest, rfl, pi, hxl⟩
  dsimp only
  by_cases c1 : segs.flatten.length >= a₀.size
  ·rw [if_pos c1]
   exact wpS_pure ⟨_, rfl, segs, rest, rfl, pi, c1⟩
  rw [if_neg c1]
  have hz := pi.size
  have hS1 : ∀ x ∈ (arrOf st').toList, S x := fun x hx => hS x ((Array.perm_iff_toList_perm.mp pi.perm).mem_iff.mp hx)
  have hsz := pi.perm.size_eq
  refine wpS_bind (wpS_cntRun L pi.kind hS1 (by omega) (by omega) fun m st2 t2 hm1 hm2 hs2 => ?_)
  dsimp only
  have hz2 := t2.size
  by_cases c2 : m < minRun' a₀.size a₀.size 0
  ·rw [if_pos c2]
   refine wpS_bind (wpS_lift (wpAny_rule ⟨rfl, ?_⟩))
   refine wpS_bind (wpS_binSort L (t2.1.trans pi.kind) (t2.all hS1) (by omega) (by omega) hs2 fun st3 t3 hs3 => ?_)
   rw [if_neg (by simp)]
   have n1 : 1 <= min (a₀.size - segs.flatten.length) (minRun' a₀.size a₀.size 0) := by omega
   have n2 : min (a₀.size - segs.flatten.length) (minRun' a₀.size a₀.size 0) <= rest.length := by omega
   obtain ⟨run, rest', hrl, hrl2, pi4, hrun⟩ := pi.push n2 (t2.trans t3) hs3
   generalize min (a₀.size - segs.flatten.length) (minRun' a₀.size a₀.size 0) = n at *
   obtain ⟨st4, e4⟩ : ∃ st4, st4 = st3 := ⟨_, rfl⟩
   rw [<- e4] at pi4 ⊢
   refine wpS_bind (wpS_get ?_)
   cases hback : (pendingOf st4).back? with
   | none =>
    dsimp only
    have pi5 := pi4
    have hfl5 : segs.flatten.length = segs.flatten.length := rfl
    obtain ⟨segs5, e5⟩ : ∃ segs5, segs5 = segs := ⟨_, rfl⟩
    obtain ⟨st5, es5⟩ : ∃ st5, st5 = st4 := ⟨_, rfl⟩
    rw [<- e5, <- es5] at pi5
    have hfl5 : segs5.flatten.length = segs.flatten.length := by rw [e5]
    rw [<- es5]
    refine wpS_bind (wpS_modify (wpS_pure ?_))
    refine ⟨_, rfl, segs5 ++ [run], rest', by rw [List.flatten_append, List.length_append, List.flatten_cons, List.flatten_nil, List.append_nil]; omega, ⟨pi5.kind, pi5.fail, pi5.perm, ?_, ?_, ?_⟩, by omega⟩
    ·show (arrOf st5).toList = _
     rw [pi5.arr]; simp
    ·intro g hg
     rcases List.mem_append.mp hg with hg | hg
     ·exact pi5.srt g hg
     ·rw [List.mem_singleton.mp hg]; exact ⟨by omega, hrun⟩
    ·show ((pendingOf st5).push _).toList.map _ = _
     rw [Array.toList_push, List.map_append, pi5.pend, offs_app, Nat.zero_add, hfl5]
     simp [offs, hrl]
   | some p =>
    obtain ⟨s1, n1, p1⟩ := p
    dsimp only
    refine wpS_bind (wpS_mono (wpS_forRange (I := fun _ c st5 => c = (none, ()) /\ ∃ segs5, PI O key kd a₀ st5 segs5 (run ++ rest') /\ segs5.flatten.length = segs.flatten.length)
     (Q := fun c st5 => c = (none, ()) /\ ∃ segs5, PI O key kd a₀ st5 segs5 (run ++ rest') /\ segs5.flatten.length = segs.flatten.length) ?_ (fun _ _ z => z) ⟨rfl, segs, pi4, rfl⟩) ?_)
    ·rintro y c st5 _ _ ⟨rfl, segs5, pi5, hfl5⟩
     refine wpS_bind (wpS_get ?_)
     by_cases c5 : (pendingOf st5).size > 1
     ·rw [if_pos c5]
      cases hp : (pendingOf st5)[(pendingOf st5).size - 2]? with
      | none => exact wpS_pure ⟨rfl, segs5, pi5, hfl5⟩
      | some pp =>
       obtain ⟨w1, w2, w3⟩ := pp
       dsimp only
       split
       ·exact wpS_pure ⟨rfl, segs5, pi5, hfl5⟩
       ·refine wpS_bind (wpS_mergePI L hS pi5 (by rw [<- pi5.psize]; omega) fun st6 segs6 pi6 l6 f6 => ?_)
        rw [if_neg (by simp)]
        exact wpS_pure ⟨rfl, segs6, pi6, f6.trans hfl5⟩
     ·rw [if_neg c5]
      exact wpS_pure ⟨rfl, segs5, pi5, hfl5⟩
    ·rintro c st5 ⟨rfl, segs5, pi5', hfl5⟩
     dsimp only
     refine wpS_bind (wpS_modify ?_)
     have pi5 : PI O key kd a₀ (setPending st5 ((pendingOf st5).modify ((pendingOf st5).size - 1) fun x => (x.1, x.2.1, power' a₀.size (2 * s1 + n1) (2 * s1 + n1 + n1 + n) a₀.size))) segs5 (run ++ rest') := by
      refine ⟨pi5'.kind, pi5'.fail, pi5'.perm, pi5'.arr, pi5'.srt, ?_⟩
      show ((pendingOf st5).modify _ _).toList.map _ = _
      rw [<- pi5'.pend, Array.toList_modify]
      apply List.ext_getElem?
      intro i
      rw [List.getElem?_map, List.getElem?_map, List.getElem?_modify]
      cases (pendingOf st5).toList[i]? with
      | none => rfl
      | some x =>
       simp only [Option.map_some]
       split <;> rfl
     generalize setPending st5 ((pendingOf st5).modify ((pendingOf st5).size - 1) fun x => (x.1, x.2.1, power' a₀.size (2 * s1 + n1) (2 * s1 + n1 + n1 + n) a₀.size)) = st5 at *
     refine wpS_bind (wpS_modify (wpS_pure ?_))
     refine ⟨_, rfl, segs5 ++ [run], rest', by rw [List.flatten_append, List.length_append, List.flatten_cons, List.flatten_nil, List.append_nil]; omega, ⟨pi5.kind, pi5.fail, pi5.perm, ?_, ?_, ?_⟩, by omega⟩
     ·show (arrOf st5).toList = _
      rw [pi5.arr]; simp
     ·intro g hg
      rcases List.mem_append.mp hg with hg | hg
      ·exact pi5.srt g hg
      ·rw [List.mem_singleton.mp hg]; exact ⟨by omega, hrun⟩
     ·show ((pendingOf st5).push _).toList.map _ = _
      rw [Array.toList_push, List.map_append, pi5.pend, offs_app, Nat.zero_add, hfl5]
      simp [offs, hrl]
  ·rw [if_neg c2]
   obtain ⟨run, rest', hrl, hrl2, pi4, hrun⟩ := pi.push (by omega) t2 hs2
   obtain ⟨n, en⟩ : ∃ n, n = m := ⟨_, rfl⟩
   rw [<- en] at hrl hrl2 ⊢
   obtain ⟨st4, e4⟩ : ∃ st4, st4 = st2 := ⟨_, rfl⟩
   rw [<- e4] at pi4 ⊢
   refine wpS_bind (wpS_get ?_)
   cases hback : (pendingOf st4).back? with
   | none =>
    dsimp only
    have pi5 := pi4
    have hfl5 : segs.flatten.length = segs.flatten.length := rfl
    obtain ⟨segs5, e5⟩ : ∃ segs5, segs5 = segs := ⟨_, rfl⟩
    obtain ⟨st5, es5⟩ : ∃ st5, st5 = st4 := ⟨_, rfl⟩
    rw [<- e5, <- es5] at pi5
    have hfl5 : segs5.flatten.length = segs.flatten.length := by rw [e5]
    rw [<- es5]
    refine wpS_bind (wpS_modify (wpS_pure ?_))
    refine ⟨_, rfl, segs5 ++ [run], rest', by rw [List.flatten_append, List.length_append, List.flatten_cons, List.flatten_nil, List.append_nil]; omega, ⟨pi5.kind, pi5.fail, pi5.perm, ?_, ?_, ?_⟩, by omega⟩
    ·show (arrOf st5).toList = _
     rw [pi5.arr]; simp
    ·intro g hg
     rcases List.mem_append.mp hg with hg | hg
     ·exact pi5.srt g hg
     ·rw [List.mem_singleton.mp hg]; exact ⟨by omega, hrun⟩
    ·show ((pendingOf st5).push _).toList.map _ = _
     rw [Array.toList_push, List.map_append, pi5.pend, offs_app, Nat.zero_add, hfl5]
     simp [offs, hrl]
   | some p =>
    obtain ⟨s1, n1, p1⟩ := p
    dsimp only
    refine wpS_bind (wpS_mono (wpS_forRange (I := fun _ c st5 => c = (none, ()) /\ ∃ segs5, PI O key kd a₀ st5 segs5 (run ++ rest') /\ segs5.flatten.length = segs.flatten.length)
     (Q := fun c st5 => c = (none, ()) /\ ∃ segs5, PI O key kd a₀ st5 segs5 (run ++ rest') /\ segs5.flatten.length = segs.flatten.length) ?_ (fun _ _ z => z) ⟨rfl, segs, pi4, rfl⟩) ?_)
    ·rintro y c st5 _ _ ⟨rfl, segs5, pi5, hfl5⟩
     refine wpS_bind (wpS_get ?_)
     by_cases c5 : (pendingOf st5).size > 1
     ·rw [if_pos c5]
      cases hp : (pendingOf st5)[(pendingOf st5).size - 2]? with
      | none => exact wpS_pure ⟨rfl, segs5, pi5, hfl5⟩
      | some pp =>
       obtain ⟨w1, w2, w3⟩ := pp
       dsimp only
       split
       ·exact wpS_pure ⟨rfl, segs5, pi5, hfl5⟩
       ·refine wpS_bind (wpS_mergePI L hS pi5 (by rw [<- pi5.psize]; omega) fun st6 segs6 pi6 l6 f6 => ?_)
        rw [if_neg (by simp)]
        exact wpS_pure ⟨rfl, segs6, pi6, f6.trans hfl5⟩
     ·rw [if_neg c5]
      exact wpS_pure ⟨rfl, segs5, pi5, hfl5⟩
    ·rintro c st5 ⟨rfl, segs5, pi5', hfl5⟩
     dsimp only
     refine wpS_bind (wpS_modify ?_)
     have pi5 : PI O key kd a₀ (setPending st5 ((pendingOf st5).modify ((pendingOf st5).size - 1) fun x => (x.1, x.2.1, power' a₀.size (2 * s1 + n1) (2 * s1 + n1 + n1 + n) a₀.size))) segs5 (run ++ rest') := by
      refine ⟨pi5'.kind, pi5'.fail, pi5'.perm, pi5'.arr, pi5'.srt, ?_⟩
      show ((pendingOf st5).modify _ _).toList.map _ = _
      rw [<- pi5'.pend, Array.toList_modify]
      apply List.ext_getElem?
      intro i
      rw [List.getElem?_map, List.getElem?_map, List.getElem?_modify]
      cases (pendingOf st5).toList[i]? with
      | none => rfl
      | some x =>
       simp only [Option.map_some]
       split <;> rfl
     generalize setPending st5 ((pendingOf st5).modify ((pendingOf st5).size - 1) fun x => (x.1, x.2.1, power' a₀.size (2 * s1 + n1) (2 * s1 + n1 + n1 + n) a₀.size)) = st5 at *
     refine wpS_bind (wpS_modify (wpS_pure ?_))
     refine ⟨_, rfl, segs5 ++ [run], rest', by rw [List.flatten_append, List.length_append, List.flatten_cons, List.flatten_nil, List.append_nil]; omega, ⟨pi5.kind, pi5.fail, pi5.perm, ?_, ?_, ?_⟩, by omega⟩
     ·show (arrOf st5).toList = _
      rw [pi5.arr]; simp
     ·intro g hg
      rcases List.mem_append.mp hg with hg | hg
      ·exact pi5.srt g hg
      ·rw [List.mem_singleton.mp hg]; exact ⟨by omega, hrun⟩
     ·show ((pendingOf st5).push _).toList.map _ = _
      rw [Array.toList_push, List.map_append, pi5.pend, offs_app, Nat.zero_add, hfl5]
      simp [offs, hrl]
 ·rintro c st' ⟨lo, rfl, segs, rest, e, pi, hxl⟩
  exact ⟨lo, rfl, segs, rest, e, pi, by omega⟩
 ·rintro c st' ⟨lo, rfl, segs, rest, e, pi, hxl⟩
  dsimp only
  refine wpS_bind (wpS_mono (wpS_forRange
   (I := fun x c st2 => c = (none, ()) /\ ∃ segs, PI O key kd a₀ st2 segs rest /\ a₀.size <= segs.flatten.length /\ (segs.length + x <= a₀.size \/ segs.length <= 1))
   (Q := fun c st2 => c = (none, ()) /\ ∃ segs, PI O key kd a₀ st2 segs rest /\ a₀.size <= segs.flatten.length /\ segs.length <= 1) ?_ ?_ ⟨rfl, segs, pi, by omega, .inl (by have := segs_len pi.srt; have := pi.size; omega)⟩) ?_)
  ·rintro x c st2 _ hx ⟨rfl, segs2, pi2, hl2, hc⟩
   refine wpS_bind (wpS_get ?_)
   by_cases c1 : (pendingOf st2).size <= 1
   ·rw [if_pos c1]
    exact wpS_pure ⟨rfl, segs2, pi2, hl2, by rw [<- pi2.psize]; exact c1⟩
   ·rw [if_neg c1]
    have hps := pi2.psize
    refine wpS_bind (wpS_mergePI L hS pi2 ?_ fun st3 segs3 pi3 l3 f3 => ?_)
    ·have two : ∀ bb : Bool, (if bb = true then (pendingOf st2).size - 2 - 1 else (pendingOf st2).size - 2) + 1 < segs2.length := fun bb => by cases bb <;> simp <;> omega
     exact two _
    ·rw [if_neg (by simp)]
     exact wpS_pure ⟨rfl, segs3, pi3, by omega, by omega⟩
  ·rintro c st2 ⟨rfl, segs2, pi2, hl2, hc⟩
   refine ⟨rfl, segs2, pi2, hl2, ?_⟩
   rcases hc with hc | hc
   ·omega
   ·exact hc
  ·rintro c st2 ⟨rfl, segs2, pi2, hl2, hc⟩
   refine wpS_pure (h st2 pi2.perm pi2.fail ?_)
   have hr : rest = [] := by have := pi2.size; exact List.length_eq_zero_iff.mp (by omega)
   rw [pi2.arr, hr, List.append_nil]
   match segs2, hc, pi2.srt with
   | [], _, _ => exact List.Pairwise.nil
   | [g], _, hg => simpa using (hg g List.mem_cons_self).2
end
end PyProof.Rows
namespace L2
open PySem PySem.Spec PyProof.Rows
section
variable {prog : Program} {w : World} {A : Around} {E : Value -> Shared -> Prop} {s : Shared}
theorem pw_short {α : Type} {R : α -> α -> Prop} : ∀ {l : List α}, l.length < 2 -> l.Pairwise R
 | [], _ => List.Pairwise.nil
 | [_], _ => List.pairwise_singleton ..
 | _ :: _ :: _, h => absurd h (by simp)
def sameBut (a : Addr) (h h' : Heap) : Prop := ∀ b o, b ≠ a -> h.get? b = some o -> h'.get? b = some o
theorem sort_any {O : KeyOrd} {key : Keyed -> O.α} {kd : SortKind} {a : Addr} {vs : List Value} {n : Nat} {P : Fin -> Shared -> Prop} (ho : s.heap.get? a = some (seqObj "list" vs.toArray n)) (hz : vs.length <= 1000000)
  (hkk : ∀ h' : Heap, sameBut a s.heap h' -> 2 <= vs.length -> ∀ Q : SortKind -> Shared -> Prop, Q kd { s with heap := h' } -> wpAny (model prog w) A (keyKind' vs.toArray) Q E { s with heap := h' })
  (L : ∀ h' : Heap, sameBut a s.heap h' -> LtOk (model prog w) A E { s with heap := h' } O key kd (fun x => x ∈ (pairsOf vs).toList))
  (h : ∀ out : Array Keyed, out.Perm (pairsOf vs) -> out.toList.Pairwise (RK O key) -> P (.done (.ret .none)) { s with heap := sortedHeap s.heap a vs (out.map (·.2)) }) : wpAny (model prog w) A (Builtin.«list.sort» ⟨[.ref a], []⟩) P E s := by
 have hsl : sizeLine = 16777216 := sizeLine_eq
 have ha : a < s.heap.objs.size := Heap.lt_size ho
 obtain ⟨e1, ho1⟩ : ∃ e1, (s.heap.update a (Obj.mapSeq fun _ => (#[] : Array Value))).get? a = some (seqObj "list" #[] e1) := ⟨_, get?_update_seq ho (fun _ => #[])⟩
 rw [list_sort_plain]
 refine wpAny_bind (listItems_at ho rfl (wpAny_bind (listUpdate_at ho rfl ?_ (by rw [List.size_toArray]; omega) (Nat.zero_le _))))
 refine wpAny_bind (seqEpoch_at ho1 rfl (wpAny_bind (wpAny_newTuple ?_ (by simp; omega))))
 refine wpAny_bind (wpAny_newList (wpAny_holding ?_))
 have sm : sameBut a s.heap (((s.heap.update a (Obj.mapSeq fun _ => #[])).push (seqObj "tuple" vs.toArray 0)).push (seqObj "list" #[] 0)) := fun b o hb e => Heap.get?_push_of_some _ (Heap.get?_push_of_some _ ((Heap.get?_update_other _ _ (Ne.symm hb)).trans e))
 have ho6 : (((s.heap.update a (Obj.mapSeq fun _ => #[])).push (seqObj "tuple" vs.toArray 0)).push (seqObj "list" #[] 0)).get? a = some (seqObj "list" #[] e1) := Heap.get?_push_of_some _ (Heap.get?_push_of_some _ ho1)
 show wpAny (model prog w) A _ P E { s with heap := ((s.heap.update a (Obj.mapSeq fun _ => #[])).push (seqObj "tuple" vs.toArray 0)).push (seqObj "list" #[] 0) }
 dsimp only
 have hs2 : vs.toArray.size = vs.length := by simp
 by_cases h2 : vs.toArray.size < 2
 ·rw [if_pos h2, if_pos h2]
  refine wpAny_bind (wpAny_pure ?_)
  rw [StateT.run_pure]
  refine wpAny_bind (wpAny_pure ?_)
  dsimp only
  refine wpAny_bind (seqEpoch_at ho6 rfl (wpAny_bind (listUpdate_at ho6 rfl ?_ (Nat.zero_le _) (by rw [Array.size_map]; show (pairsOf vs).size <= sizeLine + 1; rw [pairsOf_size]; omega))))
  simp only [bne_self_eq_false, Bool.false_eq_true, if_false]
  refine wpAny_pure (h (pairsOf vs) (Array.Perm.refl _) ?_)
  exact pw_short (by rw [Array.length_toList, pairsOf_size]; omega)
 ·rw [if_neg h2, if_neg h2]
  refine wpAny_bind (hkk _ sm (by omega) _ ?_)
  refine wpAny_bind (wpAny_mono (wpS_runs (L _ sm) (a₀ := pairsOf vs) (fun x hx => hx) (st := SortSt.mk' kd (vs.toArray.zip vs.toArray) #[] 7 none)
   (Q := fun _ st' => (arrOf st').Perm (pairsOf vs) /\ failedOf st' = none /\ (arrOf st').toList.Pairwise (RK O key)) rfl rfl rfl rfl fun st' a1 a2 a3 => ⟨a1, a2, a3⟩) ?_ fun _ _ e => e)
  rintro ⟨⟨⟩, st'⟩ s' ⟨rfl, hp, hf, hs⟩
  dsimp only
  have hsz : (arrOf st').size = vs.length := hp.size_eq.trans (pairsOf_size _)
  refine wpAny_bind (seqEpoch_at ho6 rfl (wpAny_bind (listUpdate_at ho6 rfl ?_ (Nat.zero_le _) (by refine Nat.le_trans (Nat.le_of_eq ((Array.size_map ..).trans hsz)) ?_; omega))))
  rw [hf]
  simp only [bne_self_eq_false, Bool.false_eq_true, if_false]
  exact wpAny_pure (h _ hp hs)
theorem sorted_any {O : KeyOrd} {key : Keyed -> O.α} {kd : SortKind} {l : Addr} {vs : List Value} {Q : Value -> Shared -> Prop} (hl : s.heap.IsList l vs.toArray) (hz : vs.length <= 1000000)
  (hkk : ∀ (A : Around) (h' : Heap), (∀ b o, s.heap.get? b = some o -> h'.get? b = some o) -> 2 <= vs.length -> ∀ (E : Value -> Shared -> Prop) (Q : SortKind -> Shared -> Prop), Q kd { s with heap := h' } -> wpAny (model prog w) A (keyKind' vs.toArray) Q E { s with heap := h' })
  (L : ∀ (A' : Around) (h' : Heap) (E : Value -> Shared -> Prop), A'.units <= A.units + 4 -> (∀ b o, s.heap.get? b = some o -> h'.get? b = some o) -> LtOk (model prog w) A' E { s with heap := h' } O key kd (fun x => x ∈ (pairsOf vs).toList))
  (h : ∀ out : Array Keyed, out.Perm (pairsOf vs) -> out.toList.Pairwise (RK O key) -> Q (.ref (s.heap.objs.size + 1)) { s with heap := sortedAll s.heap vs (out.map (·.2)) }) : wpAny (model prog w) A (call (.builtin "sorted") [.ref l]) Q E s := by
 have hsz : ((s.heap.push (seqObj "list" #[] 0)).update s.heap.objs.size (Obj.mapSeq (· ++ vs.toArray))).objs.size = s.heap.objs.size + 1 := by rw [Heap.size_update, size_push']
 have hoL : (((s.heap.push (seqObj "list" #[] 0)).update s.heap.objs.size (Obj.mapSeq (· ++ vs.toArray))).push (seqObj "list" vs.toArray 0)).get? (s.heap.objs.size + 1) = some (seqObj "list" vs.toArray 0) := hsz ▸ Heap.get?_push_size _ rfl
 have hsl : sizeLine = 16777216 := sizeLine_eq
 refine Calls.call_function_entry kind_sorted plain_sorted entry_sorted (args_sorted1 _) ?_
 unfold Builtin.«sorted»
 refine wpAny_bind (m := checkCount "sorted" 1 1 _) (wpAny_pure (wpAny_bind (collect_list hl ?_ (by omega))))
 refine wpAny_bind (wpAny_newList ?_ (by omega))
 show wpAny _ _ _ _ _ { s with heap := ((s.heap.push (seqObj "list" #[] 0)).update s.heap.objs.size (Obj.mapSeq (· ++ vs.toArray))).push (seqObj "list" vs.toArray 0) }
 rw [hsz]
 have old : ∀ b o, s.heap.get? b = some o -> (((s.heap.push (seqObj "list" #[] 0)).update s.heap.objs.size (Obj.mapSeq (· ++ vs.toArray))).push (seqObj "list" vs.toArray 0)).get? b = some o := fun b o e =>
  Heap.get?_push_of_some _ ((Heap.get?_update_other _ _ (Ne.symm (Nat.ne_of_lt (Heap.lt_size e)))).trans (Heap.get?_push_of_some _ e))
 have ne : ∀ b o, s.heap.get? b = some o -> b ≠ s.heap.objs.size + 1 := fun b o e => Nat.ne_of_lt (Nat.lt_succ_of_lt (Heap.lt_size e))
 refine wpAny_bind (wpAny_holding (wpAny_call_entry slot_list_sort ⟨_, hoL, rfl⟩ entry_list_sort (sort_any (O := O) (key := key) (kd := kd) hoL hz (fun h' k h2 Q q => hkk _ h' (fun b o e => k b o (ne b o e) (old b o e)) h2 _ Q q) (fun h' k => L _ h' _ (by first | (show A.units + 1 <= A.units + 4; omega) | (show A.units + 1 + 1 <= A.units + 4; omega) | (show A.units <= A.units + 4; omega)) fun b o e => k b o (ne b o e) (old b o e)) fun out a1 a2 => ⟨_, rfl, ?_⟩) (args_list_sort _)))
 exact wpAny_pure ⟨_, rfl, h out a1 a2⟩
def lexO : KeyOrd where
 α := List Int
 blt := HT.lexLt
 irrefl := My.lex_irrefl
 trans a b c := My.lex_trans
 negTrans a b c h := by
  cases e : HT.lexLt a b with
  | true => exact .inl rfl
  | false =>
   refine .inr ?_
   cases e2 : HT.lexLt b a with
   | true => exact My.lex_trans e2 h
   | false =>
    have := My.lex_eq e e2
    subst this
    exact h
 total a b h1 h2 := My.lex_eq h1 h2
theorem kat_ints {b : Bool} {fin : Bool} {Q : Bool -> Shared -> Prop} : ∀ {vs ws : List Value} {ns ms : List Int} (i : Nat), IntsAre vs ns -> IntsAre ws ms -> (fin = true ↔ vs.length < ws.length) -> Q (HT.lexLt ns ms) s -> W.KatLex prog w A b fin Q (vs.zip ws) i s
 | _, _, _, _, i, .nil, .nil, hf, h => by
  have : fin = false := by cases fin with | false => rfl | true => exact absurd (hf.mp rfl) (by simp)
  subst this
  exact W.kat_nil h
 | _, _, _, _, i, .nil, .cons c u hw, hf, h => by
  have : fin = true := hf.mpr (by simp)
  subst this
  exact W.kat_nil h
 | _, _, _, _, i, .cons a t hv, .nil, hf, h => by
  have : fin = false := by cases fin with | false => rfl | true => exact absurd (hf.mp rfl) (by simp)
  subst this
  exact W.kat_nil h
 | _, _, _, _, i, .cons a t hv, .cons c u hw, hf, h => by
  rw [HT.lexLt_cons] at h
  rw [List.zip_cons_cons]
  refine W.kat_cons (wpAny_eqBool_int (W.kat_go (fun e => ?_) (fun e => ?_)))
  ·rw [if_pos (eq_of_beq e)] at h
   exact W.kat_yes (kat_ints (i + 1) hv hw (by rw [hf]; simp) h)
  ·rw [if_neg (fun q => by rw [q] at e; simp at e)] at h
   refine W.kat_no ?_
   cases (b && i == 0) with
   | true => exact oneLt_int h
   | false => exact W.kat_one _ _ (lt_int h)
end
end L2
namespace L2
open PySem PySem.Spec PyProof.Rows My
theorem ints_uniq : ∀ {vs : List Value} {ns ms : List Int}, IntsAre vs ns -> IntsAre vs ms -> ns = ms
 | _, _, _, .nil, .nil => rfl
 | _, _, _, .cons n t h, .cons _ _ k => by rw [ints_uniq h k]
theorem kat_firsts_of {h : Heap} {f : Value -> List Int} : ∀ {vs : List Value}, (∀ v ∈ vs, ∃ a o xs n, v = .ref a /\ h.get? a = some o /\ o.cls = .type "tuple" /\ o.data = .seq xs n /\ IntsAre xs.toList (f v) /\ f v ≠ []) -> ∃ fs, W.KatTups h vs fs /\ fs.length = vs.length /\ ∀ v ∈ fs, ∃ n t, v = Value.int n t
 | [], _ => ⟨[], W.KatTups.nil, rfl, fun _ h => (by cases h)⟩
 | v :: vs, H => by
  obtain ⟨a, o, xs, n, e, h1, h2, h3, h4, h5⟩ := H v List.mem_cons_self
  obtain ⟨fs, t, l, k⟩ := kat_firsts_of (vs := vs) fun y hy => H y (List.mem_cons_of_mem _ hy)
  obtain ⟨z, u, hz⟩ : ∃ z u, xs[0]? = some (Value.int z u) := by
   cases hx : xs.toList with
   | nil =>
    rw [hx] at h4
    generalize f v = g at h4 h5
    cases h4
    exact absurd rfl h5
   | cons x r =>
    rw [hx] at h4
    generalize f v = g at h4 h5
    cases h4 with
    | cons z u _ => exact ⟨z, u, by rw [<- Array.getElem?_toList, hx]; rfl⟩
  subst e
  refine ⟨.int z u :: fs, W.KatTups.cons h1 h2 h3 hz t, by simp [l], fun y hy => ?_⟩
  rcases List.mem_cons.mp hy with rfl | hy
  ·exact ⟨z, u, rfl⟩
  ·exact k y hy
section
variable {X : Cx}
theorem call_sortedTT (K : PySem.W.Frag) (hk : X.K = K := by rfl) : CallR X (.builtin "sorted") (fun xs H Q => ∃ (p : Addr) (ys : List V) (L : List (List Int)) (R : V -> List Int -> Prop), xs = [.ref p] /\ SqL K H p ys /\ Bears R ys L /\ (∀ v l, R v l -> ∃ a, v = .ref a /\ SqT K H a (l.map V.int)) /\ (ys.length < 2 \/ ∀ l ∈ L, l ≠ []) /\ ys.length <= 1000000 /\
  ∀ (zs : List V) (M : List (List Int)), Bears R zs M -> M.Perm L -> M.Pairwise (fun a b => HT.lexLt b a = false) -> ∀ l, H l = none -> Q (.ref l) (upd H l (.lst zs))) := by
 subst hk
 intro pins s σ H xs us Q I r h
 obtain ⟨p, ys, L, R, rfl, hq, hb, hR, hne, hz, q⟩ := h
 obtain ⟨u, rfl, ru⟩ := vals1 r
 obtain rfl : u = Value.ref p := ru
 obtain ⟨its, rv, pl, hz'⟩ := I.list hq
 have hyl : ys.length = its.length := rv.length
 have uniq : ∀ {a : Addr} {l m : List Int}, R (.ref a) l -> R (.ref a) m -> l = m := fun {a l m} h1 h2 => by
  obtain ⟨a1, e1, t1⟩ := hR _ _ h1
  obtain ⟨a2, e2, t2⟩ := hR _ _ h2
  cases e1
  cases e2
  obtain ⟨i1, r1, ⟨o1, g1, c1, n1, d1⟩, _⟩ := I.tuple t1
  obtain ⟨i2, r2, ⟨o2, g2, c2, n2, d2⟩, _⟩ := I.tuple t2
  rw [g1] at g2
  cases g2
  rw [d1] at d2
  have e : i1.toArray = i2.toArray := by injection d2
  have e : i1 = i2 := by simpa using congrArg Array.toList e
  subst e
  exact ints_uniq (ints_of_vals r1) (ints_of_vals r2)
 classical
 obtain ⟨f, hf⟩ : ∃ f : Value -> List Int, ∀ (a : Addr) (l : List Int), R (.ref a) l -> f (.ref a) = l := by
  refine ⟨fun v => if h : ∃ l, ∃ a, v = Value.ref a /\ R (.ref a) l then Classical.choose h else [], fun a l hl => ?_⟩
  have ex : ∃ l, ∃ b, Value.ref a = Value.ref b /\ R (.ref b) l := ⟨l, a, rfl, hl⟩
  show (if h : ∃ l, ∃ b, Value.ref a = Value.ref b /\ R (.ref b) l then Classical.choose h else []) = l
  rw [dif_pos ex]
  obtain ⟨b, e, hb⟩ := Classical.choose_spec ex
  cases e
  exact uniq hb hl
 have each : ∀ (i : Nat) (v : Value), its[i]? = some v -> ∃ a, v = .ref a /\ ys[i]? = some (.ref a) /\ R (.ref a) (f v) /\ L[i]? = some (f v) := fun i v e => by
  obtain ⟨hi, hv⟩ := List.getElem?_eq_some_iff.mp e
  obtain ⟨y, ey, ry⟩ := rv.at hi
  rw [hv] at ry
  obtain ⟨l, el, hl⟩ := hb.at ey
  obtain ⟨a, ea, _⟩ := hR _ _ hl
  subst ea
  obtain rfl : v = Value.ref a := ry
  have := hf a l hl
  exact ⟨a, rfl, ey, by rw [this]; exact hl, by rw [this]; exact el⟩
 have eL : L = its.map f := by
  apply List.ext_getElem?
  intro i
  rw [List.getElem?_map]
  cases e : its[i]? with
  | none =>
   have : its.length <= i := List.getElem?_eq_none_iff.mp e
   exact List.getElem?_eq_none (by have := hb.1; omega)
  | some v =>
   obtain ⟨_, _, _, _, el⟩ := each i v e
   rw [el]; rfl
 have tup : ∀ v ∈ its, ∃ a o xs n, v = Value.ref a /\ s.heap.get? a = some o /\ o.cls = .type "tuple" /\ o.data = .seq xs n /\ IntsAre xs.toList (f v) := fun v hv => by
  obtain ⟨i, e⟩ := List.getElem?_of_mem hv
  obtain ⟨a, rfl, _, hr, _⟩ := each i v e
  obtain ⟨a1, e1, t1⟩ := hR _ _ hr
  cases e1
  obtain ⟨i1, r1, ⟨o1, g1, c1, n1, d1⟩, _⟩ := I.tuple t1
  exact ⟨a, o1, _, n1, rfl, g1, c1, d1, by simpa using ints_of_vals r1⟩
 have mem1 : ∀ x ∈ (pairsOf its).toList, x.1 ∈ its /\ x.2 = x.1 := fun x hx => by
  have hx : x ∈ (its.toArray.zip its.toArray).toList := hx
  rw [Array.toList_zip] at hx
  obtain ⟨i, e⟩ := List.getElem?_of_mem hx
  rw [List.getElem?_zip_eq_some] at e
  have e1 : its[i]? = some x.1 := by simpa using e.1
  have e2 : its[i]? = some x.2 := by simpa using e.2
  rw [e1] at e2
  cases x
  cases e2
  exact ⟨List.mem_of_getElem? e1, rfl⟩
 refine sorted_any (O := lexO) (key := fun k => f k.1) (kd := tuples' (Value.type "int" != Value.type "tuple")) pl.isList (by omega) (fun A' h' keep h2 E' Q' q' => ?_) (fun A' h' E' _ keep x y st Q' hx hy hkd q' => ?_) fun out a1 a2 => ?_
 ·have hne' : ∀ v ∈ its, f v ≠ [] := fun v hv => by
   rcases hne with hne | hne
   ·omega
   ·exact hne _ (by rw [eL]; exact List.mem_map_of_mem hv)
  obtain ⟨fs, t, l, k⟩ := kat_firsts_of (h := h') (f := f) (vs := its) fun v hv => by
   obtain ⟨a, o, xs, n, e1, e2, e3, e4, e5⟩ := tup v hv
   exact ⟨a, o, xs, n, e1, keep a o e2, e3, e4, e5, hne' v hv⟩
  refine W.kat_kind (T := .type "int") t (by omega) (fun v hv => ?_) rfl q'
  obtain ⟨n, t, rfl⟩ := k v hv
  exact W.Looks.now
 ·obtain ⟨ax, ox, xx, nx, e1, e2, e3, e4, e5⟩ := tup x.1 (mem1 x hx).1
  obtain ⟨ay, oy, xy, ny, g1, g2, g3, g4, g5⟩ := tup y.1 (mem1 y hy).1
  rw [lt'_eq]
  refine wpS_bind (wpS_get ?_)
  rw [hkd, e1, g1]
  refine wpS_bind (wpS_lift (wpAny_attempt (W.kat_lt (keep ax ox e2) e4 (keep ay oy g2) g4 (kat_ints 0 e5 g5 (by simp) ⟨rfl, ?_⟩))))
  exact wpS_pure q'
 ·obtain ⟨e, he⟩ := sortedAll_at s.heap its (out.map (·.2))
  have po : out.toList.Perm (pairsOf its).toList := Array.perm_iff_toList_perm.mp a1
  have zip2 : ((pairsOf its).toList.map (·.2)) = its := by
   show ((its.toArray.zip its.toArray).toList.map (·.2)) = its
   rw [Array.toList_zip]
   exact List.map_snd_zip (by simp)
  have pv : (out.map (·.2)).toList.Perm its := by
   rw [Array.toList_map]
   exact zip2 ▸ po.map (·.2)
  have mo : ∀ v ∈ (out.map (·.2)).toList, ∃ a, v = Value.ref a /\ R (.ref a) (f v) := fun v hv => by
   obtain ⟨i, e⟩ := List.getElem?_of_mem (pv.mem_iff.mp hv)
   obtain ⟨a, e1, _, e3, _⟩ := each i v e
   exact ⟨a, e1, e3⟩
  obtain ⟨zs, vz, bz⟩ : ∃ zs : List V, Vals zs (out.map (·.2)).toList /\ Bears R zs ((out.map (·.2)).toList.map f) := by
   clear he pv
   generalize (out.map (·.2)).toList = os at mo
   induction os with
   | nil => exact ⟨[], .nil, rfl, fun i a e => by simp at e⟩
   | cons v os ih =>
    obtain ⟨zs, vz, bz⟩ := ih fun y hy => mo y (List.mem_cons_of_mem _ hy)
    obtain ⟨a, rfl, hr⟩ := mo v List.mem_cons_self
    refine ⟨.ref a :: zs, .cons rfl vz, by simp [bz.1], fun i l e => ?_⟩
    cases i with
    | zero =>
     have : f (.ref a) = l := by simpa using e
     exact ⟨.ref a, rfl, this ▸ hr⟩
    | succ i => exact bz.2 i l (by simpa using e)
  have hzl : zs.length = its.length := by rw [vz.length, pv.length_eq]
  refine ⟨.ref (s.heap.objs.size + 1), _, I.laid (t' := s.toks) (o := .lst zs) (fun b o g => sortedAll_old g) (Nat.le_succ _) ⟨?_, (out.map (·.2)).toList, e, vz, ?_⟩, rfl, q zs _ bz ?_ ?_ _ (I.hok.fresh (Nat.le_succ _))⟩
  ·have : sizeLine = 16777216 := sizeLine_eq
   omega
  ·exact he
  ·rw [eL]
   exact pv.map f
  ·rw [Array.toList_map, List.map_map, List.pairwise_map]
   refine List.Pairwise.imp_of_mem (fun {x y} hx hy hxy => ?_) a2
   have h1 := (mem1 x (po.mem_iff.mp hx)).2
   have h2 := (mem1 y (po.mem_iff.mp hy)).2
   show HT.lexLt (f y.2) (f x.2) = false
   rw [h1, h2]
   exact hxy
end
end L2
namespace L2
open PySem PySem.Spec PyProof.Rows
section
variable {X : Cx}
def rNotInR (K : PySem.W.Frag) : R2 := fun x y H Q => ∃ (n : Nat) (p : Addr) (xs : List V) (e : Addr -> Bool), y = .ref p /\ SqL K H p xs /\ n <= 6 /\ (∀ v ∈ xs, ∃ a, v = .ref a /\ EqD K H n v x (e a)) /\ Q (.bl (!xs.any (refB e))) H
theorem op_notInR (K : PySem.W.Frag) (hu : X.A.units + 8 < cLine) (hk : X.K = K := by rfl) : OpR X (compareOp .NotIn) (rNotInR K) := by
 subst hk
 intro pins s σ H x y v u Q I rx ry h
 obtain ⟨n, p, xs, e, rfl, hq, hn, he, q⟩ := h
 cases ry
 obtain ⟨its, r, pl, hz⟩ := I.list hq
 refine SeqAt.notIn_listAt (fun u => match u with | .ref a => e a | _ => false) pl.isList (fun w hw => mem_refB I (by show X.A.units + 1 + n < cLine; omega) rx r he w (by simpa using hw)) ⟨.bl _, H, I, rfl, ?_⟩
 have ea : its.any (fun u => match u with | .ref a => e a | _ => false) = xs.any (refB e) := any_refB r fun v hv => let ⟨a, ea, _⟩ := he v hv; ⟨a, ea⟩
 have eb : its.toArray.any (fun u => match u with | .ref a => e a | _ => false) = its.any (fun u => match u with | .ref a => e a | _ => false) := by simp
 rw [eb, ea]
 exact q
end
end L2
namespace My
open PySem L2
open Classical in
theorem tups_any {K : PySem.W.Frag} {H : Hp} {x : V} {xs : List V} {L : List (List Int)} {z : List Int} (hx : TupV H x z) (hP : TupsV H xs L) : ∃ e : Addr -> Bool, (∀ v ∈ xs, ∃ a, v = .ref a /\ EqD K H 1 v x (e a)) /\ xs.any (refB e) = decide (z ∈ L) := by
 have key : ∀ {a : Addr} {w : List Int}, TupV H (.ref a) w -> (TupV H (.ref a) z ↔ w = z) := by
  rintro a w ⟨t, e, h⟩
  cases e
  constructor
  ·rintro ⟨t, e, h2⟩
   cases e
   rw [h] at h2
   injection h2 with h2
   injection h2 with h2
   exact (List.map_inj_right (fun _ _ h => by injection h)).mp h2
  ·rintro rfl
   exact ⟨_, rfl, h⟩
 refine ⟨fun a => decide (TupV H (.ref a) z), fun v hv => ?_, ?_⟩
 ·obtain ⟨i, hi⟩ := List.getElem?_of_mem hv
  obtain ⟨w, hw, t, rfl, ht⟩ := hP.at hi
  refine ⟨t, rfl, ?_⟩
  have k := key ⟨t, rfl, ht⟩
  show EqD K H 1 (V.ref t) x (decide (TupV H (V.ref t) z))
  rw [show decide (TupV H (.ref t) z) = decide (w = z) by rw [decide_eq_decide]; exact k]
  exact eqd_tupv ⟨t, rfl, ht⟩ hx
 ·rw [Bool.eq_iff_iff, List.any_eq_true, decide_eq_true_iff]
  constructor
  ·rintro ⟨v, hv, hb⟩
   obtain ⟨i, hi⟩ := List.getElem?_of_mem hv
   obtain ⟨w, hw, t, rfl, ht⟩ := hP.at hi
   have hb : decide (TupV H (.ref t) z) = true := hb
   rw [decide_eq_true_iff, key ⟨t, rfl, ht⟩] at hb
   rw [<- hb]
   exact List.mem_of_getElem? hw
  ·intro hz
   obtain ⟨i, hi⟩ := List.getElem?_of_mem hz
   obtain ⟨v, hv, t, rfl, ht⟩ := hP.2 i z hi
   exact ⟨_, List.mem_of_getElem? hv, decide_eq_true ⟨t, rfl, ht⟩⟩
theorem in_tups {K : PySem.W.Frag} {H : Hp} {x : V} {p : Addr} {xs : List V} {L : List (List Int)} {z : List Int} {Q : VK} (hx : TupV H x z) (hp : SqL K H p xs) (hP : TupsV H xs L) (q : Q (.bl (decide (z ∈ L))) H) : rInR K x (.ref p) H Q := by
 obtain ⟨e, h1, h2⟩ := tups_any (K := K) hx hP
 exact ⟨1, p, xs, e, rfl, hp, by decide, h1, by rw [h2]; exact q⟩
theorem notIn_tups {K : PySem.W.Frag} {H : Hp} {x : V} {p : Addr} {xs : List V} {L : List (List Int)} {z : List Int} {Q : VK} (hx : TupV H x z) (hp : SqL K H p xs) (hP : TupsV H xs L) (q : Q (.bl (!decide (z ∈ L))) H) : rNotInR K x (.ref p) H Q := by
 obtain ⟨e, h1, h2⟩ := tups_any (K := K) hx hP
 exact ⟨1, p, xs, e, rfl, hp, by decide, h1, by rw [h2]; exact q⟩
abbrev lexS (a b : List Int) : Prop := HT.lexLt a b = true
theorem lexS_of {a : List (List Int)} (h : a.Pairwise fun x y => HT.lexLt y x = false) (hn : a.Nodup) : a.Pairwise lexS := by
 refine (h.and hn).imp ?_
 rintro x y ⟨h1, h2⟩
 show HT.lexLt x y = true
 cases e : HT.lexLt x y with
 | true => rfl
 | false => exact absurd (lex_eq e h1) h2
end My
namespace My
open PySem L2
end My
namespace L2
open PySem PySem.Spec PyProof.Rows
section
variable {X : Cx}
end
end L2
namespace L2
open PySem PySem.Spec PyProof.Rows
open PySem.SeqAt
open PySem.AutoSeq1 (wpAny_loadPart')
open PySem.MeetsSeq PySem.MeetsSeq2 PySem.MeetsSeq3
end L2
namespace L2
open PySem PySem.Spec PyProof.Rows My
section
variable {prog : Program} {w : World} {A : Around} {E : Value -> Shared -> Prop} {s : Shared}
end
section
variable {X : Cx}
end
end L2
namespace L2
open PySem PySem.Spec PyProof.Rows
def CMulC (i j : Int) : Prop := (-(10 ^ 200) < i /\ i < 10 ^ 200) /\ (-(10 ^ 200) < j /\ j < 10 ^ 200)
theorem bits_great {a : Int} (h1 : -(10 ^ 200) < a) (h2 : a < 10 ^ 200) : Builtin.Int.intBits a <= 1000 := by
 have h : a.natAbs < 10 ^ 200 := by omega
 exact PySem.intBits_le_iff.mpr (Nat.lt_trans h (by decide))
section
variable {X : Cx}
theorem op_mulC : OpR X (binaryOp .Mult) (rI CMulC fun i j => .int (i * j)) := opI fun _ _ _ _ _ _ _ hc q => mul_int q (.of_bits (Nat.le_trans (bits_great hc.1.1 hc.1.2) (by decide)) (Nat.le_trans (bits_great hc.2.1 hc.2.2) (by decide)))
end
end L2
namespace My
open PySem L2
def subT (m : Int) : Nat -> List (List Int)
 | 0 => [[]]
 | k + 1 => subT m k ++ ((subT m k).filter fun l => decide ((l.length : Int) < m)).map fun l => l ++ [(k : Int)]
theorem subT_mem {m : Int} (hm : 0 <= m) : ∀ {k : Nat} {l : List Int}, l ∈ subT m k ↔ IsSet k l /\ (l.length : Int) <= m
 | 0, l => by
  unfold subT
  rw [List.mem_singleton]
  constructor
  ·rintro rfl
   exact ⟨IsSet.nil 0, by simpa using hm⟩
  ·rintro ⟨h, _⟩
   cases l with
   | nil => rfl
   | cons x l => have := h.all x List.mem_cons_self; omega
 | k + 1, l => by
  show l ∈ subT m k ++ ((subT m k).filter fun l => decide ((l.length : Int) < m)).map (fun l => l ++ [(k : Int)]) ↔ _
  rw [List.mem_append, subT_mem hm, List.mem_map]
  have snoc : ∀ {s : List Int}, IsSet k s -> IsSet (k + 1) (s ++ [(k : Int)]) := fun h => h.snoc
  constructor
  ·rintro (⟨h1, h2⟩ | ⟨s, hs, rfl⟩)
   ·exact ⟨h1.up, h2⟩
   ·obtain ⟨h1, h2⟩ := List.mem_filter.mp hs
    have h2 := of_decide_eq_true h2
    exact ⟨snoc ((subT_mem hm).mp h1).1, by rw [List.length_append, List.length_singleton]; omega⟩
  ·rintro ⟨h1, h2⟩
   obtain ⟨a1, a2⟩ := isSet_iff.mp h1
   by_cases hk : (k : Int) ∈ l
   ·right
    rcases List.eq_nil_or_concat l with e | ⟨s, x, e⟩
    ·rw [e] at hk; cases hk
    ·rw [List.concat_eq_append] at e
     subst e
     rw [List.pairwise_append] at a2
     have hx : x = (k : Int) := by
      rcases List.mem_append.mp hk with h | h
      ·have := a2.2.2 _ h x (List.mem_singleton.mpr rfl)
       have := (a1 x (List.mem_append_right _ (List.mem_singleton.mpr rfl))).2
       omega
      ·exact (List.mem_singleton.mp h).symm
     subst hx
     rw [List.length_append, List.length_singleton] at h2
     refine ⟨s, List.mem_filter.mpr ⟨(subT_mem hm).mpr ⟨isSet_iff.mpr ⟨fun z hz => ⟨(a1 z (List.mem_append_left _ hz)).1, a2.2.2 z hz _ (List.mem_singleton.mpr rfl)⟩, a2.1⟩, by omega⟩, decide_eq_true (by omega)⟩, rfl⟩
   ·left
    refine ⟨isSet_iff.mpr ⟨fun z hz => ?_, a2⟩, h2⟩
    have := a1 z hz
    by_cases e : z = (k : Int)
    ·rw [e] at hz; exact absurd hz hk
    ·omega
theorem subT_nodup {m : Int} (hm : 0 <= m) : ∀ k, (subT m k).Nodup
 | 0 => by unfold subT; simp
 | k + 1 => by
  show (subT m k ++ ((subT m k).filter fun l => decide ((l.length : Int) < m)).map (fun l => l ++ [(k : Int)])).Nodup
  rw [List.nodup_append]
  refine ⟨subT_nodup hm k, ?_, ?_⟩
  ·have h := (subT_nodup hm k).sublist (List.filter_sublist (p := fun l => decide ((l.length : Int) < m)))
   exact List.Pairwise.map _ (fun a b hab e => hab (List.append_cancel_right e)) h
  ·intro a ha b hb e
   obtain ⟨s, _, rfl⟩ := List.mem_map.mp hb
   have := ((subT_mem hm).mp ha).1.all (k : Int) (by rw [e]; simp)
   omega
theorem subT_len (m : Int) : ∀ k, (subT m k).length <= 2 ^ k
 | 0 => by unfold subT; simp
 | k + 1 => by
  show (subT m k ++ ((subT m k).filter fun l => decide ((l.length : Int) < m)).map (fun l => l ++ [(k : Int)])).length <= _
  have := subT_len m k
  have := List.length_filter_le (fun l : List Int => decide ((l.length : Int) < m)) (subT m k)
  rw [List.length_append, List.length_map, Nat.pow_succ]
  omega
theorem pm_map (M : List Int) (a b : Nat) : M.map (fun k => if k = max (mk M a) (mk M b) then min (mk M a) (mk M b) else k) = pm M a b := by
 unfold pm
 split
 ·rfl
 ·have e : max (mk M a) (mk M b) = min (mk M a) (mk M b) := by omega
  rw [e]
  have : M.map (fun k => if k = min (mk M a) (mk M b) then min (mk M a) (mk M b) else k) = M.map id := List.map_congr_left fun k _ => by
   split
   ·rename_i h; rw [h]; rfl
   ·rfl
  rw [this, List.map_id]
end My
namespace L2
open PySem PySem.Spec PyProof.Rows
section
variable {X : Cx}
end
end L2
namespace My
open PySem L2
inductive WP (n : Int) (ps : List (Int × Int)) (W : List Int) (T0 : List Int) : List Int -> List (Int × Int) -> List Int -> Prop
 | nil : WP n ps W T0 [] [] T0
 | skip {l : List Int} {ws : List (Int × Int)} {T : List Int} {z : Int} : WP n ps W T0 l ws T -> z ∈ T -> WP n ps W T0 (l ++ [z]) ws T
 | step {l : List Int} {ws : List (Int × Int)} {T T' : List Int} {z o : Int} : WP n ps W T0 l ws T -> z ∉ T -> o ∈ ringA n ps T z T -> o ∉ W -> (∀ y ∈ ringA n ps T z T, y ∉ W -> o <= y) -> T'.Perm (wo T o ++ [z]) -> T'.Pairwise (· <= ·) -> WP n ps W T0 (l ++ [z]) (ws ++ [(o, z)]) T'
theorem WP.uniq {n : Int} {ps : List (Int × Int)} {W T0 l : List Int} {ws : List (Int × Int)} {T : List Int} (h : WP n ps W T0 l ws T) : ∀ {vs U}, WP n ps W T0 l vs U -> ws = vs /\ T = U := by
 induction h with
 | nil =>
  intro vs U k
  generalize hl : ([] : List Int) = l at k
  cases k with
  | nil => exact ⟨rfl, rfl⟩
  | skip _ _ => simp at hl
  | step _ _ _ _ _ _ _ => simp at hl
 | @skip l ws T z h1 h2 ih =>
  intro vs U k
  generalize hl : l ++ [z] = l2 at k
  cases k with
  | nil => simp at hl
  | skip k1 k2 =>
   obtain ⟨rfl, e⟩ := List.append_inj' hl rfl
   cases e
   exact ih k1
  | step k1 k2 _ _ _ _ _ =>
   obtain ⟨rfl, e⟩ := List.append_inj' hl rfl
   cases e
   obtain ⟨_, rfl⟩ := ih k1
   exact absurd h2 k2
 | @step l ws T T' z o h1 h2 h3 h4 h5 h6 h7 ih =>
  intro vs U k
  generalize hl : l ++ [z] = l2 at k
  cases k with
  | nil => simp at hl
  | skip k1 k2 =>
   obtain ⟨rfl, e⟩ := List.append_inj' hl rfl
   cases e
   obtain ⟨_, rfl⟩ := ih k1
   exact absurd k2 h2
  | step k1 k2 k3 k4 k5 k6 k7 =>
   obtain ⟨rfl, e⟩ := List.append_inj' hl rfl
   cases e
   obtain ⟨rfl, rfl⟩ := ih k1
   have eo := Int.le_antisymm (h5 _ k3 k4) (k5 _ h3 h4)
   subst eo
   exact ⟨rfl, sorted_uniq (h6.trans k6.symm) h7 k7⟩
def Leads (n : Int) (ps : List (Int × Int)) : List Int -> List (Int × Int) -> List Int -> Prop
 | T, [], U => T = U
 | T, (o, z) :: ws, U => o ∈ T /\ z ∉ T /\ ∃ T', T'.Perm (wo T o ++ [z]) /\ T'.Pairwise (· <= ·) /\ IsTree n ps T' /\ Leads n ps T' ws U
theorem Leads.snoc {n : Int} {ps : List (Int × Int)} {U V : List Int} {o z : Int} : ∀ {ws : List (Int × Int)} {T : List Int}, Leads n ps T ws U -> o ∈ U -> z ∉ U -> V.Perm (wo U o ++ [z]) -> V.Pairwise (· <= ·) -> IsTree n ps V -> Leads n ps T (ws ++ [(o, z)]) V
 | [], T, h, h1, h2, h3, h4, h5 => by
  have h : T = U := h
  subst h
  exact ⟨h1, h2, V, h3, h4, h5, rfl⟩
 | (o', z') :: ws, T, ⟨a1, a2, T', a3, a4, a5, a6⟩, h1, h2, h3, h4, h5 => ⟨a1, a2, T', a3, a4, a5, Leads.snoc a6 h1 h2 h3 h4 h5⟩
theorem WP.facts {n : Int} {ps : List (Int × Int)} {W T0 l : List Int} {ws : List (Int × Int)} {T : List Int} (g : GoodW n ps) (hT0 : IsTree n ps T0) (h : WP n ps W T0 l ws T) (hl : ∀ z ∈ l, z ∈ W) (hW : IsTree n ps W) :
  IsTree n ps T /\ (∀ z ∈ l, z ∈ T) /\ Leads n ps T0 ws T /\ ws.length + (T.filter fun y => decide (y ∉ W)).length = (T0.filter fun y => decide (y ∉ W)).length := by
 induction h with
 | nil => exact ⟨hT0, fun z h => (by cases h), rfl, by simp⟩
 | @skip l ws T z h1 h2 ih =>
  obtain ⟨i1, i2, i3, i4⟩ := ih fun y hy => hl y (List.mem_append_left _ hy)
  refine ⟨i1, fun y hy => ?_, i3, i4⟩
  rcases List.mem_append.mp hy with h | h
  ·exact i2 y h
  ·rw [List.mem_singleton.mp h]; exact h2
 | @step l ws T T' z o h1 h2 h3 h4 h5 h6 h7 ih =>
  obtain ⟨i1, i2, i3, i4⟩ := ih fun y hy => hl y (List.mem_append_left _ hy)
  have hz := hl z (List.mem_append_right _ (List.mem_singleton.mpr rfl))
  have hr := ringA_mem.mp h3
  have hx : exg n ps T o z := ⟨hr.1, fun e => h2 (e ▸ hr.1), hr.2⟩
  have hT' := exg_tree g i1 hx h6 h7
  have mem : ∀ y, y ∈ T' ↔ (y ∈ T /\ y ≠ o) \/ y = z := fun y => by rw [h6.mem_iff, List.mem_append, wo_mem, List.mem_singleton]
  refine ⟨hT', fun y hy => ?_, i3.snoc hr.1 h2 h6 h7 hT', ?_⟩
  ·rw [mem]
   rcases List.mem_append.mp hy with h | h
   ·refine .inl ⟨i2 y h, fun e => h4 (by rw [<- e]; exact hl y (List.mem_append_left _ h))⟩
   ·exact .inr (List.mem_singleton.mp h)
  ·have e1 : (T'.filter fun y => decide (y ∉ W)).length = ((wo T o ++ [z]).filter fun y => decide (y ∉ W)).length := (h6.filter _).length_eq
   have e2 : ((wo T o ++ [z]).filter fun y => decide (y ∉ W)) = wo (T.filter fun y => decide (y ∉ W)) o := by
    rw [List.filter_append, List.filter_cons, if_neg (by simpa using hz), List.filter_nil, List.append_nil]
    unfold wo
    rw [List.filter_filter, List.filter_filter]
    congr 1
    funext y
    rw [Bool.and_comm]
   have hnd : (T.filter fun y => decide (y ∉ W)).Nodup := i1.1.nodup.sublist List.filter_sublist
   have e3 := wo_length hnd (List.mem_filter.mpr ⟨hr.1, decide_eq_true h4⟩)
   rw [e1, e2, List.length_append, List.length_singleton]
   omega
theorem WP.end {n : Int} {ps : List (Int × Int)} {W T0 : List Int} {ws : List (Int × Int)} {T : List Int} (g : GoodW n ps) (hT0 : IsTree n ps T0) (h : WP n ps W T0 W ws T) (hW : IsTree n ps W) : T = W /\ Leads n ps T0 ws W /\ ws.length = (T0.filter fun y => decide (y ∉ W)).length := by
 obtain ⟨f1, f2, f3, f4⟩ := h.facts g hT0 (fun _ h => h) hW
 have hs := asc_sub (isSet_iff.mp hW.1).2 (isSet_iff.mp f1.1).2 f2
 have e : W = T := hs.eq_of_length (by have := f1.2.1; have := hW.2.1; omega)
 subst e
 refine ⟨rfl, f3, ?_⟩
 have : (W.filter fun y => decide (y ∉ W)) = [] := List.filter_eq_nil_iff.mpr fun y hy => by simpa using hy
 rw [this] at f4
 simpa using f4
end My
namespace L2
open PySem PySem.Spec PyProof.Rows
section
variable {prog : Program} {w : World} {A : Around} {E : Value -> Shared -> Prop} {s : Shared} {l : Addr} {xs : Array (Int × Tok)}
end
section
variable {X : Cx}
end
end L2
namespace My
open PySem L2
def dn (lo hi i : Int) : Int := if i = hi then lo else if i < hi then i else i - 1
end My
namespace L2
open PySem PySem.Spec PyProof.Rows
section
variable {X : Cx}
end
end L2
namespace My
theorem len1 {α : Type} {l : List α} (h : l.length = 1) : ∃ a, l = [a] := by
 cases l with
 | nil => cases h
 | cons a l => cases l with
  | nil => exact ⟨a, rfl⟩
  | cons b l => simp at h
theorem len2 {α : Type} {l : List α} (h : l.length = 2) : ∃ a b, l = [a, b] := by
 cases l with
 | nil => cases h
 | cons a l =>
  obtain ⟨b, rfl⟩ := len1 (Nat.succ.inj h)
  exact ⟨a, b, rfl⟩
theorem len3 {α : Type} {l : List α} (h : l.length = 3) : ∃ a b c, l = [a, b, c] := by
 cases l with
 | nil => cases h
 | cons a l =>
  obtain ⟨b, c, rfl⟩ := len2 (Nat.succ.inj h)
  exact ⟨a, b, c, rfl⟩
theorem len4 {α : Type} {l : List α} (h : l.length = 4) : ∃ a b c d, l = [a, b, c, d] := by
 cases l with
 | nil => cases h
 | cons a l =>
  obtain ⟨b, c, d, rfl⟩ := len3 (Nat.succ.inj h)
  exact ⟨a, b, c, d, rfl⟩
end My
namespace L2
open PySem PySem.Spec PyProof.Rows
section
variable {X : Cx}
end
end L2
namespace Att
open PySem PySem.W PySem.Calls PyProof.Rows
end Att
namespace L2
open PySem PySem.Spec PyProof.Rows
end L2
namespace My
open PySem L2
end My
namespace L2
open PySem PySem.Spec PyProof.Rows
section
variable {X : Cx}
end
end L2
namespace My
open PySem L2
end My
namespace L2
open PySem PySem.Spec PyProof.Rows
section
variable {prog : Program} {w : World} {A : Around} {E : Value -> Shared -> Prop} {s : Shared} {it a : Addr} {items : Array Value}
theorem collect_rvt {Q : List Value -> Shared -> Prop} (hh : A.handled = none) (hi : IsRv s.heap it a ((items.size : Int) - 1)) (hl : IsTup s.heap a items) (hne : a ≠ it) (hz : items.size <= sizeLine)
  (k : ∀ (h' : Heap) (tk : Nat) (acc : Array Value), (∀ b o, b ≠ it -> s.heap.get? b = some o -> h'.get? b = some o) -> ItemsOf (fun i v => items[items.size - 1 - i]? = some v) acc items.size -> Q acc.toList { s with heap := h', toks := tk }) : wpAny (model prog w) A (collect (.ref it)) Q E s := by
 obtain ⟨oi, hoi, _⟩ := id hi
 obtain ⟨ol, hol, _⟩ := id hl
 have n1 : s.heap.objs.size ≠ it := Nat.ne_of_gt (Heap.lt_size hoi)
 have n2 : s.heap.objs.size ≠ a := Nat.ne_of_gt (Heap.lt_size hol)
 have hL1 : (s.heap.push (seqObj "list" #[] 0)).get? s.heap.objs.size = some (seqObj "list" #[] 0) := Heap.get?_push_size _ rfl
 unfold collect
 refine wpAny_bind (wpAny_runValue (codeAny_builtin entry_proto_collect' ?_))
 show wpAny _ A.in1 (do again (.builtin "list.__iadd__" ⟨[<- newList [], .ref it], []⟩)) _ _ s
 refine wpAny_bind (wpAny_newList (wpAny_pure ⟨Code.quiet_builtin _ (by decide +kernel), codeAny_builtin entry_list_iadd' ?_⟩))
 show wpAny _ A.in1 (Builtin.List.listExtendWith (.ref s.heap.objs.size) (.ref it) (.ref s.heap.objs.size)) _ _ { s with heap := s.heap.push (seqObj "list" #[] 0) }
 refine wpAny_mono (rvt_extend (A := A) (R := fun x s' => ∃ (h' : Heap) (tk : Nat) (acc : Array Value) (c' : Nat), x = .ok (.ret (.ref s.heap.objs.size)) /\ s' = { s with heap := h', toks := tk } /\ (∀ b o, b ≠ it -> s.heap.get? b = some o -> h'.get? b = some o) /\
   h'.get? s.heap.objs.size = some { cls := .type "list", dict := none, data := .seq acc c', slots := #[] } /\ ItemsOf (fun i v => items[items.size - 1 - i]? = some v) acc items.size)
  (s := { s with heap := s.heap.push (seqObj "list" #[] 0) }) hh (hi.keep fun o e => Heap.get?_push_of_some _ e) (let ⟨o, e, z⟩ := hl; ⟨o, Heap.get?_push_of_some _ e, z⟩) hne n1 n2 hL1 hz fun h' tk acc c' k1 k2 k3 => ⟨h', tk, acc, c', rfl, rfl, fun b o hb e => k1 b o (Nat.ne_of_lt (Heap.lt_size e)) hb (Heap.get?_push_of_some _ e), k2, k3⟩) (fun fin s' z => ?_) (fun e s' z => ?_)
 ·cases fin with
  | done f =>
   obtain ⟨h', tk, acc, c', e, rfl, k1, k2, k3⟩ := z
   cases e
   refine wpAny_bind (wpAny_load k2 ?_)
   exact wpAny_pure (k h' tk acc k1 k3)
  | again c' =>
   refine ⟨z.1, codeAny_mono z.2 fun x s2 z => ?_⟩
   obtain ⟨h', tk, acc, c', rfl, rfl, k1, k2, k3⟩ := z
   refine wpAny_bind (wpAny_load k2 ?_)
   exact wpAny_pure (k h' tk acc k1 k3)
 ·obtain ⟨h', tk, acc, c', e, _⟩ := z
  cases e
theorem new_tuple_rvt (it a : Addr) (items : Array Value) :
  Meets (Builtin.«tuple.__new__» ⟨[.type "tuple", .ref it], []⟩) (fun A R s => A.handled = none /\ IsRv s.heap it a ((items.size : Int) - 1) /\ IsTup s.heap a items /\ a ≠ it /\ items.size <= sizeLine /\ ∀ (h' : Heap) (tk : Nat) (acc : Array Value), (∀ b o, b ≠ it -> s.heap.get? b = some o -> h'.get? b = some o) -> ItemsOf (fun i v => items[items.size - 1 - i]? = some v) acc items.size ->
   R (.ok (.ret (.ref h'.objs.size))) { s with heap := h'.push (seqObj "tuple" acc 0), toks := tk }) :=
 .of_wp fun prog w A R s h => by
  obtain ⟨hh, hi, hl, hne, hz, h⟩ := h
  have e1 := sub_tuple_self
  have e2 := init_tuple_lookup
  have e3 := madeHere_tuple
  have hT : s.TypeIs (.ref it) "reversed" := hi.ty
  have hh1 : A.in1.handled = none := hh
  wp_walk using wpAny_typeOf hT, collect_rvt hh1 hi hl hne hz
  intro h' tk acc hk hacc
  show wpAny _ _ (Builtin.Tuple.tupleExact acc.toList.toArray >>= ret) _ _ _
  unfold Builtin.Tuple.tupleExact
  have e : acc.toList.toArray = acc := by simp
  rw [e]
  refine wpAny_bind (wpAny_newObj_type ?_ (by show acc.size <= sizeLine; rw [hacc.1]; exact hz))
  exact wpAny_pure ⟨_, rfl, h h' tk acc hk hacc⟩
theorem call_tuple_rvt {Q : Value -> Shared -> Prop} (hh : A.handled = none) (hi : IsRv s.heap it a ((items.size : Int) - 1)) (hl : IsTup s.heap a items) (hne : a ≠ it) (hz : items.size <= sizeLine)
  (k : ∀ (h' : Heap) (tk : Nat) (acc : Array Value), (∀ b o, b ≠ it -> s.heap.get? b = some o -> h'.get? b = some o) -> ItemsOf (fun i v => items[items.size - 1 - i]? = some v) acc items.size -> Q (.ref h'.objs.size) { s with heap := h'.push (seqObj "tuple" acc 0), toks := tk }) : wpAny (model prog w) A (call (.type "tuple") [.ref it]) Q E s :=
 callType_new F.called_tuple (by decide) (F.typeCall_tuple_1 _) (F.newCall_tuple_1 _) (fun o => F.args_object_init_2 o _) F.entry_tuple_new (new_tuple_rvt it a items)
  ⟨hh, hi, hl, hne, hz, fun h' tk acc hk hacc => ⟨⟨_, Heap.get?_push_size _ rfl, rfl⟩, k h' tk acc hk hacc⟩⟩
end
section
variable {X : Cx} {p p2 pos pos2 : Pos} {e : Expr} {t : TA}
def tTupRvT (K : PySem.W.Frag) (t : TA) : TE := fun σ H Q => t σ H fun vs H1 => ∃ (a : Addr) (ys : List V), vs = [.ref a] /\ SqT K H1 a ys /\ ∀ l, H1 l = none -> Q (.ref l) (upd H1 l (.tup ys.reverse))
theorem pe_tupRvT (K : PySem.W.Frag) (hc : X.calm = true) (g1 : Gl X "tuple") (m1 : X.mg "tuple" = none) (g2 : Gl X "reversed") (m2 : X.mg "reversed" = none) (ha : PA X [e] t) (hk : X.K = K := by rfl)
  (he : starEach [e] X.env = [(false, eval e X.env)] := by rfl)
  (he2 : starEach [.Call (.Name "reversed" p2) [e] [] pos2] X.env = [(false, eval (.Call (.Name "reversed" p2) [e] [] pos2) X.env)] := by rfl) :
  PE X (.Call (.Name "tuple" p) [.Call (.Name "reversed" p2) [e] [] pos2] [] pos) (tTupRvT K t) := by
 subst hk
 intro pins s σ H Q I h
 refine wpAny_Call_Name_kw (ld_blt I g1 m1 Boot.«tuple» ?_)
 refine PyProof.Rows.callWith_type1 ?_ (by rw [he2]; rfl) rfl
 rw [he2]
 show wpAny _ _ (spliced ((false, eval (.Call (.Name "reversed" p2) [e] [] pos2) X.env) :: backTo pos [])) _ _ s
 refine Calls.spliced_cons ?_
 refine wpAny_Call_Name_kw (ld_blt I g2 m2 Boot.«reversed» ?_)
 refine PyProof.Rows.callWith_type1 (thn (ha pos2 pins s σ H _ I h) fun us s1 ⟨vs, H1, I1, r1, q1⟩ => ?_) (by rw [he]; rfl) rfl
 obtain ⟨a, ys, rfl, hq, q⟩ := q1
 obtain ⟨u, rfl, ru⟩ := vals1 r1
 obtain rfl : u = Value.ref a := ru
 obtain ⟨its, rv, pl, hz⟩ := I1.tuple hq
 have el : its.toArray.size = ys.length := by rw [List.size_toArray, <- rv.length]
 have hzl : sizeLine = 16777216 := sizeLine_eq
 refine rv_call pl (by omega) fun tk1 h1 hit ext1 hz1 => ?_
 refine Calls.spliced_nil ?_
 have hne : a ≠ s1.heap.objs.size := Nat.ne_of_lt pl.lt
 refine call_tuple_rvt (s := { s1 with heap := h1, toks := tk1 }) (I.ok.hd hc) hit (pl.keeps ext1) hne (by rw [el]; exact hz) fun h' tk acc hk ha' => ?_
 have el2 : its.length = ys.length := rv.length.symm
 have ea : acc.toList = its.reverse := by
  refine List.ext_getElem? fun i => ?_
  have h1 := ha'.1
  by_cases hi : i < its.length
  ·obtain ⟨v, ev⟩ : ∃ v, acc[i]? = some v := ⟨_, Array.getElem?_eq_getElem (by rw [h1, List.size_toArray]; exact hi)⟩
   have h2 := ha'.2 i v ev
   rw [List.getElem?_reverse hi]
   have e3 : acc.toList[i]? = some v := by simpa using ev
   rw [e3]
   have e4 : its[its.length - 1 - i]? = some v := by simpa using h2
   rw [e4]
  ·rw [List.getElem?_eq_none (by rw [Array.length_toList, h1, List.size_toArray]; omega), List.getElem?_eq_none (by rw [List.length_reverse]; omega)]
 have I2 : Inv X pins σ H1 { s1 with heap := h', toks := tk } := I1.kept (t' := tk) fun b o e => hk b o (Nat.ne_of_lt (Heap.lt_size e)) (ext1 b o e)
 have rv2 : Vals ys.reverse acc.toList := by rw [ea]; exact rv.rev
 have hz2 : ys.reverse.length <= sizeLine := by rw [List.length_reverse]; exact hz
 have I3 : Inv X pins σ (upd H1 h'.objs.size (.tup ys.reverse)) { s1 with heap := h'.push (seqObj "tuple" acc.toList.toArray 0), toks := tk } :=
  I2.laid (t' := tk) (fun b o e => Heap.get?_push_of_some _ e) (Nat.le_refl _) (show ObjOk X.prog X.w _ _ _ (.tup ys.reverse) from ⟨hz2, acc.toList, rv2, IsTup.new _ _⟩)
 have ec : acc.toList.toArray = acc := by simp
 rw [ec] at I3
 exact ⟨.ref h'.objs.size, _, I3, rfl, q _ (I2.hok.fresh (Nat.le_refl _))⟩
end
section
variable {X : Cx}
def rCatQ : R2 := fun x y H Q => ∃ a b xs ys, x = .ref a /\ y = .ref b /\ H a = some (.tup xs) /\ H b = some (.tup ys) /\ xs.length + ys.length <= sizeLine /\ ∀ (r : Addr) (H' : Hp), Same H H' -> H' r = some (.tup (xs ++ ys)) -> Q (.ref r) H'
theorem op_catQ (K : PySem.W.Frag) (hk : X.K = K := by rfl) : OpR X (binaryOp .Add) rCatQ := by
 intro pins s σ H x y v u Q I rx ry h
 obtain ⟨a, b, xs, ys, e1, e2, ha, hb, hz, q⟩ := h
 refine op_catU K hk pins s σ H x y v u Q I rx ry ⟨a, b, xs, ys, e1, e2, SqT.of ha, SqT.of hb, hz, fun hx => ?_, fun _ hy => ?_, fun _ _ p hp => q p _ (My.same_at hp) upd_same⟩
 ·subst hx
  exact q b H (Same.refl H) hb
 ·subst hy
  exact q a H (Same.refl H) (by rw [List.append_nil]; exact ha)
def rSlQ : V -> Option Int -> Option Int -> Hp -> VK -> Prop := fun x lo hi H Q => ∃ a xs, x = .ref a /\ H a = some (.tup xs) /\ ∀ (r : Addr) (H' : Hp), Same H H' -> H' r = some (.tup (cutV xs lo hi)) -> Q (.ref r) H'
theorem cut_whole {xs : List V} {lo hi : Option Int} (h0 : HT.sIx xs.length 0 lo = 0) (h1 : HT.sIx xs.length xs.length hi = xs.length) : cutV xs lo hi = xs := by
 unfold cutV
 rw [h0, h1]
 simp
theorem rSlQ_U {K : PySem.W.Frag} {x : V} {lo hi : Option Int} {H : Hp} {Q : VK} (h : rSlQ x lo hi H Q) : rSlU K x lo hi H Q := by
 obtain ⟨a, xs, e, ha, q⟩ := h
 exact ⟨a, xs, e, SqT.of ha, fun hw => q a H (Same.refl H) (by rw [cut_whole hw.1 hw.2]; exact ha), fun _ p hp => q p _ (My.same_at hp) upd_same⟩
theorem sl_tupQ (K : PySem.W.Frag) (hk : X.K = K := by rfl) : SlR X rSlQ := fun pins s σ H x v vl vu lo hi sl Q I rx hs pl pu h => sl_tupU K hk pins s σ H x v vl vu lo hi sl Q I rx hs pl pu (rSlQ_U h)
end
end L2
namespace My
open PySem L2
theorem exg_of_tree {n : Int} {ps : List (Int × Int)} {T ms : List Int} {o z : Int} (g : GoodW n ps) (hT : IsTree n ps T) (hpm : ms.Perm (wo T o ++ [z])) (hM : IsTree n ps ms) (ho : o ∈ T) (hz : z ∉ T) (z0 : 0 <= z) (z1 : z < (ps.length : Int)) : exg n ps T o z :=
 (exg_iff g hT).mpr ⟨ho, hz, z0, z1, fun i j hi hj => (conn_perm fun y => hpm.mem_iff).mp (hM.2.2 i j hi hj)⟩
theorem sort_ex (l : List Int) : ∃ m : List Int, m.Perm l /\ m.Pairwise (· <= ·) := by
 induction l with
 | nil => exact ⟨[], .refl _, .nil⟩
 | cons x l ih =>
  obtain ⟨m, h1, h2⟩ := ih
  have key : ∀ m : List Int, m.Pairwise (· <= ·) -> ∃ k : List Int, k.Perm (x :: m) /\ k.Pairwise (· <= ·) := by
   intro m
   induction m with
   | nil => intro _; exact ⟨[x], .refl _, List.pairwise_singleton _ _⟩
   | cons y m ih2 =>
    intro hp
    obtain ⟨hy, hm⟩ := List.pairwise_cons.mp hp
    by_cases hxy : x <= y
    ·refine ⟨x :: y :: m, .refl _, List.pairwise_cons.mpr ⟨fun z hz => ?_, hp⟩⟩
     rcases List.mem_cons.mp hz with e | e
     ·rw [e]; exact hxy
     ·exact Int.le_trans hxy (hy z e)
    ·obtain ⟨k, k1, k2⟩ := ih2 hm
     refine ⟨y :: k, (k1.cons y).trans (List.Perm.swap x y m), List.pairwise_cons.mpr ⟨fun z hz => ?_, k2⟩⟩
     rcases List.mem_cons.mp (k1.mem_iff.mp hz) with e | e
     ·rw [e]; omega
     ·exact hy z e
  obtain ⟨k, k1, k2⟩ := key m h2
  exact ⟨k, k1.trans (h1.cons x), k2⟩
end My
namespace L2
open PySem PySem.Spec PyProof.Rows
section
variable {X : Cx}
theorem call_tupleH (K : PySem.W.Frag) (hk : X.K = K := by rfl) : CallR X (.type "tuple") (fun xs H Q => ∃ (p : Addr) (ys : List V), xs = [.ref p] /\ (H p = some (.tup ys) \/ SqL K H p ys) /\ ∀ (r : Addr) (H' : Hp), Same H H' -> H' r = some (.tup ys) -> Q (.ref r) H') := by
 intro pins s σ H xs us Q I r h
 obtain ⟨p, ys, rfl, hq, q⟩ := h
 refine call_tupleK K hk pins s σ H _ us Q I r ⟨p, ys, rfl, ?_⟩
 rcases hq with hq | hq
 ·exact .inr ⟨SqT.of hq, q p H (Same.refl H) hq⟩
 ·exact .inl ⟨hq, fun l hl => q l _ (My.same_at hl) upd_same⟩
end
end L2
namespace My
open PySem L2
inductive Wk (n : Int) (ps : List (Int × Int)) (T0 : List Int) : List (Int × Int) -> List Int -> Prop
 | nil : Wk n ps T0 [] T0
 | step {ws : List (Int × Int)} {T T' : List Int} {o z : Int} : Wk n ps T0 ws T -> exg n ps T o z -> T'.Perm (wo T o ++ [z]) -> T'.Pairwise (· <= ·) -> Wk n ps T0 (ws ++ [(o, z)]) T'
theorem Wk.tree {n : Int} {ps : List (Int × Int)} {T0 : List Int} {ws : List (Int × Int)} {U : List Int} (g : GoodW n ps) (hT : IsTree n ps T0) (h : Wk n ps T0 ws U) : IsTree n ps U := by
 induction h with
 | nil => exact hT
 | step _ h2 h3 h4 ih => exact exg_tree g ih h2 h3 h4
theorem Wk.last {n : Int} {ps : List (Int × Int)} {T0 U : List Int} {ws : List (Int × Int)} {o z : Int} (h : Wk n ps T0 (ws ++ [(o, z)]) U) : ∃ T, Wk n ps T0 ws T /\ exg n ps T o z /\ U.Perm (wo T o ++ [z]) /\ U.Pairwise (· <= ·) := by
 generalize hl : ws ++ [(o, z)] = l at h
 cases h with
 | nil => simp at hl
 | step k1 k2 k3 k4 =>
  obtain ⟨rfl, e⟩ := List.append_inj' hl rfl
  cases e
  exact ⟨_, k1, k2, k3, k4⟩
theorem Wk.uniq {n : Int} {ps : List (Int × Int)} {T0 : List Int} {ws : List (Int × Int)} {U : List Int} (h : Wk n ps T0 ws U) : ∀ {V}, Wk n ps T0 ws V -> U = V := by
 induction h with
 | nil =>
  intro V k
  generalize hl : ([] : List (Int × Int)) = l at k
  cases k with
  | nil => rfl
  | step _ _ _ _ => simp at hl
 | step h1 h2 h3 h4 ih =>
  intro V k
  obtain ⟨T, k1, k2, k3, k4⟩ := k.last
  obtain rfl := ih k1
  exact sorted_uniq (h3.trans k3.symm) h4 k4
def Brk (n : Int) (ps : List (Int × Int)) (T0 : List Int) (ws : List (Int × Int)) : Prop := ∃ (i : Nat) (o z : Int) (U : List Int), ws[i]? = some (o, z) /\ Wk n ps T0 (ws.take i) U /\ ¬ exg n ps U o z
def Fr (n : Nat) (ps : List (Int × Int)) (l : List Int) : Bool := decide (grw n ps l = l)
theorem Fr.nil (n : Nat) (ps : List (Int × Int)) : Fr n ps [] = true := decide_eq_true rfl
def frs (n : Nat) (ps : List (Int × Int)) (k : Nat) : List (List Int) := (cmb (ps.length : Int) k).filter (Fr n ps)
def With (n : Int) (ps : List (Int × Int)) (I O U : List Int) : Prop := IsTree n ps U /\ (∀ z ∈ I, z ∈ U) /\ ∀ z ∈ O, z ∉ U
theorem With.sub {n : Int} {ps : List (Int × Int)} {I O U os : List Int} (h : With n ps I O U) (ho : ∀ z, z ∈ os ↔ (0 <= z /\ z < (ps.length : Int)) /\ z ∉ O) : ∀ z ∈ U, z ∈ I ++ os := fun z hz => List.mem_append_right _ ((ho z).mpr ⟨h.1.1.all z hz, fun h2 => h.2.2 z h2 hz⟩)
end My
namespace L2
open PySem PySem.Spec PyProof.Rows
section
variable {X : Cx}
end
end L2
namespace My
open PySem L2
def TupN (H : Hp) (v : V) (o : Option (List Int)) : Prop := match o with | none => v = .non | some l => TupV H v l
theorem TupN.same {H H' : Hp} {v : V} {o : Option (List Int)} (s : Same H H') (h : TupN H v o) : TupN H' v o := by
 cases o with
 | none => exact h
 | some l =>
  obtain ⟨a, e, h1⟩ := h
  exact ⟨a, e, s _ _ h1⟩
end My
namespace L2
open PySem PySem.Spec PyProof.Rows
section
variable {X : Cx}
end
end L2
namespace My
open PySem L2
def TC (n : Int) (ps : List (Int × Int)) (c : Nat) : Prop := ∃ L : List (List Int), L.Nodup /\ (∀ l, l ∈ L ↔ IsTree n ps l) /\ L.length = c
theorem TC.uniq {n : Int} {ps : List (Int × Int)} {c d : Nat} (h1 : TC n ps c) (h2 : TC n ps d) : c = d := by
 obtain ⟨L, a1, a2, rfl⟩ := h1
 obtain ⟨M, b1, b2, rfl⟩ := h2
 exact ((List.perm_ext_iff_of_nodup a1 b1).mpr fun l => by rw [a2, b2]).length_eq
end My
namespace L2
open PySem PySem.Spec PyProof.Rows
section
variable {X : Cx}
end
end L2
namespace My
open PySem L2
def PhL (n : Nat) (ps : List (Int × Int)) (H : Hp) (x : V) (l : List Int) : Prop := ∃ t p h, x = .ref t /\ H t = some (.tup [.ref p, .ref h]) /\ H p = some (.tup (IL l)) /\ H h = some (.lst (IL (lms n (endsOf ps l))))
def PhM (n : Nat) (ps : List (Int × Int)) (d : Addr) (H : Hp) (x : V) (l : List Int) : Prop := ∃ t p h, x = .ref t /\ H t = some (.tup [.ref p, .ref h]) /\ H p = some (.tup (IL l)) /\ H h = some (.lst (IL (lms n (endsOf ps l)))) /\ h ≠ d
theorem PhL.same {n : Nat} {ps : List (Int × Int)} {H H' : Hp} {x : V} {l : List Int} (s : Same H H') (h : PhL n ps H x l) : PhL n ps H' x l := by
 obtain ⟨t, p, q, e, h1, h2, h3⟩ := h
 exact ⟨t, p, q, e, s _ _ h1, s _ _ h2, s _ _ h3⟩
theorem PhM.same {n : Nat} {ps : List (Int × Int)} {d : Addr} {H H' : Hp} {x : V} {l : List Int} (s : Same H H') (h : PhM n ps d H x l) : PhM n ps d H' x l := by
 obtain ⟨t, p, q, e, h1, h2, h3, h4⟩ := h
 exact ⟨t, p, q, e, s _ _ h1, s _ _ h2, s _ _ h3, h4⟩
theorem PhM.low {n : Nat} {ps : List (Int × Int)} {d : Addr} {H : Hp} {x : V} {l : List Int} (h : PhM n ps d H x l) : PhL n ps H x l := by
 obtain ⟨t, p, q, e, h1, h2, h3, h4⟩ := h
 exact ⟨t, p, q, e, h1, h2, h3⟩
theorem PhM.mut {n : Nat} {ps : List (Int × Int)} {H : Hp} {d : Addr} {ys zs : List V} {x : V} {l : List Int} (h : PhM n ps d H x l) (hd : H d = some (.lst ys)) : PhM n ps d (upd H d (.lst zs)) x l := by
 obtain ⟨t, p, q, e, h1, h2, h3, h4⟩ := h
 exact ⟨t, p, q, e, by rw [upd_ne (ne_of h1 hd (fun z => nomatch z))]; exact h1, by rw [upd_ne (ne_of h2 hd (fun z => nomatch z))]; exact h2, by rw [upd_ne h4]; exact h3, h4⟩
theorem Bears.app {α : Type} [DecidableEq α] {R : V -> α -> Prop} {xs ys : List V} {l m : List α} (h : Bears R xs l) (h2 : Bears R ys m) : Bears R (xs ++ ys) (l ++ m) := by
 refine ⟨by rw [List.length_append, List.length_append, h.1, h2.1], fun i a e => ?_⟩
 have hl := h.1
 by_cases c : i < l.length
 ·rw [List.getElem?_append_left c] at e
  obtain ⟨x, e1, r⟩ := h.2 i a e
  exact ⟨x, by rw [List.getElem?_append_left (by omega)]; exact e1, r⟩
 ·rw [List.getElem?_append_right (by omega)] at e
  obtain ⟨x, e1, r⟩ := h2.2 _ a e
  exact ⟨x, by rw [List.getElem?_append_right (by omega), hl]; exact e1, r⟩
theorem PairsV.set {H : Hp} {xs : List V} {ps : List (Int × Int)} {v : V} {p : Int × Int} (h : PairsV H xs ps) (i : Nat) (q : PairV H v p) : PairsV H (xs.set i v) (ps.set i p) := by
 refine ⟨by rw [List.length_set, List.length_set]; exact h.1, fun j x e => ?_⟩
 have hl := h.1
 by_cases c : i = j
 ·subst c
  rw [List.getElem?_set] at e
  rw [if_pos rfl] at e
  by_cases hlt : i < ps.length
  ·rw [if_pos hlt] at e
   obtain rfl := Option.some.inj e
   exact ⟨v, by rw [List.getElem?_set, if_pos rfl, if_pos (by omega)], q⟩
  ·rw [if_neg hlt] at e
   cases e
 ·rw [List.getElem?_set, if_neg c] at e
  obtain ⟨w, e1, r⟩ := h.2 j x e
  exact ⟨w, by rw [List.getElem?_set, if_neg c]; exact e1, r⟩
end My
namespace L2
open PySem PySem.Spec PyProof.Rows
section
variable {X : Cx}
end
end L2
namespace My
open PySem L2
section
variable {K : PySem.W.Frag} {a b : Addr} {xs ys : List V} {g : TG} {tt : TT} {te : TE} {o : Nat} {fr : List Nat} {σ : St} {H : Hp} {Q : VK}
end
end My
namespace My
def sm : Nat -> (Nat -> Int) -> Int
 | 0, _ => 0
 | n + 1, f => sm n f + f n
def ex (k : Nat) (r : Nat -> Nat) (i : Nat) : Nat := if i < k then i else k + r (i - k)
end My
namespace L2
open PySem PySem.Spec PyProof.Rows
section
variable {X : Cx}
end
end L2
namespace My
end My
namespace My
open PySem L2
def RowV (K : PySem.W.Frag) (H : Hp) (v : V) (l : List Int) : Prop := ∃ (r : Addr) (k : Bool), v = .ref r /\ SqK k K H r (IL l)
theorem RowV.same {K : PySem.W.Frag} {H H' : Hp} {v : V} {l : List Int} (s : Same H H') (h : RowV K H v l) : RowV K H' v l := by
 obtain ⟨r, k, e, h⟩ := h
 exact ⟨r, k, e, h.same s⟩
def LiV (d : Addr) (H : Hp) (v : V) (l : List Int) : Prop := ∃ r, v = .ref r /\ H r = some (.lst (IL l)) /\ r ≠ d
theorem LiV.same {d : Addr} {H H' : Hp} {v : V} {l : List Int} (s : Same H H') (h : LiV d H v l) : LiV d H' v l := by
 obtain ⟨r, e, h, n⟩ := h
 exact ⟨r, e, s _ _ h, n⟩
theorem LiV.mut {d : Addr} {H : Hp} {v : V} {l : List Int} {o : HO} (h : LiV d H v l) : LiV d (upd H d o) v l := by
 obtain ⟨r, e, h, n⟩ := h
 exact ⟨r, e, by rw [upd_ne n]; exact h, n⟩
theorem LiV.list {d : Addr} {H : Hp} {v : V} {l : List Int} (h : LiV d H v l) : ListV H v l := by
 obtain ⟨r, e, h, _⟩ := h
 exact ⟨r, e, h⟩
end My
namespace My
def ind (u v i : Nat) : Int := (if i = u then 1 else 0) - (if i = v then 1 else 0)
end My
namespace My
open PySem L2
end My
namespace L2
open PySem PySem.Spec PyProof.Rows
section
variable {X : Cx}
end
end L2
namespace My
open PySem L2
structure TabAt (H0 : Hp) (r : Addr) (n : Nat) (H : Hp) (ys : List V) (L : List (List Int)) : Prop where
 tab : H r = some (.lst ys)
 rows : Bears (LiV r H) ys L
 len : L.length = n
 all : ∀ l ∈ L, l.length = n
 nd : ys.Nodup
 new : ∀ A, V.ref A ∈ ys -> H0 A = none
theorem TabAt.same {H0 H H' : Hp} {r : Addr} {n : Nat} {ys : List V} {L : List (List Int)} (s : Same H H') (h : TabAt H0 r n H ys L) : TabAt H0 r n H' ys L := ⟨s _ _ h.tab, h.rows.imp fun _ _ q => q.same s, h.len, h.all, h.nd, h.new⟩
theorem TabAt.at {H0 H : Hp} {r : Addr} {n : Nat} {ys : List V} {L : List (List Int)} (h : TabAt H0 r n H ys L) {i : Nat} (hi : i < n) : ∃ (A : Addr) (l : List Int), ys[i]? = some (.ref A) /\ L[i]? = some l /\ H A = some (.lst (IL l)) /\ l.length = n /\ H0 A = none /\ A ≠ r := by
 have hl := h.len
 obtain ⟨l, e⟩ : ∃ l, L[i]? = some l := ⟨_, List.getElem?_eq_getElem (by omega)⟩
 obtain ⟨v, e1, A, rfl, e2, e3⟩ := h.rows.2 i l e
 exact ⟨A, l, e1, e, e2, h.all l (List.mem_of_getElem? e), h.new A (List.mem_of_getElem? e1), e3⟩
theorem TabAt.put {H0 H : Hp} {r : Addr} {n : Nat} {ys : List V} {L : List (List Int)} (h : TabAt H0 r n H ys L) {i : Nat} {A : Addr} {l l' : List Int} (e1 : ys[i]? = some (.ref A)) (e2 : L[i]? = some l) (e3 : A ≠ r) (hl : l'.length = n) : TabAt H0 r n (upd H A (.lst (IL l'))) ys (L.set i l') := by
 have hi := (List.getElem?_eq_some_iff.mp e2).1
 have hil := (List.getElem?_eq_some_iff.mp e1).1
 refine ⟨by rw [upd_ne (Ne.symm e3)]; exact h.tab, ⟨by rw [List.length_set]; exact h.rows.1, fun j m em => ?_⟩, by rw [List.length_set]; exact h.len, fun m hm => ?_, h.nd, h.new⟩
 ·rw [List.getElem?_set] at em
  by_cases c : i = j
  ·subst c
   rw [if_pos rfl, if_pos hi] at em
   obtain rfl := Option.some.inj em
   exact ⟨_, e1, A, rfl, upd_same, e3⟩
  ·rw [if_neg c] at em
   obtain ⟨v, f1, B, rfl, f2, f3⟩ := h.rows.2 j m em
   refine ⟨_, f1, B, rfl, ?_, f3⟩
   rw [upd_ne]
   ·exact f2
   ·intro e
    rw [e] at f1
    exact c (nodup_get h.nd e1 f1)
 ·rcases List.mem_or_eq_of_mem_set hm with e | e
  ·exact h.all m e
  ·rw [e]; exact hl
def top (i : Nat) : Stmt := PySem.Challenge.pw_spanrow_k48_walks_walked.main.body.getD i (.Pass ⟨0, 0, 0, 0⟩)
abbrev s_is_tie : Stmt := top 11
abbrev s_refuse_bad_web : Stmt := top 10
abbrev s_Web___init : Stmt := inClass (top 9) 0
abbrev s_is_set : Stmt := top 13
abbrev s_made_set : Stmt := top 14
abbrev s_merged_marks : Stmt := top 15
abbrev s_piece_marks : Stmt := top 16
abbrev s_pieces_of : Stmt := top 17
abbrev s_is_joined : Stmt := top 18
abbrev s_is_tree : Stmt := top 20
abbrev s_refuse_no_tree : Stmt := top 21
abbrev s_ties_without : Stmt := top 12
abbrev s_tree_cut : Stmt := top 22
abbrev s_exchanged : Stmt := top 23
abbrev s_walked : Stmt := top 25
abbrev s_law_at : Stmt := top 27
abbrev s_law_mix : Stmt := top 28
abbrev s_law_web : Stmt := top 29
abbrev s_law_marks : Stmt := top 30
abbrev s_law_tree : Stmt := top 31
abbrev s_law_trees : Stmt := top 32
abbrev s_law_instead : Stmt := top 33
abbrev s_law_exchanges : Stmt := top 34
abbrev s_law_walk : Stmt := top 35
abbrev s_law_due : Stmt := top 36
abbrev s_law_bent : Stmt := top 37
abbrev s_law_told : Stmt := top 38
abbrev s_law : Stmt := top 39
structure Adr where
 a_is_tie : Addr
 d_is_tie : FuncData
 a_refuse_bad_web : Addr
 d_refuse_bad_web : FuncData
 a_Web___init : Addr
 d_Web___init : FuncData
 a_is_set : Addr
 d_is_set : FuncData
 a_made_set : Addr
 d_made_set : FuncData
 a_merged_marks : Addr
 d_merged_marks : FuncData
 a_piece_marks : Addr
 d_piece_marks : FuncData
 a_pieces_of : Addr
 d_pieces_of : FuncData
 a_is_joined : Addr
 d_is_joined : FuncData
 a_is_tree : Addr
 d_is_tree : FuncData
 a_refuse_no_tree : Addr
 d_refuse_no_tree : FuncData
 a_ties_without : Addr
 d_ties_without : FuncData
 a_tree_cut : Addr
 d_tree_cut : FuncData
 a_exchanged : Addr
 d_exchanged : FuncData
 a_walked : Addr
 d_walked : FuncData
 a_law_at : Addr
 d_law_at : FuncData
 a_law_mix : Addr
 d_law_mix : FuncData
 a_law_web : Addr
 d_law_web : FuncData
 a_law_marks : Addr
 d_law_marks : FuncData
 a_law_tree : Addr
 d_law_tree : FuncData
 a_law_trees : Addr
 d_law_trees : FuncData
 a_law_instead : Addr
 d_law_instead : FuncData
 a_law_exchanges : Addr
 d_law_exchanges : FuncData
 a_law_walk : Addr
 d_law_walk : FuncData
 a_law_due : Addr
 d_law_due : FuncData
 a_law_bent : Addr
 d_law_bent : FuncData
 a_law_told : Addr
 d_law_told : FuncData
 a_law : Addr
 d_law : FuncData
 A_Web : Addr
 A_WebError : Addr
 A_NoTree : Addr
 A_NoTie : Addr
structure Txt (K : PySem.W.Frag) (mg : Str -> Option Value) (t : Adr) : Prop where
 f_is_tie : Fun K "is_tie" "is_tie" s_is_tie t.a_is_tie t.d_is_tie
 b_is_tie : Binds K t.d_is_tie ["web", "number"] []
 m_is_tie : mg "is_tie" = some (.ref t.a_is_tie)
 f_refuse_bad_web : Fun K "refuse_bad_web" "refuse_bad_web" s_refuse_bad_web t.a_refuse_bad_web t.d_refuse_bad_web
 b_refuse_bad_web : Binds K t.d_refuse_bad_web ["places", "ties"] []
 m_refuse_bad_web : mg "refuse_bad_web" = some (.ref t.a_refuse_bad_web)
 f_Web___init : Fun K "__init__" "Web.__init__" s_Web___init t.a_Web___init t.d_Web___init
 b_Web___init : Binds K t.d_Web___init ["self", "places", "ties"] []
 f_is_set : Fun K "is_set" "is_set" s_is_set t.a_is_set t.d_is_set
 b_is_set : Binds K t.d_is_set ["web", "ties"] []
 m_is_set : mg "is_set" = some (.ref t.a_is_set)
 f_made_set : Fun K "made_set" "made_set" s_made_set t.a_made_set t.d_made_set
 b_made_set : Binds K t.d_made_set ["web", "ties"] []
 m_made_set : mg "made_set" = some (.ref t.a_made_set)
 f_merged_marks : Fun K "merged_marks" "merged_marks" s_merged_marks t.a_merged_marks t.d_merged_marks
 b_merged_marks : Binds K t.d_merged_marks ["web", "marks", "ties"] []
 m_merged_marks : mg "merged_marks" = some (.ref t.a_merged_marks)
 f_piece_marks : Fun K "piece_marks" "piece_marks" s_piece_marks t.a_piece_marks t.d_piece_marks
 b_piece_marks : Binds K t.d_piece_marks ["web", "ties"] []
 m_piece_marks : mg "piece_marks" = some (.ref t.a_piece_marks)
 f_pieces_of : Fun K "pieces_of" "pieces_of" s_pieces_of t.a_pieces_of t.d_pieces_of
 b_pieces_of : Binds K t.d_pieces_of ["web", "ties"] []
 m_pieces_of : mg "pieces_of" = some (.ref t.a_pieces_of)
 f_is_joined : Fun K "is_joined" "is_joined" s_is_joined t.a_is_joined t.d_is_joined
 b_is_joined : Binds K t.d_is_joined ["web", "ties"] []
 m_is_joined : mg "is_joined" = some (.ref t.a_is_joined)
 f_is_tree : Fun K "is_tree" "is_tree" s_is_tree t.a_is_tree t.d_is_tree
 b_is_tree : Binds K t.d_is_tree ["web", "ties"] []
 m_is_tree : mg "is_tree" = some (.ref t.a_is_tree)
 f_refuse_no_tree : Fun K "refuse_no_tree" "refuse_no_tree" s_refuse_no_tree t.a_refuse_no_tree t.d_refuse_no_tree
 b_refuse_no_tree : Binds K t.d_refuse_no_tree ["web", "tree"] []
 m_refuse_no_tree : mg "refuse_no_tree" = some (.ref t.a_refuse_no_tree)
 f_ties_without : Fun K "ties_without" "ties_without" s_ties_without t.a_ties_without t.d_ties_without
 b_ties_without : Binds K t.d_ties_without ["ties", "left_out"] []
 m_ties_without : mg "ties_without" = some (.ref t.a_ties_without)
 f_tree_cut : Fun K "tree_cut" "tree_cut" s_tree_cut t.a_tree_cut t.d_tree_cut
 b_tree_cut : Binds K t.d_tree_cut ["web", "tree", "tie"] []
 m_tree_cut : mg "tree_cut" = some (.ref t.a_tree_cut)
 f_exchanged : Fun K "exchanged" "exchanged" s_exchanged t.a_exchanged t.d_exchanged
 b_exchanged : Binds K t.d_exchanged ["web", "tree", "out", "into"] []
 m_exchanged : mg "exchanged" = some (.ref t.a_exchanged)
 f_walked : Fun K "walked" "walked" s_walked t.a_walked t.d_walked
 b_walked : Binds K t.d_walked ["web", "tree", "walk"] []
 m_walked : mg "walked" = some (.ref t.a_walked)
 f_law_at : Fun K "_law_at" "_law_at" s_law_at t.a_law_at t.d_law_at
 b_law_at : Binds K t.d_law_at ["script", "k"] []
 m_law_at : mg "_law_at" = some (.ref t.a_law_at)
 f_law_mix : Fun K "_law_mix" "_law_mix" s_law_mix t.a_law_mix t.d_law_mix
 b_law_mix : Binds K t.d_law_mix ["cell", "k", "size"] []
 m_law_mix : mg "_law_mix" = some (.ref t.a_law_mix)
 f_law_web : Fun K "_law_web" "_law_web" s_law_web t.a_law_web t.d_law_web
 b_law_web : Binds K t.d_law_web ["head", "cell", "most", "ties_most"] []
 m_law_web : mg "_law_web" = some (.ref t.a_law_web)
 f_law_marks : Fun K "_law_marks" "_law_marks" s_law_marks t.a_law_marks t.d_law_marks
 b_law_marks : Binds K t.d_law_marks ["places", "ties"] []
 m_law_marks : mg "_law_marks" = some (.ref t.a_law_marks)
 f_law_tree : Fun K "_law_tree" "_law_tree" s_law_tree t.a_law_tree t.d_law_tree
 b_law_tree : Binds K t.d_law_tree ["places", "ties", "chosen"] []
 m_law_tree : mg "_law_tree" = some (.ref t.a_law_tree)
 f_law_trees : Fun K "_law_trees" "_law_trees" s_law_trees t.a_law_trees t.d_law_trees
 b_law_trees : Binds K t.d_law_trees ["places", "ties"] []
 m_law_trees : mg "_law_trees" = some (.ref t.a_law_trees)
 f_law_instead : Fun K "_law_instead" "_law_instead" s_law_instead t.a_law_instead t.d_law_instead
 b_law_instead : Binds K t.d_law_instead ["tree", "pair"] []
 m_law_instead : mg "_law_instead" = some (.ref t.a_law_instead)
 f_law_exchanges : Fun K "_law_exchanges" "_law_exchanges" s_law_exchanges t.a_law_exchanges t.d_law_exchanges
 b_law_exchanges : Binds K t.d_law_exchanges ["every", "tree", "count"] []
 m_law_exchanges : mg "_law_exchanges" = some (.ref t.a_law_exchanges)
 f_law_walk : Fun K "_law_walk" "_law_walk" s_law_walk t.a_law_walk t.d_law_walk
 b_law_walk : Binds K t.d_law_walk ["every", "tree", "count", "cell"] []
 m_law_walk : mg "_law_walk" = some (.ref t.a_law_walk)
 f_law_due : Fun K "_law_due" "_law_due" s_law_due t.a_law_due t.d_law_due
 b_law_due : Binds K t.d_law_due ["every", "tree", "count", "walk"] []
 m_law_due : mg "_law_due" = some (.ref t.a_law_due)
 f_law_bent : Fun K "_law_bent" "_law_bent" s_law_bent t.a_law_bent t.d_law_bent
 b_law_bent : Binds K t.d_law_bent ["tree", "count", "cell"] []
 m_law_bent : mg "_law_bent" = some (.ref t.a_law_bent)
 f_law_told : Fun K "_law_told" "_law_told" s_law_told t.a_law_told t.d_law_told
 b_law_told : Binds K t.d_law_told ["web", "tree", "walk"] []
 m_law_told : mg "_law_told" = some (.ref t.a_law_told)
 f_law : Fun K "law" "law" s_law t.a_law t.d_law
 b_law : Binds K t.d_law ["script"] []
 m_law : mg "law" = some (.ref t.a_law)
 c_Web : mg "Web" = some (.ref t.A_Web)
 cl_Web : Cls K t.A_Web
 k_Web : Mk K t.A_Web t.a_Web___init
 n_Web_places : NoAttr K t.A_Web "places"
 n_Web_ties : NoAttr K t.A_Web "ties"
 c_WebError : mg "WebError" = some (.ref t.A_WebError)
 c_NoTree : mg "NoTree" = some (.ref t.A_NoTree)
 c_NoTie : mg "NoTie" = some (.ref t.A_NoTie)
 x_NoTree : XCls K (t.A_NoTree)
 x_NoTie : XCls K (t.A_NoTie)
 ki_NoTree_NoTie : PySem.W.kitOne K (.ref (t.A_NoTree)) (.ref (t.A_NoTie)) = some false
 ki_NoTree_ValueError : PySem.W.kitOne K (.ref (t.A_NoTree)) (.type "ValueError") = some true
 em_NoTree : PySem.W.exmOne K (.ref (t.A_NoTree)) (.ref (t.A_WebError)) = some true
 ki_NoTie_NoTree : PySem.W.kitOne K (.ref (t.A_NoTie)) (.ref (t.A_NoTree)) = some false
 ki_NoTie_ValueError : PySem.W.kitOne K (.ref (t.A_NoTie)) (.type "ValueError") = some true
 em_NoTie : PySem.W.exmOne K (.ref (t.A_NoTie)) (.ref (t.A_WebError)) = some true
 g_MOST_PLACES : ∃ tk, mg "MOST_PLACES" = some (.int 14 tk)
 g_MOST_TIES : ∃ tk, mg "MOST_TIES" = some (.int 30 tk)
 n_ValueError : mg "ValueError" = none
 n_enumerate : mg "enumerate" = none
 n_int : mg "int" = none
 n_isinstance : mg "isinstance" = none
 n_len : mg "len" = none
 n_list : mg "list" = none
 n_max : mg "max" = none
 n_min : mg "min" = none
 n_range : mg "range" = none
 n_reversed : mg "reversed" = none
 n_set : mg "set" = none
 n_sorted : mg "sorted" = none
 n_sum : mg "sum" = none
 n_tuple : mg "tuple" = none
end My
namespace My
open PySem L2 PyProof.Rows
set_option maxHeartbeats 4000000
def sp_is_tie (C : Addr) : Sp := fun vs H Q _ => ∃ (w : Addr) (n : Int) (ps : List (Int × Int)) (k : Int), vs = [.ref w, .int k] /\ WebAt C H w n ps /\ Q (.bl (decide (0 <= k /\ k < (ps.length : Int)))) H
section
variable {P : Program} {w : World} {K : PySem.W.Frag} {mg : Str -> Option Value} {base : Heap} {t : Adr}
theorem sc_is_tie : FnScope ["web", "number"] ["web", "number"] (defScope s_is_tie) := ⟨rfl, rfl, rfl, by decide +kernel, rfl, by decide +kernel, by decide +kernel⟩
theorem ok_is_tie (T : Txt K mg t) : FnOk P w K mg base CX0 1 t.a_is_tie t.d_is_tie ["web", "number"] (sp_is_tie t.A_Web) := by
 refine T.f_is_tie.ok sc_is_tie (fun vs H Q E h => ?_) (fun cdv A outer s H vs Q E hr h => ?_)
 ·obtain ⟨w, n, ps, k, rfl, _⟩ := h
  rfl
 ·obtain ⟨w, n, ps, k, rfl, ⟨dx, tl, xs, h1, h2, h3⟩, q⟩ := h
  refine ⟨_, (pss_one (ps_ret (pe_chain op_le op_lt pe_int (pv 1) (pe_callB (call_lenK K) (by rfl) T.n_len Boot.«len» (pa_cons (pe_fldK K (pv 0) rfl) pa_nil))))), ?_⟩
  refine ⟨_, rfl, _, _, rfl, rfl, _, rfl, ?_⟩
  refine ite2 (fun hc => ?_) (fun hc => ?_)
  ·refine ⟨_, rfl, w, _, dx, _, _, rfl, h1, T.cl_Web, T.n_Web_ties, wf_ties _ _, tl, xs, rfl, .inl (SqL.of h2), _, _, rfl, rfl, ?_⟩
   have hc := of_decide_eq_true hc
   show Q (.bl (decide (k < (xs.length : Int)))) H
   rw [h3.1, show decide (k < (ps.length : Int)) = decide (0 <= k /\ k < (ps.length : Int)) from by simp [hc]]
   exact q
  ·have hc : ¬ (0 <= k) := fun z => hc (decide_eq_true z)
   show Q (.bl false) H
   rw [show (false : Bool) = decide (0 <= k /\ k < (ps.length : Int)) from by simp; omega]
   exact q
end
set_option maxHeartbeats 4000000
def sp_refuse_bad_web (K : PySem.W.Frag) : Sp := fun vs H Q _ => ∃ (n : Int) (a : Addr) (kd : Bool) (xs : List V) (ps : List (Int × Int)), vs = [.int n, .ref a] /\ SqK kd K H a xs /\ PairsV H xs ps /\ GoodW n ps /\ Q .non H
section
variable {P : Program} {w : World} {K : PySem.W.Frag} {mg : Str -> Option Value} {base : Heap} {t : Adr}
theorem sc_refuse_bad_web : FnScope ["places", "ties", "ends", "end"] ["places", "ties"] (defScope s_refuse_bad_web) := ⟨rfl, rfl, rfl, by decide +kernel, rfl, by decide +kernel, by decide +kernel⟩
theorem ok_refuse_bad_web (T : Txt K mg t) : FnOk P w K mg base CX0 1 t.a_refuse_bad_web t.d_refuse_bad_web ["places", "ties"] (sp_refuse_bad_web K) := by
 refine T.f_refuse_bad_web.ok sc_refuse_bad_web (fun vs H Q E h => ?_) (fun cdv A outer s H vs Q E hr h => ?_)
 ·obtain ⟨n, a, kd, xs, ps, rfl, _⟩ := h
  rfl
 ·obtain ⟨n, a, kd, xs, ps, rfl, hS, hp, ⟨g1, g2, g3, g4⟩, q⟩ := h
  refine ⟨_, (pss_cons (ps_if (pt_not (pt_chain op_le op_le pe_int (pv 0) (pe_glob (v := V.int 14) rfl T.g_MOST_PLACES.choose_spec ⟨_, rfl⟩)))
   (pss_one ps_never)
   pss_nil)
   (pss_cons (ps_if (pt_cmpR op_gt (pe_callB (call_lenK K) (by rfl) T.n_len Boot.«len» (pa_cons (pv 1) pa_nil)) (pe_glob (v := V.int 30) rfl T.g_MOST_TIES.choose_spec ⟨_, rfl⟩) (nomark _))
   (pss_one ps_never)
   pss_nil)
   (pss_one (ps_for PassesOwn.never rfl (pi_seqK K (pv 1)) (pg_name (i := 2) sc_refuse_bad_web.nd rfl (Or.inl rfl))
   (pss_one (ps_for PassesOwn.never rfl (pi_tupK K (pv 2)) (pg_name (i := 3) sc_refuse_bad_web.nd rfl (Or.inl rfl))
   (pss_one (ps_if (pt_not (pt_chain op_le op_lt pe_int (pv 3) (pv 0)))
   (pss_one ps_never)
   pss_nil)))))))), ?_⟩
  refine ⟨_, rfl, _, _, rfl, rfl, _, rfl, ?_⟩
  refine itd g1 ?_
  refine ⟨_, _, rfl, rfl, _, rfl, ?_⟩
  refine itn g2 ?_
  refine ⟨_, rfl, a, xs, rfl, hS.or, _, _, rfl, rfl, _, rfl, ?_⟩
  refine itdn (by rw [hp.1]; omega) ?_
  refine ⟨_, rfl, a, rfl, for_seq (k := kd) (K := K) (xs := xs) (fun i σ H2 => ∃ v v2, σ = [some (.int n), some (.ref a), v, v2] /\ H2 = H) ⟨none, none, rfl, rfl⟩ (fun i σ H2 _ ⟨_, _, _, e⟩ => e ▸ hS) ?_ ?_⟩
  ·rintro i x σ H2 hi ⟨v, v2, rfl, rfl⟩
   obtain ⟨p, hpi, tt, rfl, ht⟩ := hp.at hi
   obtain ⟨e1, e2, e3, e4⟩ := g4 p (List.mem_of_getElem? hpi)
   refine ⟨_, rfl, tt, rfl, ⟨_, SqT.of ht⟩, for_tup (K := K) (a := tt) (xs := [.int p.1, .int p.2]) (fun j σ H3 => ∃ v v2, σ = [some (.int n), some (.ref a), v, v2] /\ H3 = H2) ⟨_, _, rfl, rfl⟩ (fun j σ H3 _ ⟨_, _, _, e⟩ => e ▸ SqT.of ht) ?_ ?_⟩
   ·rintro j y σ H3 hj ⟨v, v2, rfl, rfl⟩
    have hy : ∃ z : Int, y = .int z /\ 0 <= z /\ z < n := by
     match j, hj with
     | 0, hj => exact ⟨p.1, (Option.some.inj hj).symm, e1, e2⟩
     | 1, hj => exact ⟨p.2, (Option.some.inj hj).symm, e3, e4⟩
    obtain ⟨z, rfl, z1, z2⟩ := hy
    refine ⟨_, rfl, _, _, rfl, rfl, _, rfl, ?_⟩
    refine itd z1 ?_
    refine ⟨_, rfl, _, _, rfl, rfl, _, rfl, ?_⟩
    refine itn z2 ?_
    exact ⟨_, _, rfl, rfl⟩
   ·rintro σ H3 ⟨v, v2, rfl, rfl⟩
    exact ⟨_, _, rfl, rfl⟩
  ·rintro σ H2 ⟨v, v2, rfl, rfl⟩
   exact q
end
set_option maxHeartbeats 4000000
def sp_Web_init (K : PySem.W.Frag) (C : Addr) : Sp := fun vs H Q _ => ∃ (w dx : Addr) (n : Int) (a : Addr) (kd : Bool) (xs : List V) (ps : List (Int × Int)), vs = [.ref w, .int n, .ref a] /\ H w = some (.ins C dx []) /\ (∀ o, SqK kd K (upd H w o) a xs) /\ PairsV H xs ps /\ GoodW n ps /\
 ∀ H' : Hp, WebAt C H' w n ps -> (∀ b o, H b = some o -> b ≠ w -> H' b = some o) -> Q .non H'
section
variable {P : Program} {w : World} {K : PySem.W.Frag} {mg : Str -> Option Value} {base : Heap} {t : Adr}
theorem sc_Web___init : FnScope ["self", "places", "ties"] ["self", "places", "ties"] (defScope s_Web___init) := ⟨rfl, rfl, rfl, by decide +kernel, rfl, by decide +kernel, by decide +kernel⟩
theorem ok_Web___init (T : Txt K mg t) : FnOk P w K mg base CX0 2 t.a_Web___init t.d_Web___init ["self", "places", "ties"] (sp_Web_init K t.A_Web) := by
 refine T.f_Web___init.ok sc_Web___init (fun vs H Q E h => ?_) (fun cdv A outer s H vs Q E hr h => ?_)
 ·obtain ⟨w, dx, n, a, kd, xs, ps, rfl, _⟩ := h
  rfl
 ·obtain ⟨w, dx, n, a, kd, xs, ps, rfl, hw, hS, hp, g, q⟩ := h
  have eH : upd H w (.ins t.A_Web dx []) = H := by
   funext b
   by_cases hb : b = w
   ·subst hb; rw [upd_same, hw]
   ·rw [upd_ne hb]
  have hS0 : SqK kd K H a xs := by have z := hS (.ins t.A_Web dx []); rw [eH] at z; exact z
  refine ⟨_, (pss_cons (ps_expr (pe_call (ok_refuse_bad_web T) (hr.mono (by decide)) rfl T.m_refuse_bad_web T.f_refuse_bad_web.kp T.b_refuse_bad_web .nil pass0 (pa_cons (pv 1) (pa_cons (pv 2) pa_nil))))
   (pss_cons (ps_fld (pv 0) (pv 1) rfl)
   (pss_one (ps_fld (pv 0) (pe_lc rfl (sc0 := defScope s_Web___init) (N0 := ["self", "places", "ties"]) (N' := ["ends"]) (o := 1) (fr := []) ⟨rfl, by decide +kernel, by decide +kernel, by decide +kernel, rfl, by decide +kernel⟩ (pi_seqK K (pv 2)) (own_name (by decide)) (fun _ _ _ _ => (pg_name (i := 0) (show List.Nodup (["ends"] : List Str) by decide +kernel) rfl (Or.inl rfl))) (fun _ _ _ _ => pts_nil) (fun _ _ _ _ => (pe_tup (pa_cons (pe_ix (ix_tupK K) (pv 0) pe_int (fun _ _ => rfl)) (pa_cons (pe_ix (ix_tupK K) (pv 0) pe_int (fun _ _ => rfl)) pa_nil))))) rfl)))), ?_⟩
  refine ⟨_, rfl, _, rfl, n, a, kd, xs, ps, rfl, hS0, hp, g, ?_⟩
  refine ⟨_, rfl, _, rfl, w, _, dx, [], rfl, hw, T.cl_Web, T.n_Web_places, (by show 0 < 1000; decide), ?_⟩
  have hp1 : PairsV (upd H w (.ins t.A_Web dx (putF "places" (.int n) []))) xs ps := ⟨hp.1, fun i p e => by
   obtain ⟨v, e1, tt, e2, e3⟩ := hp.2 i p e
   exact ⟨v, e1, tt, e2, by rw [upd_ne (ne_of e3 hw (fun z => nomatch z))]; exact e3⟩⟩
  have sx : xs.length < sizeLine := small60' (by rw [hp.1]; have := g.2.2.1; omega)
  refine ⟨_, rfl, a, rfl, lc_seq (k := kd) (K := K) (xs := xs) (fun i ys H2 => i <= xs.length /\ ys.length = i /\ Same (upd H w (.ins t.A_Web dx (putF "places" (.int n) []))) H2 /\ PairsV H2 ys (ps.take i)) ⟨Nat.zero_le _, rfl, Same.refl _, PairsV.nil⟩ sx
   (fun i ys H2 _ ⟨_, hl, s2, _⟩ => ⟨(hS _).same s2, Nat.le_of_eq hl⟩) ?_ ?_⟩
  ·rintro i x ys H2 hi ⟨h1, hl, s2, hy⟩ S hSS
   obtain ⟨p, hpi, tt, rfl, ht⟩ := hp1.at hi
   have ht2 := s2 _ _ ht
   refine nmY ?_
   refine ⟨_, rfl, tt, _, 0, .int p.1, rfl, rfl, SqT.of ht2, rfl, _, rfl, tt, _, 1, .int p.2, rfl, rfl, SqT.of ht2, rfl, (by show 2 <= sizeLine; decide), fun q hq => ?_⟩
   have hil : i < xs.length := (List.getElem?_eq_some_iff.mp hi).1
   refine hSS _ _ ⟨hil, by rw [List.length_append, hl]; rfl, same_new s2 hq, ?_⟩
   rw [List.take_succ, hpi]
   exact (hy.same (same_at hq)).snoc ⟨q, rfl, upd_same⟩
  ·rintro ys H2 ⟨_, hl, s2, hy⟩ tl htl
   have hw2 := s2 w _ upd_same
   have nwt : w ≠ tl := ne_of_none hw2 htl
   refine ⟨_, rfl, w, _, dx, _, rfl, (by rw [upd_ne nwt]; exact hw2), T.cl_Web, T.n_Web_ties, (by show 1 < 1000; decide), ?_⟩
   refine q _ ⟨dx, tl, ys, upd_same, by rw [upd_ne (Ne.symm nwt), upd_same], ?_⟩ fun b ob e hb => ?_
   ·have e1 : ps.take xs.length = ps := List.take_of_length_le (by rw [hp.1]; exact Nat.le_refl _)
    rw [e1] at hy
    refine ⟨hy.1, fun i p e => ?_⟩
    obtain ⟨v, e2, tt, e3, e4⟩ := hy.2 i p e
    exact ⟨v, e2, tt, e3, by rw [upd_ne (ne_of e4 hw2 (fun z => nomatch z)), upd_ne (ne_of_none e4 htl)]; exact e4⟩
   ·have e2 := s2 b ob (by rw [upd_ne hb]; exact e)
    rw [upd_ne hb, upd_ne (ne_of_none e2 htl)]
    exact e2
end
set_option maxHeartbeats 4000000
def sp_is_set (K : PySem.W.Frag) (C : Addr) : Sp := fun vs H Q _ => ∃ (w a : Addr) (n : Int) (ps : List (Int × Int)) (kd : Bool) (ns : List Int), vs = [.ref w, .ref a] /\ WebAt C H w n ps /\ SqK kd K H a (IL ns) /\ ∀ b : Bool, (b = true ↔ IsSet ps.length ns) -> Q (.bl b) H
section
variable {P : Program} {w : World} {K : PySem.W.Frag} {mg : Str -> Option Value} {base : Heap} {t : Adr}
theorem sc_is_set : FnScope ["web", "ties", "last", "tie"] ["web", "ties"] (defScope s_is_set) := ⟨rfl, rfl, rfl, by decide +kernel, rfl, by decide +kernel, by decide +kernel⟩
theorem ok_is_set (T : Txt K mg t) : FnOk P w K mg base CX0 2 t.a_is_set t.d_is_set ["web", "ties"] (sp_is_set K t.A_Web) := by
 refine T.f_is_set.ok sc_is_set (fun vs H Q E h => ?_) (fun cdv A outer s H vs Q E hr h => ?_)
 ·obtain ⟨w, a, n, ps, kd, ns, rfl, _⟩ := h
  rfl
 ·obtain ⟨w, a, n, ps, kd, ns, rfl, hW, hS, q⟩ := h
  refine ⟨_, (pss_cons (ps_set (i := 2) sc_is_set.nd rfl (Or.inl rfl) (pe_un un_neg pe_int))
   (pss_cons (ps_for PassesOwn.never rfl (pi_seqK K (pv 1)) (pg_name (i := 3) sc_is_set.nd rfl (Or.inl rfl))
   (pss_cons (ps_if (PW.pt (pw_or (pt_cmpR op_le (pv 3) (pv 2) (nomark _)) (pw_or1 (pt_not (pt_val (pe_call (ok_is_tie T) (hr.mono (by decide)) rfl T.m_is_tie T.f_is_tie.kp T.b_is_tie .nil pass0 (pa_cons (pv 0) (pa_cons (pv 3) pa_nil))))))))
   (pss_one (ps_ret pe_bl))
   pss_nil)
   (pss_one (ps_set (i := 2) sc_is_set.nd rfl (Or.inl rfl) (pv 3)))))
   (pss_one (ps_ret pe_bl)))), ?_⟩
  refine ⟨_, rfl, ?_⟩
  refine ⟨_, rfl, a, rfl, for_seq (k := kd) (K := K) (xs := IL ns) (fun i σ H2 => ∃ (l : Int) (v : Option V), σ = [some (.ref w), some (.ref a), some (.int l), v] /\ H2 = H /\ (i = 0 -> l = -1) /\ (i ≠ 0 -> ns[i - 1]? = some l) /\ ∀ j z, j < i -> ns[j]? = some z -> 0 <= z /\ z < (ps.length : Int) /\ ∀ y, j ≠ 0 -> ns[j - 1]? = some y -> y < z)
   ⟨-1, none, rfl, rfl, fun _ => rfl, fun z => absurd rfl z, fun j z hj => absurd hj (Nat.not_lt_zero j)⟩ (fun i σ H2 _ ⟨_, _, _, e, _⟩ => e ▸ hS) ?_ ?_⟩
  ·rintro i x σ H2 hi ⟨l, v, rfl, rfl, hl0, hl1, hp⟩
   obtain ⟨z, rfl, hz⟩ := il_get hi
   refine ⟨_, rfl, _, rfl, _, _, rfl, rfl, _, rfl, ?_⟩
   refine itd2 (fun hc => ?_) (fun hc => ?_)
   ·-- tie <= last
    refine iteT ?_
    refine q false ⟨fun z => (nomatch z), fun hs => ?_⟩
    obtain ⟨b1, b2, b3⟩ := hs i z hz
    by_cases h0 : i = 0
    ·have := hl0 h0; omega
    ·have := b3 l h0 (hl1 h0); omega
   ·refine ⟨_, rfl, _, rfl, w, n, ps, z, rfl, hW, _, rfl, ?_⟩
    refine itn2 (fun hc2 => ?_) (fun hc2 => ?_)
    ·refine ⟨_, rfl, ?_⟩
     refine ⟨z, _, rfl, rfl, fun e => (nomatch e), fun _ => by simpa using hz, fun j y hj ey => ?_⟩
     by_cases hji : j < i
     ·exact hp j y hji ey
     ·have e : j = i := by omega
      subst e
      rw [hz] at ey
      cases ey
      refine ⟨hc2.1, hc2.2, fun y h0 ey => ?_⟩
      rw [hl1 h0] at ey
      cases ey
      omega
    ·refine q false ⟨fun z => (nomatch z), fun hs => ?_⟩
     obtain ⟨b1, b2, b3⟩ := hs i z hz
     exact absurd ⟨b1, b2⟩ hc2
  ·rintro σ H2 ⟨l, v, rfl, rfl, hl0, hl1, hp⟩
   refine q true ⟨fun _ i z hz => ?_, fun _ => rfl⟩
   have hi : i < (IL ns).length := by rw [il_length]; exact (List.getElem?_eq_some_iff.mp hz).1
   exact hp i z hi hz
end
set_option maxHeartbeats 4000000
def sp_made_set (K : PySem.W.Frag) (C : Addr) : Sp := fun vs H Q _ => ∃ (w a : Addr) (n : Int) (ps : List (Int × Int)) (kd : Bool) (ns : List Int), vs = [.ref w, .ref a] /\ WebAt C H w n ps /\ SqK kd K H a (IL ns) /\ IsSet ps.length ns /\
 ∀ (r : Addr) (H' : Hp), Same H H' -> SqT K H' r (IL ns) -> Q (.ref r) H'
section
variable {P : Program} {w : World} {K : PySem.W.Frag} {mg : Str -> Option Value} {base : Heap} {t : Adr}
theorem sc_made_set : FnScope ["web", "ties"] ["web", "ties"] (defScope s_made_set) := ⟨rfl, rfl, rfl, by decide +kernel, rfl, by decide +kernel, by decide +kernel⟩
theorem ok_made_set (T : Txt K mg t) : FnOk P w K mg base CX0 3 t.a_made_set t.d_made_set ["web", "ties"] (sp_made_set K t.A_Web) := by
 refine T.f_made_set.ok sc_made_set (fun vs H Q E h => ?_) (fun cdv A outer s H vs Q E hr h => ?_)
 ·obtain ⟨w, a, n, ps, kd, ns, rfl, _⟩ := h
  rfl
 ·obtain ⟨w, a, n, ps, kd, ns, rfl, hW, hS, hI, q⟩ := h
  refine ⟨_, (pss_cons (ps_if (pt_not (pt_val (pe_call (ok_is_set T) (hr.mono (by decide)) rfl T.m_is_set T.f_is_set.kp T.b_is_set .nil pass0 (pa_cons (pv 0) (pa_cons (pv 1) pa_nil)))))
   (pss_one ps_never)
   pss_nil)
   (pss_one (ps_ret (pe_callTy (call_tupleK K) (by rfl) T.n_tuple Boot.«tuple» (pa_cons (pv 1) pa_nil))))), ?_⟩
  refine ⟨_, rfl, _, rfl, w, a, n, ps, kd, ns, rfl, hW, hS, fun b hb => ⟨_, rfl, ?_⟩⟩
  refine itnb (fun _ => ?_) (fun z => ?_)
  ·refine ⟨_, rfl, a, IL ns, rfl, ?_⟩
   cases kd with
   | false => exact .inl ⟨hS, fun l hl => q l _ (same_at hl) (SqT.of upd_same)⟩
   | true => exact .inr ⟨hS, q a H (Same.refl H) hS⟩
  ·rw [hb.mpr hI] at z
   cases z
end
set_option maxHeartbeats 4000000
def sp_merged_marks (K : PySem.W.Frag) (C : Addr) : Sp := fun vs H Q _ => ∃ (w m a : Addr) (n : Int) (ps : List (Int × Int)) (M : List Int) (kd : Bool) (ns : List Int), vs = [.ref w, .ref m, .ref a] /\ WebAt C H w n ps /\ GoodW n ps /\ H m = some (.lst (IL M)) /\ M.length = n.toNat /\ SqK kd K H a (IL ns) /\ (∀ z ∈ ns, 0 <= z /\ z < (ps.length : Int)) /\
 ∀ (m' : Addr) (H' : Hp), Same H H' -> (m' = m \/ H m' = none) -> H' m' = some (.lst (IL (pmf M (endsOf ps ns)))) -> Q (.ref m') H'
section
variable {P : Program} {w : World} {K : PySem.W.Frag} {mg : Str -> Option Value} {base : Heap} {t : Adr}
theorem sc_merged_marks : FnScope ["web", "marks", "ties", "tie", "ends", "low", "high"] ["web", "marks", "ties"] (defScope s_merged_marks) := ⟨rfl, rfl, rfl, by decide +kernel, rfl, by decide +kernel, by decide +kernel⟩
theorem ok_merged_marks (T : Txt K mg t) : FnOk P w K mg base CX0 1 t.a_merged_marks t.d_merged_marks ["web", "marks", "ties"] (sp_merged_marks K t.A_Web) := by
 refine T.f_merged_marks.ok sc_merged_marks (fun vs H Q E h => ?_) (fun cdv A outer s H vs Q E hr h => ?_)
 ·obtain ⟨w, m, a, n, ps, M, kd, ns, rfl, _⟩ := h
  rfl
 ·obtain ⟨w, m0, a, n, ps, M0, kd, ns, rfl, ⟨dx, tl, xs, h1, h2, h3⟩, ⟨g1, g2, g3, g4⟩, hm, hlM, hS, hI, q⟩ := h
  refine ⟨_, (pss_cons (ps_for PassesOwn.never rfl (pi_seqK K (pv 2)) (pg_name (i := 3) sc_merged_marks.nd rfl (Or.inl rfl))
   (pss_cons (ps_set (i := 4) sc_merged_marks.nd rfl (Or.inl rfl) (pe_ix (ix_listK K) (pe_fldK K (pv 0) rfl) (pv 3) (fun _ _ => rfl)))
   (pss_cons (ps_set (i := 5) sc_merged_marks.nd rfl (Or.inr rfl) (pe_callB (call_min2 rfl) (by rfl) T.n_min Boot.«min» (pa_cons (pe_ix (ix_listK K) (pv 1) (pe_ix (ix_tupK K) (pv 4) pe_int (fun _ _ => rfl)) (fun _ _ => rfl)) (pa_cons (pe_ix (ix_listK K) (pv 1) (pe_ix (ix_tupK K) (pv 4) pe_int (fun _ _ => rfl)) (fun _ _ => rfl)) pa_nil))))
   (pss_cons (ps_set (i := 6) sc_merged_marks.nd rfl (Or.inr rfl) (pe_callB (call_max2 rfl) (by rfl) T.n_max Boot.«max» (pa_cons (pe_ix (ix_listK K) (pv 1) (pe_ix (ix_tupK K) (pv 4) pe_int (fun _ _ => rfl)) (fun _ _ => rfl)) (pa_cons (pe_ix (ix_listK K) (pv 1) (pe_ix (ix_tupK K) (pv 4) pe_int (fun _ _ => rfl)) (fun _ _ => rfl)) pa_nil))))
   (pss_one (ps_if (pt_cmpR op_lt (pv 5) (pv 6) (nomark _))
   (pss_one (ps_lc (i := 1) rfl sc_merged_marks.nd rfl rfl (sc0 := defScope s_merged_marks) (N0 := ["web", "marks", "ties", "tie", "ends", "low", "high"]) (N' := ["mark", "high", "low"]) (o := 1) (fr := [6, 5]) ⟨rfl, by decide +kernel, by decide +kernel, by decide +kernel, rfl, by decide +kernel⟩ (pi_listK K (pv 1)) (own_name (by decide)) (fun _ _ _ _ => (pg_name (i := 0) (show List.Nodup (["mark", "high", "low"] : List Str) by decide +kernel) rfl (Or.inl rfl))) (fun _ _ _ _ => pts_nil) (fun _ _ _ _ => (pe_ifExp (pt_cmpR op_eq (pv 0) (pv 1) (nomark _)) (pv 2) (pv 0)))))
   pss_nil))))))
   (pss_one (ps_ret (pv 1)))), ?_⟩
  refine ⟨_, rfl, a, rfl, for_seq (k := kd) (K := K) (a := a) (xs := IL ns) (fun i σ H2 => ∃ (m : Addr) (v3 v4 v5 v6 : Option V), σ = [some (.ref w), some (.ref m), some (.ref a), v3, v4, v5, v6] /\ Same H H2 /\ (m = m0 \/ H m = none) /\ H2 m = some (.lst (IL (pmf M0 (endsOf ps (ns.take i))))))
   ⟨m0, none, none, none, none, rfl, Same.refl _, .inl rfl, hm⟩ (fun i σ H2 _ ⟨_, _, _, _, _, _, s2, _⟩ => hS.same s2) ?_ ?_⟩
  ·rintro i x σ H2 hi ⟨m, v3, v4, v5, v6, rfl, s2, hm0, hm2⟩
   obtain ⟨z, rfl, hz⟩ := il_get hi
   obtain ⟨z0, z1⟩ := hI z (List.mem_of_getElem? hz)
   obtain ⟨p, hp⟩ : ∃ p, ps[z.toNat]? = some p := ⟨_, List.getElem?_eq_getElem (by omega)⟩
   obtain ⟨v, hv, tt, rfl, htt⟩ := h3.2 z.toNat p hp
   obtain ⟨e1, e2, e3, e4⟩ := g4 p (List.mem_of_getElem? hp)
   have ed : ps.getD z.toNat (0, 0) = p := getD_of hp
   refine ⟨_, rfl, w, _, dx, _, _, rfl, s2 _ _ h1, T.cl_Web, T.n_Web_ties, wf_ties _ _, _, rfl, tl, xs, z, .ref tt, rfl, rfl, SqL.of (s2 _ _ h2), atI_of (n := z.toNat) (by omega) hv, ?_⟩
   have ht2 := s2 _ _ htt
   have hl : (pmf M0 (endsOf ps (ns.take i))).length = n.toNat := (pmf_length _ _).trans hlM
   generalize hM : pmf M0 (endsOf ps (ns.take i)) = M at *
   have ha : M[p.1.toNat]? = some (mk M p.1.toNat) := mk_some (by omega)
   have hb : M[p.2.toNat]? = some (mk M p.2.toNat) := mk_some (by omega)
   have iA : atI (IL M) p.1 = some (.int (mk M p.1.toNat)) := atI_of (n := p.1.toNat) (by omega) (by rw [List.getElem?_map, ha]; rfl)
   have iB : atI (IL M) p.2 = some (.int (mk M p.2.toNat)) := atI_of (n := p.2.toNat) (by omega) (by rw [List.getElem?_map, hb]; rfl)
   have t0 : atI ([.int p.1, .int p.2] : List V) 0 = some (.int p.1) := rfl
   have t1 : atI ([.int p.1, .int p.2] : List V) 1 = some (.int p.2) := rfl
   refine ⟨_, rfl, _, rfl, tt, _, 0, _, rfl, rfl, SqT.of ht2, t0, m, _, p.1, _, rfl, rfl, SqL.of hm2, iA, _, rfl, _, rfl, tt, _, 1, _, rfl, rfl, SqT.of ht2, t1, m, _, p.2, _, rfl, rfl, SqL.of hm2, iB, _, _, rfl, ?_⟩
   refine ⟨_, rfl, _, rfl, tt, _, 0, _, rfl, rfl, SqT.of ht2, t0, m, _, p.1, _, rfl, rfl, SqL.of hm2, iA, _, rfl, _, rfl, tt, _, 1, _, rfl, rfl, SqT.of ht2, t1, m, _, p.2, _, rfl, rfl, SqL.of hm2, iB, _, _, rfl, ?_⟩
   have eL : (if mk M p.2.toNat < mk M p.1.toNat then mk M p.2.toNat else mk M p.1.toNat) = min (mk M p.1.toNat) (mk M p.2.toNat) := by
    rw [Int.min_def]; split <;> split <;> omega
   have eH : (if mk M p.2.toNat > mk M p.1.toNat then mk M p.2.toNat else mk M p.1.toNat) = max (mk M p.1.toNat) (mk M p.2.toNat) := by
    rw [Int.max_def]; split <;> split <;> omega
   refine ⟨_, rfl, _, rfl, _, _, rfl, rfl, _, rfl, ?_⟩
   rw [eL, eH]
   have step : pmf M0 (endsOf ps (ns.take (i + 1))) = pm M p.1.toNat p.2.toNat := by rw [endsOf_snoc hz, pmf_snoc, hM, ed]
   refine itd2 (fun hc => ?_) (fun hc => ?_)
   ·refine ⟨_, rfl, m, rfl, ⟨_, SqL.of hm2⟩, lc_list (K := K) (a := m) (xs := IL M) (fun j ys H3 => H3 = H2 /\ j <= M.length /\ ys = IL ((M.take j).map fun k => if k = max (mk M p.1.toNat) (mk M p.2.toNat) then min (mk M p.1.toNat) (mk M p.2.toNat) else k)) ⟨rfl, Nat.zero_le _, rfl⟩ (small60' (by rw [il_length]; omega))
     (fun j ys H3 hj ⟨e, hjl, ey⟩ => ⟨e ▸ SqL.of hm2, by rw [ey, il_length, List.length_map, List.length_take]; omega⟩) ?_ ?_⟩
    ·rintro j y ys H3 hj ⟨rfl, hjl, rfl⟩ S hSS
     obtain ⟨k, rfl, hk⟩ := il_get hj
     refine nmY ?_
     refine ⟨_, rfl, _, rfl, rfl, _, rfl, ?_⟩
     have hjl' : j < M.length := (List.getElem?_eq_some_iff.mp hk).1
     have app : ∀ r : Int, r = (if k = max (mk M p.1.toNat) (mk M p.2.toNat) then min (mk M p.1.toNat) (mk M p.2.toNat) else k) ->
       IL ((M.take j).map fun k => if k = max (mk M p.1.toNat) (mk M p.2.toNat) then min (mk M p.1.toNat) (mk M p.2.toNat) else k) ++ [.int r] = IL ((M.take (j + 1)).map fun k => if k = max (mk M p.1.toNat) (mk M p.2.toNat) then min (mk M p.1.toNat) (mk M p.2.toNat) else k) := by
      intro r er
      rw [List.take_succ, hk, er]
      simp
     refine itd2 (fun he => ?_) (fun he => ?_)
     ·refine ⟨_, rfl, hSS _ _ ⟨rfl, hjl', app _ ?_⟩⟩
      rw [if_pos (V.int.inj he)]
     ·refine ⟨_, rfl, hSS _ _ ⟨rfl, hjl', app _ ?_⟩⟩
      rw [if_neg fun z => he (congrArg V.int z)]
    ·rintro ys H3 ⟨rfl, _, rfl⟩ p' hp'
     refine ⟨p', _, _, _, _, rfl, same_new s2 hp', .inr (s2.free hp'), ?_⟩
     rw [upd_same, step, il_length, List.take_length]
     unfold pm
     rw [if_pos hc]
   ·refine ⟨m, _, _, _, _, rfl, s2, hm0, ?_⟩
    rw [hm2, step]
    unfold pm
    rw [if_neg hc]
  ·rintro σ H2 ⟨m, v3, v4, v5, v6, rfl, s2, hm0, hm2⟩
   rw [il_length, List.take_length] at hm2
   exact ⟨_, rfl, q m H2 s2 hm0 hm2⟩
end
set_option maxHeartbeats 4000000
def sp_piece_marks (K : PySem.W.Frag) (C : Addr) : Sp := fun vs H Q _ => ∃ (w a : Addr) (n : Int) (ps : List (Int × Int)) (ns : List Int), vs = [.ref w, .ref a] /\ WebAt C H w n ps /\ GoodW n ps /\ SqT K H a (IL ns) /\ (∀ z ∈ ns, 0 <= z /\ z < (ps.length : Int)) /\
 ∀ (m : Addr) (H' : Hp), Same H H' -> H m = none -> H' m = some (.lst (IL (pms n.toNat (endsOf ps ns)))) -> Q (.ref m) H'
section
variable {P : Program} {w : World} {K : PySem.W.Frag} {mg : Str -> Option Value} {base : Heap} {t : Adr}
theorem sc_piece_marks : FnScope ["web", "ties"] ["web", "ties"] (defScope s_piece_marks) := ⟨rfl, rfl, rfl, by decide +kernel, rfl, by decide +kernel, by decide +kernel⟩
theorem ok_piece_marks (T : Txt K mg t) : FnOk P w K mg base CX0 2 t.a_piece_marks t.d_piece_marks ["web", "ties"] (sp_piece_marks K t.A_Web) := by
 refine T.f_piece_marks.ok sc_piece_marks (fun vs H Q E h => ?_) (fun cdv A outer s H vs Q E hr h => ?_)
 ·obtain ⟨w, a, n, ps, ns, rfl, _⟩ := h
  rfl
 ·obtain ⟨w, a, n, ps, ns, rfl, hW, hG, hS, hI, q⟩ := h
  refine ⟨_, (pss_one (ps_ret (pe_call (ok_merged_marks T) (hr.mono (by decide)) rfl T.m_merged_marks T.f_merged_marks.kp T.b_merged_marks .nil pass0 (pa_cons (pv 0) (pa_cons (pe_callTy (call_list_rng rfl) (by rfl) T.n_list Boot.«list» (pa_cons (pe_callTy call_rng1 (by rfl) T.n_range Boot.«range» (pa_cons (pe_fldK K (pv 0) rfl) pa_nil)) pa_nil)) (pa_cons (pv 1) pa_nil)))))), ?_⟩
  obtain ⟨dx, tl, xs, h1, h2, h3⟩ := id hW
  obtain ⟨g1, g2, g3, g4⟩ := id hG
  refine ⟨_, rfl, _, rfl, w, _, dx, _, _, rfl, h1, T.cl_Web, T.n_Web_places, wf_places _ _, n, rfl, fun r hr0 => ⟨r, 0, n, rfl, upd_same, ⟨by decide, by decide, by omega, by omega⟩, by omega, fun m hm => ?_⟩⟩
  have sm : Same H (upd (upd H r (.rng 0 n)) m (.lst ((rngI 0 n).map V.int))) := same_new (same_at hr0) hm
  refine ⟨_, rfl, w, m, a, n, ps, (List.range n.toNat).map (fun (i : Nat) => (i : Int)), true, ns, rfl, hW.same sm, hG, ?_, by simp, sqT_same sm hS, hI, fun m' H' s' hf hm' => ?_⟩
  ·rw [upd_same, rngI_zero]
  ·refine q m' H' (sm.trans s') ?_ hm'
   rcases hf with rfl | hf
   ·exact (same_at hr0).free hm
   ·exact sm.free hf
end
set_option maxHeartbeats 4000000
def sp_pieces_of (K : PySem.W.Frag) (C : Addr) : Sp := fun vs H Q _ => ∃ (w a : Addr) (n : Int) (ps : List (Int × Int)) (kd : Bool) (ns : List Int), vs = [.ref w, .ref a] /\ WebAt C H w n ps /\ GoodW n ps /\ SqK kd K H a (IL ns) /\ IsSet ps.length ns /\
 ∀ (r : Addr) (as : List Addr) (H' : Hp), Same H H' -> H r = none -> H' r = some (.lst (as.map V.ref)) -> r ∉ as -> GrpAt H H' (grp (pms n.toNat (endsOf ps ns))) as -> Q (.ref r) H'
section
variable {P : Program} {w : World} {K : PySem.W.Frag} {mg : Str -> Option Value} {base : Heap} {t : Adr}
theorem sc_pieces_of : FnScope ["web", "ties", "pieces", "place", "mark"] ["web", "ties"] (defScope s_pieces_of) := ⟨rfl, rfl, rfl, by decide +kernel, rfl, by decide +kernel, by decide +kernel⟩
theorem ok_pieces_of (T : Txt K mg t) : FnOk P w K mg base CX0 4 t.a_pieces_of t.d_pieces_of ["web", "ties"] (sp_pieces_of K t.A_Web) := by
 refine T.f_pieces_of.ok sc_pieces_of (fun vs H Q E h => ?_) (fun cdv A outer s H vs Q E hr h => ?_)
 ·obtain ⟨w, a, n, ps, kd, ns, rfl, _⟩ := h
  rfl
 ·obtain ⟨w, a, n, ps, kd, ns, rfl, hW, hG, hS, hI, q⟩ := h
  refine ⟨_, (pss_cons (ps_set (i := 2) sc_pieces_of.nd rfl (Or.inl rfl) pe_dnewK)
   (pss_cons (ps_for PassesOwn.never rfl (pi_enumK K rfl T.n_enumerate (pa_cons (pe_call (ok_piece_marks T) (hr.mono (by decide)) rfl T.m_piece_marks T.f_piece_marks.kp T.b_piece_marks .nil pass0 (pa_cons (pv 0) (pa_cons (pe_call (ok_made_set T) (hr.mono (by decide)) rfl T.m_made_set T.f_made_set.kp T.b_made_set .nil pass0 (pa_cons (pv 0) (pa_cons (pv 1) pa_nil))) pa_nil))) pa_nil)) (pg_tupK (n := 2) K rfl (pgs_cons (pg_name (i := 3) sc_pieces_of.nd rfl (Or.inl rfl)) (pgs_cons (pg_name (i := 4) sc_pieces_of.nd rfl (Or.inl rfl)) pgs_nil)))
   (pss_one (ps_expr (pe_bmK K PySem.F.plainAttrs_list PySem.F.slot_list_append PySem.F.type_list_append mt_append (pe_bmK K PySem.F.plainAttrs_dict PySem.F.slot_dict_setdefault PySem.F.type_dict_setdefault mt_setdefault (pv 2) (pa_cons (pv 4) (pa_cons (pe_lst pa_nil) pa_nil))) (pa_cons (pv 3) pa_nil)))))
   (pss_one (ps_ret (pe_callTy (call_list_view rfl) (by rfl) T.n_list Boot.«list» (pa_cons (pe_bm0K K PySem.F.plainAttrs_dict PySem.F.slot_dict_values PySem.F.type_dict_values mt_values (pv 2)) pa_nil)))))), ?_⟩
  intro d hd
  have s0 : Same H (upd H d (.dK [])) := same_at hd
  refine ⟨_, rfl, _, rfl, _, rfl, w, a, n, ps, kd, ns, rfl, hW.same s0, hS.same s0, hI, fun r H1 s1 hr1 => ?_⟩
  refine ⟨w, r, n, ps, ns, rfl, (hW.same s0).same s1, hG, hr1, hI.all, fun m H2 s2 hm1 hm2 => ?_⟩
  have s02 : Same H H2 := (s0.trans s1).trans s2
  have hd2 : H2 d = some (.dK []) := s2 _ _ (s1 _ _ upd_same)
  have hl : (pms n.toNat (endsOf ps ns)).length = n.toNat := pms_length _ _
  generalize hM : pms n.toNat (endsOf ps ns) = M at *
  have hm0 : H m = none := (s0.trans s1).free hm1
  have n14 : M.length <= 14 := by have := hG.2.1; omega
  refine ⟨m, rfl, ⟨_, SqL.of hm2⟩, ?_⟩
  refine for_enum (K := K) (a := m) (xs := IL M) (fun i σ H3 => ∃ (as : List Addr) (v3 v4 : Option V), σ = [some (.ref w), some (.ref a), some (.ref d), v3, v4] /\ i <= M.length /\ Same H H3 /\ H3 m = some (.lst (IL M)) /\ H3 d = some (.dK (gkv (grpA M i) as)) /\ d ∉ as /\ m ∉ as /\ GrpAt H H3 (grpA M i) as /\ as.length <= i)
   ⟨[], none, none, rfl, Nat.zero_le _, s02, hm2, hd2, by simp, by simp, ⟨rfl, List.nodup_nil, fun i kv a e => by simp [grpA] at e, fun a ha => by simp at ha⟩, Nat.le_refl _⟩ (fun i σ H3 _ ⟨_, _, _, _, _, _, h, _⟩ => SqL.of h) ?_ ?_
  ·rintro i x σ H3 pt hpt hi ⟨as, v3, v4, rfl, hil, s3, hm3, hd3, nda, nma, gA, hal⟩
   obtain ⟨k, rfl, hk⟩ := il_get hi
   have hk' : mk M i = k := getD_of hk
   have hil' : i < M.length := (List.getElem?_eq_some_iff.mp hk).1
   have s4 : Same H3 (upd H3 pt (.tup [.int i, .int k])) := same_at hpt
   refine ⟨pt, _, rfl, SqT.of upd_same, rfl, _, _, rfl, _, _, rfl, rfl, ?_⟩
   refine ⟨_, rfl, .inr (.inr (.inl ⟨rfl, .inl ⟨_, s4 _ _ hd3⟩⟩)), _, rfl, (by show 0 <= sizeLine; exact Nat.zero_le _), fun l hl0 => ?_⟩
   have s5 : Same H3 (upd (upd H3 pt (.tup [.int i, .int k])) l (.lst [])) := same_new s4 hl0
   have hd5 := s5 _ _ hd3
   have hl3 : H3 l = none := s4.free hl0
   have ndl : d ≠ l := ne_of_none hd3 hl3
   have gl := gA.len
   refine ⟨d, gkv (grpA M i) as, Sum.inl k, .ref l, rfl, rfl, hd5, ?_, fun v hv => ?_, fun hv => ?_⟩
   ·rw [gkv_length gl]
    exact small60' (by omega)
   ·-- the mark has its list
    rcases gkv_val (g := grpA M i) (as := as) (k := k) gl with ⟨h1, _⟩ | ⟨j, kv, b, e1, e2, e3, e4⟩
    ·rw [h1] at hv; cases hv
    ·rw [e4] at hv
     cases hv
     have hb5 := s5 _ _ (gA.at_ j kv b e1 e2)
     have hkm : k ∈ (grpA M i).map (·.1) := List.mem_map.mpr ⟨kv, List.mem_of_getElem? e1, e3⟩
     have hlen : kv.2.length <= i := grpA_len (List.mem_of_getElem? e1)
     refine ⟨.inl ⟨rfl, _, SqL.of hb5⟩, _, rfl, b, _, .int i, rfl, rfl, hb5, ?_, ?_⟩
     ·rw [il_length]
      exact small60' (by omega)
     ·have hbas : b ∈ as := List.mem_of_getElem? e2
      have hdb : d ≠ b := fun z => nda (z ▸ hbas)
      have hmb : m ≠ b := fun z => nma (z ▸ hbas)
      have hb0 := gA.new b hbas
      have ekeys : (grpA M (i + 1)).map (·.1) = (grpA M i).map (·.1) := by
       show (gstep (grpA M i) (i : Int) (mk M i)).map (·.1) = _
       rw [gstep_keys, hk', if_pos hkm]
      refine ⟨as, _, _, rfl, hil', same_upd hb0 (s3.trans s5), by rw [upd_ne hmb]; exact s5 _ _ hm3, by rw [upd_ne hdb, hd5, gkv_keys ekeys], nda, nma, ⟨?_, gA.nd, ?_, gA.new⟩, by omega⟩
      ·have := congrArg List.length ekeys
       rw [List.length_map, List.length_map] at this
       omega
      ·intro i2 kv2 a2 f1 f2
       have f1 : (gstep (grpA M i) (i : Int) (mk M i))[i2]? = some kv2 := f1
       unfold gstep at f1
       rw [hk', if_pos hkm, List.getElem?_map] at f1
       cases f3 : (grpA M i)[i2]? with
       | none => rw [f3] at f1; cases f1
       | some kv3 =>
        rw [f3] at f1
        have f1 : (if kv3.1 = k then (kv3.1, kv3.2 ++ [(i : Int)]) else kv3) = kv2 := Option.some.inj f1
        by_cases hj : i2 = j
        ·subst hj
         rw [e1] at f3
         cases f3
         rw [e2] at f2
         cases f2
         rw [if_pos e3] at f1
         subst f1
         rw [upd_same]
         simp
        ·have hab : a2 ≠ b := fun z => by
          subst z
          exact hj (nodup_get gA.nd f2 e2)
         have hkk : ¬ kv3.1 = k := fun z => hj (nodup_get (grpA_nodup M i) (by rw [List.getElem?_map, f3]; exact congrArg some z) (by rw [List.getElem?_map, e1]; exact congrArg some e3))
         rw [if_neg hkk] at f1
         subst f1
         rw [upd_ne hab]
         exact s5 _ _ (gA.at_ i2 kv3 a2 f3 f2)
   ·-- a new list
    rcases gkv_val (g := grpA M i) (as := as) (k := k) gl with ⟨h1, hkn⟩ | ⟨j, kv, b, e1, e2, e3, e4⟩
    ·have hl6 : (upd (upd (upd H3 pt (.tup [.int i, .int k])) l (.lst [])) d (.dK (gkv (grpA M i) as ++ [(Sum.inl k, .ref l)]))) l = some (.lst []) := by rw [upd_ne (Ne.symm ndl), upd_same]
     refine ⟨.inl ⟨rfl, _, SqL.of hl6⟩, _, rfl, l, [], .int i, rfl, rfl, hl6, (by show 0 < sizeLine; decide), ?_⟩
     have hl0' : H l = none := s3.free hl3
     have hlas : l ∉ as := fun z => by
      obtain ⟨_, e⟩ := gA.mem z
      rw [hl3] at e
      cases e
     have hml : m ≠ l := ne_of_none hm3 hl3
     have hmd : m ≠ d := ne_of hm3 hd3 (fun z => nomatch z)
     have egr : grpA M (i + 1) = grpA M i ++ [(k, [(i : Int)])] := by
      show gstep (grpA M i) (i : Int) (mk M i) = _
      unfold gstep
      rw [hk', if_neg hkn]
     have hdH : H d = none := hd
     refine ⟨as ++ [l], _, _, rfl, hil', same_upd hl0' (same_upd hdH (s3.trans s5)), by rw [upd_ne hml, upd_ne hmd]; exact s5 _ _ hm3, ?_, ?_, ?_, ⟨?_, ?_, ?_, ?_⟩, ?_⟩
     ·rw [upd_ne ndl, upd_same, egr, gkv_snoc gl]
     ·rw [List.mem_append, List.mem_singleton]
      rintro (z | z)
      ·exact nda z
      ·exact ndl z
     ·rw [List.mem_append, List.mem_singleton]
      rintro (z | z)
      ·exact nma z
      ·exact hml z
     ·rw [egr, List.length_append, List.length_append, gl]
      rfl
     ·exact nd_snoc gA.nd hlas
     ·intro i2 kv2 a2 f1 f2
      rw [egr] at f1
      by_cases hi2 : i2 < (grpA M i).length
      ·rw [List.getElem?_append_left hi2] at f1
       rw [List.getElem?_append_left (by omega)] at f2
       have e := gA.at_ i2 kv2 a2 f1 f2
       have n1 : a2 ≠ l := ne_of_none e hl3
       have n2 : a2 ≠ d := ne_of e hd3 (fun z => nomatch z)
       rw [upd_ne n1, upd_ne n2]
       exact s5 _ _ e
      ·have h2 : i2 = (grpA M i).length := by
        have := (List.getElem?_eq_some_iff.mp f1).1
        rw [List.length_append, List.length_singleton] at this
        omega
       subst h2
       rw [List.getElem?_append_right (Nat.le_refl _), Nat.sub_self] at f1
       rw [List.getElem?_append_right (by omega), gl, Nat.sub_self] at f2
       cases f1
       cases f2
       rw [upd_same]
       rfl
     ·intro a2 ha2
      rcases List.mem_append.mp ha2 with z | z
      ·exact gA.new a2 z
      ·rw [List.mem_singleton.mp z]; exact hl0'
     ·rw [List.length_append, List.length_singleton]
      omega
    ·rw [e4] at hv; cases hv
  ·rintro σ H3 ⟨as, v3, v4, rfl, hil, s3, hm3, hd3, nda, nma, gA, hal⟩
   rw [il_length] at hd3 gA
   refine ⟨_, rfl, .inr (.inr (.inl ⟨rfl, .inl ⟨_, hd3⟩⟩)), d, _, rfl, rfl, hd3, fun p hp => ?_⟩
   have s6 : Same H3 (upd H3 p (viewO p d)) := same_at hp
   refine ⟨p, d, _, rfl, upd_same, s6 _ _ hd3, fun r hr0 => ?_⟩
   have s7 : Same H3 (upd (upd H3 p (viewO p d)) r (.lst ((gkv (grpA M M.length) as).map (·.2)))) := same_new s6 hr0
   refine q r as _ (s3.trans s7) ((s3.trans s6).free hr0) (by rw [upd_same, gkv_snd gA.len]) (fun z => ?_) (gA.same s7)
   obtain ⟨_, e⟩ := gA.mem z
   rw [s6.free hr0] at e
   cases e
end
set_option maxHeartbeats 4000000
def sp_is_joined (K : PySem.W.Frag) (C : Addr) : Sp := fun vs H Q _ => ∃ (w a : Addr) (n : Int) (ps : List (Int × Int)) (kd : Bool) (ns : List Int), vs = [.ref w, .ref a] /\ WebAt C H w n ps /\ GoodW n ps /\ SqK kd K H a (IL ns) /\ IsSet ps.length ns /\
 ∀ (b : Bool) (H' : Hp), Same H H' -> (b = true ↔ (grp (pms n.toNat (endsOf ps ns))).length = 1) -> Q (.bl b) H'
section
variable {P : Program} {w : World} {K : PySem.W.Frag} {mg : Str -> Option Value} {base : Heap} {t : Adr}
theorem sc_is_joined : FnScope ["web", "ties"] ["web", "ties"] (defScope s_is_joined) := ⟨rfl, rfl, rfl, by decide +kernel, rfl, by decide +kernel, by decide +kernel⟩
theorem ok_is_joined (T : Txt K mg t) : FnOk P w K mg base CX0 5 t.a_is_joined t.d_is_joined ["web", "ties"] (sp_is_joined K t.A_Web) := by
 refine T.f_is_joined.ok sc_is_joined (fun vs H Q E h => ?_) (fun cdv A outer s H vs Q E hr h => ?_)
 ·obtain ⟨w, a, n, ps, kd, ns, rfl, _⟩ := h
  rfl
 ·obtain ⟨w, a, n, ps, kd, ns, rfl, hW, hG, hS, hI, q⟩ := h
  refine ⟨_, (pss_one (ps_ret (pe_cmpR op_eq (pe_callB (call_lenK K) (by rfl) T.n_len Boot.«len» (pa_cons (pe_call (ok_pieces_of T) (hr.mono (by decide)) rfl T.m_pieces_of T.f_pieces_of.kp T.b_pieces_of .nil pass0 (pa_cons (pv 0) (pa_cons (pv 1) pa_nil))) pa_nil)) pe_int (nomark _)))), ?_⟩
  refine ⟨_, rfl, _, rfl, w, a, n, ps, kd, ns, rfl, hW, hG, hS, hI, fun r as H' s1 hr0 hr1 hnr gA => ?_⟩
  refine ⟨r, _, rfl, .inl (SqL.of hr1), rfl, ?_⟩
  rw [List.length_map, gA.len, dec_int]
  refine q _ H' s1 ?_
  rw [decide_eq_true_iff]
  omega
end
set_option maxHeartbeats 4000000
def sp_is_tree (K : PySem.W.Frag) (C : Addr) : Sp := fun vs H Q _ => ∃ (w a : Addr) (n : Int) (ps : List (Int × Int)) (kd : Bool) (ns : List Int), vs = [.ref w, .ref a] /\ WebAt C H w n ps /\ GoodW n ps /\ SqK kd K H a (IL ns) /\
 ∀ (b : Bool) (H' : Hp), Same H H' -> (b = true ↔ IsTree n ps ns) -> Q (.bl b) H'
section
variable {P : Program} {w : World} {K : PySem.W.Frag} {mg : Str -> Option Value} {base : Heap} {t : Adr}
theorem sc_is_tree : FnScope ["web", "ties"] ["web", "ties"] (defScope s_is_tree) := ⟨rfl, rfl, rfl, by decide +kernel, rfl, by decide +kernel, by decide +kernel⟩
theorem ok_is_tree (T : Txt K mg t) : FnOk P w K mg base CX0 6 t.a_is_tree t.d_is_tree ["web", "ties"] (sp_is_tree K t.A_Web) := by
 refine T.f_is_tree.ok sc_is_tree (fun vs H Q E h => ?_) (fun cdv A outer s H vs Q E hr h => ?_)
 ·obtain ⟨w, a, n, ps, kd, ns, rfl, _⟩ := h
  rfl
 ·obtain ⟨w, a, n, ps, kd, ns, rfl, hW, hG, hS, q⟩ := h
  refine ⟨_, (pss_one (ps_ret (pe_and (pe_call (ok_is_set T) (hr.mono (by decide)) rfl T.m_is_set T.f_is_set.kp T.b_is_set .nil pass0 (pa_cons (pv 0) (pa_cons (pv 1) pa_nil))) (pe_and (pe_cmpR op_eq (pe_callB (call_lenK K) (by rfl) T.n_len Boot.«len» (pa_cons (pv 1) pa_nil)) (pe_op op_sub (pe_fldK K (pv 0) rfl) pe_int) (nomark _)) (pe_one (pe_call (ok_is_joined T) (hr.mono (by decide)) rfl T.m_is_joined T.f_is_joined.kp T.b_is_joined .nil pass0 (pa_cons (pv 0) (pa_cons (pv 1) pa_nil)))))))), ?_⟩
  refine ⟨_, rfl, _, rfl, w, a, n, ps, kd, ns, rfl, hW, hS, fun b hb => ⟨b, rfl, ?_⟩⟩
  refine itb (fun e => ?_) (fun e => ?_)
  ·have hI := hb.mp e
   obtain ⟨dx, tl, xs, h1, h2, h3⟩ := id hW
   refine ⟨_, rfl, a, _, rfl, hS.or, _, rfl, w, _, dx, _, _, rfl, h1, T.cl_Web, T.n_Web_places, wf_places _ _, _, _, rfl, rfl, rfl, _, rfl, ?_⟩
   rw [il_length, dec_int]
   refine itd2 (fun hl => ?_) (fun hl => ?_)
   ·refine ⟨_, rfl, _, rfl, w, a, n, ps, kd, ns, rfl, hW, hG, hS, hI, fun b2 H' s hb2 => q b2 H' s ?_⟩
    rw [hb2, grp_conn (by have := hG.1; omega) (ends_in hG hI.all)]
    exact ⟨fun z => ⟨hI, hl, z⟩, fun z => z.2.2⟩
   ·exact q false H (Same.refl H) ⟨fun z => (nomatch z), fun z => absurd z.2.1 hl⟩
  ·exact q false H (Same.refl H) ⟨fun z => (nomatch z), fun z => by rw [hb.mpr z.1] at e; cases e⟩
end
set_option maxHeartbeats 4000000
def sp_refuse_no_tree (K : PySem.W.Frag) (C B : Addr) : Sp := fun vs H Q E => ∃ (w a : Addr) (n : Int) (ps : List (Int × Int)) (kd : Bool) (ns : List Int), vs = [.ref w, .ref a] /\ WebAt C H w n ps /\ GoodW n ps /\ SqK kd K H a (IL ns) /\
 (IsTree n ps ns -> ∀ H' : Hp, Same H H' -> Q .non H') /\ (¬ IsTree n ps ns -> ∀ H' : Hp, Same H H' -> E (.ref B) none H')
section
variable {P : Program} {w : World} {K : PySem.W.Frag} {mg : Str -> Option Value} {base : Heap} {t : Adr}
theorem sc_refuse_no_tree : FnScope ["web", "tree"] ["web", "tree"] (defScope s_refuse_no_tree) := ⟨rfl, rfl, rfl, by decide +kernel, rfl, by decide +kernel, by decide +kernel⟩
theorem ok_refuse_no_tree (T : Txt K mg t) : FnOk P w K mg base (CXW P w) 7 t.a_refuse_no_tree t.d_refuse_no_tree ["web", "tree"] (sp_refuse_no_tree K t.A_Web t.A_NoTree) := by
 refine T.f_refuse_no_tree.okX sc_refuse_no_tree (fun vs H Q E h => ?_) (fun cdv A outer s H vs Q E hr h => ?_)
 ·obtain ⟨w, a, n, ps, kd, ns, rfl, _⟩ := h
  rfl
 ·obtain ⟨w, a, n, ps, kd, ns, rfl, hW, hG, hS, q, qe⟩ := h
  refine ⟨_, (pss_one (ps_if (pt_not (pt_val (pe_call (ok_is_tree T) (hr.mono (by decide)) rfl T.m_is_tree T.f_is_tree.kp T.b_is_tree .nil pass0 (pa_cons (pv 0) (pa_cons (pv 1) pa_nil)))))
   (pss_one (ps_raise T.x_NoTree T.c_NoTree (pa_cons pe_str pa_nil)))
   pss_nil)), ?_⟩
  refine ⟨_, rfl, _, rfl, w, a, n, ps, kd, ns, rfl, hW, hG, hS, fun b H' s hb => ⟨_, rfl, ?_⟩⟩
  refine itnb (fun z => ?_) (fun z => ?_)
  ·exact q (hb.mp z) H' s
  ·exact ⟨by show 1 <= sizeLine; decide, qe (fun g => by rw [hb.mpr g] at z; cases z) H' s⟩
end
set_option maxHeartbeats 4000000
def sp_ties_without (K : PySem.W.Frag) : Sp := fun vs H Q _ => ∃ (a : Addr) (kd : Bool) (ns : List Int) (z : Int), vs = [.ref a, .int z] /\ SqK kd K H a (IL ns) /\ ns.length <= 1000 /\
 ∀ (r : Addr) (H' : Hp), Same H H' -> H r = none -> H' r = some (.tup (IL (wo ns z))) -> Q (.ref r) H'
section
variable {P : Program} {w : World} {K : PySem.W.Frag} {mg : Str -> Option Value} {base : Heap} {t : Adr}
theorem sc_ties_without : FnScope ["ties", "left_out"] ["ties", "left_out"] (defScope s_ties_without) := ⟨rfl, rfl, rfl, by decide +kernel, rfl, by decide +kernel, by decide +kernel⟩
theorem ok_ties_without (T : Txt K mg t) : FnOk P w K mg base CX0 1 t.a_ties_without t.d_ties_without ["ties", "left_out"] (sp_ties_without K) := by
 refine T.f_ties_without.ok sc_ties_without (fun vs H Q E h => ?_) (fun cdv A outer s H vs Q E hr h => ?_)
 ·obtain ⟨a, kd, ns, z, rfl, _⟩ := h
  rfl
 ·obtain ⟨a, kd, ns, z, rfl, hS, hn, q⟩ := h
  refine ⟨_, (pss_one (ps_ret (pe_callTy (call_tupleK K) (by rfl) T.n_tuple Boot.«tuple» (pa_cons (pe_lc rfl (sc0 := defScope s_ties_without) (N0 := ["ties", "left_out"]) (N' := ["tie", "left_out"]) (o := 1) (fr := [1]) ⟨rfl, by decide +kernel, by decide +kernel, by decide +kernel, rfl, by decide +kernel⟩ (pi_seqK K (pv 0)) (own_name (by decide)) (fun _ _ _ _ => (pg_name (i := 0) (show List.Nodup (["tie", "left_out"] : List Str) by decide +kernel) rfl (Or.inl rfl))) (fun _ _ _ _ => (pts_one (pt_cmpR op_ne (pv 0) (pv 1) (nomark _)))) (fun _ _ _ _ => (pv 0))) pa_nil)))), ?_⟩
  refine ⟨_, rfl, a, rfl, lc_seq (k := kd) (K := K) (xs := IL ns) (fun i ys H2 => H2 = H /\ i <= ns.length /\ ys = IL (wo (ns.take i) z)) ⟨rfl, Nat.zero_le _, rfl⟩ (small60' (by rw [il_length]; omega))
   (fun i ys H2 hi ⟨e, hi2, ey⟩ => ⟨e ▸ hS, by rw [ey, il_length]; exact Nat.le_trans (wo_len _ _) (by rw [List.length_take]; omega)⟩) ?_ ?_⟩
  ·rintro i x ys H2 hi ⟨rfl, hil, rfl⟩ S hSS
   obtain ⟨y, rfl, hy⟩ := il_get hi
   have hil' : i < ns.length := (List.getElem?_eq_some_iff.mp hy).1
   refine nm ?_
   refine ⟨_, rfl, _, rfl, rfl, _, rfl, ?_⟩
   rw [dec_int]
   refine itn2 (fun he => ?_) (fun he => ?_)
   ·refine hSS _ _ ⟨rfl, hil', ?_⟩
    rw [wo_take_succ hy, if_neg (by simpa using he), List.append_nil]
   ·refine ⟨_, rfl, hSS _ _ ⟨rfl, hil', ?_⟩⟩
    rw [wo_take_succ hy, if_pos he, il_snoc]
  ·rintro ys H2 ⟨rfl, _, rfl⟩ p hp
   rw [il_length, List.take_length]
   refine ⟨p, _, rfl, .inl ⟨SqL.of upd_same, fun r hr => ?_⟩⟩
   exact q r _ (same_new (same_at hp) hr) ((same_at hp).free hr) upd_same
end
set_option maxHeartbeats 4000000
def sp_tree_cut (K : PySem.W.Frag) (C : Addr) : Sp := fun vs H Q _ => ∃ (w a : Addr) (n : Int) (ps : List (Int × Int)) (kd : Bool) (ns : List Int) (z : Int), vs = [.ref w, .ref a, .int z] /\ WebAt C H w n ps /\ GoodW n ps /\ SqK kd K H a (IL ns) /\ IsSet ps.length ns /\
 ∀ (r : Addr) (H' : Hp), Same H H' -> H r = none -> H' r = some (.tup (IL (unlike (lms n.toNat (endsOf ps (wo ns z))) ps ps.length))) -> Q (.ref r) H'
section
variable {P : Program} {w : World} {K : PySem.W.Frag} {mg : Str -> Option Value} {base : Heap} {t : Adr}
theorem sc_tree_cut : FnScope ["web", "tree", "tie", "marks"] ["web", "tree", "tie"] (defScope s_tree_cut) := ⟨rfl, rfl, rfl, by decide +kernel, rfl, by decide +kernel, by decide +kernel⟩
theorem ok_tree_cut (T : Txt K mg t) : FnOk P w K mg base CX0 3 t.a_tree_cut t.d_tree_cut ["web", "tree", "tie"] (sp_tree_cut K t.A_Web) := by
 refine T.f_tree_cut.ok sc_tree_cut (fun vs H Q E h => ?_) (fun cdv A outer s H vs Q E hr h => ?_)
 ·obtain ⟨w, a, n, ps, kd, ns, z, rfl, _⟩ := h
  rfl
 ·obtain ⟨w, a, n, ps, kd, ns, z, rfl, hW, hG, hS, hI, q⟩ := h
  refine ⟨_, (pss_cons (ps_set (i := 3) sc_tree_cut.nd rfl (Or.inr rfl) (pe_call (ok_piece_marks T) (hr.mono (by decide)) rfl T.m_piece_marks T.f_piece_marks.kp T.b_piece_marks .nil pass0 (pa_cons (pv 0) (pa_cons (pe_call (ok_ties_without T) (hr.mono (by decide)) rfl T.m_ties_without T.f_ties_without.kp T.b_ties_without .nil pass0 (pa_cons (pv 1) (pa_cons (pv 2) pa_nil))) pa_nil))))
   (pss_one (ps_ret (pe_callTy (call_tupleK K) (by rfl) T.n_tuple Boot.«tuple» (pa_cons (pe_lc rfl (sc0 := defScope s_tree_cut) (N0 := ["web", "tree", "tie", "marks"]) (N' := ["number", "ends", "marks"]) (o := 2) (fr := [3]) ⟨rfl, by decide +kernel, by decide +kernel, by decide +kernel, rfl, by decide +kernel⟩ (pi_enumK K rfl T.n_enumerate (pa_cons (pe_fldK K (pv 0) rfl) pa_nil)) (own_tup (own_cons (by decide) (own_cons (by decide) own_nil))) (fun _ _ _ _ => (pg_tupK (n := 2) K rfl (pgs_cons (pg_name (i := 0) (show List.Nodup (["number", "ends", "marks"] : List Str) by decide +kernel) rfl (Or.inl rfl)) (pgs_cons (pg_name (i := 1) (show List.Nodup (["number", "ends", "marks"] : List Str) by decide +kernel) rfl (Or.inl rfl)) pgs_nil)))) (fun _ _ _ _ => (pts_one (pt_cmpR op_ne (pe_ix (ix_listK K) (pv 2) (pe_ix (ix_tupK K) (pv 1) pe_int (fun _ _ => rfl)) (fun _ _ => rfl)) (pe_ix (ix_listK K) (pv 2) (pe_ix (ix_tupK K) (pv 1) pe_int (fun _ _ => rfl)) (fun _ _ => rfl)) (nomark _)))) (fun _ _ _ _ => (pv 0))) pa_nil))))), ?_⟩
  obtain ⟨g1, g2, g3, g4⟩ := id hG
  have hln := hI.len
  have hb : ∀ y ∈ wo ns z, 0 <= y /\ y < (ps.length : Int) := fun y hy => hI.all y (wo_mem.mp hy).1
  refine ⟨_, rfl, _, rfl, _, rfl, a, kd, ns, z, rfl, hS, by omega, fun r1 H1 s1 hr0 hr1 => ?_⟩
  refine ⟨w, r1, n, ps, wo ns z, rfl, hW.same s1, hG, SqT.of hr1, hb, fun m H2 s2 hm0 hm2 => ?_⟩
  have hin := ends_in hG hb
  have e0 := unlike_same (M := pms n.toNat (endsOf ps (wo ns z))) hG (pms_length _ _) (same_pms hin)
  have hl : (pms n.toNat (endsOf ps (wo ns z))).length = n.toNat := pms_length _ _
  rw [<- e0] at q
  generalize pms n.toNat (endsOf ps (wo ns z)) = M at *
  have s12 := s1.trans s2
  obtain ⟨dx, tl, xs, h1, h2, h3⟩ := hW.same s12
  have hlx := h3.1
  refine ⟨_, rfl, w, _, dx, _, _, rfl, h1, T.cl_Web, T.n_Web_ties, wf_ties _ _, tl, rfl, ⟨_, SqL.of h2⟩, lc_enum (K := K) (a := tl) (xs := xs) (fun i ys H3 => Same H2 H3 /\ i <= xs.length /\ ys = IL (unlike M ps i)) ⟨Same.refl _, Nat.zero_le _, rfl⟩ (small60' (by omega))
   (fun i ys H3 _ ⟨e, _, ey⟩ => ⟨SqL.of (e _ _ h2), by rw [ey, il_length]; exact unlike_len _ _ _⟩) ?_ ?_⟩
  ·rintro i x ys H3 pt hpt hi ⟨s3, hil, rfl⟩ S hSS
   obtain ⟨p, hpi, tt, rfl, htt⟩ := h3.at hi
   obtain ⟨e1, e2, e3, e4⟩ := g4 p (List.mem_of_getElem? hpi)
   have hil' : i < xs.length := (List.getElem?_eq_some_iff.mp hi).1
   have s4 : Same H3 (upd H3 pt (.tup [.int i, .ref tt])) := same_at hpt
   have s34 := s3.trans s4
   have htt4 := s34 _ _ htt
   have hm4 := s34 _ _ hm2
   have ed : ps.getD i (0, 0) = p := getD_of hpi
   have t0 : atI ([.int p.1, .int p.2] : List V) 0 = some (.int p.1) := rfl
   have t1 : atI ([.int p.1, .int p.2] : List V) 1 = some (.int p.2) := rfl
   have iA : atI (IL M) p.1 = some (.int (mk M p.1.toNat)) := atI_of (n := p.1.toNat) (by omega) (il_at (mk_some (by omega)))
   have iB : atI (IL M) p.2 = some (.int (mk M p.2.toNat)) := atI_of (n := p.2.toNat) (by omega) (il_at (mk_some (by omega)))
   refine ⟨pt, _, rfl, SqT.of upd_same, rfl, _, _, rfl, _, _, rfl, rfl, ?_⟩
   refine ⟨_, rfl, _, rfl, tt, _, 0, _, rfl, rfl, SqT.of htt4, t0, m, _, p.1, _, rfl, rfl, SqL.of hm4, iA, _, rfl, _, rfl, tt, _, 1, _, rfl, rfl, SqT.of htt4, t1, m, _, p.2, _, rfl, rfl, SqL.of hm4, iB, rfl, _, rfl, ?_⟩
   rw [dec_int]
   refine itn2 (fun he => ?_) (fun he => ?_)
   ·refine hSS _ _ ⟨s34, hil', ?_⟩
    rw [unlike_succ, ed, if_neg (by simpa using he), List.append_nil]
   ·refine ⟨_, rfl, hSS _ _ ⟨s34, hil', ?_⟩⟩
    rw [unlike_succ, ed, if_pos he, il_snoc]
  ·rintro ys H3 ⟨s3, _, rfl⟩ p hp
   rw [hlx]
   refine ⟨p, _, rfl, .inl ⟨SqL.of upd_same, fun r hr => ?_⟩⟩
   exact q r _ (s12.trans (s3.trans (same_new (same_at hp) hr))) ((s12.trans (s3.trans (same_at hp))).free hr) upd_same
end
set_option maxHeartbeats 4000000
def sp_exchanged (K : PySem.W.Frag) (C B N : Addr) : Sp := fun vs H Q E => ∃ (w a : Addr) (n : Int) (ps : List (Int × Int)) (kd : Bool) (ns : List Int) (o z : Int), vs = [.ref w, .ref a, .int o, .int z] /\ WebAt C H w n ps /\ GoodW n ps /\ SqK kd K H a (IL ns) /\ -(10 ^ 70) < o /\ o < 10 ^ 70 /\ -(10 ^ 70) < z /\ z < 10 ^ 70 /\
 (IsTree n ps ns -> exg n ps ns o z -> ∀ (ms : List Int), ms.Perm (wo ns o ++ [z]) -> ms.Pairwise (· <= ·) -> ∀ (r : Addr) (H' : Hp), Same H H' -> H r = none -> H' r = some (.tup (IL ms)) -> Q (.ref r) H') /\
 (IsTree n ps ns -> ¬ exg n ps ns o z -> ∀ H' : Hp, Same H H' -> E (.ref N) none H') /\ (¬ IsTree n ps ns -> ∀ H' : Hp, Same H H' -> E (.ref B) none H')
section
variable {P : Program} {w : World} {K : PySem.W.Frag} {mg : Str -> Option Value} {base : Heap} {t : Adr}
theorem sc_exchanged : FnScope ["web", "tree", "out", "into"] ["web", "tree", "out", "into"] (defScope s_exchanged) := ⟨rfl, rfl, rfl, by decide +kernel, rfl, by decide +kernel, by decide +kernel⟩
theorem ok_exchanged (T : Txt K mg t) : FnOk P w K mg base (CXW P w) 8 t.a_exchanged t.d_exchanged ["web", "tree", "out", "into"] (sp_exchanged K t.A_Web t.A_NoTree t.A_NoTie) := by
 refine T.f_exchanged.okX sc_exchanged (fun vs H Q E h => ?_) (fun cdv A outer s H vs Q E hr h => ?_)
 ·obtain ⟨w, a, n, ps, kd, ns, o, z, rfl, _⟩ := h
  rfl
 ·obtain ⟨w, a, n, ps, kd, ns, o, z, rfl, hW, hG, hS, o0, o1, z0, z1, q, q1, q2⟩ := h
  refine ⟨_, (pss_cons (ps_expr (pe_call (ok_refuse_no_tree T) (hr.mono (by decide)) rfl T.m_refuse_no_tree T.f_refuse_no_tree.kp T.b_refuse_no_tree .nil pxs (pa_cons (pv 0) (pa_cons (pv 1) pa_nil))))
   (pss_cons (ps_if (PW.pt (pw_or (pt_cmpR (op_notInK K) (pv 2) (pv 1) rfl) (pw_or (pt_cmpR op_eq (pv 3) (pv 2) (nomark _)) (pw_or1 (pt_cmpR (op_notInK K) (pv 3) (pe_call (ok_tree_cut T) (hr.mono (by decide)) rfl T.m_tree_cut T.f_tree_cut.kp T.b_tree_cut .nil pass0 (pa_cons (pv 0) (pa_cons (pv 1) (pa_cons (pv 2) pa_nil)))) rfl)))))
   (pss_one (ps_raise T.x_NoTie T.c_NoTie (pa_cons (pe_fstr (pj_int (pv 2) (pj_str (pj_int (pv 3) (pj_str pj_nil))))) pa_nil)))
   pss_nil)
   (pss_one (ps_ret (pe_callTy (call_tupleK K) (by rfl) T.n_tuple Boot.«tuple» (pa_cons (pe_callB (call_sortedT K) (by rfl) T.n_sorted Boot.«sorted» (pa_cons (pe_op (op_catU K) (pe_call (ok_ties_without T) (hr.mono (by decide)) rfl T.m_ties_without T.f_ties_without.kp T.b_ties_without .nil pass0 (pa_cons (pv 1) (pa_cons (pv 2) pa_nil))) (pe_tup (pa_cons (pv 3) pa_nil))) pa_nil)) pa_nil)))))), ?_⟩
  refine ⟨_, rfl, _, rfl, w, a, n, ps, kd, ns, rfl, hW, hG, hS, fun hT H1 s1 => ?_, q2⟩
  have one : 1 <= sizeLine := by decide
  have tl : ns.length <= 20 := by have := hT.2.1; have := hG.2.1; omega
  refine ⟨_, rfl, _, rfl, a, _, rfl, (hS.same s1).or, rfl, flat_ints _, _, rfl, ?_⟩
  rw [inV_ints]
  refine itn2 (fun ho => ?_) (fun ho => ?_)
  rotate_left
  ·exact iteT ⟨_, rfl, o, rfl, o0, o1, _, rfl, z, rfl, z0, z1, fun x => ⟨one, q1 hT (fun h => ho h.1) H1 s1⟩⟩
  refine ⟨_, rfl, _, rfl, rfl, _, rfl, ?_⟩
  rw [dec_int]
  refine itd2 (fun he => ?_) (fun he => ?_)
  ·exact iteT ⟨_, rfl, o, rfl, o0, o1, _, rfl, z, rfl, z0, z1, fun x => ⟨one, q1 hT (fun h => h.2.1 he) H1 s1⟩⟩
  refine ⟨_, rfl, _, rfl, _, rfl, _, rfl, w, a, n, ps, kd, ns, o, rfl, hW.same s1, hG, hS.same s1, hT.1, fun r H2 s2 hr0 hr2 => ?_⟩
  have s12 := s1.trans s2
  refine ⟨r, _, rfl, .inr (SqT.of hr2), rfl, flat_ints _, _, rfl, ?_⟩
  rw [inV_ints]
  refine itn2 (fun hc => ?_) (fun hc => ?_)
  ·have hx : exg n ps ns o z := ⟨ho, he, hc⟩
   refine ⟨_, rfl, _, rfl, a, kd, ns, o, rfl, hS.same s12, by omega, fun r1 H3 s3 hr10 hr13 => ?_⟩
   have wl := wo_len ns o
   refine ⟨_, rfl, one, fun p2 hp2 => ?_⟩
   have s4 := same_at (o := .tup (IL [z])) hp2
   have s14 := (s12.trans s3).trans s4
   refine ⟨r1, p2, IL (wo ns o), IL [z], rfl, rfl, SqT.of (s4 _ _ hr13), SqT.of upd_same, small60 (by rw [il_length, il_length, List.length_cons, List.length_nil]; omega), fun e => ?_, fun _ e => (nomatch e), fun _ _ p3 hp3 => ?_⟩
   ·have e0 : wo ns o = [] := by cases h : wo ns o with | nil => rfl | cons x l => rw [h] at e; cases e
    refine ⟨p2, [z], rfl, SqT.of upd_same, by simp, fun ms hpm hpw p4 hp4 => ?_⟩
    refine ⟨p4, IL ms, rfl, .inl ⟨SqL.of upd_same, fun r9 hr => ?_⟩⟩
    exact q hT hx ms (by rw [e0]; exact hpm) hpw r9 _ (s14.trans (same_new (same_at hp4) hr)) ((s14.trans (same_at hp4)).free hr) upd_same
   ·have s15 := s14.trans (same_at (o := .tup (IL (wo ns o) ++ IL [z])) hp3)
    refine ⟨p3, wo ns o ++ [z], rfl, SqT.of (by rw [upd_same]; congr 2; exact (List.map_append ..).symm), by simp only [List.length_append, List.length_cons, List.length_nil]; omega, fun ms hpm hpw p4 hp4 => ?_⟩
    refine ⟨p4, IL ms, rfl, .inl ⟨SqL.of upd_same, fun r9 hr => ?_⟩⟩
    exact q hT hx ms hpm hpw r9 _ (s15.trans (same_new (same_at hp4) hr)) ((s15.trans (same_at hp4)).free hr) upd_same
  ·exact ⟨_, rfl, o, rfl, o0, o1, _, rfl, z, rfl, z0, z1, fun x => ⟨one, q1 hT (fun h => hc h.2.2) H2 s12⟩⟩
end
set_option maxHeartbeats 4000000
def sp_walked (K : PySem.W.Frag) (C B N : Addr) : Sp := fun vs H Q E => ∃ (w a b : Addr) (n : Int) (ps : List (Int × Int)) (ke : Bool) (T : List Int) (xs : List V) (ws : List (Int × Int)), vs = [.ref w, .ref a, .ref b] /\ WebAt C H w n ps /\ GoodW n ps /\ (H a = some (.tup (IL T)) \/ SqL K H a (IL T)) /\ SqK ke K H b xs /\ PairsV H xs ws /\ (∀ p ∈ ws, -(10 ^ 70) < p.1 /\ p.1 < 10 ^ 70 /\ -(10 ^ 70) < p.2 /\ p.2 < 10 ^ 70) /\
 (IsTree n ps T -> ∀ U, Wk n ps T ws U -> ∀ (r : Addr) (H' : Hp), Same H H' -> H' r = some (.tup (IL U)) -> Q (.ref r) H') /\ (IsTree n ps T -> Brk n ps T ws -> ∀ H' : Hp, Same H H' -> E (.ref N) none H') /\ (¬ IsTree n ps T -> ∀ H' : Hp, Same H H' -> E (.ref B) none H')
section
variable {P : Program} {w : World} {K : PySem.W.Frag} {mg : Str -> Option Value} {base : Heap} {t : Adr}
theorem sc_walked : FnScope ["web", "tree", "walk", "pair"] ["web", "tree", "walk"] (defScope s_walked) := ⟨rfl, rfl, rfl, by decide +kernel, rfl, by decide +kernel, by decide +kernel⟩
theorem ok_walked (T : Txt K mg t) : FnOk P w K mg base (CXW P w) 9 t.a_walked t.d_walked ["web", "tree", "walk"] (sp_walked K t.A_Web t.A_NoTree t.A_NoTie) := by
 refine T.f_walked.okX sc_walked (fun vs H Q E h => ?_) (fun cdv A outer s H vs Q E hr h => ?_)
 ·obtain ⟨w, a, b, n, ps, ke, T, xs, ws, rfl, _⟩ := h
  rfl
 ·obtain ⟨w, a, b, n, ps, ke, T', xs, ws, rfl, hW, hG, hA, hB, hP, hbd, q, q1, q2⟩ := h
  refine ⟨_, (pss_cons (ps_expr (pe_call (ok_refuse_no_tree T) (hr.mono (by decide)) rfl T.m_refuse_no_tree T.f_refuse_no_tree.kp T.b_refuse_no_tree .nil pxs (pa_cons (pv 0) (pa_cons (pv 1) pa_nil))))
   (pss_cons (ps_set (i := 1) sc_walked.nd rfl (Or.inl rfl) (pe_callTy (call_tupleH K) (by rfl) T.n_tuple Boot.«tuple» (pa_cons (pv 1) pa_nil)))
   (pss_cons (ps_for PassesOwn.leaving rfl (pi_seqK K (pv 2)) (pg_name (i := 3) sc_walked.nd rfl (Or.inl rfl))
   (pss_one (ps_set (i := 1) sc_walked.nd rfl (Or.inl rfl) (pe_call (ok_exchanged T) (hr.mono (by decide)) rfl T.m_exchanged T.f_exchanged.kp T.b_exchanged .nil pxs (pa_cons (pv 0) (pa_cons (pv 1) (pa_cons (pe_ix (ix_tupK K) (pv 3) pe_int (fun _ _ => rfl)) (pa_cons (pe_ix (ix_tupK K) (pv 3) pe_int (fun _ _ => rfl)) pa_nil))))))))
   (pss_one (ps_ret (pv 1)))))), ?_⟩
  have hAk : ∃ kd, SqK kd K H a (IL T') := hA.elim (fun h => ⟨true, SqT.of h⟩) fun h => ⟨false, h⟩
  obtain ⟨kd, hAk⟩ := hAk
  have hlx := hP.1
  refine ⟨_, rfl, _, rfl, w, a, n, ps, kd, T', rfl, hW, hG, hAk, fun hT H1 s1 => ?_, q2⟩
  have hA1 : H1 a = some (.tup (IL T')) \/ SqL K H1 a (IL T') := hA.elim (fun h => .inl (s1 _ _ h)) fun h => .inr (s1.seq h)
  refine ⟨_, rfl, a, _, rfl, hA1, fun tA H2 s2 htA => ?_⟩
  have s02 := s1.trans s2
  refine ⟨_, rfl, b, rfl, for_seq (k := ke) (K := K) (xs := xs) (fun i σ H5 => ∃ (tA : Addr) (U : List Int) (v3 : Option V), σ = [some (.ref w), some (.ref tA), some (.ref b), v3] /\ Same H H5 /\ H5 tA = some (.tup (IL U)) /\ Wk n ps T' (ws.take i) U)
   ⟨tA, T', none, rfl, s02, htA, Wk.nil⟩ (fun i σ H5 _ ⟨_, _, _, _, s5, _⟩ => hB.same s5) ?_ ?_⟩
  ·rintro i x σ H5 hi ⟨tA, U, v3, rfl, s5, htA, hWk⟩
   obtain ⟨p, hp, tt, rfl, htt⟩ := hP.at hi
   have htt5 := s5 _ _ htt
   obtain ⟨b1, b2, b3, b4⟩ := hbd p (List.mem_of_getElem? hp)
   have hU := hWk.tree hG hT
   refine nm ?_
   refine ⟨_, rfl, _, rfl, _, rfl, tt, _, 0, .int p.1, rfl, rfl, SqT.of htt5, rfl, _, rfl, tt, _, 1, .int p.2, rfl, rfl, SqT.of htt5, rfl, w, tA, n, ps, true, U, p.1, p.2, rfl, hW.same s5, hG, SqT.of htA, b1, b2, b3, b4, fun _ hx ms hpm hpw r H6 s6 hr0 hr => ?_, fun _ hx H6 s6 => ?_, fun h => absurd hU h⟩
   ·refine ⟨r, ms, _, rfl, s5.trans s6, hr, ?_⟩
    rw [List.take_succ, hp]
    exact .step hWk hx hpm hpw
   ·exact q1 hT ⟨i, p.1, p.2, U, hp, hWk, hx⟩ H6 (s5.trans s6)
  rintro σ H5 ⟨tA, U, v3, rfl, s5, htA, hWk⟩
  rw [hlx, List.take_length] at hWk
  exact ⟨_, rfl, q hT U hWk tA H5 s5 htA⟩
end
set_option maxHeartbeats 4000000
def sp_law_at (K : PySem.W.Frag) : Sp := fun vs H Q _ => ∃ (a : Addr) (ns : List Int) (k : Int), vs = [.ref a, .int k] /\ SqL K H a (IL ns) /\ 0 <= k /\ ∀ r : Int, Q (.int r) H
section
variable {P : Program} {w : World} {K : PySem.W.Frag} {mg : Str -> Option Value} {base : Heap} {t : Adr}
theorem sc_law_at : FnScope ["script", "k"] ["script", "k"] (defScope s_law_at) := ⟨rfl, rfl, rfl, by decide +kernel, rfl, by decide +kernel, by decide +kernel⟩
theorem ok_law_at (T : Txt K mg t) : FnOk P w K mg base CX0 1 t.a_law_at t.d_law_at ["script", "k"] (sp_law_at K) := by
 refine T.f_law_at.ok sc_law_at (fun vs H Q E h => ?_) (fun cdv A outer s H vs Q E hr h => ?_)
 ·obtain ⟨a, ns, k, rfl, _⟩ := h
  rfl
 ·obtain ⟨a, ns, k, rfl, hS, hk, q⟩ := h
  refine ⟨_, (pss_cons (ps_if (pt_cmpR op_lt (pv 1) (pe_callB (call_lenK K) (by rfl) T.n_len Boot.«len» (pa_cons (pv 0) pa_nil)) (nomark _))
   (pss_one (ps_ret (pe_ix (ix_listK K) (pv 0) (pv 1) (fun _ _ => rfl))))
   pss_nil)
   (pss_one (ps_ret pe_int))), ?_⟩
  refine ⟨_, rfl, _, rfl, a, _, rfl, .inl hS, _, _, rfl, rfl, _, rfl, ?_⟩
  refine ite2 (fun hc => ?_) (fun _ => ?_)
  ·have hc := of_decide_eq_true hc
   rw [il_length] at hc
   obtain ⟨z, hz⟩ : ∃ z, ns[k.toNat]? = some z := ⟨_, List.getElem?_eq_getElem (by omega)⟩
   exact ⟨_, rfl, _, rfl, a, _, k, .int z, rfl, rfl, hS, atI_of (n := k.toNat) (by omega) (by rw [List.getElem?_map, hz]; rfl), q z⟩
  ·exact q 0
end
set_option maxHeartbeats 4000000
def sp_law_mix : Sp := fun vs H Q _ => ∃ (c k m : Int), vs = [.int c, .int k, .int m] /\ 0 <= k /\ k <= 1000 /\ 0 < m /\ ∀ r : Int, 0 <= r -> r < m -> Q (.int r) H
section
variable {P : Program} {w : World} {K : PySem.W.Frag} {mg : Str -> Option Value} {base : Heap} {t : Adr}
theorem sc_law_mix : FnScope ["cell", "k", "size", "prime", "base", "mixed"] ["cell", "k", "size"] (defScope s_law_mix) := ⟨rfl, rfl, rfl, by decide +kernel, rfl, by decide +kernel, by decide +kernel⟩
theorem ok_law_mix (T : Txt K mg t) : FnOk P w K mg base CX0 1 t.a_law_mix t.d_law_mix ["cell", "k", "size"] sp_law_mix := by
 refine T.f_law_mix.ok sc_law_mix (fun vs H Q E h => ?_) (fun cdv A outer s H vs Q E hr h => ?_)
 ·obtain ⟨c, k, m, rfl, _⟩ := h
  rfl
 ·obtain ⟨c, k, m, rfl, k0, k1, hm, q⟩ := h
  refine ⟨_, (pss_cons (ps_set (i := 3) sc_law_mix.nd rfl (Or.inl rfl) pe_int)
   (pss_cons (ps_set (i := 4) sc_law_mix.nd rfl (Or.inl rfl) (pe_op op_mulC (pe_op op_add (pe_op op_add (pe_op op_mod (pv 0) (pe_op op_pow pe_int pe_int)) (pe_op op_mulC pe_int (pv 1))) pe_int) pe_int))
   (pss_cons (ps_set (i := 5) sc_law_mix.nd rfl (Or.inl rfl) (pe_op op_mod (pe_op op_mulC (pv 4) (pv 4)) (pv 3)))
   (pss_cons (ps_set (i := 5) sc_law_mix.nd rfl (Or.inl rfl) (pe_op op_mod (pe_op op_mulC (pe_op op_add (pv 5) (pe_op op_mulC pe_int (pe_op op_add (pv 1) pe_int))) (pv 5)) (pv 3)))
   (pss_one (ps_ret (pe_op op_mod (pe_op op_fdiv (pv 5) pe_int) (pv 2)))))))), ?_⟩
  have f0 : 0 <= c % 10 ^ 60 := Int.emod_nonneg _ (by decide)
  have f1 : c % 10 ^ 60 < 10 ^ 60 := Int.emod_lt_of_pos _ (by decide)
  refine ⟨_, rfl, _, _, rfl, rfl, ⟨by decide, by decide, by decide⟩, _, _, rfl, rfl, (by show (0 : Int) < 10 ^ 60; decide), _, rfl, _, _, rfl, rfl, ⟨⟨by decide, by decide⟩, ⟨by omega, by omega⟩⟩, _, _, rfl, rfl, _, _, rfl, rfl, _, _, rfl, rfl, ⟨⟨?_, ?_⟩, ⟨by decide, by decide⟩⟩, ?_⟩
  ·show -(10 ^ 200) < c % 10 ^ 60 + 7907 * k + 1
   omega
  ·show c % 10 ^ 60 + 7907 * k + 1 < 10 ^ 200
   omega
  obtain ⟨B, hB⟩ : ∃ B, B = (c % 10 ^ 60 + 7907 * k + 1) * 271828182845904523536028747135266249775 := ⟨_, rfl⟩
  have g0 : -(10 ^ 200) < (c % 10 ^ 60 + 7907 * k + 1) * 271828182845904523536028747135266249775 := by omega
  have g1 : (c % 10 ^ 60 + 7907 * k + 1) * 271828182845904523536028747135266249775 < 10 ^ 200 := by omega
  refine ⟨_, rfl, _, rfl, _, _, rfl, rfl, ⟨⟨g0, g1⟩, ⟨g0, g1⟩⟩, _, rfl, _, _, rfl, rfl, (by show (0 : Int) < 618970019642690137449562111; decide), ?_⟩
  have m0 : 0 <= B * B % 618970019642690137449562111 := Int.emod_nonneg _ (by decide)
  have m1 : B * B % 618970019642690137449562111 < 618970019642690137449562111 := Int.emod_lt_of_pos _ (by decide)
  obtain ⟨U, hU⟩ : ∃ U, U = B * B % 618970019642690137449562111 := ⟨_, rfl⟩
  rw [<- hU] at m0 m1
  have u0 : -(10 ^ 200) < U + 104729 * (k + 1) := by omega
  have u1 : U + 104729 * (k + 1) < 10 ^ 200 := by omega
  have v0 : -(10 ^ 200) < U := by omega
  have v1 : U < 10 ^ 200 := by omega
  rw [hU, hB] at u0 u1 v0 v1
  refine ⟨_, rfl, _, rfl, _, _, rfl, rfl, _, _, rfl, rfl, ⟨⟨by decide, by decide⟩, ⟨by show -(10 ^ 200) < k + 1; omega, by show k + 1 < 10 ^ 200; omega⟩⟩, _, _, rfl, rfl, _, rfl, _, _, rfl, rfl, ⟨⟨u0, u1⟩, ⟨v0, v1⟩⟩, _, rfl, _, _, rfl, rfl, (by show (0 : Int) < 618970019642690137449562111; decide), ?_⟩
  refine ⟨_, rfl, _, _, rfl, rfl, ⟨by decide, by decide⟩, _, rfl, _, _, rfl, rfl, hm, ?_⟩
  exact q _ (Int.emod_nonneg _ (by omega)) (Int.emod_lt_of_pos _ hm)
end
set_option maxHeartbeats 4000000
def sp_law_web (K : PySem.W.Frag) : Sp := fun vs H Q _ => ∃ (hd c most count : Int), vs = [.int hd, .int c, .int most, .int count] /\ 1 <= most /\ most <= 14 /\ 0 <= count /\ count <= 30 /\
 ∀ (r l : Addr) (n : Int) (xs : List V) (ps : List (Int × Int)) (H' : Hp), Same H H' -> H' r = some (.tup [.int n, .ref l]) -> H l = none -> H' l = some (.lst xs) -> PairsV H' xs ps -> GoodW n ps -> n <= most -> (ps.length : Int) <= count -> Q (.ref r) H'
section
variable {P : Program} {w : World} {K : PySem.W.Frag} {mg : Str -> Option Value} {base : Heap} {t : Adr}
theorem sc_law_web : FnScope ["head", "cell", "most", "ties_most", "places", "count", "ties", "whole", "k"] ["head", "cell", "most", "ties_most"] (defScope s_law_web) := ⟨rfl, rfl, rfl, by decide +kernel, rfl, by decide +kernel, by decide +kernel⟩
theorem ok_law_web (T : Txt K mg t) : FnOk P w K mg base CX0 2 t.a_law_web t.d_law_web ["head", "cell", "most", "ties_most"] (sp_law_web K) := by
 refine T.f_law_web.ok sc_law_web (fun vs H Q E h => ?_) (fun cdv A outer s H vs Q E hr h => ?_)
 ·obtain ⟨hd, c, most, count, rfl, _⟩ := h
  rfl
 ·obtain ⟨hd, c, most, count, rfl, m1, m2, c1, c2, q⟩ := h
  refine ⟨_, (pss_cons (ps_set (i := 4) sc_law_web.nd rfl (Or.inl rfl) (pe_op op_add pe_int (pe_op op_mod (pv 0) (pv 2))))
   (pss_cons (ps_set (i := 5) sc_law_web.nd rfl (Or.inl rfl) (pe_op op_mod (pe_op op_fdiv (pv 0) (pv 2)) (pe_op op_add (pv 3) pe_int)))
   (pss_cons (ps_set (i := 6) sc_law_web.nd rfl (Or.inl rfl) (pe_lst pa_nil))
   (pss_cons (ps_set (i := 7) sc_law_web.nd rfl (Or.inl rfl) (pv 1))
   (pss_cons (ps_for PassesOwn.never rfl (pi_range1 rfl T.n_range (pa_cons (pv 5) pa_nil)) (pg_name (i := 8) sc_law_web.nd rfl (Or.inl rfl))
   (pss_one (ps_if (PW.pt (pw_and (pt_cmpR op_eq (pe_op op_mod (pe_op op_fdiv (pe_op op_fdiv (pv 0) (pv 2)) (pe_op op_add (pv 3) pe_int)) pe_int) pe_int (nomark _)) (pw_and1 (pt_cmpR (op_notInK K) (pv 1) (pe_lst (pa_cons pe_int (pa_cons (pe_un un_neg pe_int) pa_nil))) rfl))))
   (pss_cons (ps_expr (pe_bmK K PySem.F.plainAttrs_list PySem.F.slot_list_append PySem.F.type_list_append mt_append (pv 6) (pa_cons (pe_tup (pa_cons (pe_op op_mod (pv 1) (pv 4)) (pa_cons (pe_op op_mod (pe_op op_fdiv (pv 1) (pv 4)) (pv 4)) pa_nil))) pa_nil)))
   (pss_one (ps_set (i := 1) sc_law_web.nd rfl (Or.inl rfl) (pe_op op_fdiv (pe_op op_fdiv (pv 1) (pv 4)) (pv 4)))))
   (pss_one (ps_expr (pe_bmK K PySem.F.plainAttrs_list PySem.F.slot_list_append PySem.F.type_list_append mt_append (pv 6) (pa_cons (pe_tup (pa_cons (pe_call (ok_law_mix T) (hr.mono (by decide)) rfl T.m_law_mix T.f_law_mix.kp T.b_law_mix .nil pass0 (pa_cons (pv 7) (pa_cons (pe_op op_mul pe_int (pv 8)) (pa_cons (pv 4) pa_nil)))) (pa_cons (pe_call (ok_law_mix T) (hr.mono (by decide)) rfl T.m_law_mix T.f_law_mix.kp T.b_law_mix .nil pass0 (pa_cons (pv 7) (pa_cons (pe_op op_add (pe_op op_mul pe_int (pv 8)) pe_int) (pa_cons (pv 4) pa_nil)))) pa_nil))) pa_nil)))))))
   (pss_one (ps_ret (pe_tup (pa_cons (pv 4) (pa_cons (pv 6) pa_nil)))))))))), ?_⟩
  have n0 : 0 <= hd % most := Int.emod_nonneg _ (by omega)
  have n1 : hd % most < most := Int.emod_lt_of_pos _ (by omega)
  refine ⟨_, rfl, _, rfl, _, _, rfl, rfl, (by show 0 < most; omega), _, _, rfl, rfl, ?_⟩
  have e0 : 0 <= hd / most % (count + 1) := Int.emod_nonneg _ (by omega)
  have e1 : hd / most % (count + 1) < count + 1 := Int.emod_lt_of_pos _ (by omega)
  refine ⟨_, rfl, _, rfl, _, _, rfl, rfl, ⟨by show 0 < most; omega, by show most < 1073741824; omega⟩, _, rfl, _, _, rfl, rfl, _, _, rfl, rfl, (by show 0 < count + 1; omega), ?_⟩
  have hn0 : 1 <= 1 + hd % most := by omega
  have hn1 : 1 + hd % most <= most := by omega
  obtain ⟨n, hn⟩ : ∃ n, n = 1 + hd % most := ⟨_, rfl⟩
  obtain ⟨C, hC⟩ : ∃ C, C = hd / most % (count + 1) := ⟨_, rfl⟩
  rw [<- hn] at hn0 hn1
  rw [<- hC] at e0 e1
  refine ⟨Nat.zero_le _, fun l hl => ?_⟩
  refine ⟨_, rfl, ?_⟩
  refine ⟨_, rfl, C, by rw [hC], by omega, by omega, for_range (lo := 0) (n := C.toNat) (fun i σ H2 => ∃ (c2 : Int) (xs : List V) (ps : List (Int × Int)) (v : Option V), σ = [some (.int hd), some (.int c2), some (.int most), some (.int count), some (.int n), some (.int C), some (.ref l), some (.int c), v] /\ Same H H2 /\ H2 l = some (.lst xs) /\ PairsV H2 xs ps /\ ps.length = i /\ ∀ p ∈ ps, 0 <= p.1 /\ p.1 < n /\ 0 <= p.2 /\ p.2 < n)
   ⟨c, [], [], none, by rw [hn, hC]; rfl, same_at hl, upd_same, PairsV.nil, rfl, fun _ h => (by cases h)⟩ ?_ ?_⟩
  ·rintro i σ H2 hi ⟨c3, xs, ps, v, rfl, s2, h2, hP, hlp, hb⟩
   have xl : xs.length < sizeLine := small60' (by rw [hP.1]; omega)
   have put : ∀ (a b : Int) (cx : Int) (H3 : Hp) (tp : Addr) (vv : Option V), Same H2 H3 -> H3 tp = none -> 0 <= a -> a < n -> 0 <= b -> b < n -> ∃ (c2 : Int) (xs2 : List V) (ps : List (Int × Int)) (v : Option V), [some (.int hd), some (.int cx), some (.int most), some (.int count), some (.int n), some (.int C), some (.ref l), some (.int c), vv] = [some (.int hd), some (.int c2), some (.int most), some (.int count), some (.int n), some (.int C), some (.ref l), some (.int c), v] /\ Same H (upd (upd H3 tp (.tup [.int a, .int b])) l (.lst (xs ++ [.ref tp]))) /\ (upd (upd H3 tp (.tup [.int a, .int b])) l (.lst (xs ++ [.ref tp]))) l = some (.lst xs2) /\ PairsV (upd (upd H3 tp (.tup [.int a, .int b])) l (.lst (xs ++ [.ref tp]))) xs2 ps /\ ps.length = i + 1 /\ ∀ p ∈ ps, 0 <= p.1 /\ p.1 < n /\ 0 <= p.2 /\ p.2 < n := by
    intro a b cx H3 tp vv s3 htp a0 a1 b0 b1
    have s4 := same_at (o := .tup [.int a, .int b]) htp
    have hl4 := s4 _ _ (s3 _ _ h2)
    refine ⟨cx, xs ++ [.ref tp], ps ++ [(a, b)], vv, rfl, same_upd hl ((s2.trans s3).trans s4), upd_same, ?_, by rw [List.length_append, hlp]; rfl, fun p hp => ?_⟩
    ·exact (((hP.same s3).same s4).snoc ⟨tp, rfl, upd_same⟩).mut hl4
    ·rcases List.mem_append.mp hp with h | h
     ·exact hb p h
     ·rw [List.mem_singleton.mp h]; exact ⟨a0, a1, b0, b1⟩
   have md : ∀ z : Int, 0 <= z % n /\ z % n < n := fun z => ⟨Int.emod_nonneg _ (by omega), Int.emod_lt_of_pos _ (by omega)⟩
   have els : ∀ (H3 : Hp), Same H2 H3 -> (_ : Prop) -> True := fun _ _ _ => trivial
   refine ⟨_, rfl, _, rfl, _, _, rfl, rfl, ⟨by show 0 < most; omega, by show most < 1073741824; omega⟩, _, rfl, _, _, rfl, rfl, _, _, rfl, rfl, ⟨by show 0 < count + 1; omega, by show count + 1 < 1073741824; omega⟩, _, _, rfl, rfl, (by show (0 : Int) < 2; decide), rfl, _, rfl, ?_⟩
   have two : 2 <= sizeLine := by decide
   refine itd2 (fun _ => ?_) (fun _ => ?_)
   ·refine ⟨_, rfl, _, rfl, two, fun lp hlp => ?_⟩
    have s3 := same_at (o := .lst [.int 0, .int (-1)]) hlp
    refine ⟨lp, _, rfl, .inl (SqL.of upd_same), rfl, rfl, _, rfl, ?_⟩
    have h3 := s3 _ _ h2
    refine itnb (fun _ => ?_) (fun _ => ?_)
    ·refine ⟨_, rfl, .inl ⟨rfl, _, SqL.of h3⟩, ?_⟩
     refine ⟨_, rfl, _, rfl, _, _, rfl, rfl, .inl ⟨by decide, by decide⟩, _, rfl, c, _, n, rfl, by omega, by omega, by omega, fun z1 a0 a1 => ?_⟩
     refine ⟨_, rfl, _, rfl, _, _, rfl, rfl, .inl ⟨by decide, by decide⟩, _, _, rfl, rfl, _, rfl, c, _, n, rfl, by omega, by omega, by omega, fun z2 b0 b1 => ?_⟩
     refine ⟨two, fun tp htp => ?_⟩
     exact ⟨l, xs, _, rfl, rfl, (same_at htp) _ _ h3, xl, put z1 z2 c3 _ tp _ s3 htp a0 a1 b0 b1⟩
    ·refine ⟨_, rfl, .inl ⟨rfl, _, SqL.of h3⟩, ?_⟩
     refine ⟨_, rfl, _, rfl, _, _, rfl, rfl, (by show 0 < n; omega), _, rfl, _, rfl, _, _, rfl, rfl, ⟨by show 0 < n; omega, by show n < 1073741824; omega⟩, _, rfl, _, _, rfl, rfl, (by show 0 < n; omega), two, fun tp htp => ?_⟩
     refine ⟨l, xs, _, rfl, rfl, (same_at htp) _ _ h3, xl, ?_⟩
     refine ⟨_, rfl, _, rfl, _, _, rfl, rfl, ⟨by show 0 < n; omega, by show n < 1073741824; omega⟩, _, rfl, _, _, rfl, rfl, ⟨by show 0 < n; omega, by show n < 1073741824; omega⟩, ?_⟩
     exact put _ _ _ _ tp _ s3 htp (md _).1 (md _).2 (md _).1 (md _).2
   ·refine ⟨_, rfl, .inl ⟨rfl, _, SqL.of h2⟩, ?_⟩
    refine ⟨_, rfl, _, rfl, _, _, rfl, rfl, .inl ⟨by decide, by decide⟩, _, rfl, c, _, n, rfl, by omega, by omega, by omega, fun z1 a0 a1 => ?_⟩
    refine ⟨_, rfl, _, rfl, _, _, rfl, rfl, .inl ⟨by decide, by decide⟩, _, _, rfl, rfl, _, rfl, c, _, n, rfl, by omega, by omega, by omega, fun z2 b0 b1 => ?_⟩
    refine ⟨two, fun tp htp => ?_⟩
    exact ⟨l, xs, _, rfl, rfl, (same_at htp) _ _ h2, xl, put z1 z2 c3 _ tp _ (Same.refl _) htp a0 a1 b0 b1⟩
  ·rintro σ H2 ⟨c3, xs, ps, v, rfl, s2, h2, hP, hlp, hb⟩
   refine ⟨_, rfl, _, rfl, (by show 2 <= sizeLine; decide), fun r hr => ?_⟩
   have s3 := same_at (o := .tup [.int n, .ref l]) hr
   exact q r l n xs ps _ (s2.trans s3) upd_same hl (s3 _ _ h2) (hP.same s3) ⟨by omega, by omega, by omega, hb⟩ (by omega) (by omega)
end
set_option maxHeartbeats 4000000
def sp_law_marks (K : PySem.W.Frag) : Sp := fun vs H Q _ => ∃ (n : Int) (a : Addr) (xs : List V) (ps : List (Int × Int)), vs = [.int n, .ref a] /\ SqL K H a xs /\ PairsV H xs ps /\ GoodW n ps /\
 ∀ (m : Addr) (H' : Hp), Same H H' -> H m = none -> H' m = some (.lst (IL (pms n.toNat (ps.map fun p => (p.1.toNat, p.2.toNat))))) -> Q (.ref m) H'
section
variable {P : Program} {w : World} {K : PySem.W.Frag} {mg : Str -> Option Value} {base : Heap} {t : Adr}
theorem sc_law_marks : FnScope ["places", "ties", "marks", "one", "other", "low", "high"] ["places", "ties"] (defScope s_law_marks) := ⟨rfl, rfl, rfl, by decide +kernel, rfl, by decide +kernel, by decide +kernel⟩
theorem ok_law_marks (T : Txt K mg t) : FnOk P w K mg base CX0 1 t.a_law_marks t.d_law_marks ["places", "ties"] (sp_law_marks K) := by
 refine T.f_law_marks.ok sc_law_marks (fun vs H Q E h => ?_) (fun cdv A outer s H vs Q E hr h => ?_)
 ·obtain ⟨n, a, xs, ps, rfl, _⟩ := h
  rfl
 ·obtain ⟨n, a, xs, ps, rfl, hA, hP, ⟨g1, g2, g3, g4⟩, q⟩ := h
  refine ⟨_, (pss_cons (ps_set (i := 2) sc_law_marks.nd rfl (Or.inl rfl) (pe_callTy (call_list_rng rfl) (by rfl) T.n_list Boot.«list» (pa_cons (pe_callTy call_rng1 (by rfl) T.n_range Boot.«range» (pa_cons (pv 0) pa_nil)) pa_nil)))
   (pss_cons (ps_for PassesOwn.never rfl (pi_listK K (pv 1)) (pg_tupK (n := 2) K rfl (pgs_cons (pg_name (i := 3) sc_law_marks.nd rfl (Or.inl rfl)) (pgs_cons (pg_name (i := 4) sc_law_marks.nd rfl (Or.inl rfl)) pgs_nil)))
   (pss_cons (ps_set (i := 5) sc_law_marks.nd rfl (Or.inr rfl) (pe_callB (call_min2 rfl) (by rfl) T.n_min Boot.«min» (pa_cons (pe_ix (ix_listK K) (pv 2) (pv 3) (fun _ _ => rfl)) (pa_cons (pe_ix (ix_listK K) (pv 2) (pv 4) (fun _ _ => rfl)) pa_nil))))
   (pss_cons (ps_set (i := 6) sc_law_marks.nd rfl (Or.inr rfl) (pe_callB (call_max2 rfl) (by rfl) T.n_max Boot.«max» (pa_cons (pe_ix (ix_listK K) (pv 2) (pv 3) (fun _ _ => rfl)) (pa_cons (pe_ix (ix_listK K) (pv 2) (pv 4) (fun _ _ => rfl)) pa_nil))))
   (pss_one (ps_lc (i := 2) rfl sc_law_marks.nd rfl rfl (sc0 := defScope s_law_marks) (N0 := ["places", "ties", "marks", "one", "other", "low", "high"]) (N' := ["mark", "low", "high"]) (o := 1) (fr := [5, 6]) ⟨rfl, by decide +kernel, by decide +kernel, by decide +kernel, rfl, by decide +kernel⟩ (pi_listK K (pv 2)) (own_name (by decide)) (fun _ _ _ _ => (pg_name (i := 0) (show List.Nodup (["mark", "low", "high"] : List Str) by decide +kernel) rfl (Or.inl rfl))) (fun _ _ _ _ => pts_nil) (fun _ _ _ _ => (pe_ix (ix_listK K) (pe_lst (pa_cons (pv 0) (pa_cons (pv 1) pa_nil))) (pe_callTy call_int1 (by rfl) T.n_int Boot.«int» (pa_cons (pe_cmpR op_eq (pv 0) (pv 2) (nomark _)) pa_nil)) (fun _ _ => rfl))))))))
   (pss_one (ps_ret (pv 2))))), ?_⟩
  refine ⟨_, rfl, n, rfl, fun r hr0 => ⟨r, 0, n, rfl, upd_same, ⟨by decide, by decide, by omega, by omega⟩, by omega, fun m hm => ?_⟩⟩
  have sm : Same H (upd (upd H r (.rng 0 n)) m (.lst ((rngI 0 n).map V.int))) := same_new (same_at hr0) hm
  have hlx := hP.1
  refine ⟨_, rfl, a, rfl, ⟨_, sm.seq hA⟩, for_list (K := K) (a := a) (xs := xs) (fun i σ H2 => ∃ (m : Addr) (v3 v4 v5 v6 : Option V), σ = [some (.int n), some (.ref a), some (.ref m), v3, v4, v5, v6] /\ Same H H2 /\ H m = none /\ H2 m = some (.lst (IL (pms n.toNat ((ps.take i).map fun p => (p.1.toNat, p.2.toNat))))))
   ⟨m, none, none, none, none, rfl, sm, (same_at hr0).free hm, ?_⟩ (fun i σ H2 _ ⟨_, _, _, _, _, _, s2, _⟩ => s2.seq hA) ?_ ?_⟩
  ·rw [upd_same, rngI_zero]
   rfl
  ·rintro i x σ H2 hi ⟨m, v3, v4, v5, v6, rfl, s2, hm0, hm2⟩
   obtain ⟨p, hp, tt, rfl, htt⟩ := hP.at hi
   obtain ⟨e1, e2, e3, e4⟩ := g4 p (List.mem_of_getElem? hp)
   have ht2 := s2 _ _ htt
   refine ⟨tt, _, rfl, SqT.of ht2, rfl, _, _, rfl, _, _, rfl, rfl, ?_⟩
   have hl : (pms n.toNat ((ps.take i).map fun p => (p.1.toNat, p.2.toNat))).length = n.toNat := pms_length _ _
   have step : pms n.toNat ((ps.take (i + 1)).map fun p => (p.1.toNat, p.2.toNat)) = pm (pms n.toNat ((ps.take i).map fun p => (p.1.toNat, p.2.toNat))) p.1.toNat p.2.toNat := by
    rw [List.take_succ, hp, List.map_append]
    exact pms_snoc _ _ _
   generalize hM : pms n.toNat ((ps.take i).map fun p => (p.1.toNat, p.2.toNat)) = M at *
   have iA : atI (IL M) p.1 = some (.int (mk M p.1.toNat)) := atI_of (n := p.1.toNat) (by omega) (il_at (mk_some (by omega)))
   have iB : atI (IL M) p.2 = some (.int (mk M p.2.toNat)) := atI_of (n := p.2.toNat) (by omega) (il_at (mk_some (by omega)))
   refine ⟨_, rfl, _, rfl, m, _, p.1, _, rfl, rfl, SqL.of hm2, iA, _, rfl, _, rfl, m, _, p.2, _, rfl, rfl, SqL.of hm2, iB, _, _, rfl, ?_⟩
   refine ⟨_, rfl, _, rfl, m, _, p.1, _, rfl, rfl, SqL.of hm2, iA, _, rfl, _, rfl, m, _, p.2, _, rfl, rfl, SqL.of hm2, iB, _, _, rfl, ?_⟩
   have eL : (if mk M p.2.toNat < mk M p.1.toNat then mk M p.2.toNat else mk M p.1.toNat) = min (mk M p.1.toNat) (mk M p.2.toNat) := by
    rw [Int.min_def]; split <;> split <;> omega
   have eH : (if mk M p.2.toNat > mk M p.1.toNat then mk M p.2.toNat else mk M p.1.toNat) = max (mk M p.1.toNat) (mk M p.2.toNat) := by
    rw [Int.max_def]; split <;> split <;> omega
   rw [eL, eH]
   refine ⟨_, rfl, m, rfl, ⟨_, SqL.of hm2⟩, lc_list (K := K) (a := m) (xs := IL M) (fun j ys H3 => Same H2 H3 /\ j <= M.length /\ ys = IL ((M.take j).map fun k => if k = max (mk M p.1.toNat) (mk M p.2.toNat) then min (mk M p.1.toNat) (mk M p.2.toNat) else k)) ⟨Same.refl _, Nat.zero_le _, rfl⟩ (small60' (by rw [il_length]; omega))
     (fun j ys H3 hj ⟨e, hjl, ey⟩ => ⟨SqL.of (e _ _ hm2), by rw [ey, il_length, List.length_map, List.length_take]; omega⟩) ?_ ?_⟩
   ·rintro j y ys H3 hj ⟨s3, hjl, rfl⟩ S hSS
    obtain ⟨k, rfl, hk⟩ := il_get hj
    have hjl' : j < M.length := (List.getElem?_eq_some_iff.mp hk).1
    refine nm ?_
    refine ⟨_, rfl, _, rfl, (by show 2 <= sizeLine; decide), fun lp hlp => ?_⟩
    have s4 := same_at (o := .lst [.int k, .int (min (mk M p.1.toNat) (mk M p.2.toNat))]) hlp
    refine ⟨_, rfl, _, rfl, rfl, .inr ⟨_, rfl, ?_⟩⟩
    rw [dec_int]
    have app : IL ((M.take j).map fun k => if k = max (mk M p.1.toNat) (mk M p.2.toNat) then min (mk M p.1.toNat) (mk M p.2.toNat) else k) ++ [.int (if k = max (mk M p.1.toNat) (mk M p.2.toNat) then min (mk M p.1.toNat) (mk M p.2.toNat) else k)] = IL ((M.take (j + 1)).map fun k => if k = max (mk M p.1.toNat) (mk M p.2.toNat) then min (mk M p.1.toNat) (mk M p.2.toNat) else k) := by
     rw [List.take_succ, hk]
     simp
    by_cases he : k = max (mk M p.1.toNat) (mk M p.2.toNat)
    ·rw [if_pos he] at app
     rw [decide_eq_true he]
     exact ⟨lp, _, 1, .int (min (mk M p.1.toNat) (mk M p.2.toNat)), rfl, rfl, SqL.of upd_same, rfl, hSS _ _ ⟨s3.trans s4, hjl', app⟩⟩
    ·rw [if_neg he] at app
     rw [decide_eq_false he]
     exact ⟨lp, _, 0, .int k, rfl, rfl, SqL.of upd_same, rfl, hSS _ _ ⟨s3.trans s4, hjl', app⟩⟩
   ·rintro ys H3 ⟨s3, _, rfl⟩ p' hp'
    refine ⟨p', _, _, _, _, rfl, same_new (s2.trans s3) hp', (s2.trans s3).free hp', ?_⟩
    rw [upd_same, step, il_length, List.take_length, pm_map]
  ·rintro σ H2 ⟨m, v3, v4, v5, v6, rfl, s2, hm0, hm2⟩
   rw [hlx, List.take_length] at hm2
   exact ⟨_, rfl, q m H2 s2 hm0 hm2⟩
end
set_option maxHeartbeats 4000000
def sp_law_tree (K : PySem.W.Frag) : Sp := fun vs H Q _ => ∃ (n : Int) (a b : Addr) (xs : List V) (ps : List (Int × Int)) (ns : List Int), vs = [.int n, .ref a, .ref b] /\ SqL K H a xs /\ PairsV H xs ps /\ GoodW n ps /\ SqT K H b (IL ns) /\ (∀ z ∈ ns, 0 <= z /\ z < (ps.length : Int)) /\
 ∀ (bb : Bool) (H' : Hp), Same H H' -> (bb = true ↔ (ns.length : Int) = n - 1 /\ ∀ i j, i < n.toNat -> j < n.toNat -> Conn (endsOf ps ns) i j) -> Q (.bl bb) H'
section
variable {P : Program} {w : World} {K : PySem.W.Frag} {mg : Str -> Option Value} {base : Heap} {t : Adr}
theorem sc_law_tree : FnScope ["places", "ties", "chosen"] ["places", "ties", "chosen"] (defScope s_law_tree) := ⟨rfl, rfl, rfl, by decide +kernel, rfl, by decide +kernel, by decide +kernel⟩
theorem ok_law_tree (T : Txt K mg t) : FnOk P w K mg base CX0 2 t.a_law_tree t.d_law_tree ["places", "ties", "chosen"] (sp_law_tree K) := by
 refine T.f_law_tree.ok sc_law_tree (fun vs H Q E h => ?_) (fun cdv A outer s H vs Q E hr h => ?_)
 ·obtain ⟨n, a, b, xs, ps, ns, rfl, _⟩ := h
  rfl
 ·obtain ⟨n, a, b, xs, ps, ns, rfl, hA, hP, hG, hS, hI, q⟩ := h
  refine ⟨_, (pss_cons (ps_if (pt_cmpR op_ne (pe_callB (call_lenK K) (by rfl) T.n_len Boot.«len» (pa_cons (pv 2) pa_nil)) (pe_op op_sub (pv 0) pe_int) (nomark _))
   (pss_one (ps_ret pe_bl))
   pss_nil)
   (pss_one (ps_ret (pe_cmpR op_eq (pe_callB call_len_setI (by rfl) T.n_len Boot.«len» (pa_cons (pe_callTy (call_setK K rfl) (by rfl) T.n_set Boot.«set» (pa_cons (pe_call (ok_law_marks T) (hr.mono (by decide)) rfl T.m_law_marks T.f_law_marks.kp T.b_law_marks .nil pass0 (pa_cons (pv 0) (pa_cons (pe_lc rfl (sc0 := defScope s_law_tree) (N0 := ["places", "ties", "chosen"]) (N' := ["k", "ties"]) (o := 1) (fr := [1]) ⟨rfl, by decide +kernel, by decide +kernel, by decide +kernel, rfl, by decide +kernel⟩ (pi_tupK K (pv 2)) (own_name (by decide)) (fun _ _ _ _ => (pg_name (i := 0) (show List.Nodup (["k", "ties"] : List Str) by decide +kernel) rfl (Or.inl rfl))) (fun _ _ _ _ => pts_nil) (fun _ _ _ _ => (pe_ix (ix_listK K) (pv 1) (pv 0) (fun _ _ => rfl)))) pa_nil))) pa_nil)) pa_nil)) pe_int (nomark _))))), ?_⟩
  obtain ⟨g1, g2, g3, g4⟩ := id hG
  refine ⟨_, rfl, b, _, rfl, .inr hS, _, rfl, _, _, rfl, rfl, rfl, _, rfl, ?_⟩
  rw [il_length, dec_int]
  refine itn2 (fun hl => ?_) (fun hl => ?_)
  ·have hn14 : ns.length <= 14 := by omega
   refine ⟨_, rfl, _, rfl, b, rfl, ⟨_, hS⟩, lc_tup (K := K) (a := b) (xs := IL ns) (fun i ws H2 => H2 = H /\ i <= ns.length /\ PairsV H2 ws ((ns.take i).map fun z => ps.getD z.toNat (0, 0))) ⟨rfl, Nat.zero_le _, PairsV.nil⟩ (small60' (by rw [il_length]; omega))
    (fun i ws H2 hi ⟨e, hi2, ew⟩ => ⟨e ▸ hS, by rw [ew.1, List.length_map, List.length_take]; omega⟩) ?_ ?_⟩
   ·rintro i y ws H2 hi ⟨rfl, hil, hW⟩ S hSS
    obtain ⟨z, rfl, hz⟩ := il_get hi
    obtain ⟨z0, z1⟩ := hI z (List.mem_of_getElem? hz)
    have hil' : i < ns.length := (List.getElem?_eq_some_iff.mp hz).1
    obtain ⟨p, hp⟩ : ∃ p, ps[z.toNat]? = some p := ⟨_, List.getElem?_eq_getElem (by omega)⟩
    obtain ⟨v, hv, hvp⟩ := hP.2 z.toNat p hp
    refine nm ?_
    refine ⟨_, rfl, _, rfl, a, xs, z, v, rfl, rfl, hA, atI_of (n := z.toNat) (by omega) hv, hSS _ _ ⟨rfl, hil', ?_⟩⟩
    rw [List.take_succ, hz, List.map_append]
    refine hW.snoc ?_
    show PairV _ v (ps.getD z.toNat (0, 0))
    rw [getD_of hp]
    exact hvp
   ·rintro ws H2 ⟨rfl, _, hW⟩ p hp
    rw [il_length, List.take_length] at hW
    have s1 := same_at (o := .lst ws) hp
    have hG2 : GoodW n (ns.map fun z => ps.getD z.toNat (0, 0)) := ⟨g1, g2, by rw [List.length_map]; omega, fun x hx => by
     obtain ⟨z, hz, rfl⟩ := List.mem_map.mp hx
     obtain ⟨z0, z1⟩ := hI z hz
     obtain ⟨y, hy⟩ : ∃ y, ps[z.toNat]? = some y := ⟨_, List.getElem?_eq_getElem (by omega)⟩
     rw [getD_of hy]
     exact g4 y (List.mem_of_getElem? hy)⟩
    refine ⟨n, p, ws, _, rfl, SqL.of upd_same, hW.same s1, hG2, fun m H3 s2 hm0 hm2 => ?_⟩
    have eE : (ns.map fun z => ps.getD z.toNat (0, 0)).map (fun p => (p.1.toNat, p.2.toNat)) = endsOf ps ns := by unfold endsOf; rw [List.map_map]; rfl
    rw [eE] at hm2
    have hin := ends_in hG hI
    have hl2 : (pms n.toNat (endsOf ps ns)).length = n.toNat := pms_length _ _
    have sn : (L2.seen (pms n.toNat (endsOf ps ns))).length = 1 ↔ ∀ i j, i < n.toNat -> j < n.toNat -> Conn (endsOf ps ns) i j := by
     rw [seen_one (by omega), hl2]
     constructor
     ·intro h i j hi hj
      exact (pms_iff hin hi hj).mp (h i j hi hj)
     ·intro h i j hi hj
      exact (pms_iff hin hi hj).mpr (h i j hi hj)
    have sl1 : (L2.seen (pms n.toNat (endsOf ps ns))).length <= (pms n.toNat (endsOf ps ns)).length := PyProof.Rows.firstMet_length_le _ _
    refine ⟨m, _, rfl, SqL.of hm2, ?_, fun st hst => ?_⟩
    ·exact Nat.lt_of_le_of_lt (show (pms n.toNat (endsOf ps ns)).length + 1 <= 100 by omega) (by decide)
    ·refine ⟨st, _, _, rfl, upd_same, by omega, rfl, ?_⟩
     rw [dec_int]
     refine q _ _ ((s1.trans s2).trans (same_at hst)) ?_
     rw [decide_eq_true_iff]
     constructor
     ·intro e
      exact ⟨hl, sn.mp (by omega)⟩
     ·intro e
      have := sn.mpr e.2
      omega
  ·exact q false H (Same.refl _) ⟨fun e => (nomatch e), fun e => absurd e.1 hl⟩
end
set_option maxHeartbeats 4000000
def sp_law_trees (K : PySem.W.Frag) : Sp := fun vs H Q _ => ∃ (n : Int) (a : Addr) (xs : List V) (ps : List (Int × Int)), vs = [.int n, .ref a] /\ SqL K H a xs /\ PairsV H xs ps /\ GoodW n ps /\ ps.length <= 15 /\
 ∀ (r : Addr) (ys : List V) (L : List (List Int)) (H' : Hp), Same H H' -> H r = none -> H' r = some (.lst ys) -> TupsV H' ys L -> L.length <= 100000 -> (∀ l, l ∈ L ↔ IsTree n ps l) -> L.Pairwise lexS -> Q (.ref r) H'
section
variable {P : Program} {w : World} {K : PySem.W.Frag} {mg : Str -> Option Value} {base : Heap} {t : Adr}
theorem sc_law_trees : FnScope ["places", "ties", "told", "k"] ["places", "ties"] (defScope s_law_trees) := ⟨rfl, rfl, rfl, by decide +kernel, rfl, by decide +kernel, by decide +kernel⟩
theorem ok_law_trees (T : Txt K mg t) : FnOk P w K mg base CX0 3 t.a_law_trees t.d_law_trees ["places", "ties"] (sp_law_trees K) := by
 refine T.f_law_trees.ok sc_law_trees (fun vs H Q E h => ?_) (fun cdv A outer s H vs Q E hr h => ?_)
 ·obtain ⟨n, a, xs, ps, rfl, _⟩ := h
  rfl
 ·obtain ⟨n, a, xs, ps, rfl, hA, hP, hG, p15, q⟩ := h
  refine ⟨_, (pss_cons (ps_set (i := 2) sc_law_trees.nd rfl (Or.inl rfl) (pe_lst (pa_cons (pe_tup pa_nil) pa_nil)))
   (pss_cons (ps_for PassesOwn.never rfl (pi_range1 rfl T.n_range (pa_cons (pe_callB (call_lenK K) (by rfl) T.n_len Boot.«len» (pa_cons (pv 1) pa_nil)) pa_nil)) (pg_name (i := 3) sc_law_trees.nd rfl (Or.inr rfl))
   (pss_one (ps_set (i := 2) sc_law_trees.nd rfl (Or.inl rfl) (pe_op op_cat (pv 2) (pe_lc rfl (sc0 := defScope s_law_trees) (N0 := ["places", "ties", "told", "k"]) (N' := ["chosen", "k", "places"]) (o := 1) (fr := [3, 0]) ⟨rfl, by decide +kernel, by decide +kernel, by decide +kernel, rfl, by decide +kernel⟩ (pi_listK K (pv 2)) (own_name (by decide)) (fun _ _ _ _ => (pg_name (i := 0) (show List.Nodup (["chosen", "k", "places"] : List Str) by decide +kernel) rfl (Or.inl rfl))) (fun _ _ _ _ => (pts_one (pt_cmpR op_lt (pe_callB (call_lenK K) (by rfl) T.n_len Boot.«len» (pa_cons (pv 0) pa_nil)) (pe_op op_sub (pv 2) pe_int) (nomark _)))) (fun _ _ _ _ => (pe_op (op_catU K) (pv 0) (pe_tup (pa_cons (pv 1) pa_nil)))))))))
   (pss_one (ps_ret (pe_callB (call_sortedTT K) (by rfl) T.n_sorted Boot.«sorted» (pa_cons (pe_lc rfl (sc0 := defScope s_law_trees) (N0 := ["places", "ties", "told", "k"]) (N' := ["chosen", "places", "ties"]) (o := 1) (fr := [0, 1]) ⟨rfl, by decide +kernel, by decide +kernel, by decide +kernel, rfl, by decide +kernel⟩ (pi_listK K (pv 2)) (own_name (by decide)) (fun _ _ _ _ => (pg_name (i := 0) (show List.Nodup (["chosen", "places", "ties"] : List Str) by decide +kernel) rfl (Or.inl rfl))) (fun _ _ _ _ => (pts_one (pt_val (pe_call (ok_law_tree T) (hr.mono (by decide)) rfl T.m_law_tree T.f_law_tree.kp T.b_law_tree .nil pass0 (pa_cons (pv 1) (pa_cons (pv 2) (pa_cons (pv 0) pa_nil))))))) (fun _ _ _ _ => (pv 0))) pa_nil)))))), ?_⟩
  obtain ⟨g1, g2, g3, g4⟩ := id hG
  have hlx := hP.1
  have one : 1 <= sizeLine := by decide
  have hm : 0 <= n - 1 := by omega
  have big : ∀ i, i <= 15 -> (subT (n - 1) i).length <= 32768 := fun i hi => Nat.le_trans (subT_len _ i) (Nat.le_trans (Nat.pow_le_pow_right (by decide) hi) (by decide))
  refine ⟨Nat.zero_le _, fun e0 he0 => ⟨one, fun d0 hd0 => ?_⟩⟩
  have s0 := same_at (o := .tup []) he0
  have s1 := same_at (o := .lst [.ref e0]) hd0
  refine ⟨_, rfl, a, xs, rfl, .inl ((s0.trans s1).seq hA), xs.length, rfl, by omega, by omega, for_range (lo := 0) (n := (xs.length : Int).toNat) (fun i σ H2 => ∃ (d : Addr) (ys : List V) (v : Option V), σ = [some (.int n), some (.ref a), some (.ref d), v] /\ Same H H2 /\ H2 d = some (.lst ys) /\ TupsV H2 ys (subT (n - 1) i))
   ⟨d0, _, none, rfl, s0.trans s1, upd_same, TupsV.one ⟨e0, rfl, s1 _ _ upd_same⟩⟩ ?_ ?_⟩
  ·rintro i σ H2 hi ⟨d, ys, v, rfl, s2, hd, hL⟩
   have hi15 : i < 15 := by omega
   have yl := big i (by omega)
   have hyl := hL.1
   refine ⟨_, rfl, _, rfl, d, rfl, ⟨_, SqL.of hd⟩, lc_list (K := K) (a := d) (xs := ys) (fun j ws H3 => Same H2 H3 /\ j <= ys.length /\ TupsV H3 ws ((((subT (n - 1) i).take j).filter fun l => decide ((l.length : Int) < n - 1)).map fun l => l ++ [(i : Int)])) ⟨Same.refl _, Nat.zero_le _, TupsV.nil⟩ (small60' (by omega))
    (fun j ws H3 hj ⟨e, hj2, ew⟩ => ⟨SqL.of (e _ _ hd), by rw [ew.1, List.length_map]; exact Nat.le_trans (List.length_filter_le ..) (by rw [List.length_take]; omega)⟩) ?_ ?_⟩
   ·rintro j y ws H3 hj ⟨s3, hjl, hW⟩ S hSS
    obtain ⟨l, hl, tt, rfl, htt2⟩ := hL.at hj
    have hjl' : j < ys.length := (List.getElem?_eq_some_iff.mp hj).1
    have htt := s3 _ _ htt2
    have hlm := ((subT_mem hm).mp (List.mem_of_getElem? hl)).1
    have hll := hlm.len
    refine nm ?_
    refine ⟨_, rfl, tt, _, rfl, .inr (SqT.of htt), _, rfl, _, _, rfl, rfl, _, _, rfl, rfl, _, rfl, ?_⟩
    rw [il_length]
    refine itd2 (fun hc => ?_) (fun hc => ?_)
    ·refine ⟨_, rfl, _, rfl, one, fun p2 hp2 => ?_⟩
     have s6 := same_at (o := .tup (IL [(0 : Int) + (i : Int)])) hp2
     have ei : (0 : Int) + (i : Int) = (i : Int) := by omega
     have new : (((subT (n - 1) i).take (j + 1)).filter fun l => decide ((l.length : Int) < n - 1)).map (fun l => l ++ [(i : Int)]) = (((subT (n - 1) i).take j).filter fun l => decide ((l.length : Int) < n - 1)).map (fun l => l ++ [(i : Int)]) ++ [l ++ [(i : Int)]] := by
      rw [filtL_succ hl, if_pos (decide_eq_true hc), List.map_append]; rfl
     refine ⟨tt, p2, IL l, IL [(0 : Int) + (i : Int)], rfl, rfl, SqT.of (s6 _ _ htt), SqT.of upd_same, small60 (by rw [il_length, il_length, List.length_cons, List.length_nil]; omega), fun e => ?_, fun _ e => (nomatch e), fun _ _ p3 hp3 => ?_⟩
     ·have e0 : l = [] := by cases h : l with | nil => rfl | cons x r => rw [h] at e; cases e
      refine hSS _ _ ⟨s3.trans s6, hjl', ?_⟩
      rw [new]
      exact (hW.same s6).snoc ⟨p2, rfl, by rw [e0, upd_same, ei]; rfl⟩
     ·refine hSS _ _ ⟨(s3.trans s6).trans (same_at hp3), hjl', ?_⟩
      rw [new]
      exact ((hW.same s6).same (same_at hp3)).snoc ⟨p3, rfl, by rw [upd_same, ei]; congr 2; exact (List.map_append ..).symm⟩
    ·refine hSS _ _ ⟨s3, hjl', ?_⟩
     rw [filtL_succ hl, if_neg (by simpa using hc), List.append_nil]
     exact hW
   ·rintro ws H3 ⟨s3, _, hW⟩ p hp
    rw [hyl, List.take_length] at hW
    have s4 := s3.trans (same_at (o := .lst ws) hp)
    have wl : ws.length <= 32768 := by rw [hW.1, List.length_map]; exact Nat.le_trans (List.length_filter_le ..) yl
    refine ⟨d, p, ys, ws, rfl, rfl, s4 _ _ hd, upd_same, small60 (by omega), fun r hr => ?_⟩
    have s5 := same_at (o := .lst (ys ++ ws)) hr
    exact ⟨r, _, _, rfl, (s2.trans s4).trans s5, upd_same, ((hL.same s4).same s5).app ((hW.same (same_at hp)).same s5)⟩
  ·rintro σ H2 ⟨d, ys, v, rfl, s2, hd, hL⟩
   rw [Int.toNat_natCast, hlx] at hL
   have yl := big ps.length p15
   have hyl := hL.1
   refine ⟨_, rfl, d, rfl, ⟨_, SqL.of hd⟩, lc_list (K := K) (a := d) (xs := ys) (fun i ws H3 => Same H2 H3 /\ i <= ys.length /\ ∃ W : List (List Int), TupsV H3 ws W /\ W.Sublist ((subT (n - 1) ps.length).take i) /\ ∀ l, l ∈ W ↔ l ∈ (subT (n - 1) ps.length).take i /\ IsTree n ps l) ⟨Same.refl _, Nat.zero_le _, [], TupsV.nil, List.nil_sublist _, fun l => by simp⟩ (small60' (by omega))
    (fun i ws H3 hi ⟨e, hi2, W, ew, es, _⟩ => ⟨SqL.of (e _ _ hd), by rw [ew.1]; exact Nat.le_trans es.length_le (by rw [List.length_take]; omega)⟩) ?_ ?_⟩
   ·rintro i y ws H3 hi ⟨s3, hil, W, hW, hsub, hmem⟩ S hSS
    obtain ⟨l, hl, tt, rfl, htt2⟩ := hL.at hi
    have hil' : i < ys.length := (List.getElem?_eq_some_iff.mp hi).1
    have htt := s3 _ _ htt2
    obtain ⟨hI, hlen⟩ := (subT_mem hm).mp (List.mem_of_getElem? hl)
    have est : (subT (n - 1) ps.length).take (i + 1) = (subT (n - 1) ps.length).take i ++ [l] := by rw [List.take_succ, hl]; rfl
    have s03 := s2.trans s3
    refine nm ?_
    refine ⟨_, rfl, _, rfl, _, rfl, n, a, tt, xs, ps, l, rfl, s03.seq hA, hP.same s03, hG, SqT.of htt, hI.all, fun bb H4 s4 hbb => ⟨_, rfl, ?_⟩⟩
    refine itb (fun e => ?_) (fun e => ?_)
    ·have hT : IsTree n ps l := ⟨hI, hbb.mp e⟩
     refine ⟨_, rfl, hSS _ _ ⟨s3.trans s4, hil', W ++ [l], (hW.same s4).snoc ⟨tt, rfl, s4 _ _ htt⟩, by rw [est]; exact hsub.append (List.Sublist.refl _), fun m => ?_⟩⟩
     rw [est, List.mem_append, List.mem_append, hmem]
     constructor
     ·rintro (⟨h1, h2⟩ | h)
      ·exact ⟨.inl h1, h2⟩
      ·rw [List.mem_singleton.mp h]; exact ⟨.inr (List.mem_singleton.mpr rfl), hT⟩
     ·rintro ⟨h1 | h1, h2⟩
      ·exact .inl ⟨h1, h2⟩
      ·exact .inr h1
    ·have hT : ¬ IsTree n ps l := fun h => by rw [hbb.mpr h.2] at e; cases e
     refine hSS _ _ ⟨s3.trans s4, hil', W, hW.same s4, by rw [est]; exact hsub.trans (List.sublist_append_left _ _), fun m => ?_⟩
     rw [est, List.mem_append, hmem]
     constructor
     ·rintro ⟨h1, h2⟩
      exact ⟨.inl h1, h2⟩
     ·rintro ⟨h1 | h1, h2⟩
      ·exact ⟨h1, h2⟩
      ·rw [List.mem_singleton.mp h1] at h2; exact absurd h2 hT
   ·rintro ws H3 ⟨s3, _, W, hW, hsub, hmem⟩ p hp
    rw [hyl, List.take_length] at hsub hmem
    have s4 := same_at (o := .lst ws) hp
    have hW4 := hW.same s4
    have wl : W.length <= 32768 := Nat.le_trans hsub.length_le yl
    have hwl := hW.1
    have hnd : W.Nodup := (subT_nodup hm _).sublist hsub
    have hWT : ∀ l, l ∈ W ↔ IsTree n ps l := fun l => by
     rw [hmem]
     exact ⟨fun h => h.2, fun h => ⟨(subT_mem hm).mpr ⟨h.1, by have := h.2.1; omega⟩, h⟩⟩
    refine ⟨p, ws, W, TupV (upd H3 p (.lst ws)), rfl, SqL.of upd_same, hW4, fun v l ⟨b, e, h⟩ => ⟨b, e, SqT.of h⟩, ?_, by omega, fun zs M hM hMp hMs sl hsl => ?_⟩
    ·by_cases h2 : ws.length < 2
     ·exact .inl h2
     ·refine .inr fun U hU e => ?_
      have hU2 := ((hWT U).mp hU).2.1
      have h0 : n - 1 = 0 := by rw [e] at hU2; simpa using hU2.symm
      have hall : ∀ V ∈ W, V = [] := fun V hV => List.length_eq_zero_iff.mp (by have := ((hWT V).mp hV).2.1; omega)
      have e0 : W[0]? = some [] := by rw [List.getElem?_eq_getElem (by omega)]; exact congrArg some (hall _ (List.getElem_mem _))
      have e1 : W[1]? = some [] := by rw [List.getElem?_eq_getElem (by omega)]; exact congrArg some (hall _ (List.getElem_mem _))
      have := nodup_get hnd e0 e1
      omega
    ·have s5 := same_at (o := .lst zs) hsl
     have s25 := (s2.trans s3).trans (s4.trans s5)
     exact q sl zs M _ s25 ((s2.trans s3).free (s4.free hsl)) upd_same (TupsV.same s5 hM) (by rw [hMp.length_eq]; omega) (fun l => by rw [hMp.mem_iff]; exact hWT l) (lexS_of hMs (hMp.nodup_iff.mpr hnd))
end
set_option maxHeartbeats 4000000
def sp_law_instead (K : PySem.W.Frag) : Sp := fun vs H Q _ => ∃ (a b : Addr) (T : List Int) (o z : Int), vs = [.ref a, .ref b] /\ SqT K H a (IL T) /\ H b = some (.tup [.int o, .int z]) /\ T.length <= 20 /\ ∀ (ms : List Int), ms.Perm (wo T o ++ [z]) -> ms.Pairwise (· <= ·) -> ∀ (r : Addr) (H' : Hp), Same H H' -> H' r = some (.tup (IL ms)) -> Q (.ref r) H'
section
variable {P : Program} {w : World} {K : PySem.W.Frag} {mg : Str -> Option Value} {base : Heap} {t : Adr}
theorem sc_law_instead : FnScope ["tree", "pair"] ["tree", "pair"] (defScope s_law_instead) := ⟨rfl, rfl, rfl, by decide +kernel, rfl, by decide +kernel, by decide +kernel⟩
theorem ok_law_instead (T : Txt K mg t) : FnOk P w K mg base CX0 1 t.a_law_instead t.d_law_instead ["tree", "pair"] (sp_law_instead K) := by
 refine T.f_law_instead.ok sc_law_instead (fun vs H Q E h => ?_) (fun cdv A outer s H vs Q E hr h => ?_)
 ·obtain ⟨a, b, T, o, z, rfl, _⟩ := h
  rfl
 ·obtain ⟨a, b, T', o, z, rfl, hA, hB, tl, q⟩ := h
  refine ⟨_, (pss_one (ps_ret (pe_callTy (call_tupleK K) (by rfl) T.n_tuple Boot.«tuple» (pa_cons (pe_callB (call_sortedK K) (by rfl) T.n_sorted Boot.«sorted» (pa_cons (pe_op op_cat (pe_lc rfl (sc0 := defScope s_law_instead) (N0 := ["tree", "pair"]) (N' := ["tie", "pair"]) (o := 1) (fr := [1]) ⟨rfl, by decide +kernel, by decide +kernel, by decide +kernel, rfl, by decide +kernel⟩ (pi_tupK K (pv 0)) (own_name (by decide)) (fun _ _ _ _ => (pg_name (i := 0) (show List.Nodup (["tie", "pair"] : List Str) by decide +kernel) rfl (Or.inl rfl))) (fun _ _ _ _ => (pts_one (pt_cmpR op_ne (pv 0) (pe_ix (ix_tupK K) (pv 1) pe_int (fun _ _ => rfl)) (nomark _)))) (fun _ _ _ _ => (pv 0))) (pe_lst (pa_cons (pe_ix (ix_tupK K) (pv 1) pe_int (fun _ _ => rfl)) pa_nil))) pa_nil)) pa_nil)))), ?_⟩
  have one : 1 <= sizeLine := by decide
  refine ⟨_, rfl, a, rfl, ⟨_, hA⟩, lc_tup (K := K) (a := a) (xs := IL T') (fun j zs H4 => H4 = H /\ j <= T'.length /\ zs = IL (wo (T'.take j) o)) ⟨rfl, Nat.zero_le _, rfl⟩ (small60' (by rw [il_length]; omega))
    (fun j zs H4 hj ⟨e, hj2, ey⟩ => ⟨e ▸ hA, by rw [ey, il_length]; exact Nat.le_trans (wo_len _ _) (by rw [List.length_take]; omega)⟩) ?_ ?_⟩
  ·rintro j x zs H4 hj ⟨rfl, hjl, rfl⟩ S hSS
   obtain ⟨y, rfl, hy⟩ := il_get hj
   have hjl' : j < T'.length := (List.getElem?_eq_some_iff.mp hy).1
   refine nm ?_
   refine ⟨_, rfl, _, rfl, b, _, 0, .int o, rfl, rfl, SqT.of hB, rfl, rfl, _, rfl, ?_⟩
   rw [dec_int]
   refine itn2 (fun he => ?_) (fun he => ?_)
   ·refine hSS _ _ ⟨rfl, hjl', ?_⟩
    rw [wo_take_succ hy, if_neg (by simpa using he), List.append_nil]
   ·refine ⟨_, rfl, hSS _ _ ⟨rfl, hjl', ?_⟩⟩
    rw [wo_take_succ hy, if_pos he, il_snoc]
  rintro zs H4 ⟨rfl, _, rfl⟩ p1 hp1
  rw [il_length, List.take_length]
  have wl := wo_len T' o
  refine ⟨_, rfl, b, _, 1, .int z, rfl, rfl, SqT.of (same_at hp1 _ _ hB), rfl, one, fun p2 hp2 => ?_⟩
  refine cat_ok (l2 := [z]) (by rw [upd_ne (ne_of_none upd_same hp2)]; exact upd_same) upd_same (by simp only [List.length_cons, List.length_nil]; omega) fun p3 hp3 => ?_
  refine ⟨p3, _, rfl, SqL.of upd_same, by simp only [List.length_append, List.length_cons, List.length_nil]; omega, fun ms hpm2 hpw2 p4 hp4 => ?_⟩
  have s6 := same_new (same_new (same_new (same_at (o := .lst (IL (wo T' o))) hp1) (o := .lst (IL [z])) hp2) (o := .lst (IL (wo T' o ++ [z]))) hp3) (o := .lst (IL ms)) hp4
  refine ⟨p4, IL ms, rfl, .inl ⟨SqL.of upd_same, fun tp htp => ?_⟩⟩
  exact q ms hpm2 hpw2 tp _ (s6.trans (same_at htp)) upd_same
end
set_option maxHeartbeats 4000000
def sp_law_exchanges (K : PySem.W.Frag) : Sp := fun vs H Q _ => ∃ (e a : Addr) (n : Int) (ps : List (Int × Int)) (ys : List V) (L : List (List Int)) (T : List Int), vs = [.ref e, .ref a, .int (ps.length : Int)] /\ H e = some (.lst ys) /\ TupsV H ys L /\ (∀ l, l ∈ L ↔ IsTree n ps l) /\ H a = some (.tup (IL T)) /\ GoodW n ps /\ IsTree n ps T /\
 ∀ (r : Addr) (xs : List V) (qs : List (Int × Int)) (H' : Hp), Same H H' -> H r = none -> H' r = some (.lst xs) -> PairsV H' xs qs -> qs.length <= 13 * 30 -> (∀ p, p ∈ qs ↔ exg n ps T p.1 p.2) -> Q (.ref r) H'
section
variable {P : Program} {w : World} {K : PySem.W.Frag} {mg : Str -> Option Value} {base : Heap} {t : Adr}
theorem sc_law_exchanges : FnScope ["every", "tree", "count", "told", "out", "into"] ["every", "tree", "count"] (defScope s_law_exchanges) := ⟨rfl, rfl, rfl, by decide +kernel, rfl, by decide +kernel, by decide +kernel⟩
theorem ok_law_exchanges (T : Txt K mg t) : FnOk P w K mg base CX0 2 t.a_law_exchanges t.d_law_exchanges ["every", "tree", "count"] (sp_law_exchanges K) := by
 refine T.f_law_exchanges.ok sc_law_exchanges (fun vs H Q E h => ?_) (fun cdv A outer s H vs Q E hr h => ?_)
 ·obtain ⟨e, a, n, ps, ys, L, T, rfl, _⟩ := h
  rfl
 ·obtain ⟨e, a, n, ps, ys, L, T', rfl, hE, hL, hmem, hA, hG, hT, q⟩ := h
  refine ⟨_, (pss_cons (ps_set (i := 3) sc_law_exchanges.nd rfl (Or.inl rfl) (pe_lst pa_nil))
   (pss_cons (ps_for PassesOwn.never rfl (pi_tupK K (pv 1)) (pg_name (i := 4) sc_law_exchanges.nd rfl (Or.inl rfl))
   (pss_one (ps_for PassesOwn.never rfl (pi_range1 rfl T.n_range (pa_cons (pv 2) pa_nil)) (pg_name (i := 5) sc_law_exchanges.nd rfl (Or.inl rfl))
   (pss_one (ps_if (PW.pt (pw_and (pt_cmpR (op_notInK K) (pv 5) (pv 1) rfl) (pw_and1 (pt_cmpR (op_inR K (hu8 hr)) (pe_call (ok_law_instead T) (hr.mono (by decide)) rfl T.m_law_instead T.f_law_instead.kp T.b_law_instead .nil pass0 (pa_cons (pv 1) (pa_cons (pe_tup (pa_cons (pv 4) (pa_cons (pv 5) pa_nil))) pa_nil))) (pv 0) rfl))))
   (pss_one (ps_expr (pe_bmK K PySem.F.plainAttrs_list PySem.F.slot_list_append PySem.F.type_list_append mt_append (pv 3) (pa_cons (pe_tup (pa_cons (pv 4) (pa_cons (pv 5) pa_nil))) pa_nil))))
   pss_nil)))))
   (pss_one (ps_ret (pv 3))))), ?_⟩
  have two : 2 <= sizeLine := by decide
  obtain ⟨g1, g2, g3, g4⟩ := id hG
  have tl : T'.length <= 13 := by have := hT.2.1; omega
  refine ⟨Nat.zero_le _, fun r hr => ?_⟩
  have s0 := same_at (o := .lst []) hr
  refine ⟨_, rfl, a, rfl, ⟨_, SqT.of (s0 _ _ hA)⟩, for_tup (K := K) (a := a) (xs := IL T') (fun i σ H2 => ∃ (v4 v5 : Option V) (xs : List V) (qs : List (Int × Int)), σ = [some (.ref e), some (.ref a), some (.int (ps.length : Int)), some (.ref r), v4, v5] /\ Same H H2 /\ H2 r = some (.lst xs) /\ PairsV H2 xs qs /\ qs.length <= i * 30 /\ ∀ p, p ∈ qs ↔ p.1 ∈ T'.take i /\ exg n ps T' p.1 p.2) ⟨none, none, [], [], rfl, s0, upd_same, PairsV.nil, Nat.le_refl _, fun p => ⟨fun h => (by cases h), fun h => (by have := h.1; simp at this)⟩⟩ (fun i σ H2 _ ⟨_, _, _, _, _, s2, _⟩ => SqT.of (s2 _ _ hA)) ?_ ?_⟩
  ·rintro i v σ H2 hi ⟨v4, v5, xs, qs, rfl, s2, h2, hP, ql, hm⟩
   obtain ⟨o, rfl, ho⟩ := il_get hi
   have hoT := List.mem_of_getElem? ho
   have hi13 := (List.getElem?_eq_some_iff.mp ho).1
   have tk : T'.take (i + 1) = T'.take i ++ [o] := by rw [List.take_succ, ho]; rfl
   have hoi : o ∉ T'.take i := fun h => by
    obtain ⟨j, hj, ej⟩ := List.getElem_of_mem h
    have hji : j < i := by rw [List.length_take] at hj; omega
    rw [List.getElem_take] at ej
    have := List.pairwise_iff_getElem.mp (isSet_iff.mp hT.1).2 j i (by omega) hi13 hji
    rw [ej, (List.getElem?_eq_some_iff.mp ho).2] at this
    omega
   refine nm ?_
   refine ⟨_, rfl, (ps.length : Int), rfl, by omega, by omega, for_range (lo := 0) (n := (ps.length : Int).toNat) (fun j σ H3 => ∃ (v5 : Option V) (xs : List V) (qs : List (Int × Int)), σ = [some (.ref e), some (.ref a), some (.int (ps.length : Int)), some (.ref r), some (.int o), v5] /\ Same H H3 /\ H3 r = some (.lst xs) /\ PairsV H3 xs qs /\ qs.length <= i * 30 + j /\ ∀ p, p ∈ qs ↔ (p.1 ∈ T'.take i /\ exg n ps T' p.1 p.2) \/ (p.1 = o /\ p.2 < (j : Int) /\ exg n ps T' p.1 p.2)) ⟨_, xs, qs, rfl, s2, h2, hP, ql, fun p => by
    rw [hm p]
    refine ⟨.inl, fun h => h.elim id fun h => ?_⟩
    have := ((exg_iff hG hT).mp h.2.2).2.2.1
    have := h.2.1
    omega⟩ ?_ ?_⟩
   ·rintro j σ H3 hj ⟨v5, xs, qs, rfl, s3, h3, hP, ql, hm⟩
    obtain ⟨z, hz⟩ : ∃ z : Int, z = 0 + (j : Int) := ⟨_, rfl⟩
    rw [<- hz]
    have xl : xs.length < sizeLine := small60' (by rw [hP.1]; omega)
    have keep : ¬ exg n ps T' o z -> ∀ H4 : Hp, Same H3 H4 -> ∃ (v5 : Option V) (xs : List V) (qs : List (Int × Int)), [some (V.ref e), some (.ref a), some (.int (ps.length : Int)), some (.ref r), some (.int o), some (.int z)] = [some (.ref e), some (.ref a), some (.int (ps.length : Int)), some (.ref r), some (.int o), v5] /\ Same H H4 /\ H4 r = some (.lst xs) /\ PairsV H4 xs qs /\ qs.length <= i * 30 + (j + 1) /\ ∀ p, p ∈ qs ↔ (p.1 ∈ T'.take i /\ exg n ps T' p.1 p.2) \/ (p.1 = o /\ p.2 < ((j + 1 : Nat) : Int) /\ exg n ps T' p.1 p.2) := fun hn H4 s4 =>
     ⟨_, xs, qs, rfl, s3.trans s4, s4 _ _ h3, hP.same s4, by omega, fun p => by
      rw [hm p]
      refine or_congr Iff.rfl ⟨fun h => ⟨h.1, by omega, h.2.2⟩, fun h => ⟨h.1, ?_, h.2.2⟩⟩
      by_cases e : p.2 = z
      ·exact absurd (by rw [<- e, <- h.1]; exact h.2.2) hn
      ·omega⟩
    refine ⟨_, rfl, _, rfl, a, _, rfl, .inr (SqT.of (s3 _ _ hA)), rfl, flat_ints _, _, rfl, ?_⟩
    rw [inV_ints]
    refine itn2 (fun hin => ?_) (fun hin => ?_)
    ·exact keep (fun h => ((exg_iff hG hT).mp h).2.1 hin) _ (Same.refl _)
    refine ⟨_, rfl, _, rfl, _, rfl, two, fun tp htp => ?_⟩
    have s4 := same_at (o := .tup [.int o, .int z]) htp
    refine ⟨a, tp, T', o, z, rfl, SqT.of ((s3.trans s4) _ _ hA), upd_same, by omega, fun ms hpm hpw r1 H5 s5 hr1 => ?_⟩
    have s35 := s4.trans s5
    have sH5 := s3.trans s35
    refine ⟨_, rfl, in_tups (z := ms) ⟨r1, rfl, hr1⟩ (SqL.of (sH5 _ _ hE)) (hL.same sH5) ⟨_, rfl, ?_⟩⟩
    refine itd2 (fun h1 => ?_) (fun h1 => ?_)
    rotate_left
    ·exact keep (fun h => h1 ((hmem ms).mpr (exg_tree hG hT h hpm hpw))) _ s35
    have hx : exg n ps T' o z := exg_of_tree hG hT hpm ((hmem ms).mp h1) hoT hin (by omega) (by omega)
    have h5 := s35 _ _ h3
    refine ⟨_, rfl, .inl ⟨rfl, _, SqL.of h5⟩, _, rfl, _, rfl, two, fun tq htq => ?_⟩
    have s6 := same_at (o := .tup [.int o, .int z]) htq
    refine ⟨r, xs, _, rfl, rfl, s6 _ _ h5, xl, ?_⟩
    refine ⟨_, xs ++ [.ref tq], qs ++ [(o, z)], rfl, same_upd hr (sH5.trans s6), upd_same, (((hP.same s35).same s6).snoc ⟨tq, rfl, upd_same⟩).mut (s6 _ _ h5), by rw [List.length_append]; show qs.length + 1 <= _; omega, fun p => ?_⟩
    rw [List.mem_append, List.mem_singleton, hm p]
    constructor
    ·rintro ((h | h) | h)
     ·exact .inl h
     ·exact .inr ⟨h.1, by omega, h.2.2⟩
     ·rw [h]
      exact .inr ⟨rfl, by show z < _; omega, hx⟩
    ·rintro (h | h)
     ·exact .inl (.inl h)
     ·by_cases e : p.2 = z
      ·exact .inr (Prod.ext h.1 e)
      ·exact .inl (.inr ⟨h.1, by omega, h.2.2⟩)
   rintro σ H3 ⟨v5, xs, qs, rfl, s3, h3, hP, ql, hm⟩
   refine ⟨_, _, xs, qs, rfl, s3, h3, hP, by omega, fun p => ?_⟩
   rw [hm p, tk, List.mem_append, List.mem_singleton]
   constructor
   ·rintro (h | h)
    ·exact ⟨.inl h.1, h.2⟩
    ·exact ⟨.inr h.1, h.2.2⟩
   ·rintro ⟨h | h, hx⟩
    ·exact .inl ⟨h, hx⟩
    ·exact .inr ⟨h, by have := ((exg_iff hG hT).mp hx).2.2.2.1; omega, hx⟩
  rintro σ H2 ⟨v4, v5, xs, qs, rfl, s2, h2, hP, ql, hm⟩
  rw [il_length] at ql
  refine ⟨_, rfl, q r xs qs H2 s2 hr h2 hP (by omega) fun p => ?_⟩
  rw [hm p, il_length, List.take_length]
  exact ⟨fun h => h.2, fun h => ⟨h.1, h⟩⟩
end
set_option maxHeartbeats 4000000
theorem cut_last (l : List V) (x : V) : cutV (l ++ [x]) none (some (-1)) = l := by
 have e : HT.sIx (l ++ [x]).length (l ++ [x]).length (some (-1)) = l.length := by
  show (if (-1 : Int) < 0 then ((-1 : Int) + ((l ++ [x]).length : Int)).toNat else min (-1 : Int).toNat (l ++ [x]).length) = _
  rw [if_pos (by decide), List.length_append]
  show ((-1 : Int) + ((l.length + 1 : Nat) : Int)).toNat = _
  omega
 unfold cutV
 rw [e, HT.sIx_none, List.drop_zero, Nat.sub_zero, List.take_left']
 rfl
def sp_law_walk (K : PySem.W.Frag) : Sp := fun vs H Q _ => ∃ (e a : Addr) (n : Int) (ps : List (Int × Int)) (ys : List V) (L : List (List Int)) (T : List Int) (c : Int), vs = [.ref e, .ref a, .int (ps.length : Int), .int c] /\ H e = some (.lst ys) /\ TupsV H ys L /\ (∀ l, l ∈ L ↔ IsTree n ps l) /\ H a = some (.tup (IL T)) /\ GoodW n ps /\ IsTree n ps T /\
 ∀ (r : Addr) (xs : List V) (ws : List (Int × Int)) (H' : Hp), Same H H' -> H r = none -> H' r = some (.lst xs) -> PairsV H' xs ws -> ws.length <= 6 -> (∀ p ∈ ws, -(10 ^ 70) < p.1 /\ p.1 < 10 ^ 70 /\ -(10 ^ 70) < p.2 /\ p.2 < 10 ^ 70) -> Q (.ref r) H'
section
variable {P : Program} {w : World} {K : PySem.W.Frag} {mg : Str -> Option Value} {base : Heap} {t : Adr}
theorem sc_law_walk : FnScope ["every", "tree", "count", "cell", "walk", "now", "k", "good", "pair"] ["every", "tree", "count", "cell"] (defScope s_law_walk) := ⟨rfl, rfl, rfl, by decide +kernel, rfl, by decide +kernel, by decide +kernel⟩
theorem ok_law_walk (T : Txt K mg t) : FnOk P w K mg base CX0 3 t.a_law_walk t.d_law_walk ["every", "tree", "count", "cell"] (sp_law_walk K) := by
 refine T.f_law_walk.ok sc_law_walk (fun vs H Q E h => ?_) (fun cdv A outer s H vs Q E hr h => ?_)
 ·obtain ⟨e, a, n, ps, ys, L, T, c, rfl, _⟩ := h
  rfl
 ·obtain ⟨e, a, n, ps, ys, L, T', c, rfl, hE, hL, hmem, hA, hG, hT, q⟩ := h
  refine ⟨_, (pss_cons (ps_set (i := 4) sc_law_walk.nd rfl (Or.inl rfl) (pe_lst pa_nil))
   (pss_cons (ps_set (i := 5) sc_law_walk.nd rfl (Or.inl rfl) (pv 1))
   (pss_cons (ps_for PassesOwn.never rfl (pi_range1 rfl T.n_range (pa_cons (pe_op op_mod (pv 3) pe_int) pa_nil)) (pg_name (i := 6) sc_law_walk.nd rfl (Or.inl rfl))
   (pss_cons (ps_set (i := 3) sc_law_walk.nd rfl (Or.inl rfl) (pe_op op_fdiv (pv 3) pe_int))
   (pss_cons (ps_set (i := 7) sc_law_walk.nd rfl (Or.inl rfl) (pe_op op_cat (pe_call (ok_law_exchanges T) (hr.mono (by decide)) rfl T.m_law_exchanges T.f_law_exchanges.kp T.b_law_exchanges .nil pass0 (pa_cons (pv 0) (pa_cons (pv 5) (pa_cons (pv 2) pa_nil)))) (pe_lst (pa_cons (pe_tup (pa_cons (pe_op op_sub (pe_op op_mod (pe_op op_fdiv (pv 3) pe_int) (pe_op op_add (pv 2) pe_int)) pe_int) (pa_cons (pe_op op_sub (pe_op op_mod (pe_op op_fdiv (pv 3) pe_int) (pe_op op_add (pv 2) pe_int)) pe_int) pa_nil))) pa_nil))))
   (pss_cons (ps_set (i := 8) sc_law_walk.nd rfl (Or.inl rfl) (pe_ix (ix_listK K) (pv 7) (pe_op op_mod (pv 3) (pe_callB (call_lenK K) (by rfl) T.n_len Boot.«len» (pa_cons (pv 7) pa_nil))) (fun _ _ => rfl)))
   (pss_cons (ps_expr (pe_bmK K PySem.F.plainAttrs_list PySem.F.slot_list_append PySem.F.type_list_append mt_append (pv 4) (pa_cons (pv 8) pa_nil)))
   (pss_one (ps_if (PW.pt (pw_and (pt_cmpR op_notN (pv 5) pe_non (nomark _)) (pw_and1 (pt_cmpR (op_inR K (hu8 hr)) (pv 8) (pe_slice (sl_listK K) (pv 7) po_none (po_some (pe_un un_neg pe_int))) rfl))))
   (pss_one (ps_set (i := 5) sc_law_walk.nd rfl (Or.inl rfl) (pe_call (ok_law_instead T) (hr.mono (by decide)) rfl T.m_law_instead T.f_law_instead.kp T.b_law_instead .nil pass0 (pa_cons (pv 5) (pa_cons (pv 8) pa_nil)))))
   pss_nil)))))))
   (pss_one (ps_ret (pv 4)))))), ?_⟩
  have one : 1 <= sizeLine := by decide
  have two : 2 <= sizeLine := by decide
  obtain ⟨g1, g2, g3, g4⟩ := id hG
  have c0 : 0 <= c % 7 := Int.emod_nonneg _ (by decide)
  have c1 : c % 7 < 7 := Int.emod_lt_of_pos _ (by decide)
  refine ⟨Nat.zero_le _, fun wA hwA => ?_⟩
  have s0 := same_at (o := .lst []) hwA
  refine ⟨_, rfl, ?_⟩
  refine ⟨_, rfl, _, _, rfl, rfl, (by show (0 : Int) < 7; decide), c % 7, rfl, by omega, by omega, for_range (lo := 0) (n := (c % 7).toNat) (fun i σ H2 => ∃ (c2 : Int) (nA : Addr) (U : List Int) (v6 v7 v8 : Option V) (xs : List V) (ws : List (Int × Int)), σ = [some (.ref e), some (.ref a), some (.int (ps.length : Int)), some (.int c2), some (.ref wA), some (.ref nA), v6, v7, v8] /\ Same H H2 /\ H2 wA = some (.lst xs) /\ PairsV H2 xs ws /\ ws.length = i /\ (∀ p ∈ ws, -(10 ^ 70) < p.1 /\ p.1 < 10 ^ 70 /\ -(10 ^ 70) < p.2 /\ p.2 < 10 ^ 70) /\ H2 nA = some (.tup (IL U)) /\ IsTree n ps U) ⟨c, a, T', none, none, none, [], [], rfl, s0, upd_same, PairsV.nil, rfl, fun p h => (by cases h), s0 _ _ hA, hT⟩ ?_ ?_⟩
  ·rintro i σ H2 hi ⟨c2, nA, U, v6, v7, v8, xs, ws, rfl, s2, h2, hP, wl, hbd, hnA, hU⟩
   have ul : U.length <= 13 := by have := hU.2.1; omega
   have xl : xs.length < sizeLine := small60' (by rw [hP.1]; omega)
   refine ⟨_, rfl, _, _, rfl, rfl, ⟨by decide, by decide⟩, ?_⟩
   refine ⟨_, rfl, _, rfl, _, rfl, e, nA, n, ps, ys, L, U, rfl, s2 _ _ hE, hL.same s2, hmem, hnA, hG, hU, fun r1 xs1 qs H3 s3 hr10 hr1 hP1 ql hm => ?_⟩
   have CN : (0 : Int) < (ps.length : Int) + 2 := by omega
   have md : ∀ z : Int, 0 <= z % ((ps.length : Int) + 2) /\ z % ((ps.length : Int) + 2) < (ps.length : Int) + 2 := fun z => ⟨Int.emod_nonneg _ (by omega), Int.emod_lt_of_pos _ CN⟩
   obtain ⟨u, hu⟩ : ∃ u : Int, u = c2 / 11 / 3 % ((ps.length : Int) + 2) - 1 := ⟨_, rfl⟩
   obtain ⟨v, hv⟩ : ∃ v : Int, v = c2 / 11 / 40 % ((ps.length : Int) + 2) - 1 := ⟨_, rfl⟩
   refine ⟨_, rfl, _, _, rfl, rfl, ⟨by decide, by decide⟩, _, rfl, _, _, rfl, rfl, _, _, rfl, rfl, CN, _, _, rfl, rfl, ?_⟩
   refine ⟨_, rfl, _, _, rfl, rfl, ⟨by decide, by decide⟩, _, rfl, _, _, rfl, rfl, _, _, rfl, rfl, CN, _, _, rfl, rfl, two, fun tp htp => ⟨one, fun p5 hp5 => ?_⟩⟩
   have s4a : Same H3 (upd H3 tp (.tup [.int (c2 / 11 / 3 % ((ps.length : Int) + 2) - 1), .int (c2 / 11 / 40 % ((ps.length : Int) + 2) - 1)])) := same_at htp
   have s5 := same_at (o := .lst [.ref tp]) hp5
   have htp5 := s5 _ _ (upd_same (H := H3) (a := tp) (o := .tup [.int (c2 / 11 / 3 % ((ps.length : Int) + 2) - 1), .int (c2 / 11 / 40 % ((ps.length : Int) + 2) - 1)]))
   refine ⟨r1, p5, _, _, rfl, rfl, (s4a.trans s5) _ _ hr1, upd_same, small60 (by rw [hP1.1]; show _ + 1 <= _; omega), fun gA hgA => ?_⟩
   have s6 := same_at (o := .lst (xs1 ++ [.ref tp])) hgA
   have s36 := s4a.trans (s5.trans s6)
   have hg6 := upd_same (H := upd (upd H3 tp (.tup [.int (c2 / 11 / 3 % ((ps.length : Int) + 2) - 1), .int (c2 / 11 / 40 % ((ps.length : Int) + 2) - 1)])) p5 (.lst [.ref tp])) (a := gA) (o := .lst (xs1 ++ [.ref tp]))
   have hP6 : PairsV (upd (upd (upd H3 tp (.tup [.int (c2 / 11 / 3 % ((ps.length : Int) + 2) - 1), .int (c2 / 11 / 40 % ((ps.length : Int) + 2) - 1)])) p5 (.lst [.ref tp])) gA (.lst (xs1 ++ [.ref tp]))) (xs1 ++ [.ref tp]) (qs ++ [(u, v)]) := (hP1.same s36).snoc ⟨tp, rfl, by rw [hu, hv]; exact s6 _ _ htp5⟩
   have hPq := hP1.same s36
   have gl : (xs1 ++ [V.ref tp]).length = qs.length + 1 := by rw [List.length_append, hP1.1]; rfl
   have GL : (0 : Int) < ((xs1 ++ [V.ref tp]).length : Int) := by omega
   obtain ⟨d, hd⟩ : ∃ d : Int, d = c2 / 11 % ((xs1 ++ [V.ref tp]).length : Int) := ⟨_, rfl⟩
   have d0 : 0 <= d := by rw [hd]; exact Int.emod_nonneg _ (by omega)
   have d1 : d < ((xs1 ++ [V.ref tp]).length : Int) := by rw [hd]; exact Int.emod_lt_of_pos _ GL
   obtain ⟨p, hp⟩ : ∃ p, (qs ++ [(u, v)])[d.toNat]? = some p := ⟨_, List.getElem?_eq_getElem (by rw [List.length_append]; show d.toNat < qs.length + 1; omega)⟩
   obtain ⟨vv, hvv, tt, rfl, htt⟩ := hP6.2 _ p hp
   have pb : -(10 ^ 70) < p.1 /\ p.1 < 10 ^ 70 /\ -(10 ^ 70) < p.2 /\ p.2 < 10 ^ 70 := by
    rcases List.mem_append.mp (List.mem_of_getElem? hp) with h | h
    ·have hx := (hm p).mp h
     have h1 := hU.1.all p.1 hx.1
     have h2 := (exg_iff hG hU).mp hx
     omega
    ·rw [List.mem_singleton.mp h]
     have h1 := md (c2 / 11 / 3)
     have h2 := md (c2 / 11 / 40)
     show -(10 ^ 70) < u /\ u < 10 ^ 70 /\ -(10 ^ 70) < v /\ v < 10 ^ 70
     omega
   refine ⟨_, rfl, _, rfl, _, rfl, gA, _, rfl, .inl (SqL.of hg6), _, _, rfl, rfl, GL, gA, _, _, .ref tt, rfl, rfl, SqL.of hg6, (by rw [<- hd]; exact atI_of (n := d.toNat) (by omega) hvv), ?_⟩
   have h6 := (s3.trans s36) _ _ h2
   have nwg : gA ≠ wA := fun ee => by
    have := s5.free hgA
    have := s4a.free this
    have h3 := s3 _ _ h2
    rw [ee, h3] at this
    cases this
   have nnw : nA ≠ wA := ne_of hnA h2 (fun z => nomatch z)
   have ntw : tt ≠ wA := ne_of htt h6 (fun z => nomatch z)
   have sb : Same H2 _ := s3.trans s36
   generalize upd (upd (upd H3 tp (.tup [.int (c2 / 11 / 3 % ((ps.length : Int) + 2) - 1), .int (c2 / 11 / 40 % ((ps.length : Int) + 2) - 1)])) p5 (.lst [.ref tp])) gA (.lst (xs1 ++ [.ref tp])) = H6 at *
   refine ⟨_, rfl, .inl ⟨rfl, _, SqL.of h6⟩, _, rfl, wA, xs, _, rfl, rfl, h6, xl, ?_⟩
   have hwA0 : H wA = none := hwA
   have s7 : Same H (upd H6 wA (.lst (xs ++ [.ref tt]))) := same_upd hwA0 (s2.trans sb)
   have hP7 := ((hP.same sb).snoc (p := p) ⟨tt, rfl, htt⟩).mut (zs := xs ++ [.ref tt]) h6
   have h7 : (upd H6 wA (.lst (xs ++ [.ref tt]))) wA = some (.lst (xs ++ [.ref tt])) := upd_same
   have hg7 : (upd H6 wA (.lst (xs ++ [.ref tt]))) gA = some (.lst (xs1 ++ [.ref tp])) := by rw [upd_ne nwg]; exact hg6
   have hn7 : (upd H6 wA (.lst (xs ++ [.ref tt]))) nA = some (.tup (IL U)) := by rw [upd_ne nnw]; exact sb _ _ hnA
   have ht7 : (upd H6 wA (.lst (xs ++ [.ref tt]))) tt = some (.tup [.int p.1, .int p.2]) := by rw [upd_ne ntw]; exact htt
   have hPq7 := hPq.mut (zs := xs ++ [.ref tt]) h6
   generalize upd H6 wA (.lst (xs ++ [.ref tt])) = H7 at *
   have wl7 : (ws ++ [p]).length = i + 1 := by rw [List.length_append, wl]; rfl
   have bd7 : ∀ p' ∈ ws ++ [p], -(10 ^ 70) < p'.1 /\ p'.1 < 10 ^ 70 /\ -(10 ^ 70) < p'.2 /\ p'.2 < 10 ^ 70 := fun p' hp' => by
    rcases List.mem_append.mp hp' with h | h
    ·exact hbd p' h
    ·rw [List.mem_singleton.mp h]; exact pb
   refine ⟨_, rfl, rfl, _, rfl, ?_⟩
   refine itnn (fun z => nomatch z) ?_
   refine ⟨_, rfl, _, rfl, _, rfl, _, rfl, gA, _, rfl, SqL.of hg7, fun g2A hg2 => ?_⟩
   rw [cut_last]
   have s8 := same_at (o := .lst xs1) hg2
   refine in_pairs (z := p) ⟨tt, rfl, s8 _ _ ht7⟩ (SqL.of upd_same) (hPq7.same s8) ⟨_, rfl, ?_⟩
   refine itd2 (fun hin => ?_) (fun hin => ?_)
   ·have hx := (hm p).mp hin
    refine ⟨_, rfl, _, rfl, nA, tt, U, p.1, p.2, rfl, SqT.of (s8 _ _ hn7), s8 _ _ ht7, by omega, fun ms hpm hpw r2 H8 s9 hr2 => ?_⟩
    have s89 := s8.trans s9
    exact ⟨_, r2, ms, _, _, _, xs ++ [.ref tt], ws ++ [p], rfl, s7.trans s89, s89 _ _ h7, hP7.same s89, wl7, bd7, hr2, exg_tree hG hU hx hpm hpw⟩
   ·exact ⟨_, nA, U, _, _, _, xs ++ [.ref tt], ws ++ [p], rfl, s7.trans s8, s8 _ _ h7, hP7.same s8, wl7, bd7, s8 _ _ hn7, hU⟩
  rintro σ H2 ⟨c2, nA, U, v6, v7, v8, xs, ws, rfl, s2, h2, hP, wl, hbd, hnA, hU⟩
  exact ⟨_, rfl, q wA xs ws H2 s2 hwA h2 hP (by omega) hbd⟩
end
set_option maxHeartbeats 4000000
theorem notIn_pairs {K : PySem.W.Frag} {H : Hp} {x : V} {p : Addr} {xs : List V} {ps : List (Int × Int)} {z : Int × Int} {Q : VK} (hx : PairV H x z) (hp : SqL K H p xs) (hP : PairsV H xs ps) (q : Q (.bl (!decide (z ∈ ps))) H) : rNotInR K x (.ref p) H Q := by
 obtain ⟨n, p', xs', e, h1, h2, h3, h4, h5⟩ := in_pairs (K := K) (Q := fun v _ => v = .bl (decide (z ∈ ps))) hx hp hP rfl
 refine ⟨n, p', xs', e, h1, h2, h3, h4, ?_⟩
 injection h5 with h5
 rw [h5]
 exact q
def sp_law_due (K : PySem.W.Frag) : Sp := fun vs H Q _ => ∃ (e a b : Addr) (n : Int) (ps : List (Int × Int)) (ys : List V) (L : List (List Int)) (T : List Int) (xs : List V) (ws : List (Int × Int)), vs = [.ref e, .ref a, .int (ps.length : Int), .ref b] /\ H e = some (.lst ys) /\ TupsV H ys L /\ (∀ l, l ∈ L ↔ IsTree n ps l) /\ H a = some (.tup (IL T)) /\ SqL K H b xs /\ PairsV H xs ws /\ GoodW n ps /\ IsTree n ps T /\
 (∀ U, Wk n ps T ws U -> ∀ (r : Addr) (H' : Hp), Same H H' -> H' r = some (.tup (IL U)) -> Q (.ref r) H') /\ (Brk n ps T ws -> ∀ H' : Hp, Same H H' -> Q .non H')
section
variable {P : Program} {w : World} {K : PySem.W.Frag} {mg : Str -> Option Value} {base : Heap} {t : Adr}
theorem sc_law_due : FnScope ["every", "tree", "count", "walk", "pair"] ["every", "tree", "count", "walk"] (defScope s_law_due) := ⟨rfl, rfl, rfl, by decide +kernel, rfl, by decide +kernel, by decide +kernel⟩
theorem ok_law_due (T : Txt K mg t) : FnOk P w K mg base CX0 3 t.a_law_due t.d_law_due ["every", "tree", "count", "walk"] (sp_law_due K) := by
 refine T.f_law_due.ok sc_law_due (fun vs H Q E h => ?_) (fun cdv A outer s H vs Q E hr h => ?_)
 ·obtain ⟨e, a, b, n, ps, ys, L, T, xs, ws, rfl, _⟩ := h
  rfl
 ·obtain ⟨e, a, b, n, ps, ys, L, T', xs, ws, rfl, hE, hL, hmem, hA, hB, hP, hG, hT, q, q1⟩ := h
  refine ⟨_, (pss_cons (ps_for PassesOwn.never rfl (pi_listK K (pv 3)) (pg_name (i := 4) sc_law_due.nd rfl (Or.inl rfl))
   (pss_cons (ps_if (pt_cmpR (op_notInR K (hu8 hr)) (pv 4) (pe_call (ok_law_exchanges T) (hr.mono (by decide)) rfl T.m_law_exchanges T.f_law_exchanges.kp T.b_law_exchanges .nil pass0 (pa_cons (pv 0) (pa_cons (pv 1) (pa_cons (pv 2) pa_nil)))) rfl)
   (pss_one (ps_ret pe_non))
   pss_nil)
   (pss_one (ps_set (i := 1) sc_law_due.nd rfl (Or.inl rfl) (pe_call (ok_law_instead T) (hr.mono (by decide)) rfl T.m_law_instead T.f_law_instead.kp T.b_law_instead .nil pass0 (pa_cons (pv 1) (pa_cons (pv 4) pa_nil)))))))
   (pss_one (ps_ret (pv 1)))), ?_⟩
  have g2 := hG.2.1
  have hlx := hP.1
  refine ⟨_, rfl, b, rfl, ⟨_, hB⟩, for_list (K := K) (a := b) (xs := xs) (fun i σ H2 => ∃ (tA : Addr) (U : List Int) (v4 : Option V), σ = [some (.ref e), some (.ref tA), some (.int (ps.length : Int)), some (.ref b), v4] /\ Same H H2 /\ H2 tA = some (.tup (IL U)) /\ Wk n ps T' (ws.take i) U) ⟨a, T', none, rfl, Same.refl _, hA, Wk.nil⟩ (fun i σ H2 _ ⟨_, _, _, _, s2, _⟩ => s2.seq hB) ?_ ?_⟩
  ·rintro i x σ H2 hi ⟨tA, U, v4, rfl, s2, htA, hWk⟩
   obtain ⟨p, hp, tt, rfl, htt⟩ := hP.at hi
   have hU := hWk.tree hG hT
   have ul : U.length <= 13 := by have := hU.2.1; omega
   refine nm ?_
   refine ⟨_, rfl, _, rfl, _, rfl, _, rfl, e, tA, n, ps, ys, L, U, rfl, s2 _ _ hE, hL.same s2, hmem, htA, hG, hU, fun r1 xs1 qs H3 s3 hr10 hr1 hP1 ql hm => ?_⟩
   have s23 := s2.trans s3
   refine notIn_pairs (z := p) ⟨tt, rfl, s23 _ _ htt⟩ (SqL.of hr1) hP1 ⟨_, rfl, ?_⟩
   refine itn2 (fun hin => ?_) (fun hin => ?_)
   ·have hx := (hm p).mp hin
    refine ⟨_, rfl, _, rfl, tA, tt, U, p.1, p.2, rfl, SqT.of (s3 _ _ htA), s23 _ _ htt, by omega, fun ms hpm hpw r2 H4 s4 hr2 => ?_⟩
    refine ⟨r2, ms, _, rfl, s23.trans s4, hr2, ?_⟩
    rw [List.take_succ, hp]
    exact .step hWk hx hpm hpw
   ·exact q1 ⟨i, p.1, p.2, U, hp, hWk, fun hx => hin ((hm p).mpr hx)⟩ H3 s23
  rintro σ H2 ⟨tA, U, v4, rfl, s2, htA, hWk⟩
  rw [hlx, List.take_length] at hWk
  exact ⟨_, rfl, q U hWk tA H2 s2 htA⟩
end
set_option maxHeartbeats 4000000
def sp_law_bent (K : PySem.W.Frag) : Sp := fun vs H Q _ => ∃ (a : Addr) (T : List Int) (m c : Int), vs = [.ref a, .int m, .int c] /\ H a = some (.tup (IL T)) /\ T.length <= 100 /\ 0 <= m /\ ∀ (r : Addr) (ms : List Int) (H' : Hp), Same H H' -> H' r = some (.tup (IL ms)) -> Q (.ref r) H'
section
variable {P : Program} {w : World} {K : PySem.W.Frag} {mg : Str -> Option Value} {base : Heap} {t : Adr}
theorem sc_law_bent : FnScope ["tree", "count", "cell", "rows"] ["tree", "count", "cell"] (defScope s_law_bent) := ⟨rfl, rfl, rfl, by decide +kernel, rfl, by decide +kernel, by decide +kernel⟩
theorem ok_law_bent (T : Txt K mg t) : FnOk P w K mg base CX0 1 t.a_law_bent t.d_law_bent ["tree", "count", "cell"] (sp_law_bent K) := by
 refine T.f_law_bent.ok sc_law_bent (fun vs H Q E h => ?_) (fun cdv A outer s H vs Q E hr h => ?_)
 ·obtain ⟨a, T, m, c, rfl, _⟩ := h
  rfl
 ·obtain ⟨a, T', m, c, rfl, hA, hl, m0, q⟩ := h
  refine ⟨_, (pss_cons (ps_set (i := 3) sc_law_bent.nd rfl (Or.inl rfl) (pe_lst (pa_cons (pe_slice (sl_tupQ K) (pv 0) (po_some pe_int) po_none) (pa_cons (pe_op (op_catQ K) (pv 0) (pe_tup (pa_cons (pv 1) pa_nil))) (pa_cons (pe_op (op_catQ K) (pv 0) (pe_slice (sl_tupQ K) (pv 0) (po_some (pe_un un_neg pe_int)) po_none)) (pa_cons (pe_op (op_catQ K) (pe_slice (sl_tupQ K) (pv 0) po_none (po_some (pe_un un_neg pe_int))) (pe_tup (pa_cons (pe_un un_neg pe_int) pa_nil))) (pa_cons (pe_tupRvT K rfl rfl T.n_tuple rfl T.n_reversed (pa_cons (pv 0) pa_nil)) (pa_cons (pe_op (op_catQ K) (pe_tup (pa_cons pe_int pa_nil)) (pv 0)) pa_nil))))))))
   (pss_cons (ps_set (i := 3) sc_law_bent.nd rfl (Or.inl rfl) (pe_op op_cat (pv 3) (pe_lst (pa_cons (pe_op (op_catQ K) (pe_slice (sl_tupQ K) (pv 0) po_none (po_some (pe_un un_neg pe_int))) (pe_tup (pa_cons (pe_op op_mod (pe_op op_fdiv (pv 2) pe_int) (pe_op op_add (pv 1) pe_int)) pa_nil))) pa_nil))))
   (pss_one (ps_ret (pe_ix (ix_listK K) (pv 3) (pe_op op_mod (pv 2) (pe_callB (call_lenK K) (by rfl) T.n_len Boot.«len» (pa_cons (pv 3) pa_nil))) (fun _ _ => rfl)))))), ?_⟩
  have one : 1 <= sizeLine := by decide
  have cl : ∀ lo hi, (cutV (IL T') lo hi).length <= 100 := fun lo hi => Nat.le_trans (cutV_length _ lo hi) (by rw [il_length]; exact hl)
  have il : (IL T').length <= 100 := by rw [il_length]; exact hl
  refine ⟨_, rfl, _, rfl, a, _, rfl, hA, fun r1 H1 s1 h1 => ?_⟩
  have a1 := s1 _ _ hA
  refine ⟨_, rfl, _, rfl, one, fun p2 hp2 => ?_⟩
  have u2 := same_at (o := .tup [.int m]) hp2
  refine ⟨a, p2, _, _, rfl, rfl, u2 _ _ a1, upd_same, small60 (by show _ + 1 <= _; omega), fun r2 H2 s2 h2 => ?_⟩
  have t2 := u2.trans s2
  have a2 := t2 _ _ a1
  have b1 := t2 _ _ h1
  refine ⟨_, rfl, _, rfl, _, rfl, _, rfl, a, _, rfl, a2, fun r3 H3 s3 h3 => ?_⟩
  refine ⟨a, r3, _, _, rfl, rfl, s3 _ _ a2, h3, small60 (by have := cl (some (-1)) none; omega), fun r4 H4 s4 h4 => ?_⟩
  have t4 := s3.trans s4
  have a4 := t4 _ _ a2
  refine ⟨_, rfl, _, rfl, _, rfl, a, _, rfl, a4, fun r5 H5 s5 h5 => ?_⟩
  refine ⟨_, rfl, one, fun p6 hp6 => ?_⟩
  have u6 := same_at (o := .tup [.int (-1)]) hp6
  refine ⟨r5, p6, _, _, rfl, rfl, u6 _ _ h5, upd_same, small60 (by have := cl none (some (-1)); show _ + 1 <= _; omega), fun r6 H6 s6 h6 => ?_⟩
  have t6 := s5.trans (u6.trans s6)
  have a6 := t6 _ _ a4
  refine ⟨_, rfl, a, _, rfl, SqT.of a6, fun r7 hr7 => ?_⟩
  have u7 := same_at (o := .tup (IL T').reverse) hr7
  have a7 := u7 _ _ a6
  refine ⟨one, fun p8 hp8 => ?_⟩
  have u8 := same_at (o := .tup [.int 0]) hp8
  refine ⟨_, rfl, p8, a, _, _, rfl, rfl, upd_same, u8 _ _ a7, small60 (by show 1 + _ <= _; omega), fun r8 H8 s8 h8 => ?_⟩
  have t8 := u8.trans s8
  refine ⟨(by show 6 <= sizeLine; decide), fun ol hol => ?_⟩
  have u9 := same_at (o := .lst [.ref r1, .ref r2, .ref r4, .ref r6, .ref r7, .ref r8]) hol
  have v8 : Same H2 H8 := (t4.trans t6).trans (u7.trans t8)
  have a9 := u9 _ _ (t8 _ _ a7)
  refine ⟨_, rfl, _, rfl, _, rfl, _, rfl, a, _, rfl, a9, fun rA HA sA hA' => ?_⟩
  refine ⟨_, rfl, _, _, rfl, rfl, ⟨by decide, by decide⟩, _, rfl, _, _, rfl, rfl, _, _, rfl, rfl, (by show 0 < m + 1; omega), one, fun pB hpB => ?_⟩
  have uB := same_at (o := .tup [.int (c / 7 % (m + 1))]) hpB
  refine ⟨rA, pB, _, _, rfl, rfl, uB _ _ hA', upd_same, small60 (by have := cl none (some (-1)); show _ + 1 <= _; omega), fun rC HC sC hC => ?_⟩
  have tC := u9.trans (sA.trans (uB.trans sC))
  refine ⟨one, fun qD hqD => ?_⟩
  have uD := same_at (o := .lst [.ref rC]) hqD
  have hol' := uD _ _ ((sA.trans (uB.trans sC)) _ _ (upd_same (H := H8) (a := ol) (o := .lst [.ref r1, .ref r2, .ref r4, .ref r6, .ref r7, .ref r8])))
  refine ⟨ol, qD, _, _, rfl, rfl, hol', upd_same, small60 (by show 6 + 1 <= _; decide), fun rw hrw => ?_⟩
  have uE := same_at (o := .lst [.ref r1, .ref r2, .ref r4, .ref r6, .ref r7, .ref r8, .ref rC]) hrw
  have tE := tC.trans (uD.trans uE)
  have f1 := tE _ _ (v8 _ _ b1)
  have f2 := tE _ _ (v8 _ _ h2)
  have f4 := tE _ _ ((t6.trans (u7.trans t8)) _ _ h4)
  have f6 := tE _ _ ((u7.trans t8) _ _ h6)
  have f7 := tE _ _ (t8 _ _ (upd_same (H := H6) (a := r7) (o := .tup (IL T').reverse)))
  have f8 := tE _ _ h8
  have fC := (uD.trans uE) _ _ hC
  have sF : Same H _ := s1.trans (t2.trans (v8.trans tE))
  obtain ⟨rr, ms, hidx, hrr⟩ : ∃ (rr : Addr) (ms : List Int), atI ([.ref r1, .ref r2, .ref r4, .ref r6, .ref r7, .ref r8, .ref rC] : List V) (c % 7) = some (.ref rr) /\ (upd (upd HC qD (.lst [.ref rC])) rw (.lst [.ref r1, .ref r2, .ref r4, .ref r6, .ref r7, .ref r8, .ref rC])) rr = some (.tup (IL ms)) := by
   rw [cutI_eq] at f1 f4 f6 fC
   rcases (by omega : c % 7 = 0 \/ c % 7 = 1 \/ c % 7 = 2 \/ c % 7 = 3 \/ c % 7 = 4 \/ c % 7 = 5 \/ c % 7 = 6) with e | e | e | e | e | e | e <;> rw [e]
   ·exact ⟨r1, _, rfl, f1⟩
   ·exact ⟨r2, T' ++ [m], rfl, by rw [f2, il_snoc]⟩
   ·exact ⟨r4, T' ++ cutI T' (some (-1)) none, rfl, by rw [f4]; exact congrArg (fun l => some (HO.tup l)) (List.map_append ..).symm⟩
   ·exact ⟨r6, cutI T' none (some (-1)) ++ [-1], rfl, by rw [f6, il_snoc]⟩
   ·exact ⟨r7, T'.reverse, rfl, by rw [f7]; exact congrArg (fun l => some (HO.tup l)) (List.map_reverse ..).symm⟩
   ·exact ⟨r8, 0 :: T', rfl, f8⟩
   ·exact ⟨rC, cutI T' none (some (-1)) ++ [c / 7 % (m + 1)], rfl, by rw [fC, il_snoc]⟩
  refine ⟨_, rfl, _, rfl, _, rfl, rw, _, rfl, .inl (SqL.of upd_same), _, _, rfl, rfl, (by show (0 : Int) < 7; decide), rw, _, _, .ref rr, rfl, rfl, SqL.of upd_same, hidx, ?_⟩
  exact q rr ms _ sF hrr
end
set_option maxHeartbeats 4000000
def sp_law_told (K : PySem.W.Frag) (C : Addr) : Sp := fun vs H Q _ => ∃ (w a b : Addr) (n : Int) (ps : List (Int × Int)) (ke : Bool) (T : List Int) (xs : List V) (ws : List (Int × Int)), vs = [.ref w, .ref a, .ref b] /\ WebAt C H w n ps /\ GoodW n ps /\ (H a = some (.tup (IL T)) \/ SqL K H a (IL T)) /\ SqK ke K H b xs /\ PairsV H xs ws /\ (∀ p ∈ ws, -(10 ^ 70) < p.1 /\ p.1 < 10 ^ 70 /\ -(10 ^ 70) < p.2 /\ p.2 < 10 ^ 70) /\
 (IsTree n ps T -> ∀ U, Wk n ps T ws U -> ∀ (r f kl : Addr) (H' : Hp), Same H H' -> H' r = some (.tup [.ref f, .ref kl]) -> H' f = some (.tup (IL U)) -> H' kl = some (.lst ([].map V.bl)) -> Q (.ref r) H') /\
 (IsTree n ps T -> Brk n ps T ws -> ∀ (r kl : Addr) (H' : Hp), Same H H' -> H' r = some (.tup [.non, .ref kl]) -> H' kl = some (.lst ([false, true, true].map V.bl)) -> Q (.ref r) H') /\
 (¬ IsTree n ps T -> ∀ (r kl : Addr) (H' : Hp), Same H H' -> H' r = some (.tup [.non, .ref kl]) -> H' kl = some (.lst ([true, false, true].map V.bl)) -> Q (.ref r) H')
section
variable {P : Program} {w : World} {K : PySem.W.Frag} {mg : Str -> Option Value} {base : Heap} {t : Adr}
theorem sc_law_told : FnScope ["web", "tree", "walk", "found", "kinds", "e"] ["web", "tree", "walk"] (defScope s_law_told) := ⟨rfl, rfl, rfl, by decide +kernel, rfl, by decide +kernel, by decide +kernel⟩
theorem ok_law_told (T : Txt K mg t) : FnOk P w K mg base CX0 10 t.a_law_told t.d_law_told ["web", "tree", "walk"] (sp_law_told K t.A_Web) := by
 refine T.f_law_told.ok sc_law_told (fun vs H Q E h => ?_) (fun cdv A outer s H vs Q E hr h => ?_)
 ·obtain ⟨w, a, b, n, ps, ke, T, xs, ws, rfl, _⟩ := h
  rfl
 ·obtain ⟨w, a, b, n, ps, ke, T', xs, ws, rfl, hW, hG, hA, hB, hP, hbd, q, q1, q2⟩ := h
  refine ⟨_, (pss_cons (ps_set (i := 3) sc_law_told.nd rfl (Or.inl rfl) pe_non)
   (pss_cons (ps_set (i := 4) sc_law_told.nd rfl (Or.inl rfl) (pe_lst pa_nil))
   (pss_cons (ps_try (i := 5) rfl rfl rfl sc_law_told.nd rfl rfl T.c_WebError rfl (fun R _ => (pss_one (ps_set (i := 3) sc_law_told.nd rfl (Or.inl rfl) (pe_callX (ok_walked T) (hr.mono (by decide)) rfl T.m_walked T.f_walked.kp T.b_walked .nil pxT (pa_cons (pv 0) (pa_cons (pv 1) (pa_cons (pv 2) pa_nil))))))) (fun e C oe _ hoe => (pss_one (ps_set (i := 4) sc_law_told.nd rfl (Or.inl rfl) (pe_lst (pa_cons (pe_callB (call_isiX K (List.mem_append_right _ (List.mem_singleton.mpr rfl)) hoe) (by rfl) T.n_isinstance Boot.«isinstance» (pa_cons (pv 5) (pa_cons (pe_glob (v := V.ref t.A_NoTree) rfl T.c_NoTree rfl) pa_nil))) (pa_cons (pe_callB (call_isiX K (List.mem_append_right _ (List.mem_singleton.mpr rfl)) hoe) (by rfl) T.n_isinstance Boot.«isinstance» (pa_cons (pv 5) (pa_cons (pe_glob (v := V.ref t.A_NoTie) rfl T.c_NoTie rfl) pa_nil))) (pa_cons (pe_callB (call_isiX K (List.mem_append_right _ (List.mem_singleton.mpr rfl)) hoe) (by rfl) T.n_isinstance Boot.«isinstance» (pa_cons (pv 5) (pa_cons (pe_bltn (v := V.ty "ValueError") rfl T.n_ValueError Boot.«ValueError» rfl) pa_nil))) pa_nil))))))))
   (pss_one (ps_ret (pe_tup (pa_cons (pv 3) (pa_cons (pv 4) pa_nil)))))))), ?_⟩
  have two : 2 <= sizeLine := by decide
  have three : 3 <= sizeLine := by decide
  refine ⟨Nat.zero_le _, fun kl hkl => ?_⟩
  have s0 := same_at (o := .lst []) hkl
  have hA0 : (upd H kl (.lst [])) a = some (.tup (IL T')) \/ SqL K (upd H kl (.lst [])) a (IL T') := hA.elim (fun h => .inl (s0 _ _ h)) fun h => .inr (s0.seq h)
  refine ⟨_, rfl, _, rfl, _, rfl, w, a, b, n, ps, ke, T', xs, ws, rfl, hW.same s0, hG, hA0, hB.same s0, hP.same s0, hbd, fun hT U hWk f H1 s1 hf => ?_, fun hT hbr H1 s1 => ⟨_, rfl, T.em_NoTie, fun e he => ?_⟩, fun hno H1 s1 => ⟨_, rfl, T.em_NoTree, fun e he => ?_⟩⟩
  ·refine ⟨_, rfl, _, rfl, two, fun r hr => ?_⟩
   have s4 := same_at (o := .tup [.ref f, .ref kl]) hr
   exact q hT U hWk r f kl _ ((s0.trans s1).trans s4) upd_same (s4 _ _ hf) (s4 _ _ (s1 _ _ upd_same))
  ·refine ⟨_, rfl, _, _, _, rfl, fun z h => h, T.x_NoTie, T.ki_NoTie_NoTree, _, rfl, _, _, _, rfl, fun z h => h, T.x_NoTie, kit_same, _, rfl, _, _, _, rfl, fun z h => h, T.x_NoTie, T.ki_NoTie_ValueError, three, fun kk hkk => ?_⟩
   have s5 := same_new (o := .lst ([false, true, true].map V.bl)) (s0.trans s1) hkk
   refine ⟨_, rfl, _, rfl, two, fun r hr => ?_⟩
   have s6 := same_at (o := .tup [.non, .ref kk]) hr
   exact q1 hT hbr r kk _ (s5.trans s6) upd_same (s6 _ _ upd_same)
  ·refine ⟨_, rfl, _, _, _, rfl, fun z h => h, T.x_NoTree, kit_same, _, rfl, _, _, _, rfl, fun z h => h, T.x_NoTree, T.ki_NoTree_NoTie, _, rfl, _, _, _, rfl, fun z h => h, T.x_NoTree, T.ki_NoTree_ValueError, three, fun kk hkk => ?_⟩
   have s5 := same_new (o := .lst ([true, false, true].map V.bl)) (s0.trans s1) hkk
   refine ⟨_, rfl, _, rfl, two, fun r hr => ?_⟩
   have s6 := same_at (o := .tup [.non, .ref kk]) hr
   exact q2 hno r kk _ (s5.trans s6) upd_same (s6 _ _ upd_same)
end
set_option maxHeartbeats 4000000
def sp_law (K : PySem.W.Frag) : Sp := fun vs H Q _ => ∃ (a : Addr) (ns : List Int), vs = [.ref a] /\ SqL K H a (IL ns) /\ ns.length <= 63 /\ ∀ H', Q (.bl true) H'
theorem cut_more (ns : List Int) (k : Nat) (ms : List Int) : cutV (IL ns) none (some (k : Int)) ++ IL ms = IL (ns.take k ++ ms) := by
 rw [cut_upto (by omega)]
 show (ns.map V.int).take (k : Int).toNat ++ ms.map V.int = (ns.take k ++ ms).map V.int
 rw [List.map_append, List.map_take, show (k : Int).toNat = k by omega]
def NkV (H : Hp) (x : V) (b : List Bool) : Prop := ∃ t k, x = .ref t /\ H t = some (.tup [.non, .ref k]) /\ H k = some (.lst (b.map V.bl))
theorem NkV.same {H H' : Hp} {x : V} {b : List Bool} (s : Same H H') (h : NkV H x b) : NkV H' x b := let ⟨t, k, e, h1, h2⟩ := h; ⟨t, k, e, s _ _ h1, s _ _ h2⟩
theorem eqd_nk {K : PySem.W.Frag} {H : Hp} {x y : V} {a b : List Bool} (hx : NkV H x a) (hy : NkV H y b) : EqD K H 2 x y (decide (a = b)) := by
 obtain ⟨t, k, rfl, h1, h2⟩ := hx
 obtain ⟨u, m, rfl, h3, h4⟩ := hy
 have key := EqD.tups (K := K) (n := 1) (e := fun i => if i = 0 then true else decide (a = b)) (SqT.of h1) (SqT.of h3) fun i x y ex ey => by
  match i, ex, ey with
  | 0, ex, ey =>
   obtain rfl : V.non = x := Option.some.inj ex
   obtain rfl : V.non = y := Option.some.inj ey
   exact EqD.flat rfl rfl
  | 1, ex, ey =>
   obtain rfl : V.ref k = x := Option.some.inj ex
   obtain rfl : V.ref m = y := Option.some.inj ey
   exact eqd_bools (SqL.of h2) (SqL.of h4)
 have e : ((List.range (min [V.non, V.ref k].length [V.non, V.ref m].length)).all (fun i => if i = 0 then true else decide (a = b)) && [V.non, V.ref k].length == [V.non, V.ref m].length) = decide (a = b) := by
  show ((List.range 2).all (fun i => if i = 0 then true else decide (a = b)) && true) = _
  rw [Bool.and_true]
  show (true && (decide (a = b) && true)) = _
  simp
 rw [e] at key
 exact key
theorem eqd_fk {K : PySem.W.Frag} {H : Hp} {t u f g k m : Addr} {U : List Int} {a : List Bool} (h1 : H t = some (.tup [.ref f, .ref k])) (h2 : H u = some (.tup [.ref g, .ref m])) (h3 : H f = some (.tup (IL U))) (h4 : H g = some (.tup (IL U))) (h5 : H k = some (.lst (a.map V.bl))) (h6 : H m = some (.lst (a.map V.bl))) : EqD K H 2 (.ref t) (.ref u) true := by
 have key := EqD.tups (K := K) (n := 1) (e := fun _ => true) (SqT.of h1) (SqT.of h2) fun i x y ex ey => by
  match i, ex, ey with
  | 0, ex, ey =>
   obtain rfl : V.ref f = x := Option.some.inj ex
   obtain rfl : V.ref g = y := Option.some.inj ey
   have z := eqd_tints (K := K) (SqT.of h3) (SqT.of h4)
   rw [decide_eq_true rfl] at z
   exact z
  | 1, ex, ey =>
   obtain rfl : V.ref k = x := Option.some.inj ex
   obtain rfl : V.ref m = y := Option.some.inj ey
   have z := eqd_bools (K := K) (SqL.of h5) (SqL.of h6)
   rw [decide_eq_true rfl] at z
   exact z
 exact key
theorem Wk.pre {n : Int} {ps : List (Int × Int)} {T0 : List Int} {ws : List (Int × Int)} {U : List Int} (h : Wk n ps T0 ws U) : ∀ i, ∃ V, Wk n ps T0 (ws.take i) V := by
 induction h with
 | nil => intro i; exact ⟨T0, by rw [List.take_nil]; exact .nil⟩
 | @step ws T T' o z h1 h2 h3 h4 ih =>
  intro i
  by_cases hi : i <= ws.length
  ·obtain ⟨V, hV⟩ := ih i
   exact ⟨V, by rw [List.take_append_of_le_length hi]; exact hV⟩
  ·exact ⟨T', by rw [List.take_of_length_le (by rw [List.length_append]; show ws.length + 1 <= i; omega)]; exact .step h1 h2 h3 h4⟩
theorem wk_brk {n : Int} {ps : List (Int × Int)} {T0 : List Int} {ws : List (Int × Int)} {U : List Int} (h : Wk n ps T0 ws U) : ¬ Brk n ps T0 ws := fun hb => by
 obtain ⟨i, o, z, V, hi, hV, hx⟩ := hb
 obtain ⟨V2, h2⟩ := h.pre (i + 1)
 rw [List.take_succ, hi] at h2
 obtain ⟨T, k1, k2, _, _⟩ := Wk.last h2
 obtain rfl := hV.uniq k1
 exact hx k2
theorem wk_or {n : Int} {ps : List (Int × Int)} {T0 : List Int} : ∀ ws : List (Int × Int), (∃ U, Wk n ps T0 ws U) \/ Brk n ps T0 ws := by
 refine snoc_ind (.inl ⟨T0, .nil⟩) fun ws p ih => ?_
 rcases ih with ⟨U, hU⟩ | ⟨i, o, z, V, hi, hV, hx⟩
 ·by_cases hx : exg n ps U p.1 p.2
  ·obtain ⟨m, h1, h2⟩ := sort_ex (wo U p.1 ++ [p.2])
   exact .inl ⟨m, .step hU hx h1 h2⟩
  ·refine .inr ⟨ws.length, p.1, p.2, U, ?_, ?_, hx⟩
   ·rw [List.getElem?_append_right (Nat.le_refl _), Nat.sub_self]
    rfl
   ·rw [List.take_left']
    ·exact hU
    ·rfl
 ·have hlt := (List.getElem?_eq_some_iff.mp hi).1
  refine .inr ⟨i, o, z, V, ?_, ?_, hx⟩
  ·rw [List.getElem?_append_left hlt]
   exact hi
  ·rw [List.take_append_of_le_length (by omega)]
   exact hV
section
variable {P : Program} {w : World} {K : PySem.W.Frag} {mg : Str -> Option Value} {base : Heap} {t : Adr}
theorem sc_law : FnScope ["script", "places", "ties", "web", "every", "cell", "tree", "walk", "handed", "due", "found", "kinds", "turn", "bent"] ["script"] (defScope s_law) := ⟨rfl, rfl, rfl, by decide +kernel, rfl, by decide +kernel, by decide +kernel⟩
theorem ok_law (T : Txt K mg t) : FnOk P w K mg base CX0 11 t.a_law t.d_law ["script"] (sp_law K) := by
 refine T.f_law.ok sc_law (fun vs H Q E h => ?_) (fun cdv A outer s H vs Q E hr h => ?_)
 ·obtain ⟨a, ns, rfl, _⟩ := h
  rfl
 ·obtain ⟨a, ns, rfl, hS, hn63, k⟩ := h
  refine ⟨_, (pss_cons (ps_asg (pe_call (ok_law_web T) (hr.mono (by decide)) rfl T.m_law_web T.f_law_web.kp T.b_law_web .nil pass0 (pa_cons (pe_call (ok_law_at T) (hr.mono (by decide)) rfl T.m_law_at T.f_law_at.kp T.b_law_at .nil pass0 (pa_cons (pv 0) (pa_cons pe_int pa_nil))) (pa_cons (pe_callB (call_sumK K rfl) (by rfl) T.n_sum Boot.«sum» (pa_cons (pe_slice (sl_listK K) (pv 0) (po_some pe_int) po_none) pa_nil)) (pa_cons pe_int (pa_cons pe_int pa_nil))))) (pg_tupK (n := 2) K rfl (pgs_cons (pg_name (i := 1) sc_law.nd rfl (Or.inl rfl)) (pgs_cons (pg_name (i := 2) sc_law.nd rfl (Or.inl rfl)) pgs_nil))))
   (pss_cons (ps_set (i := 3) sc_law.nd rfl (Or.inl rfl) (pe_make T.k_Web (ok_Web___init T) (hr.mono (by decide)) rfl T.c_Web T.b_Web___init .nil pass0 (pa_cons (pv 1) (pa_cons (pv 2) pa_nil))))
   (pss_cons (ps_set (i := 4) sc_law.nd rfl (Or.inl rfl) (pe_call (ok_law_trees T) (hr.mono (by decide)) rfl T.m_law_trees T.f_law_trees.kp T.b_law_trees .nil pass0 (pa_cons (pv 1) (pa_cons (pv 2) pa_nil))))
   (pss_cons (ps_for PassesOwn.never rfl (pi_listK K (pe_op op_cat (pe_slice (sl_listK K) (pv 0) po_none (po_some pe_int)) (pe_lst (pa_cons pe_int pa_nil)))) (pg_name (i := 5) sc_law.nd rfl (Or.inl rfl))
   (pss_one (ps_if (pt_cmpR op_gt (pe_callB (call_lenK K) (by rfl) T.n_len Boot.«len» (pa_cons (pv 4) pa_nil)) pe_int (nomark _))
   (pss_cons (ps_set (i := 6) sc_law.nd rfl (Or.inl rfl) (pe_ix (ix_listK K) (pv 4) (pe_op op_mod (pe_op op_fdiv (pv 5) (pe_op op_pow pe_int pe_int)) (pe_callB (call_lenK K) (by rfl) T.n_len Boot.«len» (pa_cons (pv 4) pa_nil))) (fun _ _ => rfl)))
   (pss_cons (ps_set (i := 7) sc_law.nd rfl (Or.inl rfl) (pe_call (ok_law_walk T) (hr.mono (by decide)) rfl T.m_law_walk T.f_law_walk.kp T.b_law_walk .nil pass0 (pa_cons (pv 4) (pa_cons (pv 6) (pa_cons (pe_callB (call_lenK K) (by rfl) T.n_len Boot.«len» (pa_cons (pv 2) pa_nil)) (pa_cons (pv 5) pa_nil))))))
   (pss_cons (ps_set (i := 8) sc_law.nd rfl (Or.inl rfl) (pe_callTy (call_listK K) (by rfl) T.n_list Boot.«list» (pa_cons (pv 7) pa_nil)))
   (pss_cons (ps_set (i := 9) sc_law.nd rfl (Or.inl rfl) (pe_call (ok_law_due T) (hr.mono (by decide)) rfl T.m_law_due T.f_law_due.kp T.b_law_due .nil pass0 (pa_cons (pv 4) (pa_cons (pv 6) (pa_cons (pe_callB (call_lenK K) (by rfl) T.n_len Boot.«len» (pa_cons (pv 2) pa_nil)) (pa_cons (pv 7) pa_nil))))))
   (pss_cons (ps_asg (pe_call (ok_law_told T) (hr.mono (by decide)) rfl T.m_law_told T.f_law_told.kp T.b_law_told .nil pass0 (pa_cons (pv 3) (pa_cons (pv 6) (pa_cons (pv 8) pa_nil)))) (pg_tupK (n := 2) K rfl (pgs_cons (pg_name (i := 10) sc_law.nd rfl (Or.inl rfl)) (pgs_cons (pg_name (i := 11) sc_law.nd rfl (Or.inl rfl)) pgs_nil))))
   (pss_cons (ps_if (PW.pt (pw_or (pt_cmpR (op_neDK K (hu8 hr)) (pv 8) (pv 7) (nomark _)) (pw_or1 (PW.pt (pw_and (pt_cmpR op_isN (pv 9) pe_non (nomark _)) (pw_and1 (pt_cmpR (op_neDK K (hu8 hr)) (pv 11) (pe_lst (pa_cons pe_bl (pa_cons pe_bl (pa_cons pe_bl pa_nil)))) (nomark _))))))))
   (pss_one (ps_ret pe_bl))
   pss_nil)
   (pss_cons (ps_if (PW.pt (pw_and (pt_cmpR op_notN (pv 9) pe_non (nomark _)) (pw_and1 (PW.pt (pw_or (pt_cmpR (op_neDK K (hu8 hr)) (pv 11) (pe_lst pa_nil) (nomark _)) (pw_or (pt_not (pt_val (pe_callB (call_isiK K (T := "tuple")) (by rfl) T.n_isinstance Boot.«isinstance» (pa_cons (pv 10) (pa_cons (pe_bltn (v := V.ty "tuple") rfl T.n_tuple Boot.«tuple» rfl) pa_nil))))) (pw_or1 (pt_cmpR (op_neDK K (hu8 hr)) (pv 10) (pv 9) (nomark _)))))))))
   (pss_one (ps_ret pe_bl))
   pss_nil)
   (pss_cons (ps_if (pt_cmpR (op_neDK K (hu8 hr)) (pe_call (ok_law_told T) (hr.mono (by decide)) rfl T.m_law_told T.f_law_told.kp T.b_law_told .nil pass0 (pa_cons (pv 3) (pa_cons (pe_callTy (call_listK K) (by rfl) T.n_list Boot.«list» (pa_cons (pv 6) pa_nil)) (pa_cons (pe_callTy (call_tupleK K) (by rfl) T.n_tuple Boot.«tuple» (pa_cons (pv 7) pa_nil)) pa_nil)))) (pe_tup (pa_cons (pv 10) (pa_cons (pv 11) pa_nil))) (nomark _))
   (pss_one (ps_ret pe_bl))
   pss_nil)
   (pss_cons (ps_asg (pe_call (ok_law_told T) (hr.mono (by decide)) rfl T.m_law_told T.f_law_told.kp T.b_law_told .nil pass0 (pa_cons (pv 3) (pa_cons (pe_callTy (call_listK K) (by rfl) T.n_list Boot.«list» (pa_cons (pv 6) pa_nil)) (pa_cons (pe_lst pa_nil) pa_nil)))) (pg_tupK (n := 2) K rfl (pgs_cons (pg_name (i := 10) sc_law.nd rfl (Or.inl rfl)) (pgs_cons (pg_name (i := 11) sc_law.nd rfl (Or.inl rfl)) pgs_nil))))
   (pss_cons (ps_if (PW.pt (pw_or (pt_cmpR (op_neDK K (hu8 hr)) (pv 11) (pe_lst pa_nil) (nomark _)) (pw_or (pt_not (pt_val (pe_callB (call_isiK K (T := "tuple")) (by rfl) T.n_isinstance Boot.«isinstance» (pa_cons (pv 10) (pa_cons (pe_bltn (v := V.ty "tuple") rfl T.n_tuple Boot.«tuple» rfl) pa_nil))))) (pw_or1 (pt_cmpR (op_neDK K (hu8 hr)) (pv 10) (pv 6) (nomark _))))))
   (pss_one (ps_ret pe_bl))
   pss_nil)
   (pss_one (ps_for PassesOwn.never rfl (pi_range1 rfl T.n_range (pa_cons pe_int pa_nil)) (pg_name (i := 12) sc_law.nd rfl (Or.inl rfl))
   (pss_cons (ps_set (i := 13) sc_law.nd rfl (Or.inl rfl) (pe_call (ok_law_bent T) (hr.mono (by decide)) rfl T.m_law_bent T.f_law_bent.kp T.b_law_bent .nil pass0 (pa_cons (pv 6) (pa_cons (pe_callB (call_lenK K) (by rfl) T.n_len Boot.«len» (pa_cons (pv 2) pa_nil)) (pa_cons (pe_op op_add (pe_op op_mul (pe_op op_fdiv (pv 5) pe_int) pe_int) (pv 12)) pa_nil)))))
   (pss_one (ps_if (PW.pt (pw_and (pt_cmpR (op_notInR K (hu8 hr)) (pv 13) (pv 4) rfl) (pw_and1 (pt_cmpR (op_neDK K (hu8 hr)) (pe_ix (ix_tupK K) (pe_call (ok_law_told T) (hr.mono (by decide)) rfl T.m_law_told T.f_law_told.kp T.b_law_told .nil pass0 (pa_cons (pv 3) (pa_cons (pv 13) (pa_cons (pv 7) pa_nil)))) pe_int (fun _ _ => rfl)) (pe_lst (pa_cons pe_bl (pa_cons pe_bl (pa_cons pe_bl pa_nil)))) (nomark _)))))
   (pss_one (ps_ret pe_bl))
   pss_nil)))))))))))))))
   pss_nil)))
   (pss_one (ps_ret (pe_cmpR (op_eqDK K (hu8 hr)) (pe_call (ok_law_told T) (hr.mono (by decide)) rfl T.m_law_told T.f_law_told.kp T.b_law_told .nil pass0 (pa_cons (pv 3) (pa_cons (pe_tup (pa_cons pe_int (pa_cons pe_int pa_nil))) (pa_cons (pe_lst pa_nil) pa_nil)))) (pe_tup (pa_cons pe_non (pa_cons (pe_lst (pa_cons pe_bl (pa_cons pe_bl (pa_cons pe_bl pa_nil)))) pa_nil))) (nomark _)))))))), ?_⟩
  have one : 1 <= sizeLine := by decide
  have two : 2 <= sizeLine := by decide
  refine ⟨_, rfl, a, ns, 0, rfl, hS, by decide, fun hd => ?_⟩
  refine ⟨_, rfl, _, rfl, a, _, rfl, hS, fun p1 hp1 => ?_⟩
  rw [cutI_eq]
  refine ⟨p1, _, rfl, SqL.of upd_same, ?_⟩
  have s1 := same_at (o := .lst (IL (cutI ns (some 1) none))) hp1
  refine ⟨hd, _, 5, 8, rfl, by decide, by decide, by decide, by decide, fun r l n xs ps H2 s2 hr2 hl0 hl2 hP hG hnm hcc => ?_⟩
  refine ⟨r, _, rfl, SqT.of hr2, rfl, _, _, rfl, _, _, rfl, rfl, ?_⟩
  have hlx := hP.1
  have s02 := s1.trans s2
  obtain ⟨g1, g2, g3, g4⟩ := id hG
  refine ⟨_, rfl, _, rfl, fun x dx nx ndx nex => ?_⟩
  have t1 : Same H2 (upd (upd H2 dx (.own x)) x (.ins t.A_Web dx [])) := same_new (same_at ndx) (by rw [upd_ne (Ne.symm nex)]; exact nx)
  refine ⟨x, dx, n, l, false, xs, ps, rfl, upd_same, fun o => ?_, hP.same t1, hG, fun H3 hW k3 => ⟨rfl, ?_⟩⟩
  ·exact SqL.of (by rw [upd_ne (ne_of_none hl2 nx), upd_ne (ne_of_none hl2 nx), upd_ne (ne_of_none hl2 ndx)]; exact hl2)
  have s3 : Same H2 H3 := fun b o e => k3 b o (t1 b o e) (ne_of_none e nx)
  have hl3 := s3 _ _ hl2
  refine ⟨_, rfl, _, rfl, n, l, xs, ps, rfl, SqL.of hl3, hP.same s3, hG, by omega, fun eA ys L H4 s4 heA0 heA hL hLl hmem _ => ?_⟩
  have s04 := (s02.trans s3).trans s4
  have hW4 := hW.same s4
  have hyl := hL.1
  have hl4 := s4 _ _ hl3
  have three : 3 <= sizeLine := by decide
  refine ⟨_, rfl, _, rfl, a, _, rfl, s04.seq hS, fun p4 hp4 => ⟨one, fun p5 hp5 => ⟨p4, p5, _, _, rfl, rfl, same_at hp5 _ _ upd_same, upd_same, small60 (by have := cutV_length (IL ns) none (some 8); rw [il_length] at this; show _ + 1 <= _; omega), fun p6 hp6 => ?_⟩⟩⟩
  rw [show cutV (IL ns) none (some 8) ++ [.int 3] = IL (ns.take 8 ++ [3]) from cut_more ns 8 [3]]
  have z6 : Same H4 _ := ((same_at (o := .lst (cutV (IL ns) none (some 8))) hp4).trans (same_at (o := .lst [.int 3]) hp5)).trans (same_at (o := .lst (IL (ns.take 8 ++ [3]))) hp6)
  have hp68 : (upd (upd (upd H4 p4 (.lst (cutV (IL ns) none (some 8)))) p5 (.lst [.int 3])) p6 (.lst (IL (ns.take 8 ++ [3])))) p6 = some (.lst (IL (ns.take 8 ++ [3]))) := upd_same
  generalize upd (upd (upd H4 p4 (.lst (cutV (IL ns) none (some 8)))) p5 (.lst [.int 3])) p6 (.lst (IL (ns.take 8 ++ [3]))) = H5 at *
  refine ⟨p6, rfl, ⟨_, SqL.of hp68⟩, for_list (K := K) (a := p6) (xs := IL (ns.take 8 ++ [3])) (fun i σ H6 => ∃ (v5 v6 v7 v8 v9 v10 v11 v12 v13 : Option V), σ = [some (.ref a), some (.int n), some (.ref l), some (.ref x), some (.ref eA), v5, v6, v7, v8, v9, v10, v11, v12, v13] /\ Same H5 H6) ⟨none, none, none, none, none, none, none, none, none, rfl, Same.refl _⟩ (fun i σ H6 _ ⟨_, _, _, _, _, _, _, _, _, _, e⟩ => SqL.of (e _ _ hp68)) ?_ ?_⟩
  ·rintro i vi σ H6 hi ⟨v5, v6, v7, v8, v9, v10, v11, v12, v13, rfl, s6⟩
   obtain ⟨c, rfl, hc⟩ := il_get hi
   have z46 : Same H4 H6 := z6.trans s6
   refine nm ?_
   have he6 := z46 _ _ heA
   have hL6 := hL.same z46
   refine ⟨_, rfl, eA, _, rfl, .inl (SqL.of he6), _, _, rfl, rfl, _, rfl, ?_⟩
   refine itd2 (fun hpos => ?_) (fun hpos => ⟨_, _, _, _, _, _, _, _, _, rfl, s6⟩)
   have lp : (0 : Int) < (ys.length : Int) := hpos
   have md : ∀ z : Int, 0 <= z % (ys.length : Int) /\ z % (ys.length : Int) < (ys.length : Int) := fun z => ⟨Int.emod_nonneg _ (by omega), Int.emod_lt_of_pos _ lp⟩
   have pick : ∀ z : Int, ∃ (T : List Int) (tt : Addr), atI ys (z % (ys.length : Int)) = some (.ref tt) /\ H6 tt = some (.tup (IL T)) /\ IsTree n ps T := fun z => by
    have hz := md z
    obtain ⟨T, hT⟩ : ∃ T, L[(z % (ys.length : Int)).toNat]? = some T := ⟨_, List.getElem?_eq_getElem (by omega)⟩
    obtain ⟨v, hv, tt, rfl, htt⟩ := hL6.2 _ T hT
    exact ⟨T, tt, atI_of (n := (z % (ys.length : Int)).toNat) (by omega) hv, htt, (hmem T).mp (List.mem_of_getElem? hT)⟩
   obtain ⟨T1, t1A, hi1, ht1, hT1⟩ := pick (c / 10 ^ (9 : Int).toNat)
   have t1l : T1.length <= 13 := by have := hT1.2.1; omega
   refine ⟨_, rfl, _, rfl, _, _, rfl, rfl, ⟨by decide, by decide, by decide⟩, _, _, rfl, rfl, ⟨by decide, by decide⟩, _, rfl, eA, _, rfl, .inl (SqL.of he6), _, _, rfl, rfl, lp, eA, _, _, .ref t1A, rfl, rfl, SqL.of he6, hi1, ?_⟩
   refine ⟨_, rfl, _, rfl, _, rfl, l, xs, rfl, .inl (SqL.of (z46 _ _ hl4)), _, rfl, eA, t1A, n, ps, ys, L, T1, c, (by rw [hlx]; rfl), he6, hL6, hmem, ht1, hG, hT1, fun wA us ws H7 s7 hwA0 hwA hPw wl hbd => ?_⟩
   have ul : us.length = ws.length := hPw.1
   refine ⟨_, rfl, wA, _, rfl, .inl (SqL.of hwA), fun hA hhA => ?_⟩
   have s8 := same_at (o := .lst us) hhA
   have hA8 : (upd H7 hA (.lst us)) hA = some (.lst us) := upd_same
   have hw8 := s8 _ _ hwA
   have hP8 := hPw.same s8
   have s68 := s7.trans s8
   generalize upd H7 hA (.lst us) = H8 at *
   have z48 := z46.trans s68
   rcases wk_or (n := n) (ps := ps) (T0 := T1) ws with ⟨U, hWk⟩ | hbr
   ·-- due
    refine ⟨_, rfl, _, rfl, _, rfl, l, xs, rfl, .inl (SqL.of (z48 _ _ hl4)), _, rfl, eA, t1A, wA, n, ps, ys, L, T1, us, ws, (by rw [hlx]; rfl), z48 _ _ heA, hL.same z48, hmem, s68 _ _ ht1, SqL.of hw8, hP8, hG, hT1, fun U' hU' dA H9 s9 hdA => ?_, fun hb => absurd hb (wk_brk hWk)⟩
    obtain rfl := hWk.uniq hU'
    have s69 := s68.trans s9
    have z49 := z46.trans s69
    refine ⟨_, rfl, _, rfl, _, rfl, x, t1A, hA, n, ps, false, T1, us, ws, rfl, hW4.same z49, hG, .inl (s69 _ _ ht1), SqL.of (s9 _ _ hA8), hP8.same s9, hbd, fun _ U' hU' r f kl H10 s10 hr hf hkl => ?_, fun _ hb => absurd hb (wk_brk hWk), fun h => absurd hT1 h⟩
    obtain rfl := hWk.uniq hU'
    refine ⟨r, _, rfl, SqT.of hr, rfl, _, _, rfl, _, _, rfl, rfl, ?_⟩
    have s910 := s9.trans s10
    refine ⟨_, rfl, _, rfl, 2, _, hA, wA, rfl, rfl, by decide, eqd_pairs (SqL.of (s910 _ _ hA8)) (SqL.of (s910 _ _ hw8)) (hP8.same s910) (hP8.same s910), _, rfl, ?_⟩
    refine itn rfl ?_
    refine ⟨_, rfl, rfl, _, rfl, ?_⟩
    refine itdn (fun z => nomatch z) ?_
    refine ⟨_, rfl, rfl, _, rfl, ?_⟩
    refine itnn (fun z => nomatch z) ?_
    refine ⟨_, rfl, Nat.zero_le _, fun e1 he1 => ⟨1, decide (([] : List Bool) = []), kl, e1, rfl, rfl, by decide, eqd_bools (bs := []) (cs := []) (SqL.of (same_at he1 _ _ hkl)) (SqL.of upd_same), _, rfl, ?_⟩⟩
    refine itn (c := ([] : List Bool) = []) rfl ?_
    have s11 := same_at (o := .lst []) he1
    refine ⟨_, rfl, _, _, _, rfl, TyOf.tup (s11 _ _ hf), kit_same, _, rfl, ?_⟩
    refine ⟨_, rfl, _, rfl, 1, _, f, dA, rfl, rfl, by decide, eqd_tints (SqT.of (s11 _ _ hf)) (SqT.of ((s10.trans s11) _ _ hdA)), _, rfl, ?_⟩
    refine itn rfl ?_
    have s811 := s910.trans s11
    have s611 := s68.trans s811
    refine ⟨_, rfl, _, rfl, t1A, _, rfl, .inr (SqT.of (s611 _ _ ht1)), fun l1 hl1 => ?_⟩
    have a1 := same_at (o := .lst (IL T1)) hl1
    refine ⟨_, rfl, wA, _, rfl, .inl ⟨SqL.of ((s811.trans a1) _ _ hw8), fun tw htw => ?_⟩⟩
    have a2 := same_at (o := .tup us) htw
    have s612 := s611.trans (a1.trans a2)
    refine ⟨x, l1, tw, n, ps, true, T1, us, ws, rfl, hW4.same (z46.trans s612), hG, .inr (SqL.of (a2 _ _ upd_same)), SqT.of upd_same, hP8.same (s811.trans (a1.trans a2)), hbd, fun _ U' hU' r2 f2 kl2 H12 s12 hr2 hf2 hkl2 => ?_, fun _ hb => absurd hb (wk_brk hWk), fun h => absurd hT1 h⟩
    obtain rfl := hWk.uniq hU'
    refine ⟨_, rfl, _, rfl, two, fun t3 ht3 => ?_⟩
    have a3 := same_at (o := .tup [.ref f, .ref kl]) ht3
    have a13 := s11.trans (a1.trans (a2.trans (s12.trans a3)))
    refine ⟨2, true, r2, t3, rfl, rfl, by decide, eqd_fk (U := U) (a := []) (a3 _ _ hr2) upd_same (a3 _ _ hf2) (a13 _ _ hf) (a3 _ _ hkl2) (a13 _ _ hkl), _, rfl, ?_⟩
    refine iteF ?_
    have s613 := s612.trans (s12.trans a3)
    have w13 := s811.trans (a1.trans (a2.trans (s12.trans a3)))
    refine ⟨_, rfl, _, rfl, t1A, _, rfl, .inr (SqT.of (s613 _ _ ht1)), fun l3 hl3 => ?_⟩
    have b1 := same_at (o := .lst (IL T1)) hl3
    refine ⟨Nat.zero_le _, fun l4 hl4' => ?_⟩
    have b2 := same_at (o := .lst []) hl4'
    have s613b := s613.trans (b1.trans b2)
    refine ⟨x, l3, l4, n, ps, false, T1, [], [], rfl, hW4.same (z46.trans s613b), hG, .inr (SqL.of (b2 _ _ upd_same)), SqL.of upd_same, PairsV.nil, fun p h => (by cases h), fun _ U2 hWk2 r3 f3 k3 H14 s14 hr3 hf3 hk3 => ?_, fun _ hb => (by obtain ⟨i, _, _, _, h, _⟩ := hb; simp at h), fun h => absurd hT1 h⟩
    obtain rfl : T1 = U2 := Wk.nil.uniq hWk2
    refine ⟨r3, _, rfl, SqT.of hr3, rfl, _, _, rfl, _, _, rfl, rfl, ?_⟩
    refine ⟨_, rfl, Nat.zero_le _, fun e5 he5 => ⟨1, decide (([] : List Bool) = []), k3, e5, rfl, rfl, by decide, eqd_bools (bs := []) (cs := []) (SqL.of (same_at he5 _ _ hk3)) (SqL.of upd_same), _, rfl, ?_⟩⟩
    refine itn (c := ([] : List Bool) = []) rfl ?_
    have b3 := same_at (o := .lst []) he5
    refine ⟨_, rfl, _, _, _, rfl, TyOf.tup (b3 _ _ hf3), kit_same, _, rfl, ?_⟩
    have s15 := s613b.trans (s14.trans b3)
    refine ⟨_, rfl, _, rfl, 1, _, f3, t1A, rfl, rfl, by decide, eqd_tints (SqT.of (b3 _ _ hf3)) (SqT.of (s15 _ _ ht1)), _, rfl, ?_⟩
    refine itn rfl ?_
    have hw15 := (b1.trans (b2.trans (s14.trans b3))) _ _ (w13 _ _ hw8)
    have hP15 := (hP8.same w13).same (b1.trans (b2.trans (s14.trans b3)))
    refine ⟨7, rfl, by decide, by decide, for_range (lo := 0) (n := 7) (fun j σ H8 => ∃ (v9 v10 v11 v12 v13 v14 : Option V), σ = [some (.ref a), some (.int n), some (.ref l), some (.ref x), some (.ref eA), some (.int c), some (.ref t1A), some (.ref wA), v9, v10, v11, v12, v13, v14] /\ Same H6 H8 /\ H8 wA = some (.lst us) /\ PairsV H8 us ws) ⟨_, _, _, _, _, _, rfl, s15, hw15, hP15⟩ ?_ ?_⟩
    ·rintro j σ H8 hj ⟨v9, v10, v11, v12, v13, v14, rfl, s8, hw8, hP8⟩
     have z48 := z46.trans s8
     refine ⟨_, rfl, _, rfl, l, xs, rfl, .inl (SqL.of (z48 _ _ hl4)), _, rfl, _, _, rfl, rfl, ⟨by decide, by decide⟩, _, _, rfl, rfl, .inr ⟨by decide, by decide⟩, _, rfl, _, _, rfl, rfl, t1A, T1, _, _, rfl, s8 _ _ ht1, by omega, by omega, fun r ms H9 s9 hr => ?_⟩
     have s89 := s8.trans s9
     have z49 := z46.trans s89
     refine ⟨_, rfl, _, rfl, notIn_tups (z := ms) ⟨r, rfl, hr⟩ (SqL.of (z49 _ _ heA)) (hL.same z49) ⟨_, rfl, ?_⟩⟩
     refine itn2 (fun hin => ⟨_, _, _, _, _, _, rfl, s89, s9 _ _ hw8, hP8.same s9⟩) (fun hin => ?_)
     refine ⟨_, rfl, _, rfl, _, rfl, x, r, wA, n, ps, false, ms, us, ws, rfl, hW4.same z49, hG, .inl hr, SqL.of (s9 _ _ hw8), hP8.same s9, hbd, fun h => absurd ((hmem ms).mpr h) hin, fun h => absurd ((hmem ms).mpr h) hin, fun _ r4 k4 H10 s10 hr4 hk4 => ?_⟩
     refine ⟨r4, _, 1, .ref k4, rfl, rfl, SqT.of hr4, rfl, three, fun k5 hk5 => ⟨1, decide (([true, false, true] : List Bool) = [true, false, true]), k4, k5, rfl, rfl, by decide, eqd_bools (SqL.of (same_at hk5 _ _ hk4)) (SqL.of upd_same), _, rfl, ?_⟩⟩
     refine itn (c := ([true, false, true] : List Bool) = [true, false, true]) rfl ?_
     have s90 := s9.trans (s10.trans (same_at (o := .lst ([true, false, true].map V.bl)) hk5))
     exact ⟨_, _, _, _, _, _, rfl, s8.trans s90, s90 _ _ hw8, hP8.same s90⟩
    ·rintro σ H8 ⟨v9, v10, v11, v12, v13, v14, rfl, s8, _, _⟩
     exact ⟨_, _, _, _, _, _, _, _, _, rfl, s6.trans s8⟩
   ·refine ⟨_, rfl, _, rfl, _, rfl, l, xs, rfl, .inl (SqL.of (z48 _ _ hl4)), _, rfl, eA, t1A, wA, n, ps, ys, L, T1, us, ws, (by rw [hlx]; rfl), z48 _ _ heA, hL.same z48, hmem, s68 _ _ ht1, SqL.of hw8, hP8, hG, hT1, fun U' hU' => absurd hbr (wk_brk hU'), fun _ H9 s9 => ?_⟩
    have s69 := s68.trans s9
    have z49 := z46.trans s69
    refine ⟨_, rfl, _, rfl, _, rfl, x, t1A, hA, n, ps, false, T1, us, ws, rfl, hW4.same z49, hG, .inl (s69 _ _ ht1), SqL.of (s9 _ _ hA8), hP8.same s9, hbd, fun _ U' hU' => absurd hbr (wk_brk hU'), fun _ _ r kl H10 s10 hr hkl => ?_, fun h => absurd hT1 h⟩
    refine ⟨r, _, rfl, SqT.of hr, rfl, _, _, rfl, _, _, rfl, rfl, ?_⟩
    have s910 := s9.trans s10
    refine ⟨_, rfl, _, rfl, 2, _, hA, wA, rfl, rfl, by decide, eqd_pairs (SqL.of (s910 _ _ hA8)) (SqL.of (s910 _ _ hw8)) (hP8.same s910) (hP8.same s910), _, rfl, ?_⟩
    refine itn rfl ?_
    refine ⟨_, rfl, rfl, _, rfl, ?_⟩
    refine itd rfl ?_
    refine ⟨_, rfl, three, fun k2 hk2 => ⟨1, decide (([false, true, true] : List Bool) = [false, true, true]), kl, k2, rfl, rfl, by decide, eqd_bools (SqL.of (same_at hk2 _ _ hkl)) (SqL.of upd_same), _, rfl, ?_⟩⟩
    refine itn (c := ([false, true, true] : List Bool) = [false, true, true]) rfl ?_
    have s11 := same_at (o := .lst ([false, true, true].map V.bl)) hk2
    refine ⟨_, rfl, rfl, _, rfl, ?_⟩
    refine itn rfl ?_
    have s811 := s910.trans s11
    have s611 := s68.trans s811
    refine ⟨_, rfl, _, rfl, t1A, _, rfl, .inr (SqT.of (s611 _ _ ht1)), fun l1 hl1 => ?_⟩
    have a1 := same_at (o := .lst (IL T1)) hl1
    refine ⟨_, rfl, wA, _, rfl, .inl ⟨SqL.of ((s811.trans a1) _ _ hw8), fun tw htw => ?_⟩⟩
    have a2 := same_at (o := .tup us) htw
    have s612 := s611.trans (a1.trans a2)
    refine ⟨x, l1, tw, n, ps, true, T1, us, ws, rfl, hW4.same (z46.trans s612), hG, .inr (SqL.of (a2 _ _ upd_same)), SqT.of upd_same, hP8.same (s811.trans (a1.trans a2)), hbd, fun _ U' hU' => absurd hbr (wk_brk hU'), fun _ _ r2 kl2 H12 s12 hr2 hkl2 => ?_, fun h => absurd hT1 h⟩
    refine ⟨_, rfl, _, rfl, two, fun t3 ht3 => ?_⟩
    have a3 := same_at (o := .tup [.non, .ref kl]) ht3
    have a13 := s11.trans (a1.trans (a2.trans (s12.trans a3)))
    refine ⟨2, decide (([false, true, true] : List Bool) = [false, true, true]), r2, t3, rfl, rfl, by decide, eqd_nk ⟨r2, kl2, rfl, a3 _ _ hr2, a3 _ _ hkl2⟩ ⟨t3, kl, rfl, upd_same, a13 _ _ hkl⟩, _, rfl, ?_⟩
    refine itn (c := ([false, true, true] : List Bool) = [false, true, true]) rfl ?_
    have s613 := s612.trans (s12.trans a3)
    have w13 := s811.trans (a1.trans (a2.trans (s12.trans a3)))
    refine ⟨_, rfl, _, rfl, t1A, _, rfl, .inr (SqT.of (s613 _ _ ht1)), fun l3 hl3 => ?_⟩
    have b1 := same_at (o := .lst (IL T1)) hl3
    refine ⟨Nat.zero_le _, fun l4 hl4' => ?_⟩
    have b2 := same_at (o := .lst []) hl4'
    have s613b := s613.trans (b1.trans b2)
    refine ⟨x, l3, l4, n, ps, false, T1, [], [], rfl, hW4.same (z46.trans s613b), hG, .inr (SqL.of (b2 _ _ upd_same)), SqL.of upd_same, PairsV.nil, fun p h => (by cases h), fun _ U2 hWk2 r3 f3 k3 H14 s14 hr3 hf3 hk3 => ?_, fun _ hb => (by obtain ⟨i, _, _, _, h, _⟩ := hb; simp at h), fun h => absurd hT1 h⟩
    obtain rfl : T1 = U2 := Wk.nil.uniq hWk2
    refine ⟨r3, _, rfl, SqT.of hr3, rfl, _, _, rfl, _, _, rfl, rfl, ?_⟩
    refine ⟨_, rfl, Nat.zero_le _, fun e5 he5 => ⟨1, decide (([] : List Bool) = []), k3, e5, rfl, rfl, by decide, eqd_bools (bs := []) (cs := []) (SqL.of (same_at he5 _ _ hk3)) (SqL.of upd_same), _, rfl, ?_⟩⟩
    refine itn (c := ([] : List Bool) = []) rfl ?_
    have b3 := same_at (o := .lst []) he5
    refine ⟨_, rfl, _, _, _, rfl, TyOf.tup (b3 _ _ hf3), kit_same, _, rfl, ?_⟩
    have s15 := s613b.trans (s14.trans b3)
    refine ⟨_, rfl, _, rfl, 1, _, f3, t1A, rfl, rfl, by decide, eqd_tints (SqT.of (b3 _ _ hf3)) (SqT.of (s15 _ _ ht1)), _, rfl, ?_⟩
    refine itn rfl ?_
    have hw15 := (b1.trans (b2.trans (s14.trans b3))) _ _ (w13 _ _ hw8)
    have hP15 := (hP8.same w13).same (b1.trans (b2.trans (s14.trans b3)))
    refine ⟨7, rfl, by decide, by decide, for_range (lo := 0) (n := 7) (fun j σ H8 => ∃ (v9 v10 v11 v12 v13 v14 : Option V), σ = [some (.ref a), some (.int n), some (.ref l), some (.ref x), some (.ref eA), some (.int c), some (.ref t1A), some (.ref wA), v9, v10, v11, v12, v13, v14] /\ Same H6 H8 /\ H8 wA = some (.lst us) /\ PairsV H8 us ws) ⟨_, _, _, _, _, _, rfl, s15, hw15, hP15⟩ ?_ ?_⟩
    ·rintro j σ H8 hj ⟨v9, v10, v11, v12, v13, v14, rfl, s8, hw8, hP8⟩
     have z48 := z46.trans s8
     refine ⟨_, rfl, _, rfl, l, xs, rfl, .inl (SqL.of (z48 _ _ hl4)), _, rfl, _, _, rfl, rfl, ⟨by decide, by decide⟩, _, _, rfl, rfl, .inr ⟨by decide, by decide⟩, _, rfl, _, _, rfl, rfl, t1A, T1, _, _, rfl, s8 _ _ ht1, by omega, by omega, fun r ms H9 s9 hr => ?_⟩
     have s89 := s8.trans s9
     have z49 := z46.trans s89
     refine ⟨_, rfl, _, rfl, notIn_tups (z := ms) ⟨r, rfl, hr⟩ (SqL.of (z49 _ _ heA)) (hL.same z49) ⟨_, rfl, ?_⟩⟩
     refine itn2 (fun hin => ⟨_, _, _, _, _, _, rfl, s89, s9 _ _ hw8, hP8.same s9⟩) (fun hin => ?_)
     refine ⟨_, rfl, _, rfl, _, rfl, x, r, wA, n, ps, false, ms, us, ws, rfl, hW4.same z49, hG, .inl hr, SqL.of (s9 _ _ hw8), hP8.same s9, hbd, fun h => absurd ((hmem ms).mpr h) hin, fun h => absurd ((hmem ms).mpr h) hin, fun _ r4 k4 H10 s10 hr4 hk4 => ?_⟩
     refine ⟨r4, _, 1, .ref k4, rfl, rfl, SqT.of hr4, rfl, three, fun k5 hk5 => ⟨1, decide (([true, false, true] : List Bool) = [true, false, true]), k4, k5, rfl, rfl, by decide, eqd_bools (SqL.of (same_at hk5 _ _ hk4)) (SqL.of upd_same), _, rfl, ?_⟩⟩
     refine itn (c := ([true, false, true] : List Bool) = [true, false, true]) rfl ?_
     have s90 := s9.trans (s10.trans (same_at (o := .lst ([true, false, true].map V.bl)) hk5))
     exact ⟨_, _, _, _, _, _, rfl, s8.trans s90, s90 _ _ hw8, hP8.same s90⟩
    ·rintro σ H8 ⟨v9, v10, v11, v12, v13, v14, rfl, s8, _, _⟩
     exact ⟨_, _, _, _, _, _, _, _, _, rfl, s6.trans s8⟩
  rintro σ H6 ⟨v5, v6, v7, v8, v9, v10, v11, v12, v13, rfl, s6⟩
  have z46 : Same H4 H6 := z6.trans s6
  refine ⟨_, rfl, two, fun q1 hq1 => ⟨Nat.zero_le _, fun q2 hq2 => ?_⟩⟩
  have b1 := same_at (o := .tup (IL [0, 0])) hq1
  have b2 := same_at (o := .lst []) hq2
  have hno : ¬ IsTree n ps [0, 0] := fun h => by
   have := (List.pairwise_cons.mp (isSet_iff.mp h.1).2).1 0 (by simp)
   omega
  refine ⟨x, q1, q2, n, ps, false, [0, 0], [], [], rfl, hW4.same (z46.trans (b1.trans b2)), hG, .inl (b2 _ _ upd_same), SqL.of upd_same, PairsV.nil, fun p h => (by cases h), fun h => absurd h hno, fun h => absurd h hno, fun _ r kl H8 s8 hr hkl => ?_⟩
  refine ⟨three, fun k2 hk2 => ⟨two, fun t2 ht2 => ?_⟩⟩
  have b3 := same_at (o := .lst ([true, false, true].map V.bl)) hk2
  have b4 := same_at (o := .tup [.non, .ref k2]) ht2
  refine ⟨2, decide (([true, false, true] : List Bool) = [true, false, true]), r, t2, rfl, rfl, by decide, eqd_nk ⟨r, kl, rfl, (b3.trans b4) _ _ hr, (b3.trans b4) _ _ hkl⟩ ⟨t2, k2, rfl, upd_same, b4 _ _ upd_same⟩, ?_⟩
  refine (show ∀ (b : Bool) (H : Hp), b = true -> Q (.bl b) H from fun b H e => by rw [e]; exact k H) _ _ ?_
  simp
end
end My
namespace My
open PySem L2
theorem law_binds {K : PySem.W.Frag} {f : Addr} {fd : FuncData} (F : Fun K "law" "law" s_law f fd) (s : Shared) (u : Value) : BindsTo s fd ⟨[u], []⟩ [("script", u)] := by
 obtain ⟨oc, od, kV, doc, pm, an, cdv, ct, osl, rfl, lk, hcd⟩ := F.ex
 exact .of_eq rfl
end My
open PySem PySem.W PyProof.Rows
set_option maxRecDepth 100000 in
set_option maxHeartbeats 0 in
theorem PySem.Challenge.cw_spanrow_k48_walks_walked_holds : PySem.Challenge.rw_spanrow_k48_walks_walked.Holds := by
 w_on; o_law; k_head; (case hw => w_witness2)
 k_fill
 refine L2.walk_ofK (l := PySem.Challenge.rw_spanrow_k48_walks_walked) (n := 63) (k := 11) (x := "script") (CX := L2.CX0) (sp := My.sp_law) rfl (by decide) rfl ⟨rfl, by decide, by decide⟩ (fun w h Y => PySem.W.kIn_of Y) ?F (fun _ H a ns hl _ hS => ⟨a, ns, rfl, hS, hl, fun _ => rfl⟩) (fun _ _ _ _ z => z)
 case F =>
  intro w mg fa h KX G hmg
  have h_is_tie : My.FX (L2.KOf KX) mg "is_tie" "is_tie" My.s_is_tie := by
   dsimp only [L2.KOf]
   refine' My.fx_mk KX G ?a ?l ?c ?k
   (case a => k_is); (case l => k_is); (case c => k_is); (case k => k_is)
  have h_refuse_bad_web : My.FX (L2.KOf KX) mg "refuse_bad_web" "refuse_bad_web" My.s_refuse_bad_web := by
   dsimp only [L2.KOf]
   refine' My.fx_mk KX G ?a ?l ?c ?k
   (case a => k_is); (case l => k_is); (case c => k_is); (case k => k_is)
  have h_is_set : My.FX (L2.KOf KX) mg "is_set" "is_set" My.s_is_set := by
   dsimp only [L2.KOf]
   refine' My.fx_mk KX G ?a ?l ?c ?k
   (case a => k_is); (case l => k_is); (case c => k_is); (case k => k_is)
  have h_made_set : My.FX (L2.KOf KX) mg "made_set" "made_set" My.s_made_set := by
   dsimp only [L2.KOf]
   refine' My.fx_mk KX G ?a ?l ?c ?k
   (case a => k_is); (case l => k_is); (case c => k_is); (case k => k_is)
  have h_merged_marks : My.FX (L2.KOf KX) mg "merged_marks" "merged_marks" My.s_merged_marks := by
   dsimp only [L2.KOf]
   refine' My.fx_mk KX G ?a ?l ?c ?k
   (case a => k_is); (case l => k_is); (case c => k_is); (case k => k_is)
  have h_piece_marks : My.FX (L2.KOf KX) mg "piece_marks" "piece_marks" My.s_piece_marks := by
   dsimp only [L2.KOf]
   refine' My.fx_mk KX G ?a ?l ?c ?k
   (case a => k_is); (case l => k_is); (case c => k_is); (case k => k_is)
  have h_pieces_of : My.FX (L2.KOf KX) mg "pieces_of" "pieces_of" My.s_pieces_of := by
   dsimp only [L2.KOf]
   refine' My.fx_mk KX G ?a ?l ?c ?k
   (case a => k_is); (case l => k_is); (case c => k_is); (case k => k_is)
  have h_is_joined : My.FX (L2.KOf KX) mg "is_joined" "is_joined" My.s_is_joined := by
   dsimp only [L2.KOf]
   refine' My.fx_mk KX G ?a ?l ?c ?k
   (case a => k_is); (case l => k_is); (case c => k_is); (case k => k_is)
  have h_is_tree : My.FX (L2.KOf KX) mg "is_tree" "is_tree" My.s_is_tree := by
   dsimp only [L2.KOf]
   refine' My.fx_mk KX G ?a ?l ?c ?k
   (case a => k_is); (case l => k_is); (case c => k_is); (case k => k_is)
  have h_refuse_no_tree : My.FX (L2.KOf KX) mg "refuse_no_tree" "refuse_no_tree" My.s_refuse_no_tree := by
   dsimp only [L2.KOf]
   refine' My.fx_mk KX G ?a ?l ?c ?k
   (case a => k_is); (case l => k_is); (case c => k_is); (case k => k_is)
  have h_ties_without : My.FX (L2.KOf KX) mg "ties_without" "ties_without" My.s_ties_without := by
   dsimp only [L2.KOf]
   refine' My.fx_mk KX G ?a ?l ?c ?k
   (case a => k_is); (case l => k_is); (case c => k_is); (case k => k_is)
  have h_tree_cut : My.FX (L2.KOf KX) mg "tree_cut" "tree_cut" My.s_tree_cut := by
   dsimp only [L2.KOf]
   refine' My.fx_mk KX G ?a ?l ?c ?k
   (case a => k_is); (case l => k_is); (case c => k_is); (case k => k_is)
  have h_exchanged : My.FX (L2.KOf KX) mg "exchanged" "exchanged" My.s_exchanged := by
   dsimp only [L2.KOf]
   refine' My.fx_mk KX G ?a ?l ?c ?k
   (case a => k_is); (case l => k_is); (case c => k_is); (case k => k_is)
  have h_walked : My.FX (L2.KOf KX) mg "walked" "walked" My.s_walked := by
   dsimp only [L2.KOf]
   refine' My.fx_mk KX G ?a ?l ?c ?k
   (case a => k_is); (case l => k_is); (case c => k_is); (case k => k_is)
  have h_law_at : My.FX (L2.KOf KX) mg "_law_at" "_law_at" My.s_law_at := by
   dsimp only [L2.KOf]
   refine' My.fx_mk KX G ?a ?l ?c ?k
   (case a => k_is); (case l => k_is); (case c => k_is); (case k => k_is)
  have h_law_mix : My.FX (L2.KOf KX) mg "_law_mix" "_law_mix" My.s_law_mix := by
   dsimp only [L2.KOf]
   refine' My.fx_mk KX G ?a ?l ?c ?k
   (case a => k_is); (case l => k_is); (case c => k_is); (case k => k_is)
  have h_law_web : My.FX (L2.KOf KX) mg "_law_web" "_law_web" My.s_law_web := by
   dsimp only [L2.KOf]
   refine' My.fx_mk KX G ?a ?l ?c ?k
   (case a => k_is); (case l => k_is); (case c => k_is); (case k => k_is)
  have h_law_marks : My.FX (L2.KOf KX) mg "_law_marks" "_law_marks" My.s_law_marks := by
   dsimp only [L2.KOf]
   refine' My.fx_mk KX G ?a ?l ?c ?k
   (case a => k_is); (case l => k_is); (case c => k_is); (case k => k_is)
  have h_law_tree : My.FX (L2.KOf KX) mg "_law_tree" "_law_tree" My.s_law_tree := by
   dsimp only [L2.KOf]
   refine' My.fx_mk KX G ?a ?l ?c ?k
   (case a => k_is); (case l => k_is); (case c => k_is); (case k => k_is)
  have h_law_trees : My.FX (L2.KOf KX) mg "_law_trees" "_law_trees" My.s_law_trees := by
   dsimp only [L2.KOf]
   refine' My.fx_mk KX G ?a ?l ?c ?k
   (case a => k_is); (case l => k_is); (case c => k_is); (case k => k_is)
  have h_law_instead : My.FX (L2.KOf KX) mg "_law_instead" "_law_instead" My.s_law_instead := by
   dsimp only [L2.KOf]
   refine' My.fx_mk KX G ?a ?l ?c ?k
   (case a => k_is); (case l => k_is); (case c => k_is); (case k => k_is)
  have h_law_exchanges : My.FX (L2.KOf KX) mg "_law_exchanges" "_law_exchanges" My.s_law_exchanges := by
   dsimp only [L2.KOf]
   refine' My.fx_mk KX G ?a ?l ?c ?k
   (case a => k_is); (case l => k_is); (case c => k_is); (case k => k_is)
  have h_law_walk : My.FX (L2.KOf KX) mg "_law_walk" "_law_walk" My.s_law_walk := by
   dsimp only [L2.KOf]
   refine' My.fx_mk KX G ?a ?l ?c ?k
   (case a => k_is); (case l => k_is); (case c => k_is); (case k => k_is)
  have h_law_due : My.FX (L2.KOf KX) mg "_law_due" "_law_due" My.s_law_due := by
   dsimp only [L2.KOf]
   refine' My.fx_mk KX G ?a ?l ?c ?k
   (case a => k_is); (case l => k_is); (case c => k_is); (case k => k_is)
  have h_law_bent : My.FX (L2.KOf KX) mg "_law_bent" "_law_bent" My.s_law_bent := by
   dsimp only [L2.KOf]
   refine' My.fx_mk KX G ?a ?l ?c ?k
   (case a => k_is); (case l => k_is); (case c => k_is); (case k => k_is)
  have h_law_told : My.FX (L2.KOf KX) mg "_law_told" "_law_told" My.s_law_told := by
   dsimp only [L2.KOf]
   refine' My.fx_mk KX G ?a ?l ?c ?k
   (case a => k_is); (case l => k_is); (case c => k_is); (case k => k_is)
  have h_law : My.FX (L2.KOf KX) mg "law" "law" My.s_law := by
   dsimp only [L2.KOf]
   refine' My.fx_mk KX G ?a ?l ?c ?k
   (case a => k_is); (case l => k_is); (case c => k_is); (case k => k_is)
  have h_Web : My.CXF (L2.KOf KX) mg "Web" "Web.__init__" My.s_Web___init ["places", "ties"] := by
   dsimp only [L2.KOf]
   refine' My.cx_mk KX G ?aC ?a ?i ?l ?c ?k ?pg ?hd ?po ?sa ?mk ?kc ?na
   (case aC => k_is); (case a => k_is); (case i => k_is); (case l => k_is); (case c => k_is); (case k => k_is)
   (case pg => k_is); (case hd => k_is); (case po => k_is); (case sa => k_is); (case mk => k_is); (case kc => k_is)
   (case na => (intro f hf; simp only [List.mem_cons, List.not_mem_nil, or_false] at hf; rcases hf with rfl | rfl <;> k_is))
  have hX : ∃ A_WebError A_NoTree A_NoTie : Addr, mg "WebError" = some (.ref A_WebError) /\ mg "NoTree" = some (.ref A_NoTree) /\ mg "NoTie" = some (.ref A_NoTie) /\ L2.XCls (L2.KOf KX) (A_NoTree) /\ L2.XCls (L2.KOf KX) (A_NoTie) /\ PySem.W.kitOne (L2.KOf KX) (.ref (A_NoTree)) (.ref (A_NoTie)) = some false /\ PySem.W.kitOne (L2.KOf KX) (.ref (A_NoTree)) (.type "ValueError") = some true /\ PySem.W.exmOne (L2.KOf KX) (.ref (A_NoTree)) (.ref (A_WebError)) = some true /\ PySem.W.kitOne (L2.KOf KX) (.ref (A_NoTie)) (.ref (A_NoTree)) = some false /\ PySem.W.kitOne (L2.KOf KX) (.ref (A_NoTie)) (.type "ValueError") = some true /\ PySem.W.exmOne (L2.KOf KX) (.ref (A_NoTie)) (.ref (A_WebError)) = some true := by
   dsimp only [L2.KOf]
   refine' My.xI (My.xI (My.xI (⟨PySem.W.mg_of KX G ?m_WebError, PySem.W.mg_of KX G ?m_NoTree, PySem.W.mg_of KX G ?m_NoTie, ⟨?x_NoTree_ex, ?x_NoTree_ga, ?x_NoTree_gh, ?x_NoTree_cl, ?x_NoTree_ob, ?x_NoTree_bx⟩, ⟨?x_NoTie_ex, ?x_NoTie_ga, ?x_NoTie_gh, ?x_NoTie_cl, ?x_NoTie_ob, ?x_NoTie_bx⟩, ?ki_NoTree_NoTie, ?ki_NoTree_ValueError, ?em_NoTree, ?ki_NoTie_NoTree, ?ki_NoTie_ValueError, ?em_NoTie⟩)))
   (case m_WebError => k_is)
   (case m_NoTree => k_is)
   (case m_NoTie => k_is)
   (case x_NoTree_ex => k_exc); (case x_NoTree_ga => k_is); (case x_NoTree_gh => k_is); (case x_NoTree_cl => k_is); (case x_NoTree_ob => k_is); (case x_NoTree_bx => k_is)
   (case x_NoTie_ex => k_exc); (case x_NoTie_ga => k_is); (case x_NoTie_gh => k_is); (case x_NoTie_cl => k_is); (case x_NoTie_ob => k_is); (case x_NoTie_bx => k_is)
   (case ki_NoTree_NoTie => kit_is)
   (case ki_NoTree_ValueError => kit_is)
   (case em_NoTree => kts_exm)
   (case ki_NoTie_NoTree => kit_is)
   (case ki_NoTie_ValueError => kit_is)
   (case em_NoTie => kts_exm)
  have h_MOST_PLACES : ∃ tk, mg "MOST_PLACES" = some (.int 14 tk) := by
   refine' My.const_mk KX G ?a ?b
   (case a => k_is); (case b => exact ⟨_, rfl⟩)
  have h_MOST_TIES : ∃ tk, mg "MOST_TIES" = some (.int 30 tk) := by
   refine' My.const_mk KX G ?a ?b
   (case a => k_is); (case b => exact ⟨_, rfl⟩)
  have h_ValueError : mg "ValueError" = none := by
   refine' PySem.W.mg_none_of KX G ?a
   (case a => k_is)
  have h_enumerate : mg "enumerate" = none := by
   refine' PySem.W.mg_none_of KX G ?a
   (case a => k_is)
  have h_int : mg "int" = none := by
   refine' PySem.W.mg_none_of KX G ?a
   (case a => k_is)
  have h_isinstance : mg "isinstance" = none := by
   refine' PySem.W.mg_none_of KX G ?a
   (case a => k_is)
  have h_len : mg "len" = none := by
   refine' PySem.W.mg_none_of KX G ?a
   (case a => k_is)
  have h_list : mg "list" = none := by
   refine' PySem.W.mg_none_of KX G ?a
   (case a => k_is)
  have h_max : mg "max" = none := by
   refine' PySem.W.mg_none_of KX G ?a
   (case a => k_is)
  have h_min : mg "min" = none := by
   refine' PySem.W.mg_none_of KX G ?a
   (case a => k_is)
  have h_range : mg "range" = none := by
   refine' PySem.W.mg_none_of KX G ?a
   (case a => k_is)
  have h_reversed : mg "reversed" = none := by
   refine' PySem.W.mg_none_of KX G ?a
   (case a => k_is)
  have h_set : mg "set" = none := by
   refine' PySem.W.mg_none_of KX G ?a
   (case a => k_is)
  have h_sorted : mg "sorted" = none := by
   refine' PySem.W.mg_none_of KX G ?a
   (case a => k_is)
  have h_sum : mg "sum" = none := by
   refine' PySem.W.mg_none_of KX G ?a
   (case a => k_is)
  have h_tuple : mg "tuple" = none := by
   refine' PySem.W.mg_none_of KX G ?a
   (case a => k_is)
  obtain ⟨a_is_tie, d_is_tie, m_is_tie, f_is_tie⟩ := h_is_tie
  obtain ⟨a_refuse_bad_web, d_refuse_bad_web, m_refuse_bad_web, f_refuse_bad_web⟩ := h_refuse_bad_web
  obtain ⟨a_is_set, d_is_set, m_is_set, f_is_set⟩ := h_is_set
  obtain ⟨a_made_set, d_made_set, m_made_set, f_made_set⟩ := h_made_set
  obtain ⟨a_merged_marks, d_merged_marks, m_merged_marks, f_merged_marks⟩ := h_merged_marks
  obtain ⟨a_piece_marks, d_piece_marks, m_piece_marks, f_piece_marks⟩ := h_piece_marks
  obtain ⟨a_pieces_of, d_pieces_of, m_pieces_of, f_pieces_of⟩ := h_pieces_of
  obtain ⟨a_is_joined, d_is_joined, m_is_joined, f_is_joined⟩ := h_is_joined
  obtain ⟨a_is_tree, d_is_tree, m_is_tree, f_is_tree⟩ := h_is_tree
  obtain ⟨a_refuse_no_tree, d_refuse_no_tree, m_refuse_no_tree, f_refuse_no_tree⟩ := h_refuse_no_tree
  obtain ⟨a_ties_without, d_ties_without, m_ties_without, f_ties_without⟩ := h_ties_without
  obtain ⟨a_tree_cut, d_tree_cut, m_tree_cut, f_tree_cut⟩ := h_tree_cut
  obtain ⟨a_exchanged, d_exchanged, m_exchanged, f_exchanged⟩ := h_exchanged
  obtain ⟨a_walked, d_walked, m_walked, f_walked⟩ := h_walked
  obtain ⟨a_law_at, d_law_at, m_law_at, f_law_at⟩ := h_law_at
  obtain ⟨a_law_mix, d_law_mix, m_law_mix, f_law_mix⟩ := h_law_mix
  obtain ⟨a_law_web, d_law_web, m_law_web, f_law_web⟩ := h_law_web
  obtain ⟨a_law_marks, d_law_marks, m_law_marks, f_law_marks⟩ := h_law_marks
  obtain ⟨a_law_tree, d_law_tree, m_law_tree, f_law_tree⟩ := h_law_tree
  obtain ⟨a_law_trees, d_law_trees, m_law_trees, f_law_trees⟩ := h_law_trees
  obtain ⟨a_law_instead, d_law_instead, m_law_instead, f_law_instead⟩ := h_law_instead
  obtain ⟨a_law_exchanges, d_law_exchanges, m_law_exchanges, f_law_exchanges⟩ := h_law_exchanges
  obtain ⟨a_law_walk, d_law_walk, m_law_walk, f_law_walk⟩ := h_law_walk
  obtain ⟨a_law_due, d_law_due, m_law_due, f_law_due⟩ := h_law_due
  obtain ⟨a_law_bent, d_law_bent, m_law_bent, f_law_bent⟩ := h_law_bent
  obtain ⟨a_law_told, d_law_told, m_law_told, f_law_told⟩ := h_law_told
  obtain ⟨a_law, d_law, m_law, f_law⟩ := h_law
  obtain ⟨A_Web, a_Web___init, d_Web___init, c_Web, f_Web___init, cl_Web, k_Web, na_Web⟩ := h_Web
  obtain ⟨A_WebError, A_NoTree, A_NoTie, c_WebError, c_NoTree, c_NoTie, x_NoTree, x_NoTie, ki_NoTree_NoTie, ki_NoTree_ValueError, em_NoTree, ki_NoTie_NoTree, ki_NoTie_ValueError, em_NoTie⟩ := hX
  have T : My.Txt (L2.KOf KX) mg ⟨a_is_tie, d_is_tie, a_refuse_bad_web, d_refuse_bad_web, a_Web___init, d_Web___init, a_is_set, d_is_set, a_made_set, d_made_set, a_merged_marks, d_merged_marks, a_piece_marks, d_piece_marks, a_pieces_of, d_pieces_of, a_is_joined, d_is_joined, a_is_tree, d_is_tree, a_refuse_no_tree, d_refuse_no_tree, a_ties_without, d_ties_without, a_tree_cut, d_tree_cut, a_exchanged, d_exchanged, a_walked, d_walked, a_law_at, d_law_at, a_law_mix, d_law_mix, a_law_web, d_law_web, a_law_marks, d_law_marks, a_law_tree, d_law_tree, a_law_trees, d_law_trees, a_law_instead, d_law_instead, a_law_exchanges, d_law_exchanges, a_law_walk, d_law_walk, a_law_due, d_law_due, a_law_bent, d_law_bent, a_law_told, d_law_told, a_law, d_law, A_Web, A_WebError, A_NoTree, A_NoTie⟩ := ⟨f_is_tie, f_is_tie.binds (fun _ _ _ _ _ _ us hl => by obtain ⟨_, _, rfl⟩ := My.len2 hl; rfl), m_is_tie, f_refuse_bad_web, f_refuse_bad_web.binds (fun _ _ _ _ _ _ us hl => by obtain ⟨_, _, rfl⟩ := My.len2 hl; rfl), m_refuse_bad_web, f_Web___init, f_Web___init.binds (fun _ _ _ _ _ _ us hl => by obtain ⟨_, _, _, rfl⟩ := My.len3 hl; rfl), f_is_set, f_is_set.binds (fun _ _ _ _ _ _ us hl => by obtain ⟨_, _, rfl⟩ := My.len2 hl; rfl), m_is_set, f_made_set, f_made_set.binds (fun _ _ _ _ _ _ us hl => by obtain ⟨_, _, rfl⟩ := My.len2 hl; rfl), m_made_set, f_merged_marks, f_merged_marks.binds (fun _ _ _ _ _ _ us hl => by obtain ⟨_, _, _, rfl⟩ := My.len3 hl; rfl), m_merged_marks, f_piece_marks, f_piece_marks.binds (fun _ _ _ _ _ _ us hl => by obtain ⟨_, _, rfl⟩ := My.len2 hl; rfl), m_piece_marks, f_pieces_of, f_pieces_of.binds (fun _ _ _ _ _ _ us hl => by obtain ⟨_, _, rfl⟩ := My.len2 hl; rfl), m_pieces_of, f_is_joined, f_is_joined.binds (fun _ _ _ _ _ _ us hl => by obtain ⟨_, _, rfl⟩ := My.len2 hl; rfl), m_is_joined, f_is_tree, f_is_tree.binds (fun _ _ _ _ _ _ us hl => by obtain ⟨_, _, rfl⟩ := My.len2 hl; rfl), m_is_tree, f_refuse_no_tree, f_refuse_no_tree.binds (fun _ _ _ _ _ _ us hl => by obtain ⟨_, _, rfl⟩ := My.len2 hl; rfl), m_refuse_no_tree, f_ties_without, f_ties_without.binds (fun _ _ _ _ _ _ us hl => by obtain ⟨_, _, rfl⟩ := My.len2 hl; rfl), m_ties_without, f_tree_cut, f_tree_cut.binds (fun _ _ _ _ _ _ us hl => by obtain ⟨_, _, _, rfl⟩ := My.len3 hl; rfl), m_tree_cut, f_exchanged, f_exchanged.binds (fun _ _ _ _ _ _ us hl => by obtain ⟨_, _, _, _, rfl⟩ := My.len4 hl; rfl), m_exchanged, f_walked, f_walked.binds (fun _ _ _ _ _ _ us hl => by obtain ⟨_, _, _, rfl⟩ := My.len3 hl; rfl), m_walked, f_law_at, f_law_at.binds (fun _ _ _ _ _ _ us hl => by obtain ⟨_, _, rfl⟩ := My.len2 hl; rfl), m_law_at, f_law_mix, f_law_mix.binds (fun _ _ _ _ _ _ us hl => by obtain ⟨_, _, _, rfl⟩ := My.len3 hl; rfl), m_law_mix, f_law_web, f_law_web.binds (fun _ _ _ _ _ _ us hl => by obtain ⟨_, _, _, _, rfl⟩ := My.len4 hl; rfl), m_law_web, f_law_marks, f_law_marks.binds (fun _ _ _ _ _ _ us hl => by obtain ⟨_, _, rfl⟩ := My.len2 hl; rfl), m_law_marks, f_law_tree, f_law_tree.binds (fun _ _ _ _ _ _ us hl => by obtain ⟨_, _, _, rfl⟩ := My.len3 hl; rfl), m_law_tree, f_law_trees, f_law_trees.binds (fun _ _ _ _ _ _ us hl => by obtain ⟨_, _, rfl⟩ := My.len2 hl; rfl), m_law_trees, f_law_instead, f_law_instead.binds (fun _ _ _ _ _ _ us hl => by obtain ⟨_, _, rfl⟩ := My.len2 hl; rfl), m_law_instead, f_law_exchanges, f_law_exchanges.binds (fun _ _ _ _ _ _ us hl => by obtain ⟨_, _, _, rfl⟩ := My.len3 hl; rfl), m_law_exchanges, f_law_walk, f_law_walk.binds (fun _ _ _ _ _ _ us hl => by obtain ⟨_, _, _, _, rfl⟩ := My.len4 hl; rfl), m_law_walk, f_law_due, f_law_due.binds (fun _ _ _ _ _ _ us hl => by obtain ⟨_, _, _, _, rfl⟩ := My.len4 hl; rfl), m_law_due, f_law_bent, f_law_bent.binds (fun _ _ _ _ _ _ us hl => by obtain ⟨_, _, _, rfl⟩ := My.len3 hl; rfl), m_law_bent, f_law_told, f_law_told.binds (fun _ _ _ _ _ _ us hl => by obtain ⟨_, _, _, rfl⟩ := My.len3 hl; rfl), m_law_told, f_law, f_law.binds (fun _ _ _ _ _ _ us hl => by obtain ⟨_, rfl⟩ := My.len1 hl; rfl), m_law, c_Web, cl_Web, k_Web, na_Web _ (by simp), na_Web _ (by simp), c_WebError, c_NoTree, c_NoTie, x_NoTree, x_NoTie, ki_NoTree_NoTie, ki_NoTree_ValueError, em_NoTree, ki_NoTie_NoTree, ki_NoTie_ValueError, em_NoTie, h_MOST_PLACES, h_MOST_TIES, h_ValueError, h_enumerate, h_int, h_isinstance, h_len, h_list, h_max, h_min, h_range, h_reversed, h_set, h_sorted, h_sum, h_tuple⟩
  have e0 := hmg.symm.trans m_law
  cases e0
  exact ⟨d_law, fun s u => My.law_binds f_law s u, fun base _ _ => My.ok_law T⟩
#print axioms PySem.Challenge.cw_spanrow_k48_walks_walked_holds
