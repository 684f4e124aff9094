import PyProof.Rows.All
import Wide.All
import OpenK.AllK
import Wide.FinOn
import Lean
import PyProof.EqAt
import PyProof.EqKinds
import PyProof.TupleCall
import PySem.Challenge.RW_spanrow_k51_whole_walks_of_great_webs
set_option Elab.async false
set_option linter.all false
set_option maxRecDepth 100000
namespace PySem.W.Fast
def tw16388266392330434143:=0
def tw1569892533144166572:=0
def tw1920643076242890065:=0
def tw10962257017927181375:=0
def tw286819939011361358:=0
def tw247348714177197183:=0
def tw17061435456513229:=0
def tw1257567716222770131:=0
def tw12588821762554011713:=0
def tw9121698367300166018:=0
def tw3914783310043823555:=0
def tw25821835020534998:=0
def tw6890836291549628570:=0
def tw14313320583120046656:=0
def tw13614687086959639037:=0
def tw7707327411645961780:=0
def tw7537092023898599660:=0
def tw2809685919386790410:=0
def tw995085918702598209:=0
def tw1880989749725112994:=0
def tw16104819130072841575:=0
def tw14081362174744407614:=0
def tw9679838624377162229:=0
def tw10366843957723029798:=0
def tw14433799909248668127:=0
def tw3635159877422269468:=0
def tw10500888075743636374:=0
def tw16561075630220587378:=0
def tw8595285235493929110:=0
def tw11270714760176634680:=0
def tw7183578204672322625:=0
def tw2627276858282430272:=0
def tw18075508821901183817:=0
def tw10521544306151775917:=0
def tw9230113371993324129:=0
def tw15198101176560670199:=0
def tw9843995922610551617:=0
def tw332106261195675985:=0
def tw18290897183157415:=0
def tw6173511117225761666:=0
def tw12928514479406875053:=0
def tw15248694661259309044:=0
def tw10331432581979724880:=0
def tw17796812696805443578:=0
def tw13260135133898184331:=0
def tw16474220561994358857:=0
def tw16640104467900388979:=0
def tw5795433274108098498:=0
def tw8174547772579844016:=0
def tw9179966967915876525:=0
def tw2712371455324211058:=0
def tw5045729251012347841:=0
def tw10694646279357400130:=0
def tw13567727232896878919:=0
def tw4646402837934617625:=0
def tw7815425587353850688:=0
def tw5065739286947127024:=0
def tw3604674291948201607:=0
def tw3866040813089200572:=0
def tw11181685190927737782:=0
def tw13862921948371907125:=0
def tw10547459936170319079:=0
def tw6652704100226156655:=0
def tw9888938471485336327:=0
def tw12002705813562954398:=0
def tw17568367593976501895:=0
def tw10627610716629868135:=0
def tw5425350564673853941:=0
def tw5907570681630297992:=0
def tw3639748545869674103:=0
def tw154177284907047585:=0
def tw11642074184664860254:=0
def tw447297068727516542:=0
def tw2009010943905863313:=0
def tw14498825339725010424:=0
def tw7259016155734834463:=0
def tw2960797820773511436:=0
def tw7046601898227691961:=0
def tw4551769792470647235:=0
def tw12002700907221783730:=0
def tw7165697145346967097:=0
def tw11896522668763049387:=0
def tw14175922063288799054:=0
def tw1655751018514625295:=0
def tw11398025787218979241:=0
def tw18445363072167123022:=0
def tw4428654419710429439:=0
def tw3474107003452345544:=0
def tw17991458045362210009:=0
def tw4478704983728535256:=0
def tw4967545468822860100:=0
def tw3497676782904933500:=0
def tw7405708085592136522:=0
def tw3742851001111986280:=0
def tw14129350601872480009:=0
def tw6749616235049545008:=0
def tw14075688725885614663:=0
def tw11691653692937924999:=0
def tw10150486672926552560:=0
def tw11816202986016491355:=0
def tw15839396076327382626:=0
def tw6238453855857973445:=0
def tw13910140613940233141:=0
def tw8432255595017222557:=0
def tw18443601658688580592:=0
def tw14986199824190062833:=0
def tw10969728998927107548:=0
def tw8969508297600757153:=0
def tw7719833504238702807:=0
def tw4867892360309902169:=0
def tw11399383581724097100:=0
def tw9565819116026520813:=0
def tw3904725614867018532:=0
def tw114539279118173537:=0
def tw16688671701759227014:=0
def tw13264516474035817569:=0
def tw14646033212676975529:=0
def tw9776653818488077448:=0
def tw11233763296287314920:=0
def tw446086712167617406:=0
def tw13176012843874565115:=0
def tw9577622972399407676:=0
def tw4968630144900384219:=0
def tw7537336933464562573:=0
def tw5548634456190726191:=0
def tw694620147106896360:=0
def tw2567014084965357722:=0
def tw14896371401439026448:=0
def tw10038222283501714059:=0
def tw2323360380109806476:=0
def tw1237471227801536022:=0
def tw15889208174494620535:=0
def tw8227130271871487930:=0
def tw1383561817338170445:=0
def tw14711488925455971215:=0
def tw8231383855678886981:=0
def tw3443223039105914203:=0
def tw693079373878143975:=0
def tw17995883692300613279:=0
def tw1267922583833182022:=0
def tw13594391263772252222:=0
def tw9715739692534361994:=0
def tw14460087824435919443:=0
def tw1184748593104284859:=0
def tw10493206355889251923:=0
def tw9616862737854792993:=0
def tw5688248341526191160:=0
def tw2111499122565777507:=0
def tw12549781486695575696:=0
def tw993480244192347028:=0
def tw2792053608202262264:=0
def tw740461933279578665:=0
def tw15918968004680332600:=0
def tw11677445563815218042:=0
def tw17998434659840972951:=0
def tw2441293697941040099:=0
def tw16754507617082280249:=0
def tw891086714956846964:=0
def tw17693727234533460655:=0
def tw13372789725264561660:=0
def tw5800603939800419637:=0
def tw13530806442643428123:=0
def tw6099765955372483518:=0
def tw13618877289271357678:=0
def tw8298952665410289412:=0
def tw13642641564454087148:=0
def tw2952788283291146844:=0
def tw15444872814669290633:=0
def tw13420180222600284612:=0
def tw1264458475819212801:=0
def tw12627574864420321055:=0
def tw11916844251286654702:=0
def tw5533471487273012013:=0
def tw3052658707367243714:=0
def tw2760882312398521635:=0
def tw16712608846685761562:=0
def tw13964302528203388415:=0
def tw10554458415383002964:=0
def tw3474333605103090064:=0
def tw16201379646603557683:=0
def tw10966002041721062060:=0
def tw14157248105480050038:=0
def tw9320502656386052472:=0
def tw6857473116279779930:=0
def tw5950142027176004818:=0
def tw4118334844055800153:=0
def tw188160658798050392:=0
def tw17290323948697306737:=0
def tw7985889816790096186:=0
def tw8032620128732971809:=0
def tw7258928840161087608:=0
def tw15596057753286510135:=0
def tw11511974048691477907:=0
def tw10804931150600430790:=0
def tw10732688193772715052:=0
def tw1777946969603589988:=0
def tw5827050310000018697:=0
def tw4647060640614112687:=0
def tw16105401347961796471:=0
def tw1269443006418230520:=0
def tw4075980709474120425:=0
def tw3746375006187519296:=0
def tw18181858204898007483:=0
def tw17784872520015335246:=0
def tw15424214436442600994:=0
def tw14675212070838269906:=0
def tw9853660718783428339:=0
def tw9498005462606013958:=0
def tw8804751162688351495:=0
def tw8153209128296937854:=0
def tw8117564784295696203:=0
def tw8015716206870701410:=0
def tw7681449189397147436:=0
def tw7403561232490924070:=0
def tw7164048146887168141:=0
def tw6626197880030691040:=0
def tw6591392977379157860:=0
def tw6440998422699484317:=0
def tw5751595190084594512:=0
def tw533402296347634681:=0
def tw5086866477521825005:=0
def tw4832598201431880839:=0
def tw4653743552344457760:=0
def tw4394319468181676621:=0
def tw4183614689159089967:=0
def tw4076773411900609695:=0
def tw3643149542712423732:=0
def tw310771753689533597:=0
def tw2972300805073937078:=0
def tw2879022694288406920:=0
def tw2430232958038972376:=0
def tw1906008966001346653:=0
def tw18411232788539862546:=0
def tw18177240753887870865:=0
def tw17966542492888626858:=0
def tw17773467469312011059:=0
def tw17496871617653889385:=0
def tw17190417775748478791:=0
def tw17148722634693346754:=0
def tw16470742966884644322:=0
def tw16140350598808668660:=0
def tw16110893634091059808:=0
def tw16003938641728950796:=0
def tw15811012141290769980:=0
def tw15603703380609197419:=0
def tw15440076839020658236:=0
def tw15285312864191313979:=0
def tw15277190257815024361:=0
def tw14686498671354059063:=0
def tw14143541529888328001:=0
def tw13768478312843225050:=0
def tw13619809365913687836:=0
def tw13372461563157191782:=0
def tw13240267606114556099:=0
def tw13160797344559783988:=0
def tw13101436500097578081:=0
def tw12702378515986128525:=0
def tw12644539984738557954:=0
def tw1245641706518426495:=0
def tw1238475189039913534:=0
def tw12071938821212498867:=0
def tw1191195339803402800:=0
def tw11902802360109850062:=0
def tw11409122953959262597:=0
def tw11346368639153909696:=0
def tw10283733176661473479:=0
def tw10238123896567063002:=0
def tw10124922867241198051:=0
end PySem.W.Fast
/-! THE HAND LAYER, for ints, bools, texts, own classes, LISTS and tuples (index, slices, in, append, pop ..), calls, loops. Paste it whole ahead of your own text; what your proof does not reach may be deleted. -/
namespace L2
open PySem PySem.Spec PyProof.Rows

/-- a key: an int or a str -/
abbrev Key := Sum Int Str
def keyIs : Key → Value → Bool
  | .inl k, v => Value.isInt k v
  | .inr x, v => Value.isStrOf x v
def keyH (w : World) : Key → Int
  | .inl k => hashInt k
  | .inr x => hashStr w x
theorem keyIs_shape : ∀ {k : Key} {v : Value}, keyIs k v = true → (∃ i t, k = Sum.inl i ∧ v = Value.int i t) ∨ (∃ x t, k = Sum.inr x ∧ v = Value.str x t)
  | .inl i, v, h => by
    obtain ⟨t, e⟩ := Value.isInt_shape (k := i) (v := v) h
    exact .inl ⟨i, t, rfl, e⟩
  | .inr x, v, h => by
    obtain ⟨t, e⟩ := Value.isStrOf_shape (x := x) (v := v) h
    exact .inr ⟨x, t, rfl, e⟩
theorem keyIs_int (i : Int) (t : Tok) : keyIs (.inl i) (.int i t) = true := by simp [keyIs, Value.isInt]
theorem keyIs_str (x : Str) (t : Tok) : keyIs (.inr x) (.str x t) = true := by simp [keyIs, Value.isStrOf]
theorem key_ll (a b : Int) : decide ((Sum.inl a : Key) = Sum.inl b) = (a == b) := by
  by_cases e : a = b
  · subst e; simp
  · have h : ¬ (Sum.inl a : Key) = Sum.inl b := fun q => e (Sum.inl.inj q)
    rw [decide_eq_false h]
    exact (beq_eq_false_iff_ne.mpr e).symm
theorem key_rr (a b : Str) : decide ((Sum.inr a : Key) = Sum.inr b) = decide (a = b) := by
  by_cases e : a = b
  · subst e; simp
  · have h : ¬ (Sum.inr a : Key) = Sum.inr b := fun q => e (Sum.inr.inj q)
    rw [decide_eq_false h, decide_eq_false e]
theorem key_lr (a : Int) (b : Str) : decide ((Sum.inl a : Key) = Sum.inr b) = false := decide_eq_false (fun q => nomatch q)
theorem key_rl (a : Str) (b : Int) : decide ((Sum.inr a : Key) = Sum.inl b) = false := decide_eq_false (fun q => nomatch q)

def mixKind (prog : Program) (w : World) : PySem.KeyKind prog w Key where
  is := keyIs
  hash := keyH w
  inj := fun v a b ha hb => by
    rcases keyIs_shape ha with ⟨i, t, rfl, rfl⟩ | ⟨x, t, rfl, rfl⟩
    · rcases keyIs_shape hb with ⟨j, u, rfl, e⟩ | ⟨y, u, rfl, e⟩
      · injection e with e1 _; rw [e1]
      · exact nomatch e
    · rcases keyIs_shape hb with ⟨j, u, rfl, e⟩ | ⟨y, u, rfl, e⟩
      · exact nomatch e
      · injection e with e1 _; rw [e1]
  byValue := fun k v h => by
    rcases keyIs_shape h with ⟨i, t, rfl, rfl⟩ | ⟨x, t, rfl, rfl⟩ <;> rfl
  pyHash := fun hv h => by
    rcases keyIs_shape hv with ⟨i, t, rfl, rfl⟩ | ⟨x, t, rfl, rfl⟩
    · exact wpAny_pyHash_int h
    · exact wpAny_pyHash_str h
  eqBool := fun hu hv h => by
    rcases keyIs_shape hu with ⟨i, t, rfl, rfl⟩ | ⟨x, t, rfl, rfl⟩
    · rcases keyIs_shape hv with ⟨j, u, rfl, rfl⟩ | ⟨y, u, rfl, rfl⟩
      · rw [key_ll] at h; exact wpAny_eqBool_int h
      · rw [key_lr] at h; exact SeqAt.EqAt.int_str i t y u _ _ _ _ h
    · rcases keyIs_shape hv with ⟨j, u, rfl, rfl⟩ | ⟨y, u, rfl, rfl⟩
      · rw [key_rl] at h; exact SeqAt.EqAt.str_int x t j u _ _ _ _ h
      · rw [key_rr] at h; exact wpAny_eqBool_str h
  «strs» := fun k x t v h => by
    rcases keyIs_shape h with ⟨i, u, rfl, e⟩ | ⟨y, u, rfl, e⟩
    · exact nomatch e
    · injection e with e1 _
      subst e1
      cases v <;> rfl

theorem mixKind_int (prog : Program) (w : World) (i : Int) (t : Tok) : (mixKind prog w).is (.inl i) (.int i t) = true := keyIs_int i t
theorem mixKind_str (prog : Program) (w : World) (x : Str) (t : Tok) : (mixKind prog w).is (.inr x) (.str x t) = true := keyIs_str x t
end L2

namespace L2
open PySem PySem.Spec PyProof.Rows

/-- a value, without the heap -/
inductive V where
  | non | bl (b : Bool) | int (i : Int) | str (x : Str) | byt (b : Array UInt8) | flt (b : UInt64) | ref (a : Addr) | ty (n : String)
  deriving DecidableEq

def RelV : V → Value → Prop
  | .non, u => u = Value.none
  | .bl b, u => u = Value.bool b
  | .int i, u => ∃ t, u = Value.int i t
  | .str x, u => ∃ t, u = Value.str x t
  | .byt b, u => ∃ t, u = Value.bytes b t
  | .flt b, u => ∃ t, u = Value.float b t
  | .ref a, u => u = Value.ref a
  | .ty n, u => u = Value.type n

abbrev Vals : List V → List Value → Prop := Paired RelV
theorem Vals.length {xs : List V} {us : List Value} (r : Vals xs us) : xs.length = us.length := Paired.length r
theorem Vals.get : ∀ {xs : List V} {us : List Value} {i : Nat} {x : V}, Vals xs us → xs[i]? = some x → ∃ u, us[i]? = some u ∧ RelV x u
  | _, _, _, _, .nil, e => by simp at e
  | _, _, 0, _, .cons r _, e => by simp at e; subst e; exact ⟨_, rfl, r⟩
  | _, _, i + 1, x, .cons _ t, e => by
    obtain ⟨u, h1, h2⟩ := Vals.get (i := i) (x := x) t (by simpa using e)
    exact ⟨u, by simpa using h1, h2⟩
theorem Vals.set {x : V} {u : Value} (r : RelV x u) : ∀ {xs : List V} {us : List Value} (i : Nat), Vals xs us → Vals (xs.set i x) (us.set i u)
  | _, _, _, .nil => .nil
  | _, _, 0, .cons _ t => .cons r t
  | _, _, i + 1, .cons q t => .cons q (Vals.set r i t)
theorem Vals.append : ∀ {xs ys : List V} {us ws : List Value}, Vals xs us → Vals ys ws → Vals (xs ++ ys) (us ++ ws)
  | _, _, _, _, .nil, s => s
  | _, _, _, _, .cons r t, s => .cons r (Vals.append t s)
theorem Vals.take : ∀ {xs : List V} {us : List Value} (n : Nat), Vals xs us → Vals (xs.take n) (us.take n)
  | _, _, 0, _ => .nil
  | _, _, _ + 1, .nil => .nil
  | _, _, n + 1, .cons r t => .cons r (Vals.take n t)
theorem Vals.drop : ∀ {xs : List V} {us : List Value} (n : Nat), Vals xs us → Vals (xs.drop n) (us.drop n)
  | _, _, 0, r => r
  | _, _, _ + 1, .nil => .nil
  | _, _, n + 1, .cons _ t => Vals.drop n t
def RelO : Option V → Option Value → Prop
  | some v, some u => RelV v u
  | none, none => True
  | _, _ => False
def KV {κ : Type} : List (κ × V) → List (κ × Value) → Prop := Paired fun (p : κ × V) (q : κ × Value) => p.1 = q.1 ∧ RelV p.2 q.2

/-- a key of a dict (00_mix): an int or a text -/
def kV : Key → V
  | .inl i => .int i
  | .inr x => .str x

/-- what stands at a tracked address -/
inductive HO where
  /-- a list -/
  | lst (xs : List V)
  /-- a tuple (never changes) -/
  | tup (xs : List V)
  /-- a dict whose keys are ints and texts; one whose keys are tuples of ints and texts (the empty one is both) -/
  | dK (kvs : List (Key × V)) | dT (kvs : List (List Key × V))
  /-- a set of ints: its members, its size -/
  | set (S : Int → Bool) (n : Nat)
  /-- an instance of the class at C, its dict at dx, its attributes -/
  | ins (C dx : Addr) (fs : List (Str × V))
  /-- the dict of the instance at x -/
  | own (x : Addr)
  /-- the dict of an exception -/
  | xd (fs : List (Str × V))
  /-- a bound method, f of x -/
  | met (f x : Addr)
  /-- a range object lo, lo + 1, .. below hi -/
  | rng (lo hi : Int)
  /-- a thing that is known to the object (the script; a dict while a loop walks it): read, never written while it is so -/
  | frz (o : Obj) (u : HO)
  /-- a code object's table -/
  | tbl (ps : Array Value)
  /-- any other thing, by what is true of its one object (a def of one's own: SetO a S n := HO.ext fun h => ..) -/
  | ext (φ : Heap → Prop)

abbrev Hp := Addr → Option HO
def upd (H : Hp) (a : Addr) (o : HO) : Hp := fun b => if b = a then some o else H b
theorem upd_same {H : Hp} {a : Addr} {o : HO} : upd H a o a = some o := by unfold upd; rw [if_pos rfl]
theorem upd_ne {H : Hp} {a b : Addr} {o : HO} (h : b ≠ a) : upd H a o b = H b := by unfold upd; rw [if_neg h]
/-- two objects of different content stand apart -/
theorem ne_of {H : Hp} {a b : Addr} {o u : HO} (h : H a = some o) (h' : H b = some u) (d : o ≠ u) : a ≠ b := by
  intro e; subst e; rw [h] at h'; exact d (Option.some.inj h')
theorem ne_of_none {H : Hp} {a b : Addr} {o : HO} (h : H a = some o) (h' : H b = none) : a ≠ b := by
  intro e; subst e; rw [h] at h'; cases h'

section
variable (P : Program) (w : World)
def ObjOk (H : Hp) (h : Heap) (a : Addr) : HO → Prop
  | .lst xs => xs.length ≤ sizeLine ∧ ∃ (its : List Value) (n : Nat), Vals xs its ∧ h.get? a = some { cls := .type "list", data := .seq its.toArray n }
  | .tup xs => xs.length ≤ sizeLine ∧ ∃ its : List Value, Vals xs its ∧ IsTup h a its.toArray
  | .dK kvs => kvs.length ≤ sizeLine ∧ (a == sysModules) = false ∧ ∃ vs, KV kvs vs ∧ h.DictOf (mixKind P w) a vs
  | .dT kvs => kvs.length ≤ sizeLine ∧ (a == sysModules) = false ∧ ∃ xs : List (List Key × Addr × Value),
      Paired (fun (p : List Key × V) (q : List Key × Addr × Value) => p.1 = q.1 ∧ H q.2.1 = some (.tup (p.1.map kV)) ∧ RelV p.2 q.2.2) kvs xs ∧
      ∃ o es ep, h.get? a = some o ∧ o.ExactDict ∧ o.data = .dict es ep ∧ es.toList = xs.map (entryOfKey (tupleKind (mixKind P w))) ∧ (xs.map (·.1)).Nodup
  | .set S n => h.SetOf (intKind P w) a S n
  | .ins C dx fs => H dx = some (.own a) ∧ fs.length ≤ 1000 ∧ dx ≠ a ∧ h.get? a = some (PySem.W.instObj C dx) ∧
      ∃ mA, h.Ns1 dx mA ∧ (∀ f, RelO (fs.lookup f) (mA f)) ∧ PySem.Within mA (fs.map (·.1))
  | .own _ => ∃ o, h.get? a = some o
  | .xd fs => ∃ mA, h.Ns1 a mA ∧ ∀ f, RelO (fs.lookup f) (mA f)
  | .rng lo hi => ∃ t u v, h.get? a = some { cls := .type "range", data := .fields #[.int lo t, .int hi u, .int 1 v] }
  | .frz o u => h.get? a = some o ∧ ObjOk H h a u
  | .tbl ps => h.get? a = some { cls := .none, data := .fields ps }
  | .met f x => h.get? a = some (PySem.W.methodObj (.ref f) (.ref x))
  | .ext φ => φ h ∧ (∃ o, h.get? a = some o) ∧ ∀ h1 h2 : Heap, φ h1 → (∀ o, h1.get? a = some o → h2.get? a = some o) → φ h2
/-- the abstract heap is held -/
def HOk (H : Hp) (h : Heap) : Prop := ∀ a o, H a = some o → ObjOk P w H h a o
end

section
variable {P : Program} {w : World} {H H' : Hp} {h h' : Heap} {a : Addr} {o : HO}
theorem ObjOk.lt (x : ObjOk P w H h a o) : a < h.objs.size := by
  cases o with
  | lst xs => obtain ⟨_, _, _, _, e⟩ := x; exact Heap.lt_size e
  | tup xs => obtain ⟨_, _, _, p⟩ := x; exact p.lt
  | dK kvs => obtain ⟨_, _, _, _, o, _, _, e, _⟩ := x; exact Heap.lt_size e
  | dT kvs => obtain ⟨_, _, _, _, o, _, _, e, _⟩ := x; exact Heap.lt_size e
  | set S n => obtain ⟨o, _, _, _, e, _⟩ := x; exact Heap.lt_size e
  | ins C dx fs => obtain ⟨_, _, _, e, _⟩ := x; exact Heap.lt_size e
  | own y => obtain ⟨_, e⟩ := x; exact Heap.lt_size e
  | xd fs => obtain ⟨_, ⟨_, _, _, e, _⟩, _⟩ := x; exact Heap.lt_size e
  | rng lo hi => obtain ⟨_, _, _, e⟩ := x; exact Heap.lt_size e
  | frz ob u => obtain ⟨e, _⟩ := x; exact Heap.lt_size e
  | tbl ps => exact Heap.lt_size (show h.get? a = some _ from x)
  | met f y => exact Heap.lt_size (show h.get? a = some _ from x)
  | ext φ => obtain ⟨_, ⟨_, e⟩, _⟩ := x; exact Heap.lt_size e
theorem Paired.mapP {α β : Type} {F G : α → β → Prop} : ∀ {l₁ : List α} {l₂ : List β}, Paired F l₁ l₂ → (∀ a b, F a b → G a b) → Paired G l₁ l₂
  | _, _, .nil, _ => .nil
  | _, _, .cons r t, f => .cons (f _ _ r) (Paired.mapP t f)
/-- what an object's description leans on: its own object, its own dict, the tuples -/
theorem ObjOk.stay (x : ObjOk P w H h a o) (k : ∀ b u, (b = a ∨ H b = some (.own a)) → h.get? b = some u → h'.get? b = some u)
    (ho : ∀ b, H b = some (.own a) → H' b = some (.own a)) (ht : ∀ b xs, H b = some (.tup xs) → H' b = some (.tup xs)) : ObjOk P w H' h' a o := by
  induction o with
  | lst xs => obtain ⟨z, its, n, r, e⟩ := x; exact ⟨z, its, n, r, k _ _ (.inl rfl) e⟩
  | tup xs => obtain ⟨z, its, r, ob, e, c⟩ := x; exact ⟨z, its, r, ob, k _ _ (.inl rfl) e, c⟩
  | dK kvs => obtain ⟨z, y, vs, r, ob, es, ep, e, c⟩ := x; exact ⟨z, y, vs, r, ob, es, ep, k _ _ (.inl rfl) e, c⟩
  | dT kvs =>
    obtain ⟨z, y, xs, r, ob, es, ep, e, c⟩ := x
    exact ⟨z, y, xs, Paired.mapP r fun p q z => ⟨z.1, ht _ _ z.2.1, z.2.2⟩, ob, es, ep, k _ _ (.inl rfl) e, c⟩
  | set S n => obtain ⟨ob, es, ep, t, e, c⟩ := x; exact ⟨ob, es, ep, t, k _ _ (.inl rfl) e, c⟩
  | ins C dx fs =>
    obtain ⟨d, z, ne, e, mA, ⟨od, es, ep, e2, c⟩, r⟩ := x
    exact ⟨ho _ d, z, ne, k _ _ (.inl rfl) e, mA, ⟨od, es, ep, k _ _ (.inr d) e2, c⟩, r⟩
  | own y => obtain ⟨ob, e⟩ := x; exact ⟨ob, k _ _ (.inl rfl) e⟩
  | xd fs => obtain ⟨mA, ⟨od, es, ep, e, c⟩, r⟩ := x; exact ⟨mA, ⟨od, es, ep, k _ _ (.inl rfl) e, c⟩, r⟩
  | rng lo hi => obtain ⟨t, u, v, e⟩ := x; exact ⟨t, u, v, k _ _ (.inl rfl) e⟩
  | frz ob u ih => obtain ⟨e, q⟩ := x; exact ⟨k _ _ (.inl rfl) e, ih q⟩
  | tbl ps =>
    have e : h.get? a = some { cls := .none, data := .fields ps } := x
    show h'.get? a = some { cls := .none, data := .fields ps }
    exact k a _ (.inl rfl) e
  | met f y =>
    have e : h.get? a = some (PySem.W.methodObj (.ref f) (.ref y)) := x
    show h'.get? a = some (PySem.W.methodObj (.ref f) (.ref y))
    exact k a _ (.inl rfl) e
  | ext φ => obtain ⟨p, ⟨o, e⟩, st⟩ := x; exact ⟨st _ _ p fun o q => k _ _ (.inl rfl) q, ⟨o, k _ _ (.inl rfl) e⟩, st⟩
theorem HOk.lt (x : HOk P w H h) (e : H a = some o) : a < h.objs.size := (x a o e).lt
theorem HOk.fresh (x : HOk P w H h) (e : h.objs.size ≤ a) : H a = none := by
  cases q : H a with
  | none => rfl
  | some u => exact absurd (Nat.lt_of_lt_of_le (x.lt q) e) (Nat.lt_irrefl _)
/-- every object of the heap is kept -/
theorem HOk.kept (x : HOk P w H h) (k : ∀ b u, h.get? b = some u → h'.get? b = some u) : HOk P w H h' := fun a o e =>
  (x a o e).stay (fun b u _ q => k b u q) (fun _ q => q) fun _ _ q => q
/-- a new object is laid and tracked -/
theorem HOk.laid (x : HOk P w H h) (k : ∀ b u, h.get? b = some u → h'.get? b = some u) (hp : h.objs.size ≤ a) (new : ObjOk P w (upd H a o) h' a o) : HOk P w (upd H a o) h' := fun b u e => by
  have hn := x.fresh hp
  by_cases hb : b = a
  · subst hb; rw [upd_same] at e; cases e; exact new
  · rw [upd_ne hb] at e
    exact (x b u e).stay (fun c v _ q => k c v q) (fun c q => by rw [upd_ne (ne_of_none q hn)]; exact q) fun c xs q => by rw [upd_ne (ne_of_none q hn)]; exact q
end

/-- what may be read as u: it is u, or a known u -/
def Rd (H : Hp) (a : Addr) (u : HO) : Prop := H a = some u ∨ ∃ o, H a = some (.frz o u)
theorem Rd.ok {P : Program} {w : World} {H : Hp} {h : Heap} {a : Addr} {u : HO} (r : Rd H a u) (x : HOk P w H h) : ObjOk P w H h a u := by
  rcases r with r | ⟨o, r⟩
  · exact x a u r
  · obtain ⟨_, q⟩ := x a _ r
    exact q
/-- what may be written -/
def Mut : Option HO → Prop
  | some (.lst _) => True
  | some (.dK _) => True
  | some (.dT _) => True
  | some (.set _ _) => True
  | some (.ins _ _ _) => True
  | some (.ext _) => True
  | _ => False
section
variable {P : Program} {w : World} {H : Hp} {h h' : Heap} {x e : Addr} {o' : HO}
/-- the object at e is changed: x itself, or the dict of the instance x -/
theorem HOk.write (ok : HOk P w H h) (mu : Mut (H x)) (he : e = x ∨ H e = some (.own x)) (k : ∀ b u, b ≠ e → h.get? b = some u → h'.get? b = some u) (heo : ∃ u, h'.get? e = some u)
    (new : ObjOk P w (upd H x o') h' x o') : HOk P w (upd H x o') h' := fun b u q => by
  have nown : ∀ c y, H c = some (.own y) → c ≠ x := fun c y r z => by subst z; rw [r] at mu; exact mu
  have ntup : ∀ c xs, H c = some (.tup xs) → c ≠ x := fun c xs r z => by subst z; rw [r] at mu; exact mu
  by_cases hb : b = x
  · subst hb; rw [upd_same] at q; cases q; exact new
  · rw [upd_ne hb] at q
    by_cases hbe : b = e
    · have q' : H b = some (.own x) := by
        rcases he with z | z
        · exact absurd (hbe.trans z) hb
        · rw [hbe]; exact z
      rw [q] at q'; cases q'
      obtain ⟨v, hv⟩ := heo
      exact ⟨v, by rw [hbe]; exact hv⟩
    · refine (ok b u q).stay (fun c v hc r => k c v ?_ r) (fun c r => by rw [upd_ne (nown c b r)]; exact r) fun c xs r => by rw [upd_ne (ntup c xs r)]; exact r
      rcases hc with rfl | hc
      · exact hbe
      · rintro rfl
        rcases he with z | z
        · exact nown c b hc z
        · rw [hc] at z; cases z; exact hb rfl
end

/-! ### kept unless tracked; of the frames at fs (the callers') the slots may change (an exception that passes writes there); of the records at ex (iterators) nothing is said -/
structure Un (fs ex : List Addr) (H H' : Hp) (h h' : Heap) : Prop where
  keep : ∀ b o, h.get? b = some o → H b = none → b ∉ fs → b ∉ ex → h'.get? b = some o
  slot : ∀ b o, h.get? b = some o → H b = none → b ∈ fs → b ∉ ex → ∃ sl, h'.get? b = some { o with slots := sl }
  free : ∀ b o, h.get? b = some o → H b = none → b ∉ ex → H' b = none
  there : ∀ b o, h.get? b = some o → b ∉ ex → ∃ o', h'.get? b = some o'
  tups : ∀ b xs, H b = some (.tup xs) → H' b = some (.tup xs)
  frzs : ∀ b o u, H b = some (.frz o u) → H' b = some (.frz o u)
  tbls : ∀ b ps, H b = some (.tbl ps) → ∃ more, H' b = some (.tbl (ps ++ more))
section
variable {fs fs' ex ex' : List Addr} {H H1 H2 : Hp} {h h1 h2 h' : Heap} {a x e : Addr} {o : HO}
theorem Un.any (u : Un fs ex H H1 h h1) {b : Addr} {ob : Obj} (q : h.get? b = some ob) (n : H b = none) (hx : b ∉ ex) : ∃ sl, h1.get? b = some { ob with slots := sl } := by
  by_cases hb : b ∈ fs
  · exact u.slot b ob q n hb hx
  · exact ⟨ob.slots, u.keep b ob q n hb hx⟩
theorem Un.trans (a : Un fs ex H H1 h h1) (b : Un fs ex H1 H2 h1 h2) : Un fs ex H H2 h h2 where
  keep := fun c ob q n hc hx => b.keep c ob (a.keep c ob q n hc hx) (a.free c ob q n hx) hc hx
  slot := fun c ob q n hc hx => by
    obtain ⟨sl, e1⟩ := a.slot c ob q n hc hx
    obtain ⟨sl', e2⟩ := b.slot c _ e1 (a.free c ob q n hx) hc hx
    exact ⟨sl', e2⟩
  free := fun c ob q n hx => by
    obtain ⟨o', e1⟩ := a.there c ob q hx
    exact b.free c o' e1 (a.free c ob q n hx) hx
  there := fun c ob q hx => by
    obtain ⟨o', e1⟩ := a.there c ob q hx
    exact b.there c o' e1 hx
  tups := fun c xs q => b.tups c xs (a.tups c xs q)
  frzs := fun c ob xs q => b.frzs c ob xs (a.frzs c ob xs q)
  tbls := fun c ps q => by
    obtain ⟨m1, e1⟩ := a.tbls c ps q
    obtain ⟨m2, e2⟩ := b.tbls c _ e1
    exact ⟨m1 ++ m2, by rw [e2, Array.append_assoc]⟩
theorem Un.kept (k : ∀ b u, h.get? b = some u → h'.get? b = some u) : Un fs ex H H h h' :=
  ⟨fun b ob q _ _ _ => k b ob q, fun b ob q _ _ _ => ⟨ob.slots, k b ob q⟩, fun _ _ _ n _ => n, fun b ob q _ => ⟨ob, k b ob q⟩, fun _ _ q => q, fun _ _ _ q => q, fun _ ps q => ⟨#[], by rw [q]; simp⟩⟩
theorem Un.refl : Un fs ex H H h h := Un.kept fun _ _ q => q
theorem Un.laid (k : ∀ b u, h.get? b = some u → h'.get? b = some u) (hp : h.objs.size ≤ a) (hn : H a = none) : Un fs ex H (upd H a o) h h' where
  keep := fun b u q _ _ _ => k b u q
  slot := fun b u q _ _ _ => ⟨u.slots, k b u q⟩
  free := fun b u q n _ => by rw [upd_ne (Nat.ne_of_lt (Nat.lt_of_lt_of_le (Heap.lt_size q) hp))]; exact n
  there := fun b u q _ => ⟨u, k b u q⟩
  tups := fun b xs q => by rw [upd_ne (ne_of_none q hn)]; exact q
  frzs := fun b u xs q => by rw [upd_ne (ne_of_none q hn)]; exact q
  tbls := fun b ps q => ⟨#[], by rw [upd_ne (ne_of_none q hn), q]; simp⟩
theorem Un.write (mu : Mut (H x)) (he : e = x ∨ H e = some (.own x)) (k : ∀ b u, b ≠ e → h.get? b = some u → h'.get? b = some u) (heo : ∃ u, h'.get? e = some u) : Un fs ex H (upd H x o) h h' := by
  have hx : ∀ b, H b = none → b ≠ x := fun b n z => by subst z; rw [n] at mu; exact mu
  have hb : ∀ b, H b = none → b ≠ e := fun b n z => by
    subst z
    rcases he with r | r
    · exact hx b n r
    · rw [n] at r; cases r
  have hm : ∀ b u, H b = some u → ¬ Mut (some u) → b ≠ x := fun b u q nm z => by subst z; rw [q] at mu; exact nm mu
  refine ⟨fun b u q n _ _ => k b u (hb b n) q, fun b u q n _ _ => ⟨u.slots, k b u (hb b n) q⟩, fun b u q n _ => by rw [upd_ne (hx b n)]; exact n, fun b u q _ => ?_,
    fun b xs q => by rw [upd_ne (hm b _ q fun z => z)]; exact q, fun b u xs q => by rw [upd_ne (hm b _ q fun z => z)]; exact q, fun b ps q => ⟨#[], by rw [upd_ne (hm b _ q fun z => z), q]; simp⟩⟩
  by_cases hbe : b = e
  · subst hbe; exact heo
  · exact ⟨u, k b u hbe q⟩
end

/-! ### the heap without what is tracked -/
def trk (h : Heap) (H : Hp) : List Addr := (List.range h.objs.size).filter fun a => (H a).isSome
def hidT (h : Heap) (H : Hp) : Heap := PySem.W.hideAll h (trk h H)
theorem hidT_size (h : Heap) (H : Hp) : (hidT h H).objs.size = h.objs.size := PySem.W.hideAll_size _ _
theorem hidT_get {h : Heap} {H : Hp} {b : Addr} {o : Obj} (e : h.get? b = some o) (n : H b = none) : (hidT h H).get? b = some o :=
  PySem.W.hideAll_get _ e fun hm => by
    have q : (H b).isSome = true := (List.mem_filter.mp hm).2
    rw [n] at q; simp at q
theorem of_hidT {h : Heap} {H : Hp} {b : Addr} {o : Obj} (e : (hidT h H).get? b = some o) : h.get? b = some o ∧ H b = none := by
  have e' : h.get? b = some o := PySem.W.of_hideAll (trk h H) e
  refine ⟨e', ?_⟩
  cases q : H b with
  | none => rfl
  | some x =>
    have hm : b ∈ trk h H := List.mem_filter.mpr ⟨List.mem_range.mpr (Heap.lt_size e'), by simp [q]⟩
    have z : (hidT h H).get? b = none := PySem.W.hideAll_none (trk h H) hm
    rw [z] at e; cases e

/-! ### OpenK's ledger, filled with every new object but one -/
def allNews (g h : Heap) (L : Addr) : List (Addr × Obj) := (List.range h.objs.size).filterMap fun a => if a = L ∨ (g.get? a).isSome = true then none else (h.get? a).map fun o => (a, o)
def rest (g h : Heap) (L d : Addr) : List (Addr × Obj) := (allNews g h L).filter fun p => decide (p.1 ≠ d)
end L2

namespace L2
open PySem PySem.Spec PyProof.Rows

/-- the module's facts, over the base: the heap at the law's entry without what is tracked there -/
structure Mod (K : PySem.W.Frag) (mg : Str → Option Value) (base : Heap) : Prop where
  kin : K.In base
  glob : base.Ns mainGlobals mg
  blt : ∃ mb, base.Ns builtinsNs mb ∧ ∀ x : Str, x ≠ "__name__" → mb x = bootBuiltins x
  nolimit : base.NoLimit

/-- the context: a def's body (or a comprehension's block) running. base: fixed through the whole law; s₀, H₀: the entry; outer: the frames whose slots others may change (a def's callers); stack: all frames that run;
   ex: iterators that were made ahead of the entry and are walked here (a comprehension's); fn: the names whose cells were made at the entry (a def: all; a comprehension's block: its own); calm: not within an except suite; pn: pins that every state bears; xe: what is wanted of an exception that leaves the code -/
structure Cx where
  prog : Program
  w : World
  K : PySem.W.Frag
  mg : Str → Option Value
  base : Heap
  A : Around
  N : List Str
  s₀ : Shared
  H₀ : Hp
  env : Env
  outer : List Env
  stack : List Env
  ex : List Addr
  fn : Str → Bool
  calm : Bool
  pn : List (Addr × Obj)
  xe : Value → Shared → Prop
/-- the callers' frames -/
def frs (l : List Env) : List Addr := l.filterMap (·.frame)
abbrev Cx.fs (X : Cx) : List Addr := frs X.outer

def Vis (sc : Scope) (x : Str) : Prop := sc.names.lookup x = some .local ∨ sc.names.lookup x = some .cell ∨ sc.names.lookup x = some .free
def Loc (sc : Scope) (x : Str) : Prop := sc.names.lookup x = some .local ∨ sc.names.lookup x = some .cell
def Look (env : Env) (h : Heap) (m : Str → Option Value) (x : Str) (u : Value) : Prop :=
  (env.kindOf x = some .local ∧ m x = some u) ∨ ((env.kindOf x = some .cell ∨ env.kindOf x = some .free) ∧ ∃ c, env.cells.lookup x = some c ∧ h.IsCell c (some u))

structure Cx.Ok (X : Cx) : Prop where
  mod : Mod X.K X.mg X.base
  kind : X.env.scope.kind = .function
  glob : X.env.globals = mainGlobals
  blt : X.env.builtins = builtinsNs
  above : X.s₀.heap.objs.size ≤ X.env.locals
  inj : ∀ x y c, X.env.cells.lookup x = some c → X.env.cells.lookup y = some c → x = y
  has : ∀ x, (X.env.kindOf x = some .cell ∨ X.env.kindOf x = some .free) → ∃ c, X.env.cells.lookup x = some c
  cab : ∀ x c, X.fn x = true → X.env.cells.lookup x = some c → X.s₀.heap.objs.size ≤ c
  hd : X.calm = true → X.A.handled = none
  frames : X.A.frames = some X.stack
  stk : X.stack = X.outer ∨ (X.stack = X.env :: X.outer ∧ X.env.frame = some X.env.locals)
  exf : ∀ b ∈ X.ex, b ≠ X.env.locals ∧ ∀ x c, X.env.cells.lookup x = some c → c ≠ b
  bs : ∀ b o, X.base.get? b = some o → X.s₀.heap.get? b = some o ∧ X.H₀ b = none
  bsz : X.base.objs.size ≤ X.s₀.heap.objs.size
  noex : ∀ b o, X.base.get? b = some o → b ∉ X.ex
  exfs : ∀ b ∈ X.ex, b ∉ X.fs
  funs : X.s₀.heap.FunFrames X.base X.outer
  frf : ∀ b ∈ X.fs, X.H₀ b = none

structure Inv (X : Cx) (pins : List (Addr × Obj)) (σ : List (Option V)) (H : Hp) (s : Shared) : Prop where
  ok : X.Ok
  os : s.os = X.s₀.os
  bare : AllBare s.gens
  base : Un X.fs X.ex X.H₀ H X.s₀.heap s.heap
  loc : ∃ m, s.heap.Ns X.env.locals m ∧ ∀ (i : Nat) (x : Str) (v : V), X.N[i]? = some x → σ[i]? = some (some v) → Vis X.env.scope x → ∃ u, RelV v u ∧ Look X.env s.heap m x u
  cell : ∀ x c, X.env.cells.lookup x = some c → ∃ v, s.heap.IsCell c v
  free : H X.env.locals = none
  freeC : ∀ x c, X.env.cells.lookup x = some c → H c = none
  pin : ∀ p ∈ X.pn ++ pins, s.heap.get? p.1 = some p.2 ∧ H p.1 = none ∧ p.1 ≠ X.env.locals ∧ p.1 ∉ X.fs ∧ ∀ v, p.2.data ≠ .cell v
  hok : HOk X.prog X.w H s.heap
  len : σ.length = X.N.length

section
variable {X : Cx} {pins : List (Addr × Obj)} {σ : List (Option V)} {H H' : Hp} {s : Shared} {h' : Heap}

theorem Cx.Ok.nofr (ok : X.Ok) {b : Addr} {o : Obj} (e : X.base.get? b = some o) : b ∉ X.fs := fun hb => by
  have := (ok.funs.mem hb).1
  rw [e] at this; cases this
theorem Inv.bs (I : Inv X pins σ H s) : ∀ b o, X.base.get? b = some o → s.heap.get? b = some o ∧ H b = none := fun b o e =>
  ⟨I.base.keep b o (I.ok.bs b o e).1 (I.ok.bs b o e).2 (I.ok.nofr e) (I.ok.noex b o e), I.base.free b o (I.ok.bs b o e).1 (I.ok.bs b o e).2 (I.ok.noex b o e)⟩
theorem Inv.bk (I : Inv X pins σ H s) : ∀ b o, X.base.get? b = some o → s.heap.get? b = some o := fun b o e => (I.bs b o e).1
theorem Inv.mod (I : Inv X pins σ H s) : Mod X.K X.mg X.base := I.ok.mod
theorem Inv.kIn (I : Inv X pins σ H s) : X.K.In s.heap := I.ok.mod.kin.keeps I.bk
theorem Inv.lt (I : Inv X pins σ H s) : X.env.locals < s.heap.objs.size := let ⟨_, hn, _⟩ := I.loc; hn.lt
theorem Inv.sz (I : Inv X pins σ H s) : X.s₀.heap.objs.size ≤ s.heap.objs.size := Nat.le_trans I.ok.above (Nat.le_of_lt I.lt)
theorem Inv.nofs (I : Inv X pins σ H s) {a : Addr} (h : s.heap.objs.size ≤ a) : a ∉ X.fs := fun hb => by
  obtain ⟨_, o, ho, _⟩ := I.ok.funs.mem hb
  exact absurd (Nat.lt_of_lt_of_le (Heap.lt_size ho) (Nat.le_trans I.sz h)) (Nat.lt_irrefl _)
theorem Inv.cne (I : Inv X pins σ H s) : ∀ x c, X.env.cells.lookup x = some c → c ≠ X.env.locals := fun x c e z => by
  obtain ⟨v, o, ho, hd⟩ := I.cell x c e
  obtain ⟨m, ⟨o', es, ep, ho', hd', _⟩, _⟩ := I.loc
  rw [z, ho'] at ho; cases ho; rw [hd'] at hd; cases hd
theorem Inv.funs (I : Inv X pins σ H s) : s.heap.FunFrames X.base X.outer := by
  have all : ∀ (l : List Env), (∀ b ∈ frs l, b ∈ X.fs) → X.s₀.heap.FunFrames X.base l → s.heap.FunFrames X.base l := by
    intro l
    induction l with
    | nil => intro _ _; trivial
    | cons env r ih =>
      intro hs hl
      obtain ⟨hk, ⟨L, o, hf, hn, ho, hd⟩, hr⟩ := hl
      have hL : L ∈ X.fs := hs L (by unfold frs; rw [List.filterMap_cons, hf]; exact List.mem_cons_self)
      obtain ⟨sl, e⟩ := I.base.slot L o ho (I.ok.frf L hL) hL fun z => I.ok.exfs L z hL
      exact ⟨hk, ⟨L, _, hf, hn, e, hd⟩, ih (fun b hb => hs b (by unfold frs; rw [List.filterMap_cons, hf]; exact List.mem_cons_of_mem _ hb)) hr⟩
  exact all X.outer (fun _ hb => hb) I.ok.funs

/-- the frames that run, for a call -/
theorem Inv.stack (I : Inv X pins σ H s) : s.heap.FunFrames X.base X.stack := by
  rcases I.ok.stk with e | ⟨e, hf⟩
  · rw [e]; exact I.funs
  · rw [e]
    obtain ⟨m, hn, _⟩ := I.loc
    refine .cons (by rw [I.ok.kind]; decide) hf hn ?_ I.funs
    exact Heap.get?_none_of_le (Nat.le_trans I.ok.bsz I.ok.above)
theorem Inv.stkSub (I : Inv X pins σ H s) : ∀ b ∈ frs X.stack, b ∈ X.env.locals :: X.fs := fun b hb => by
  rcases I.ok.stk with e | ⟨e, hf⟩
  · rw [e] at hb; exact List.mem_cons_of_mem _ hb
  · rw [e] at hb
    unfold frs at hb
    rw [List.filterMap_cons, hf] at hb
    exact hb
theorem Inv.stkFree (I : Inv X pins σ H s) : ∀ b ∈ frs X.stack, H b = none := fun b hb => by
  rcases List.mem_cons.mp (I.stkSub b hb) with e | hb
  · rw [e]; exact I.free
  · obtain ⟨_, o, ho, _⟩ := I.ok.funs.mem hb
    exact I.base.free b o ho (I.ok.frf b hb) fun z => I.ok.exfs b z hb

/-- THE STEP: the untracked objects but the frame and the records at ch are kept (the callers' frames up to slots), the frame's map is kept, the new abstract heap is held -/
theorem Inv.step {g' : Array GenState} {t' : Nat} {d' : Drawn} {ch : List Addr} (I : Inv X pins σ H s)
    (hch : ∀ b ∈ ch, (b ∈ X.ex ∨ X.s₀.heap.objs.size ≤ b) ∧ b ≠ X.env.locals ∧ (∀ x c, X.env.cells.lookup x = some c → c ≠ b) ∧ ∀ p ∈ X.pn ++ pins, p.1 ≠ b)
    (keep : ∀ b o, b ≠ X.env.locals → b ∉ X.fs → b ∉ ch → s.heap.get? b = some o → H b = none → h'.get? b = some o)
    (slot : ∀ b o, b ≠ X.env.locals → b ∈ X.fs → b ∉ ch → s.heap.get? b = some o → H b = none → ∃ sl, h'.get? b = some { o with slots := sl }) (free : ∀ b o, b ∉ ch → s.heap.get? b = some o → H b = none → H' b = none)
    (there : ∀ b o, b ∉ ch → s.heap.get? b = some o → ∃ o', h'.get? b = some o')
    (tups : ∀ b xs, H b = some (.tup xs) → H' b = some (.tup xs)) (frzs : ∀ b o u, H b = some (.frz o u) → H' b = some (.frz o u)) (tbls : ∀ b ps, H b = some (.tbl ps) → ∃ more, H' b = some (.tbl (ps ++ more)))
    (ns : ∀ m, s.heap.Ns X.env.locals m → h'.Ns X.env.locals m) (hok : HOk X.prog X.w H' h') (hg : AllBare g') :
    Inv X pins σ H' { s with heap := h', gens := g', drawn := d', toks := t' } := by
  have neL : ∀ b o, X.s₀.heap.get? b = some o → b ≠ X.env.locals := fun b o e => Nat.ne_of_lt (Nat.lt_of_lt_of_le (Heap.lt_size e) I.ok.above)
  have neC : ∀ b o, X.s₀.heap.get? b = some o → b ∉ X.ex → b ∉ ch := fun b o e hx hb => by
    rcases (hch b hb).1 with z | z
    · exact hx z
    · exact absurd (Nat.lt_of_lt_of_le (Heap.lt_size e) z) (Nat.lt_irrefl _)
  have cellK : ∀ x c, X.env.cells.lookup x = some c → ∀ v, s.heap.IsCell c v → h'.IsCell c v := fun x c e v ⟨o, ho, hd⟩ => by
    have nch : c ∉ ch := fun z => (hch c z).2.2.1 x c e rfl
    by_cases hc : c ∈ X.fs
    · obtain ⟨sl, q⟩ := slot c o (I.cne x c e) hc nch ho (I.freeC x c e)
      exact ⟨_, q, hd⟩
    · exact ⟨o, keep c o (I.cne x c e) hc nch ho (I.freeC x c e), hd⟩
  refine ⟨I.ok, I.os, hg, ⟨fun b o e n hb hx => ?_, fun b o e n hb hx => ?_, fun b o e n hx => ?_, fun b o e hx => ?_, fun b xs e => tups b xs (I.base.tups b xs e), fun b o xs e => frzs b o xs (I.base.frzs b o xs e), fun b ps e => ?_⟩, ?_, fun x c e => ?_, ?_, fun x c e => ?_, fun p hp => ?_, hok, I.len⟩
  · exact keep b o (neL b o e) hb (neC b o e hx) (I.base.keep b o e n hb hx) (I.base.free b o e n hx)
  · obtain ⟨sl, e1⟩ := I.base.slot b o e n hb hx
    obtain ⟨sl', e2⟩ := slot b _ (neL b o e) hb (neC b o e hx) e1 (I.base.free b o e n hx)
    exact ⟨sl', e2⟩
  · obtain ⟨o', e1⟩ := I.base.there b o e hx
    exact free b o' (neC b o e hx) e1 (I.base.free b o e n hx)
  · obtain ⟨o', e1⟩ := I.base.there b o e hx
    exact there b o' (neC b o e hx) e1
  · obtain ⟨m1, e1⟩ := I.base.tbls b ps e
    obtain ⟨m2, e2⟩ := tbls b _ e1
    exact ⟨m1 ++ m2, by rw [e2, Array.append_assoc]⟩
  · obtain ⟨m, hn, hl⟩ := I.loc
    refine ⟨m, ns m hn, fun i x v e1 e2 e3 => ?_⟩
    obtain ⟨u, r, l⟩ := hl i x v e1 e2 e3
    refine ⟨u, r, ?_⟩
    rcases l with l | ⟨k, c, e, z⟩
    · exact .inl l
    · exact .inr ⟨k, c, e, cellK x c e _ z⟩
  · obtain ⟨v, z⟩ := I.cell x c e
    exact ⟨v, cellK x c e v z⟩
  · obtain ⟨m, ⟨o, _, _, ho, _⟩, _⟩ := I.loc
    exact free _ o (fun z => (hch _ z).2.1 rfl) ho I.free
  · obtain ⟨v, o, ho, hd⟩ := I.cell x c e
    exact free c o (fun z => (hch c z).2.2.1 x c e rfl) ho (I.freeC x c e)
  · obtain ⟨e, n, ne, nf, d⟩ := I.pin p hp
    have nch : p.1 ∉ ch := fun z => (hch p.1 z).2.2.2 p hp rfl
    exact ⟨keep p.1 p.2 ne nf nch e n, free p.1 p.2 nch e n, ne, nf, d⟩
/-- .. where the frame's own object is kept too -/
theorem Inv.un {t' : Nat} (I : Inv X pins σ H s) (u : Un X.fs [] H H' s.heap h') (hok : HOk X.prog X.w H' h') : Inv X pins σ H' { s with heap := h', toks := t' } := by
  obtain ⟨m, ⟨o, es, ep, ho, r⟩, _⟩ := id I.loc
  obtain ⟨sl, hL⟩ := u.any ho I.free (by simp)
  exact I.step (g' := s.gens) (d' := s.drawn) (ch := []) (fun _ z => nomatch z) (fun b o _ hb _ e n => u.keep b o e n hb (by simp)) (fun b o _ hb _ e n => u.slot b o e n hb (by simp)) (fun b o _ e n => u.free b o e n (by simp)) (fun b o _ e => u.there b o e (by simp)) u.tups u.frzs u.tbls (fun m' hm => by
    obtain ⟨o', es', ep', ho', r'⟩ := hm
    rw [ho] at ho'; cases ho'
    exact ⟨_, es', ep', hL, r'⟩) hok I.bare
/-- behind a call (or a comprehension's block): the slots of this frame may have changed too, the records at ch may have turned -/
theorem Inv.call {g' : Array GenState} {t' : Nat} {d' : Drawn} {ch : List Addr} (I : Inv X pins σ H s) (u : Un (frs X.stack) ch H H' s.heap h') (hok : HOk X.prog X.w H' h') (hg : AllBare g')
    (hch : ∀ b ∈ ch, (b ∈ X.ex ∨ X.s₀.heap.objs.size ≤ b) ∧ b ≠ X.env.locals ∧ (∀ x c, X.env.cells.lookup x = some c → c ≠ b) ∧ ∀ p ∈ X.pn ++ pins, p.1 ≠ b) :
    Inv X pins σ H' { s with heap := h', gens := g', drawn := d', toks := t' } := by
  obtain ⟨m, ⟨o, es, ep, ho, r⟩, _⟩ := id I.loc
  obtain ⟨sl, hL⟩ := u.any ho I.free fun z => (hch _ z).2.1 rfl
  exact I.step (ch := ch) hch (fun b o hL hb hc e n => u.keep b o e n (fun z => (List.mem_cons.mp (I.stkSub b z)).elim hL hb) hc) (fun b o _ _ hc e n => u.any e n hc) (fun b o hc e n => u.free b o e n hc) (fun b o hc e => u.there b o e hc) u.tups u.frzs u.tbls (fun m' hm => by
    obtain ⟨o', es', ep', ho', r'⟩ := hm
    rw [ho] at ho'; cases ho'
    exact ⟨_, es', ep', hL, r'⟩) hok hg
/-- an untracked record of ours (an iterator) has turned -/
theorem Inv.turned {t' : Nat} {it : Addr} (I : Inv X pins σ H s) (k : ∀ b o, b ≠ it → s.heap.get? b = some o → h'.get? b = some o) (hn : H it = none) (hL : it ≠ X.env.locals)
    (h1 : it ∈ X.ex ∨ X.s₀.heap.objs.size ≤ it) (h2 : ∀ x c, X.env.cells.lookup x = some c → c ≠ it) (h3 : ∀ p ∈ X.pn ++ pins, p.1 ≠ it) : Inv X pins σ H { s with heap := h', toks := t' } := by
  have nit : ∀ b u, H b = some u → b ≠ it := fun b u e z => by rw [z, hn] at e; cases e
  refine I.step (g' := s.gens) (d' := s.drawn) (ch := [it]) (fun b hb => ?_) (fun b o _ _ hc e _ => k b o (fun z => hc (by simp [z])) e) (fun b o _ _ hc e _ => ⟨o.slots, k b o (fun z => hc (by simp [z])) e⟩) (fun _ _ _ _ n => n)
    (fun b o hc e => ⟨o, k b o (fun z => hc (by simp [z])) e⟩) (fun _ _ e => e) (fun _ _ _ e => e) (fun b ps e => ⟨#[], by rw [e]; simp⟩) (fun m hm => ?_) (fun b u e => ?_) I.bare
  · have e : b = it := by simpa using hb
    subst e
    exact ⟨h1, hL, h2, h3⟩
  · obtain ⟨o, es, ep, ho, r⟩ := hm
    exact ⟨o, es, ep, k _ o (Ne.symm hL) ho, r⟩
  · refine (I.hok b u e).stay (fun c v hc q => k c v ?_ q) (fun _ q => q) fun _ _ q => q
    rcases hc with z | z
    · rw [z]; exact nit b u e
    · exact nit c _ z
theorem Inv.tok (I : Inv X pins σ H s) (t : Nat) : Inv X pins σ H { s with toks := t } := I.un (h' := s.heap) (t' := t) Un.refl I.hok
/-- all objects kept -/
theorem Inv.kept {t' : Nat} (I : Inv X pins σ H s) (k : ∀ b u, s.heap.get? b = some u → h'.get? b = some u) : Inv X pins σ H { s with heap := h', toks := t' } := I.un (Un.kept k) (I.hok.kept k)
/-- a new object laid and tracked -/
theorem Inv.laid {a : Addr} {o : HO} {t' : Nat} (I : Inv X pins σ H s) (k : ∀ b u, s.heap.get? b = some u → h'.get? b = some u) (hp : s.heap.objs.size ≤ a) (new : ObjOk X.prog X.w (upd H a o) h' a o) :
    Inv X pins σ (upd H a o) { s with heap := h', toks := t' } := I.un (Un.laid k hp (I.hok.fresh hp)) (I.hok.laid k hp new)
/-- an object written -/
theorem Inv.write {x e : Addr} {o : HO} {t' : Nat} (I : Inv X pins σ H s) (mu : Mut (H x)) (he : e = x ∨ H e = some (.own x)) (k : ∀ b u, b ≠ e → s.heap.get? b = some u → h'.get? b = some u) (heo : ∃ u, h'.get? e = some u)
    (new : ObjOk X.prog X.w (upd H x o) h' x o) : Inv X pins σ (upd H x o) { s with heap := h', toks := t' } := I.un (Un.write mu he k heo) (I.hok.write mu he k heo new)
/-- forgetting slots, pins -/
theorem Inv.weak {σ' : List (Option V)} (I : Inv X pins σ H s) (hl : σ'.length = σ.length) (w : ∀ (i : Nat) v, σ'[i]? = some (some v) → σ[i]? = some (some v)) : Inv X pins σ' H s :=
  ⟨I.ok, I.os, I.bare, I.base, let ⟨m, hn, hl'⟩ := I.loc; ⟨m, hn, fun i x v e1 e2 e3 => hl' i x v e1 (w i v e2) e3⟩, I.cell, I.free, I.freeC, I.pin, I.hok, hl.trans I.len⟩
theorem Inv.pins_of {pins' : List (Addr × Obj)} (I : Inv X pins σ H s) (h : ∀ p ∈ pins', s.heap.get? p.1 = some p.2 ∧ H p.1 = none ∧ p.1 ≠ X.env.locals ∧ p.1 ∉ X.fs ∧ ∀ v, p.2.data ≠ .cell v) : Inv X pins' σ H s :=
  ⟨I.ok, I.os, I.bare, I.base, I.loc, I.cell, I.free, I.freeC, fun p hp => (List.mem_append.mp hp).elim (fun z => I.pin p (List.mem_append_left _ z)) (h p), I.hok, I.len⟩

theorem nodup_ix {N : List Str} (hN : N.Nodup) {i j : Nat} {x : Str} (a : N[i]? = some x) (b : N[j]? = some x) : i = j := by
  obtain ⟨h1, e1⟩ := List.getElem?_eq_some_iff.mp a
  obtain ⟨h2, e2⟩ := List.getElem?_eq_some_iff.mp b
  exact (List.getElem_inj hN).mp (e1.trans e2.symm)

/-- a name is stored; what changed -/
theorem store_ok2 {M : Model} {A : Around} {E : Value → Shared → Prop} {i : Nat} {x : Str} {v : V} {u : Value} {Q : Unit → Shared → Prop} (I : Inv X pins σ H s) (hN : X.N.Nodup) (hi : X.N[i]? = some x) (hx : Loc X.env.scope x) (r : RelV v u)
    (h : ∀ s', Inv X pins (σ.set i (some v)) H s' → (∃ a, Heap.SameBut a s.heap s'.heap ∧ (a = X.env.locals ∨ X.env.cells.lookup x = some a)) → Q () s') (hf : X.fn x = true ∨ X.env.scope.names.lookup x = some .local := by first | exact .inl rfl | exact .inr rfl | assumption) : wpAny M A (storeName X.env x u) Q E s := by
  obtain ⟨m, hn, hl⟩ := id I.loc
  have hcls : (X.env.scope.kind == .class || (X.env.scope.kind == .module && X.env.locals != X.env.globals)) = false := by rw [I.ok.kind]; rfl
  have hiσ : i < σ.length := by rw [I.len]; exact (List.getElem?_eq_some_iff.mp hi).1
  have cne := I.cne
  have tracked : ∀ {a : Addr} {h' : Heap}, (∃ o, s.heap.get? a = some o ∧ H a = none) → Heap.SameBut a s.heap h' → HOk X.prog X.w H h' := fun {a h'} ha hs b ob e => by
    obtain ⟨_, _, hfree⟩ := ha
    refine (I.hok b ob e).stay (fun c w' hc q => (hs.2 c ?_).trans q) (fun _ q => q) fun _ _ q => q
    rintro rfl
    rcases hc with rfl | hc
    · rw [hfree] at e; cases e
    · rw [hfree] at hc; cases hc
  rcases hx with hk | hk
  · refine wpAny_storeName_local hk hn (fun h' hn' hs => ?_) hcls
    obtain ⟨oL, _, _, hoL, _⟩ := id hn
    refine h _ ⟨I.ok, I.os, I.bare, ⟨fun b o e n hb hx => ?_, fun b o e n hb hx => ?_, I.base.free, fun b o e hx => ?_, I.base.tups, I.base.frzs, I.base.tbls⟩, ⟨_, hn', fun j y v' e1 e2 e3 => ?_⟩, fun y c e => ?_, I.free, I.freeC, fun p hp => ?_, tracked ⟨oL, hoL, I.free⟩ hs, by simpa using I.len⟩ ⟨_, hs, .inl rfl⟩
    · exact (hs.2 b (Nat.ne_of_lt (Nat.lt_of_lt_of_le (Heap.lt_size e) I.ok.above))).trans (I.base.keep b o e n hb hx)
    · obtain ⟨sl, e1⟩ := I.base.slot b o e n hb hx
      exact ⟨sl, (hs.2 b (Nat.ne_of_lt (Nat.lt_of_lt_of_le (Heap.lt_size e) I.ok.above))).trans e1⟩
    · obtain ⟨o', e1⟩ := I.base.there b o e hx
      exact ⟨o', (hs.2 b (Nat.ne_of_lt (Nat.lt_of_lt_of_le (Heap.lt_size e) I.ok.above))).trans e1⟩
    · by_cases hj : j = i
      · subst hj
        rw [hi] at e1; cases e1
        rw [List.getElem?_set_self hiσ] at e2
        cases e2
        exact ⟨u, r, .inl ⟨hk, by simp⟩⟩
      · rw [List.getElem?_set_ne (Ne.symm hj)] at e2
        obtain ⟨u', r', q⟩ := hl j y v' e1 e2 e3
        refine ⟨u', r', ?_⟩
        rcases q with ⟨k, e⟩ | ⟨k, c, e, z⟩
        · refine .inl ⟨k, ?_⟩
          have : y ≠ x := fun e => hj (nodup_ix hN e1 (e ▸ hi))
          simp [this, e]
        · exact .inr ⟨k, c, e, z.sameBut hs (cne y c e)⟩
    · obtain ⟨w', z⟩ := I.cell y c e
      exact ⟨w', z.sameBut hs (cne y c e)⟩
    · obtain ⟨e, n, ne, nf, d⟩ := I.pin p hp
      exact ⟨(hs.2 p.1 ne).trans e, n, ne, nf, d⟩
  · have hfn : X.fn x = true := by
      rcases hf with z | z
      · exact z
      · rw [z] at hk; cases hk
    obtain ⟨c, hc⟩ := I.ok.has x (.inl hk)
    obtain ⟨w', z⟩ := I.cell x c hc
    refine wpAny_storeName_cell I.ok.kind hk hc z (fun h' hc' hs => ?_)
    obtain ⟨oc, hoc, hocd⟩ := id z
    refine h { s with heap := h' } ⟨I.ok, I.os, I.bare, ⟨fun b o e n hb hx => ?_, fun b o e n hb hx => ?_, I.base.free, fun b o e hx => ?_, I.base.tups, I.base.frzs, I.base.tbls⟩, ⟨m, hn.sameBut hs (Ne.symm (cne x c hc)), fun j y v' e1 e2 e3 => ?_⟩, fun y c' e => ?_, I.free, I.freeC, fun p hp => ?_, tracked ⟨oc, hoc, I.freeC x c hc⟩ hs, by simpa using I.len⟩ ⟨c, hs, .inr hc⟩
    · exact (hs.2 b (Nat.ne_of_lt (Nat.lt_of_lt_of_le (Heap.lt_size e) (I.ok.cab x c hfn hc)))).trans (I.base.keep b o e n hb hx)
    · obtain ⟨sl, e1⟩ := I.base.slot b o e n hb hx
      exact ⟨sl, (hs.2 b (Nat.ne_of_lt (Nat.lt_of_lt_of_le (Heap.lt_size e) (I.ok.cab x c hfn hc)))).trans e1⟩
    · obtain ⟨o', e1⟩ := I.base.there b o e hx
      exact ⟨o', (hs.2 b (Nat.ne_of_lt (Nat.lt_of_lt_of_le (Heap.lt_size e) (I.ok.cab x c hfn hc)))).trans e1⟩
    · by_cases hj : j = i
      · subst hj
        rw [hi] at e1; cases e1
        rw [List.getElem?_set_self hiσ] at e2
        cases e2
        exact ⟨u, r, .inr ⟨.inl hk, c, hc, hc'⟩⟩
      · rw [List.getElem?_set_ne (Ne.symm hj)] at e2
        obtain ⟨u', r', q⟩ := hl j y v' e1 e2 e3
        refine ⟨u', r', ?_⟩
        rcases q with q | ⟨k, c', e, z'⟩
        · exact .inl q
        · refine .inr ⟨k, c', e, z'.sameBut hs ?_⟩
          rintro rfl
          exact hj (nodup_ix hN e1 (I.ok.inj _ _ _ e hc ▸ hi))
    · by_cases hcc : c' = c
      · subst hcc; exact ⟨_, hc'⟩
      · obtain ⟨w2, z2⟩ := I.cell y c' e
        exact ⟨w2, z2.sameBut hs hcc⟩
    · obtain ⟨e, n, ne, nf, d⟩ := I.pin p hp
      refine ⟨(hs.2 p.1 ?_).trans e, n, ne, nf, d⟩
      intro q
      rw [q, hoc] at e
      have q' : oc = p.2 := Option.some.inj e
      exact d w' (by rw [← q']; exact hocd)
theorem store_ok {M : Model} {A : Around} {E : Value → Shared → Prop} {i : Nat} {x : Str} {v : V} {u : Value} {Q : Unit → Shared → Prop} (I : Inv X pins σ H s) (hN : X.N.Nodup) (hi : X.N[i]? = some x) (hx : Loc X.env.scope x) (r : RelV v u)
    (h : ∀ s', Inv X pins (σ.set i (some v)) H s' → Q () s') (hf : X.fn x = true ∨ X.env.scope.names.lookup x = some .local := by first | exact .inl rfl | exact .inr rfl | assumption) : wpAny M A (storeName X.env x u) Q E s :=
  store_ok2 I hN hi hx r (fun s' I' _ => h s' I') hf
/-- behind a call or a block, the state as it is -/
theorem Inv.call' {s' : Shared} {ch : List Addr} (I : Inv X pins σ H s) (ho : s'.os = s.os) (u : Un (frs X.stack) ch H H' s.heap s'.heap) (hok : HOk X.prog X.w H' s'.heap) (hg : AllBare s'.gens)
    (hch : ∀ b ∈ ch, (b ∈ X.ex ∨ X.s₀.heap.objs.size ≤ b) ∧ b ≠ X.env.locals ∧ (∀ x c, X.env.cells.lookup x = some c → c ≠ b) ∧ ∀ p ∈ X.pn ++ pins, p.1 ≠ b) : Inv X pins σ H' s' := by
  obtain ⟨h', g', d', t', o'⟩ := s'
  have e : o' = s.os := ho
  subst e
  exact I.call (g' := g') (t' := t') (d' := d') u hok hg hch
end

/-! ### the judgements -/
/-- an exception: its class, its own dict's address (where it has one), the abstract heap behind it -/
abbrev XK := Value → Option Addr → Hp → Prop
abbrev St := List (Option V)
abbrev VK := V → Hp → Prop
/-- an expression's reading; a test's; an argument list's -/
abbrev TE := St → Hp → VK → Prop
abbrev TT := St → Hp → (Bool → Hp → Prop) → Prop
abbrev TA := St → Hp → (List V → Hp → Prop) → Prop
/-- what is wanted behind a statement -/
structure Ends where
  nx : St → Hp → Prop
  rt : VK
  bk : St → Hp → Prop := fun _ _ => False
  ct : St → Hp → Prop := fun _ _ => False
abbrev TS := Ends → St → Hp → Prop

def EP (X : Cx) (pins : List (Addr × Obj)) (σ : St) (Q : VK) (u : Value) (s' : Shared) : Prop := ∃ v H', Inv X pins σ H' s' ∧ RelV v u ∧ Q v H'
def TP (X : Cx) (pins : List (Addr × Obj)) (σ : St) (Q : Bool → Hp → Prop) (b : Bool) (s' : Shared) : Prop := ∃ H', Inv X pins σ H' s' ∧ Q b H'
def AP (X : Cx) (pins : List (Addr × Obj)) (σ : St) (Q : List V → Hp → Prop) (us : List Value) (s' : Shared) : Prop := ∃ vs H', Inv X pins σ H' s' ∧ Vals vs us ∧ Q vs H'
def SP (X : Cx) (pins : List (Addr × Obj)) (D : Ends) (f : Flow) (s' : Shared) : Prop :=
  match f with
  | .next => ∃ σ' H', Inv X pins σ' H' s' ∧ D.nx σ' H'
  | .brk => ∃ σ' H', Inv X pins σ' H' s' ∧ D.bk σ' H'
  | .cont => ∃ σ' H', Inv X pins σ' H' s' ∧ D.ct σ' H'
  | .ret u => ∃ v σ' H', Inv X pins σ' H' s' ∧ RelV v u ∧ D.rt v H'

def PE (X : Cx) (e : Expr) (t : TE) : Prop :=
  ∀ (pins : List (Addr × Obj)) (s : Shared) (σ : St) (H : Hp) (Q : VK), Inv X pins σ H s → t σ H Q → wpAny (model X.prog X.w) X.A (eval e X.env) (EP X pins σ Q) X.xe s
def PT (X : Cx) (e : Expr) (t : TT) : Prop :=
  ∀ (pins : List (Addr × Obj)) (s : Shared) (σ : St) (H : Hp) (Q : Bool → Hp → Prop), Inv X pins σ H s → t σ H Q → wpAny (model X.prog X.w) X.A (isTrue e X.env (eval e X.env)) (TP X pins σ Q) X.xe s
/-- a test whatever its 'whole' is (and, or) -/
def PW (X : Cx) (e : Expr) (t : TT) : Prop :=
  ∀ (whole : Sem Value) (pins : List (Addr × Obj)) (s : Shared) (σ : St) (H : Hp) (Q : Bool → Hp → Prop), Inv X pins σ H s → t σ H Q → wpAny (model X.prog X.w) X.A (isTrue e X.env whole) (TP X pins σ Q) X.xe s
theorem PW.pt {X : Cx} {e : Expr} {t : TT} (h : PW X e t) : PT X e t := h _
/-- an argument list (no star), from the left -/
def PA (X : Cx) (es : List Expr) (t : TA) : Prop :=
  ∀ (pos : Pos) (pins : List (Addr × Obj)) (s : Shared) (σ : St) (H : Hp) (Q : List V → Hp → Prop), Inv X pins σ H s → t σ H Q → wpAny (model X.prog X.w) X.A (spliced (backTo pos (starEach es X.env))) (AP X pins σ Q) X.xe s
def PS (X : Cx) (st : Stmt) (t : TS) : Prop :=
  ∀ (pins : List (Addr × Obj)) (s : Shared) (σ : St) (H : Hp) (D : Ends), Inv X pins σ H s → t D σ H → wpAny (model X.prog X.w) X.A (exec st X.env) (SP X pins D) X.xe s
def PSs (X : Cx) (st : List Stmt) (t : TS) : Prop :=
  ∀ (pins : List (Addr × Obj)) (s : Shared) (σ : St) (H : Hp) (D : Ends), Inv X pins σ H s → t D σ H → wpAny (model X.prog X.w) X.A (execs st X.env) (SP X pins D) X.xe s
/-- weaken the end -/
theorem thn {α : Type} {t : Sem α} {Q Q' : α → Shared → Prop} {M : Model} {A : Around} {E : Value → Shared → Prop} {s : Shared} (h : wpAny M A t Q E s) (hQ : ∀ a s, Q a s → Q' a s) : wpAny M A t Q' E s := wpAny_mono h hQ fun _ _ x => x
end L2

namespace L2
open PySem PySem.Spec PyProof.Rows
section
variable {X : Cx}

/-! ### names and constants -/
def tVar (i : Nat) : TE := fun σ H Q => ∃ v, σ[i]? = some (some v) ∧ Q v H
def tC (v : V) : TE := fun _ H Q => Q v H
theorem pe_var {i : Nat} {x : Str} {pos : Pos} (hN : X.N[i]? = some x) (hv : Vis X.env.scope x) (hd : (x == ("__debug__" : Str)) = false := by decide) (hcd : (x == ("__classdict__" : Str)) = false := by decide) : PE X (.Name x pos) (tVar i) := by
  intro pins s σ H Q I h
  obtain ⟨v, e, h⟩ := h
  obtain ⟨m, hn, hl⟩ := I.loc
  obtain ⟨u, r, l⟩ := hl i x v hN e hv
  have fin : EP X pins σ Q u s := ⟨v, H, I, r, h⟩
  rcases l with ⟨hk, hm⟩ | ⟨hk, c, hc, hcell⟩
  · exact wpAny_Name (wpAny_loadName_local I.ok.kind hk hn hm fin) hd
  · rcases hk with hk | hk
    · exact wpAny_Name (wpAny_loadName_cell I.ok.kind hk hc hcell fin) hd
    · exact wpAny_Name (wpAny_loadName_free I.ok.kind hk hc hcell fin hcd) hd
theorem pe_int {i j pos} : PE X (.Constant (.int i) j pos) (tC (.int i)) := fun _ _ _ H _ I h => wpAny_Constant_int ⟨.int i, H, I.tok _, ⟨_, rfl⟩, h⟩
theorem pe_bl {b j pos} : PE X (.Constant (.bool b) j pos) (tC (.bl b)) := fun _ _ _ H _ I h => Constant_bool ⟨.bl b, H, I, rfl, h⟩
theorem pe_non {j pos} : PE X (.Constant .none j pos) (tC .non) := fun _ _ _ H _ I h => Constant_none ⟨.non, H, I, rfl, h⟩
theorem pe_str {x j pos} : PE X (.Constant (.str x) j pos) (tC (.str x)) := fun _ _ _ H _ I h => Calls.Constant_str ⟨.str x, H, I.tok _, ⟨_, rfl⟩, h⟩

/-- a global name of the def -/
def Gl (X : Cx) (x : Str) : Prop := X.env.kindOf x = some .globalImplicit
theorem ld_glob {E : Value → Shared → Prop} {pins : List (Addr × Obj)} {s : Shared} {σ : St} {H : Hp} {x : Str} {u : Value} {pos : Pos} {Q : Value → Shared → Prop} (I : Inv X pins σ H s) (hg : Gl X x) (hm : X.mg x = some u) (h : Q u s)
    (hd : (x == ("__debug__" : Str)) = false := by decide) : wpAny (model X.prog X.w) X.A (eval (.Name x pos) X.env) Q E s :=
  Calls.Name_function_global I.ok.kind hg (Calls.loadGlobal_global (by rw [I.ok.glob]; exact I.mod.glob.keeps I.bk) hm h) hd
theorem ld_blt {E : Value → Shared → Prop} {pins : List (Addr × Obj)} {s : Shared} {σ : St} {H : Hp} {x : Str} {u : Value} {pos : Pos} {Q : Value → Shared → Prop} (I : Inv X pins σ H s) (hg : Gl X x) (hm : X.mg x = none) (hv : bootBuiltins x = some u) (h : Q u s)
    (hn : x ≠ "__name__" := by decide) (hd : (x == ("__debug__" : Str)) = false := by decide) : wpAny (model X.prog X.w) X.A (eval (.Name x pos) X.env) Q E s := by
  obtain ⟨mb, h1, h2⟩ := I.mod.blt
  exact Calls.Name_function_global I.ok.kind hg (Calls.loadGlobal_builtin (by rw [I.ok.glob]; exact I.mod.glob.keeps I.bk) hm (by rw [I.ok.blt]; exact h1.keeps I.bk) ((h2 x hn).trans hv) h) hd
/-- a module's constant, a class, a function, as a value -/
theorem pe_glob {x : Str} {v : V} {u : Value} {pos : Pos} (hg : Gl X x) (hm : X.mg x = some u) (r : RelV v u) (hd : (x == ("__debug__" : Str)) = false := by decide) : PE X (.Name x pos) (tC v) :=
  fun _ _ _ H _ I h => ld_glob I hg hm ⟨v, H, I, r, h⟩ hd
/-! ### arithmetic -/
variable {a b : Expr} {ta tb : TE} {pos : Pos}
/-! ### comparisons -/
/-- a comparison as a value, as a test -/
def tB (t : TE) : TT := fun σ H Q => t σ H fun x H1 => ∃ c, x = .bl c ∧ Q c H1
/-- an expression whose value is a bool, as a test -/
theorem pt_val {e : Expr} {t : TE} (h : PE X e t) (he : ∀ whole, isTrue e X.env whole = (do let v ← whole; standAt e.pos; holding [v] (truthy v)) := by intro _; rfl) : PT X e (tB t) := by
  intro pins s σ H Q I hw
  refine isTrue_plain (thn (h pins s σ H _ I hw) fun v s1 ⟨x, H1, I1, r1, q1⟩ => ?_) (he _)
  obtain ⟨d, rfl, q⟩ := q1
  cases r1
  exact wpAny_truthy_bool ⟨H1, I1, q⟩

/-! ### and, or, not -/
variable {tA tB' : TT} {rest : List Expr}
def tAnd (t u : TT) : TT := fun σ H Q => t σ H fun c H1 => if c = true then u σ H1 Q else Q false H1
def tOr (t u : TT) : TT := fun σ H Q => t σ H fun c H1 => if c = true then Q true H1 else u σ H1 Q
def tNot (t : TT) : TT := fun σ H Q => t σ H fun c H1 => Q (!c) H1
theorem pw_and1 (ha : PT X a tA) : PW X (.BoolOp .And [a] pos) tA := by
  intro wh pins s σ H Q I h
  refine isTrue_and (thn (ha pins s σ H Q I h) fun c s1 e => ?_)
  cases c with
  | true => exact isTrue_and_nil e
  | false => exact e
theorem pw_or1 (ha : PT X a tA) : PW X (.BoolOp .Or [a] pos) tA := by
  intro wh pins s σ H Q I h
  refine isTrue_or (thn (ha pins s σ H Q I h) fun c s1 e => ?_)
  cases c with
  | false => exact isTrue_or_nil e
  | true => exact e
theorem pw_and (ha : PT X a tA) (hb : PW X (.BoolOp .And (b :: rest) pos) tB') : PW X (.BoolOp .And (a :: b :: rest) pos) (tAnd tA tB') := by
  intro wh pins s σ H Q I h
  refine isTrue_and (thn (ha pins s σ H _ I h) fun c s1 ⟨H1, I1, q1⟩ => ?_)
  cases c with
  | true => exact hb wh pins s1 σ H1 Q I1 q1
  | false => exact ⟨H1, I1, q1⟩
theorem pw_or (ha : PT X a tA) (hb : PW X (.BoolOp .Or (b :: rest) pos) tB') : PW X (.BoolOp .Or (a :: b :: rest) pos) (tOr tA tB') := by
  intro wh pins s σ H Q I h
  refine isTrue_or (thn (ha pins s σ H _ I h) fun c s1 ⟨H1, I1, q1⟩ => ?_)
  cases c with
  | true => exact ⟨H1, I1, q1⟩
  | false => exact hb wh pins s1 σ H1 Q I1 q1
theorem pt_not (ha : PT X a tA) : PT X (.UnaryOp .Not a pos) (tNot tA) := by
  intro pins s σ H Q I h
  exact isTrue_not (ha pins s σ H (fun c H1 => Q (!c) H1) I h)
/-- .. as values (bools) -/
def tAndV (ta tb : TE) : TE := fun σ H Q => ta σ H fun x H1 => ∃ c, x = .bl c ∧ if c = true then tb σ H1 Q else Q (.bl false) H1
theorem pe_one {op} {t : TE} (h : PE X a t) : PE X (.BoolOp op [a] pos) t := fun pins s σ H Q I hw => BoolOp_one (h pins s σ H Q I hw)
theorem pe_and (ha : PE X a ta) (hb : PE X (.BoolOp .And (b :: rest) pos) tb) : PE X (.BoolOp .And (a :: b :: rest) pos) (tAndV ta tb) := by
  intro pins s σ H Q I h
  refine BoolOp_and (thn (ha pins s σ H _ I h) fun v s1 ⟨x, H1, I1, r1, q1⟩ => ?_)
  obtain ⟨c, rfl, q1⟩ := q1
  cases r1
  refine wpAny_truthy_bool ?_
  cases c with
  | true => exact hb pins s1 σ H1 Q I1 q1
  | false => exact ⟨.bl false, H1, I1, rfl, q1⟩
/-- a if t else b -/
def tIf (t : TT) (ta tb : TE) : TE := fun σ H Q => t σ H fun c H1 => if c = true then ta σ H1 Q else tb σ H1 Q
theorem pe_ifExp {c : Expr} (hc : PT X c tA) (ha : PE X a ta) (hb : PE X b tb) : PE X (.IfExp c a b pos) (tIf tA ta tb) := by
  intro pins s σ H Q I h
  refine wpAny_IfExp (thn (hc pins s σ H _ I h) fun d s1 ⟨H1, I1, q1⟩ => ?_)
  cases d with
  | true => exact ha pins s1 σ H1 Q I1 q1
  | false => exact hb pins s1 σ H1 Q I1 q1
end
end L2

namespace L2
open PySem PySem.Spec PyProof.Rows

/-! ### a list, a tuple that is read: tracked, frozen, or an object of the module -/
def SqL (K : PySem.W.Frag) (H : Hp) (a : Addr) (xs : List V) : Prop :=
  Rd H a (.lst xs) ∨
    ∃ (o : Obj) (its : Array Value) (n : Nat), K.lookup a = some o ∧ o.cls = .type "list" ∧ o.dict = none ∧ o.data = .seq its n ∧ its.size ≤ sizeLine ∧ Vals xs its.toList
def SqT (K : PySem.W.Frag) (H : Hp) (a : Addr) (xs : List V) : Prop :=
  Rd H a (.tup xs) ∨
    ∃ (o : Obj) (its : Array Value) (n : Nat), K.lookup a = some o ∧ o.cls = .type "tuple" ∧ o.data = .seq its n ∧ its.size ≤ sizeLine ∧ Vals xs its.toList
def absV : Value → Option V
  | .none => some .non
  | .bool b => some (.bl b)
  | .int i _ => some (.int i)
  | .str x _ => some (.str x)
  | .bytes b _ => some (.byt b)
  | .float b _ => some (.flt b)
  | .ref a => some (.ref a)
  | .type n => some (.ty n)
  | _ => none
theorem RelV.abs {x : V} {u : Value} (r : RelV x u) : absV u = some x := by
  cases x with
  | non => cases r; rfl
  | bl _ => cases r; rfl
  | int _ => obtain ⟨t, rfl⟩ := r; rfl
  | str _ => obtain ⟨t, rfl⟩ := r; rfl
  | byt _ => obtain ⟨t, rfl⟩ := r; rfl
  | flt _ => obtain ⟨t, rfl⟩ := r; rfl
  | ref _ => cases r; rfl
  | ty _ => cases r; rfl
theorem RelV.inj {x y : V} {u : Value} (r : RelV x u) (q : RelV y u) : x = y := Option.some.inj (r.abs.symm.trans q.abs)
theorem Vals.inj : ∀ {xs ys : List V} {us : List Value}, Vals xs us → Vals ys us → xs = ys
  | _, _, _, .nil, .nil => rfl
  | _, _, _, .cons r t, .cons r' t' => by rw [r.inj r', Vals.inj t t']
section
variable {X : Cx} {pins : List (Addr × Obj)} {σ : St} {H : Hp} {s : Shared} {a : Addr} {xs ys : List V}
theorem SqL.of {K : PySem.W.Frag} (h : H a = some (.lst xs)) : SqL K H a xs := .inl (.inl h)
theorem SqT.of {K : PySem.W.Frag} (h : H a = some (.tup xs)) : SqT K H a xs := .inl (.inl h)
theorem Inv.list (I : Inv X pins σ H s) (h : SqL X.K H a xs) : ∃ its : List Value, Vals xs its ∧ PlainL s.heap a its.toArray ∧ xs.length ≤ sizeLine := by
  rcases h with h | ⟨o, its, n, hk, hc, hd, hs, hz, r⟩
  · obtain ⟨z, its, n, r, e⟩ := h.ok I.hok
    exact ⟨its, r, ⟨_, n, e, rfl, rfl, rfl⟩, z⟩
  · refine ⟨its.toList, r, ⟨o, n, I.kIn a o hk, hc, hd, by simpa using hs⟩, ?_⟩
    have e := r.length
    simp only [Array.length_toList] at e
    omega
theorem Inv.tuple (I : Inv X pins σ H s) (h : SqT X.K H a xs) : ∃ its : List Value, Vals xs its ∧ IsTup s.heap a its.toArray ∧ xs.length ≤ sizeLine := by
  rcases h with h | ⟨o, its, n, hk, hc, hs, hz, r⟩
  · obtain ⟨z, its, r, p⟩ := h.ok I.hok
    exact ⟨its, r, p, z⟩
  · refine ⟨its.toList, r, ⟨o, I.kIn a o hk, hc, n, by simpa using hs⟩, ?_⟩
    have e := r.length
    simp only [Array.length_toList] at e
    omega
theorem Inv.list_inj (I : Inv X pins σ H s) (h : SqL X.K H a xs) (h' : SqL X.K H a ys) : xs = ys := by
  obtain ⟨its, r, ⟨o, n, e, _, _, d⟩, _⟩ := I.list h
  obtain ⟨its', r', ⟨o', n', e', _, _, d'⟩, _⟩ := I.list h'
  rw [e] at e'; cases e'
  rw [d] at d'
  injection d' with d1 _
  have : its = its' := by simpa using congrArg Array.toList d1
  subst this
  exact r.inj r'
theorem Inv.tuple_inj (I : Inv X pins σ H s) (h : SqT X.K H a xs) (h' : SqT X.K H a ys) : xs = ys := by
  obtain ⟨its, r, ⟨o, e, _, n, d⟩, _⟩ := I.tuple h
  obtain ⟨its', r', ⟨o', e', _, n', d'⟩, _⟩ := I.tuple h'
  rw [e] at e'; cases e'
  rw [d] at d'
  injection d' with d1 _
  have : its = its' := by simpa using congrArg Array.toList d1
  subst this
  exact r.inj r'
end

/-! ### another wish about exceptions -/
abbrev Cx.wish (X : Cx) (E : Value → Shared → Prop) : Cx := { X with xe := E }
/-- no exception leaves -/
abbrev Cx.nox (X : Cx) : Cx := X.wish fun _ _ => False
theorem Cx.Ok.wish {X : Cx} (ok : X.Ok) (E : Value → Shared → Prop) : (X.wish E).Ok :=
  ⟨ok.mod, ok.kind, ok.glob, ok.blt, ok.above, ok.inj, ok.has, ok.cab, ok.hd, ok.frames, ok.stk, ok.exf, ok.bs, ok.bsz, ok.noex, ok.exfs, ok.funs, ok.frf⟩
theorem Cx.Ok.unwish {X : Cx} {E : Value → Shared → Prop} (ok : (X.wish E).Ok) : X.Ok :=
  ⟨ok.mod, ok.kind, ok.glob, ok.blt, ok.above, ok.inj, ok.has, ok.cab, ok.hd, ok.frames, ok.stk, ok.exf, ok.bs, ok.bsz, ok.noex, ok.exfs, ok.funs, ok.frf⟩
section
variable {X : Cx} {pins : List (Addr × Obj)} {σ : St} {H : Hp} {s : Shared} {E : Value → Shared → Prop}
theorem Inv.wish (I : Inv X pins σ H s) (E : Value → Shared → Prop) : Inv (X.wish E) pins σ H s := ⟨I.ok.wish E, I.os, I.bare, I.base, I.loc, I.cell, I.free, I.freeC, I.pin, I.hok, I.len⟩
theorem Inv.unwish (I : Inv (X.wish E) pins σ H s) : Inv X pins σ H s := ⟨I.ok.unwish, I.os, I.bare, I.base, I.loc, I.cell, I.free, I.freeC, I.pin, I.hok, I.len⟩
theorem SP.unwish {D : Ends} {f : Flow} {s' : Shared} (h : SP (X.wish E) pins D f s') : SP X pins D f s' := by
  cases f with
  | next => obtain ⟨σ', H', I, q⟩ := h; exact ⟨σ', H', I.unwish, q⟩
  | brk => obtain ⟨σ', H', I, q⟩ := h; exact ⟨σ', H', I.unwish, q⟩
  | cont => obtain ⟨σ', H', I, q⟩ := h; exact ⟨σ', H', I.unwish, q⟩
  | ret u => obtain ⟨v, σ', H', I, r, q⟩ := h; exact ⟨v, σ', H', I.unwish, r, q⟩
theorem PSs.nox {st : List Stmt} {t : TS} (h : PSs X.nox st t) : PSs X st t := fun pins s σ H D I hw =>
  wpAny_mono (h pins s σ H D (I.wish _) hw) (fun _ _ q => q.unwish) fun _ _ z => False.elim z
end

/-! ### blocks and small statements -/
section
variable {X : Cx} {st : Stmt} {rest : List Stmt} {t u : TS} {e : Expr} {te : TE} {pos : Pos}
def tNext : TS := fun D σ H => D.nx σ H
def tSeq (t u : TS) : TS := fun D σ H => t { D with nx := u D } σ H
theorem pss_nil : PSs X [] tNext := fun _ _ σ H _ I h => wpAny_execs_nil ⟨σ, H, I, h⟩
theorem pss_cons (h1 : PS X st t) (h2 : PSs X rest u) : PSs X (st :: rest) (tSeq t u) := by
  intro pins s σ H D I h
  refine wpAny_execs_cons (thn (h1 pins s σ H { D with nx := u D } I h) fun f s1 q => ?_)
  cases f with
  | next =>
    obtain ⟨σ', H', I', q⟩ := q
    exact h2 pins s1 σ' H' D I' q
  | ret v => exact q
  | brk => exact q
  | cont => exact q
theorem pss_one (h1 : PS X st t) : PSs X [st] t := by
  intro pins s σ H D I h
  refine wpAny_execs_cons (thn (h1 pins s σ H D I h) fun f s1 q => ?_)
  cases f with
  | next => exact wpAny_execs_nil q
  | ret v => exact q
  | brk => exact q
  | cont => exact q
/-- in a def's body nothing is shown -/
theorem Inv.quiet {pins : List (Addr × Obj)} {σ : St} {H : Hp} {s : Shared} (I : Inv X pins σ H s) : interactive X.env = false := by simp [interactive, I.ok.kind]
/-- an expression whose value is dropped -/
def tDrop (te : TE) : TS := fun D σ H => te σ H fun _ H1 => D.nx σ H1
theorem ps_expr (he : PE X e te) (hs : swapsWith e none pos.line X.env = pure false := by rfl) : PS X (.Expr e pos) (tDrop te) := by
  intro pins s σ H D I h
  exact wpAny_Expr_any (thn (he pins s σ H _ I h) fun v s1 ⟨x, H1, I1, r1, q1⟩ => ⟨σ, H1, I1, q1⟩) I.quiet hs
def tRet (te : TE) : TS := fun D σ H => te σ H D.rt
theorem ps_ret (he : PE X e te) : PS X (.Return (some e) pos) (tRet te) := by
  intro pins s σ H D I h
  exact wpAny_Return_some (thn (he pins s σ H _ I h) fun v s1 ⟨x, H1, I1, r1, q1⟩ => ⟨x, σ, H1, I1, r1, q1⟩)
def tIfS (c : TT) (t u : TS) : TS := fun D σ H => c σ H fun b H1 => if b = true then t D σ H1 else u D σ H1
theorem ps_if {c : Expr} {a b : List Stmt} {tc : TT} (hc : PT X c tc) (ha : PSs X a t) (hb : PSs X b u) : PS X (.If c a b pos) (tIfS tc t u) := by
  intro pins s σ H D I h
  refine wpAny_If (thn (hc pins s σ H _ I h) fun d s1 ⟨H1, I1, q1⟩ => ?_)
  cases d with
  | true => exact ha pins s1 σ H1 D I1 q1
  | false => exact hb pins s1 σ H1 D I1 q1
/-- code that the proof never comes to -/
def tNever : TS := fun _ _ _ => False
theorem ps_never : PS X st tNever := fun _ _ _ _ _ _ h => h.elim
end

/-! ### targets -/
abbrev TG := V → St → Hp → (St → Hp → Prop) → Prop
abbrev TGs := List V → St → Hp → (St → Hp → Prop) → Prop
def PG (X : Cx) (target : Expr) (t : TG) : Prop :=
  ∀ (pins : List (Addr × Obj)) (s : Shared) (σ : St) (H : Hp) (v : V) (u : Value) (Q : St → Hp → Prop), Inv X pins σ H s → RelV v u → t v σ H Q →
    wpAny (model X.prog X.w) X.A (assign target X.env u) (fun _ s' => ∃ σ' H', Inv X pins σ' H' s' ∧ Q σ' H') X.xe s
/-- several targets, one after another -/
def PGs (X : Cx) (ts : List Expr) (t : TGs) : Prop :=
  ∀ (pins : List (Addr × Obj)) (s : Shared) (σ : St) (H : Hp) (vs : List V) (us : List Value) (Q : St → Hp → Prop), Inv X pins σ H s → Vals vs us → t vs σ H Q →
    wpAny (model X.prog X.w) X.A (assignInOrder ((assignEach ts X.env).map (·.2)) us) (fun _ s' => ∃ σ' H', Inv X pins σ' H' s' ∧ Q σ' H') X.xe s
section
variable {X : Cx} {pos : Pos}
def gName (i : Nat) : TG := fun v σ H Q => Q (σ.set i (some v)) H
theorem pg_name {i : Nat} {x : Str} (hN : X.N.Nodup) (hi : X.N[i]? = some x) (hx : Loc X.env.scope x) (hf : X.fn x = true ∨ X.env.scope.names.lookup x = some .local := by first | exact .inl rfl | exact .inr rfl | assumption) : PG X (.Name x pos) (gName i) := by
  intro pins s σ H v u Q I r h
  exact wpAny_assign_Name (store_ok I hN hi hx r (fun s' I' => ⟨_, H, I', h⟩) hf)
def gNil : TGs := fun vs σ H Q => vs = [] ∧ Q σ H
def gCons (t : TG) (u : TGs) : TGs := fun vs σ H Q => ∃ v r, vs = v :: r ∧ t v σ H fun σ' H' => u r σ' H' Q
theorem pgs_nil : PGs X [] gNil := by
  intro pins s σ H vs us Q I r h
  obtain ⟨e, h⟩ := h
  subst e
  cases r
  exact assignInOrder_nil ⟨σ, H, I, h⟩
theorem pgs_cons {e : Expr} {es : List Expr} {t : TG} {u : TGs} (h1 : PG X e t) (h2 : PGs X es u)
    (hs : (assignEach (e :: es) X.env).map (·.2) = assign e X.env :: (assignEach es X.env).map (·.2) := by rfl) : PGs X (e :: es) (gCons t u) := by
  intro pins s σ H vs us Q I r h
  obtain ⟨v, vr, e1, h⟩ := h
  subst e1
  cases r with
  | cons r rr =>
    rw [hs]
    refine assignInOrder_cons (thn (h1 pins s σ H _ _ _ I r h) fun _ s1 ⟨σ1, H1, I1, q1⟩ => ?_)
    exact h2 pins s1 σ1 H1 _ _ Q I1 rr q1
/-- (a, b, ..) = a tuple of that length -/
def gTup (K : PySem.W.Frag) (n : Nat) (t : TGs) : TG := fun v σ H Q => ∃ a xs, v = .ref a ∧ SqT K H a xs ∧ xs.length = n ∧ t xs σ H Q
theorem pg_tup {es : List Expr} {k : Nat} {t : TGs} {n : Nat} (hc : X.calm = true) (h : PGs X es t)
    (hn : (assignEach es X.env).length = n := by rfl) (hst : (assignEach es X.env).findIdx? (·.1) = none := by rfl) : PG X (.Tuple es k pos) (gTup X.K n t) := by
  intro pins s σ H v u Q I r hw
  obtain ⟨a, xs, e1, hq, hl, hw⟩ := hw
  subst e1
  cases r
  obtain ⟨its, rv, ht, hz⟩ := I.tuple hq
  refine assign_Tuple_tuple (I.ok.hd hc) ht (by simp [hn, ← hl, rv.length]) hst fun h' hx => ?_
  have I1 : Inv X pins σ H { s with heap := h' } := I.kept (t' := s.toks) fun b o e => hx b o (Nat.ne_of_lt (Heap.lt_size e)) e
  exact h pins _ σ H xs _ Q I1 (by simpa using rv) hw
/-- target = value -/
def tAsg (te : TE) (g : TG) : TS := fun D σ H => te σ H fun x H1 => g x σ H1 D.nx
theorem ps_asg {tg e : Expr} {te : TE} {g : TG} (he : PE X e te) (hg : PG X tg g) (hs : swapsWithSole [tg] e pos.line X.env = pure false := by rfl) (hw : swappedStores [tg] e X.env = pure none := by rfl)
    (h1 : (assignEach [tg] X.env).map (·.2) = [assign tg X.env] := by rfl) : PS X (.Assign [tg] e pos) (tAsg te g) := by
  intro pins s σ H D I h
  refine wpAny_Assign_stores (thn (he pins s σ H _ I h) fun v s1 ⟨x, H1, I1, r1, q1⟩ => ?_) hs hw
  rw [h1]
  exact thn (hg pins s1 σ H1 x v _ I1 r1 q1) fun _ s2 q => q
/-- name = value -/
theorem ps_set {i : Nat} {x : Str} {e : Expr} {te : TE} {pos' : Pos} (hN : X.N.Nodup) (hi : X.N[i]? = some x) (hx : Loc X.env.scope x) (he : PE X e te) (hs : swapsWith e (some (.Name x pos')) pos.line X.env = pure false := by rfl) (hf : X.fn x = true ∨ X.env.scope.names.lookup x = some .local := by first | exact .inl rfl | exact .inr rfl | assumption) :
    PS X (.Assign [.Name x pos'] e pos) (tAsg te (gName i)) := by
  intro pins s σ H D I h
  refine wpAny_Assign_Name (thn (he pins s σ H _ I h) fun v s1 ⟨y, H1, I1, r1, q1⟩ => ?_) hs
  exact store_ok I1 hN hi hx r1 (fun s2 I2 => ⟨_, H1, I2, q1⟩) hf
end

/-! ### while -/
section
variable {X : Cx} {pos : Pos}
end

/-! ### what a loop or a comprehension walks -/
/-- at turn i: it yields x (the heap may grow), or it stops -/
structure It where
  go : Nat → Hp → Prop
  yld : Nat → Hp → V → Hp → Prop
  stop : Nat → Hp → Prop
/-- the iterator's own objects may turn: they are not the frame's, not pinned, younger than the entry (or a comprehension's own) -/
def FpOk (X : Cx) (pins : List (Addr × Obj)) (H : Hp) (b : Addr) : Prop :=
  H b = none ∧ b ≠ X.env.locals ∧ b ∉ X.fs ∧ (b ∈ X.ex ∨ X.s₀.heap.objs.size ≤ b) ∧ (∀ x c, X.env.cells.lookup x = some c → c ≠ b) ∧ ∀ p ∈ X.pn ++ pins, p.1 ≠ b
theorem Inv.fpOk {X : Cx} {pins : List (Addr × Obj)} {σ : St} {H H' : Hp} {s : Shared} {b : Addr} (I : Inv X pins σ H s) (hb : s.heap.objs.size ≤ b) (hn : H' b = none) : FpOk X pins H' b := by
  refine ⟨hn, Nat.ne_of_gt (Nat.lt_of_lt_of_le I.lt hb), I.nofs hb, .inr (Nat.le_trans I.sz hb), fun x c e z => ?_, fun p hp z => ?_⟩
  · obtain ⟨v, q⟩ := I.cell x c e
    exact absurd (Nat.lt_of_lt_of_le q.lt (by rw [z]; exact hb)) (Nat.lt_irrefl _)
  · exact absurd (Nat.lt_of_lt_of_le (Heap.lt_size (I.pin p hp).1) (by rw [z]; exact hb)) (Nat.lt_irrefl _)
structure Turn (P : Program) (w : World) (K : PySem.W.Frag) (tg : Expr) (J : It) (fp : List Addr) (it : Addr) (tn : Nat → Heap → Prop) : Prop where
  mem : it ∈ fp
  obj : ∀ i h, tn i h → ∀ b ∈ fp, ∃ o, h.get? b = some o ∧ ∀ v, o.data ≠ .cell v
  keep : ∀ i h h', tn i h → (∀ b ∈ fp, ∀ o, h.get? b = some o → h'.get? b = some o) → tn i h'
  item : ∀ (X : Cx), X.prog = P → X.w = w → X.K = K → X.calm = true → ∀ (i : Nat) (pins : List (Addr × Obj)) (s : Shared) (σ : St) (H : Hp) (E : Value → Shared → Prop), Inv X pins σ H s → (∀ b ∈ fp, FpOk X pins H b) → tn i s.heap → J.go i H →
    wpAny (model P w) X.A (pyNext (.ref it)) (fun r s1 => ∃ u, r = some u ∧
      wpAny (model P w) X.A (letOwnedTupleGo tg (.ref it) u) (fun _ s2 => ∃ x H', Inv X pins σ H' s2 ∧ RelV x u ∧ J.yld i H x H' ∧ tn (i + 1) s2.heap ∧ ∀ b ∈ fp, H' b = none) E s1) E s
  done : ∀ (X : Cx), X.prog = P → X.w = w → X.K = K → X.calm = true → ∀ (i : Nat) (pins : List (Addr × Obj)) (s : Shared) (σ : St) (H : Hp) (E : Value → Shared → Prop), Inv X pins σ H s → (∀ b ∈ fp, FpOk X pins H b) → tn i s.heap → J.stop i H →
    wpAny (model P w) X.A (pyNext (.ref it)) (fun r s1 => r = none ∧ Inv X pins σ H s1) E s
  self : ∀ (A : Around) (i : Nat) (s : Shared) (Q : Value → Shared → Prop) (E : Value → Shared → Prop), tn i s.heap → Q (.ref it) s → wpAny (model P w) A (pyIter (.ref it)) Q E s
abbrev TI := St → Hp → (It → Hp → Prop) → Prop
/-- an iterator has come -/
def PIE (X : Cx) (pins : List (Addr × Obj)) (σ : St) (tg : Expr) (R : It → Hp → Prop) (itv : Value) (s2 : Shared) : Prop :=
  ∃ (it : Addr) (fp : List Addr) (tn : Nat → Heap → Prop) (J : It) (H' : Hp), itv = .ref it ∧ Inv X pins σ H' s2 ∧ Turn X.prog X.w X.K tg J fp it tn ∧ tn 0 s2.heap ∧ (∀ b ∈ fp, FpOk X pins H' b) ∧ R J H'
def PI (X : Cx) (tg iter : Expr) (wi : TI) : Prop :=
  ∀ (pins : List (Addr × Obj)) (s : Shared) (σ : St) (H : Hp) (R : It → Hp → Prop), Inv X pins σ H s → wi σ H R →
    wpAny (model X.prog X.w) X.A (eval iter X.env) (fun v s1 => wpAny (model X.prog X.w) X.A (pyIter v) (PIE X pins σ tg R) X.xe s1) X.xe s

/-- the step ahead of the store is nothing for an iterator that keeps no tuple -/
theorem go_of {M : Model} {A : Around} {E : Value → Shared → Prop} {s : Shared} {tg : Expr} {it : Addr} {u : Value} {o : Obj} {n : String} {vs : Array Value} {Q : Unit → Shared → Prop} (ho : s.heap.get? it = some o) (hc : o.cls = .type n) (hd : o.data = .fields vs)
    (hn : ["enumerate", "zip", "dict_itemiterator", "dict_reverseitemiterator", "odict_iterator", "itertools.zip_longest", "itertools.pairwise"].contains n = false) (hQ : Q () s) : wpAny M A (letOwnedTupleGo tg (.ref it) u) Q E s := by
  unfold letOwnedTupleGo
  cases tg <;> first
    | exact wpAny_pure hQ
    | (cases u <;> first
        | exact wpAny_pure hQ
        | (refine wpAny_bind (wpAny_load ho ?_)
           rw [hc, hd]
           show wpAny M A (if (["enumerate", "zip", "dict_itemiterator", "dict_reverseitemiterator", "odict_iterator", "itertools.zip_longest", "itertools.pairwise"].contains n && vs[0]? == some (rawInt _)) = true then _ else _) Q E s
           rw [if_neg (by intro h; rw [hn, Bool.false_and] at h; cases h)]
           exact wpAny_pure hQ))

/-- the list at a, as it stands at each turn (a loop may append to it) -/
def Itl (K : PySem.W.Frag) (a : Addr) : It :=
  ⟨fun i H => ∃ xs x, SqL K H a xs ∧ xs[i]? = some x, fun i H x H' => H' = H ∧ ∀ xs, SqL K H a xs → xs[i]? = some x, fun i H => ∃ xs, SqL K H a xs ∧ xs.length ≤ i⟩
def Itt (K : PySem.W.Frag) (a : Addr) : It :=
  ⟨fun i H => ∃ xs x, SqT K H a xs ∧ xs[i]? = some x, fun i H x H' => H' = H ∧ ∀ xs, SqT K H a xs → xs[i]? = some x, fun i H => ∃ xs, SqT K H a xs ∧ xs.length ≤ i⟩
/-- lo, lo + 1, .. (n of them) -/
def Itr (lo : Int) (n : Nat) : It := ⟨fun i _ => i < n, fun i H x H' => H' = H ∧ x = .int (lo + i), fun i _ => n ≤ i⟩
theorem turn_list {P : Program} {w : World} {K : PySem.W.Frag} {tg : Expr} (a it : Addr) : Turn P w K tg (Itl K a) [it] it (fun i h => h.IsListIter it a i) where
  mem := by simp
  obj := fun i h st b hb => by
    have e : b = it := by simpa using hb
    subst e
    obtain ⟨o, e, c, d⟩ := st
    exact ⟨o, e, fun v z => by rw [d] at z; cases z⟩
  keep := fun i h h' st k => st.at fun o e => k it (by simp) o e
  item := by
    intro X hP hw hK hc i pins s σ H E I hf st hg
    subst hP hw hK
    obtain ⟨xs, x, hq, hx⟩ := hg
    obtain ⟨its, rv, p, hz⟩ := I.list hq
    obtain ⟨u, hu, ru⟩ := rv.get hx
    obtain ⟨f0, f1, f2, f3, f4, f5⟩ := hf it (by simp)
    refine wpAny_pyNext_list_item st p.isList (x := u) (by simpa using hu) fun h' st' sb => ?_
    have I1 : Inv X pins σ H { s with heap := h' } := I.turned (t' := s.toks) (fun b o hb e => (sb.2 b hb).trans e) f0 f1 f3 f4 f5
    obtain ⟨o, e, c, d⟩ := id st'
    exact ⟨u, rfl, go_of (s := { s with heap := h' }) e c d (by decide) ⟨x, H, I1, ru, ⟨rfl, fun ys hy => by rw [I.list_inj hy hq]; exact hx⟩, st', fun b hb => (hf b hb).1⟩⟩
  done := by
    intro X hP hw hK hc i pins s σ H E I hf st hg
    subst hP hw hK
    obtain ⟨xs, hq, hx⟩ := hg
    obtain ⟨its, rv, p, hz⟩ := I.list hq
    obtain ⟨f0, f1, f2, f3, f4, f5⟩ := hf it (by simp)
    have hl := rv.length
    exact wpAny_pyNext_list_end (I.ok.hd hc) st p.isList (by simp; omega) fun h' eb => ⟨rfl, I.turned (t' := s.toks) (fun b o hb e => eb b o hb e) f0 f1 f3 f4 f5⟩
  self := fun _ _ _ _ _ st h => wpAny_pyIter_listiter st h
theorem turn_tuple {P : Program} {w : World} {K : PySem.W.Frag} {tg : Expr} (a it : Addr) : Turn P w K tg (Itt K a) [it] it (fun i h => h.IsTupleIter it a i) where
  mem := by simp
  obj := fun i h st b hb => by
    have e : b = it := by simpa using hb
    subst e
    obtain ⟨o, e, c, d⟩ := st
    exact ⟨o, e, fun v z => by rw [d] at z; cases z⟩
  keep := fun i h h' st k => st.at fun o e => k it (by simp) o e
  item := by
    intro X hP hw hK hc i pins s σ H E I hf st hg
    subst hP hw hK
    obtain ⟨xs, x, hq, hx⟩ := hg
    obtain ⟨its, rv, p, hz⟩ := I.tuple hq
    obtain ⟨u, hu, ru⟩ := rv.get hx
    obtain ⟨f0, f1, f2, f3, f4, f5⟩ := hf it (by simp)
    refine wpAny_pyNext_tuple_item st (show s.heap.IsTuple a its.toArray from p) (x := u) (by simpa using hu) fun h' st' sb => ?_
    have I1 : Inv X pins σ H { s with heap := h' } := I.turned (t' := s.toks) (fun b o hb e => (sb.2 b hb).trans e) f0 f1 f3 f4 f5
    obtain ⟨o, e, c, d⟩ := id st'
    exact ⟨u, rfl, go_of (s := { s with heap := h' }) e c d (by decide) ⟨x, H, I1, ru, ⟨rfl, fun ys hy => by rw [I.tuple_inj hy hq]; exact hx⟩, st', fun b hb => (hf b hb).1⟩⟩
  done := by
    intro X hP hw hK hc i pins s σ H E I hf st hg
    subst hP hw hK
    obtain ⟨xs, hq, hx⟩ := hg
    obtain ⟨its, rv, p, hz⟩ := I.tuple hq
    obtain ⟨f0, f1, f2, f3, f4, f5⟩ := hf it (by simp)
    have hl := rv.length
    exact wpAny_pyNext_tuple_end (I.ok.hd hc) st (show s.heap.IsTuple a its.toArray from p) (by simp; omega) fun h' eb => ⟨rfl, I.turned (t' := s.toks) (fun b o hb e => eb b o hb e) f0 f1 f3 f4 f5⟩
  self := fun _ _ _ _ _ st h => wpAny_pyIter_tupleiter st h
theorem turn_range {P : Program} {w : World} {K : PySem.W.Frag} {tg : Expr} (it : Addr) (lo : Int) (n : Nat) : Turn P w K tg (Itr lo n) [it] it (fun i h => IsRangeIter h it (lo + (i : Nat) * 1) ((n : Int) - (i : Nat)) 1) where
  mem := by simp
  obj := fun i h st b hb => by
    have e : b = it := by simpa using hb
    subst e
    exact ⟨_, st, fun v z => by
      have z' : Data.fields _ = Data.cell v := z
      cases z'⟩
  keep := fun i h h' st k => k it (by simp) _ st
  item := by
    intro X hP hw hK hc i pins s σ H E I hf st hg
    subst hP hw hK
    obtain ⟨f0, f1, f2, f3, f4, f5⟩ := hf it (by simp)
    have W := Walks.range (prog := X.prog) (w := X.w) (I.ok.hd hc) it lo 1 n
    refine W.item i s _ _ hg st fun v h' tk hv st' kk => ?_
    obtain ⟨t, rfl⟩ := hv
    have I1 : Inv X pins σ H { s with heap := h', toks := tk } := I.turned (fun b o hb e => kk b o (by simpa using hb) e) f0 f1 f3 f4 f5
    refine ⟨_, rfl, go_of (s := { s with heap := h', toks := tk }) (n := "range_iterator") st' rfl rfl (by decide) ⟨.int (lo + i), H, I1, ⟨t, ?_⟩, ⟨rfl, rfl⟩, st', fun b hb => (hf b hb).1⟩⟩
    rw [Int.mul_one]
  done := by
    intro X hP hw hK hc i pins s σ H E I hf st hg
    subst hP hw hK
    obtain ⟨f0, f1, f2, f3, f4, f5⟩ := hf it (by simp)
    exact wpAny_pyNext_range_end (I.ok.hd hc) st (by have : n ≤ i := hg; omega) fun h' eb => ⟨rfl, I.turned (t' := s.toks) (fun b o hb e => eb b o hb e) f0 f1 f3 f4 f5⟩
  self := fun _ _ _ _ _ st h => wpAny_pyIter_rangeiter st h
end L2

namespace L2
open PySem PySem.Spec PyProof.Rows
section
variable {X : Cx} {tg : Expr}
def iList (K : PySem.W.Frag) (tl : TE) : TI := fun σ H R => tl σ H fun x H1 => ∃ a, x = .ref a ∧ (∃ xs, SqL K H1 a xs) ∧ R (Itl K a) H1
def iTup (K : PySem.W.Frag) (tl : TE) : TI := fun σ H R => tl σ H fun x H1 => ∃ a, x = .ref a ∧ (∃ xs, SqT K H1 a xs) ∧ R (Itt K a) H1
theorem pi_list {l : Expr} {tl : TE} (hl : PE X l tl) : PI X tg l (iList X.K tl) := by
  intro pins s σ H R I h
  refine thn (hl pins s σ H _ I h) fun v s1 ⟨x, H1, I1, r1, q1⟩ => ?_
  obtain ⟨a, e, ⟨xs, hq⟩, q⟩ := q1
  subst e
  cases r1
  obtain ⟨its, rv, p, hz⟩ := I1.list hq
  refine wpAny_pyIter_list p.isList ?_
  refine ⟨s1.heap.objs.size, [s1.heap.objs.size], _, _, H1, rfl, I1.kept (t' := s1.toks) fun b o e => Heap.get?_push_of_some _ e, turn_list a _, ⟨_, Heap.get?_push_size _ rfl, rfl, rfl⟩, fun b hb => ?_, q⟩
  have e : b = s1.heap.objs.size := by simpa using hb
  subst e
  exact I1.fpOk (Nat.le_refl _) (I1.hok.fresh (Nat.le_refl _))
theorem pi_tup {l : Expr} {tl : TE} (hl : PE X l tl) : PI X tg l (iTup X.K tl) := by
  intro pins s σ H R I h
  refine thn (hl pins s σ H _ I h) fun v s1 ⟨x, H1, I1, r1, q1⟩ => ?_
  obtain ⟨a, e, ⟨xs, hq⟩, q⟩ := q1
  subst e
  cases r1
  obtain ⟨its, rv, p, hz⟩ := I1.tuple hq
  refine wpAny_pyIter_tuple (show s1.heap.IsTuple a its.toArray from p) ?_
  refine ⟨s1.heap.objs.size, [s1.heap.objs.size], _, _, H1, rfl, I1.kept (t' := s1.toks) fun b o e => Heap.get?_push_of_some _ e, turn_tuple a _, ⟨_, Heap.get?_push_size _ rfl, rfl, rfl⟩, fun b hb => ?_, q⟩
  have e : b = s1.heap.objs.size := by simpa using hb
  subst e
  exact I1.fpOk (Nat.le_refl _) (I1.hok.fresh (Nat.le_refl _))
/-- a range object just made, walked -/
theorem range_it {pins : List (Addr × Obj)} {σ : St} {H : Hp} {s : Shared} {R : It → Hp → Prop} {E : Value → Shared → Prop} {lo hi : Int} {t u v : Tok} {tk : Nat} (I : Inv X pins σ H s) (h1 : -(2 ^ 62) ≤ lo) (h2 : lo < 2 ^ 62) (h3 : -(2 ^ 62) ≤ hi) (h4 : hi < 2 ^ 62)
    (q : R (Itr lo (hi - lo).toNat) H) : wpAny (model X.prog X.w) X.A (pyIter (.ref s.heap.objs.size)) (PIE X pins σ tg R) E { s with heap := s.heap.push { cls := .type "range", data := .fields #[.int lo t, .int hi u, .int 1 v] }, toks := tk } := by
  refine wpAny_pyIter_range (IsRange.new ..) (small_one h1 h2 h3 h4) ?_
  have I1 : Inv X pins σ H { s with heap := s.heap.push { cls := .type "range", data := .fields #[.int lo t, .int hi u, .int 1 v] }, toks := tk } := I.kept fun b o e => Heap.get?_push_of_some _ e
  refine ⟨(s.heap.push { cls := .type "range", data := .fields #[.int lo t, .int hi u, .int 1 v] }).objs.size, [(s.heap.push { cls := .type "range", data := .fields #[.int lo t, .int hi u, .int 1 v] }).objs.size], _, _, H, rfl,
    I1.kept (t' := tk) fun b o e => Heap.get?_push_of_some _ e, turn_range _ lo (hi - lo).toNat, ?_, fun b hb => ?_, q⟩
  · have e1 : lo + ((0 : Nat) : Int) * 1 = lo := by simp
    have e2 : (((hi - lo).toNat : Nat) : Int) - ((0 : Nat) : Int) = Builtin.Range.rangeSize lo hi 1 := by rw [rangeSize_one]; split <;> omega
    show IsRangeIter _ _ (lo + ((0 : Nat) : Int) * 1) ((((hi - lo).toNat : Nat) : Int) - ((0 : Nat) : Int)) 1
    rw [e1, e2]
    exact Heap.get?_push_size _ rfl
  · have e : b = (s.heap.push { cls := .type "range", data := .fields #[.int lo t, .int hi u, .int 1 v] }).objs.size := by simpa using hb
    subst e
    exact I1.fpOk (Nat.le_refl _) (I1.hok.fresh (Nat.le_refl _))
def iRng1 (ta : TA) : TI := fun σ H R => ta σ H fun vs H1 => ∃ j : Int, vs = [.int j] ∧ -(2 ^ 62) ≤ j ∧ j < 2 ^ 62 ∧ R (Itr 0 j.toNat) H1
def iRng2 (ta : TA) : TI := fun σ H R => ta σ H fun vs H1 => ∃ i j : Int, vs = [.int i, .int j] ∧ (-(2 ^ 62) ≤ i ∧ i < 2 ^ 62 ∧ -(2 ^ 62) ≤ j ∧ j < 2 ^ 62) ∧ R (Itr i (j - i).toNat) H1
theorem pi_range1 {a : Expr} {ta : TA} {p pos : Pos} (hg : Gl X "range") (hm : X.mg "range" = none) (ha : PA X [a] ta) (hs : starEach [a] X.env = [(false, eval a X.env)] := by rfl) : PI X tg (.Call (.Name "range" p) [a] [] pos) (iRng1 ta) := by
  intro pins s σ H R I h
  refine Call_ (ld_blt I hg hm boot_range (PyProof.Rows.callWith_type1 (thn (ha pos pins s σ H _ I h) fun us s1 ⟨vs, H1, I1, r1, q1⟩ => ?_) hs rfl))
  obtain ⟨j, e, q1, q2, q⟩ := q1
  subst e
  cases r1 with
  | cons r rr =>
    cases rr
    obtain ⟨t, rfl⟩ := r
    exact call_range_1 (range_it I1 (by omega) (by omega) q1 q2 (by simpa using q))
theorem pi_range2 {a b : Expr} {ta : TA} {p pos : Pos} (hg : Gl X "range") (hm : X.mg "range" = none) (ha : PA X [a, b] ta) (hs : starEach [a, b] X.env = [(false, eval a X.env), (false, eval b X.env)] := by rfl) (hs2 : starEach [b] X.env = [(false, eval b X.env)] := by rfl) :
    PI X tg (.Call (.Name "range" p) [a, b] [] pos) (iRng2 ta) := by
  intro pins s σ H R I h
  refine Call_ (ld_blt I hg hm boot_range (PyProof.Rows.callWith_type1 (thn (ha pos pins s σ H _ I h) fun us s1 ⟨vs, H1, I1, r1, q1⟩ => ?_) (by rw [hs, hs2]) (by rw [hs2]; rfl)))
  obtain ⟨i, j, e, ⟨q1, q2, q3, q4⟩, q⟩ := q1
  subst e
  cases r1 with
  | cons r rr =>
    cases rr with
    | cons r' rr =>
      cases rr
      obtain ⟨t, rfl⟩ := r
      obtain ⟨t', rfl⟩ := r'
      exact call_range_2 (range_it I1 q1 q2 q3 q4 q)

/-! ### for -/
/-- W: the invariant by the turn and a measure; N: what the body is to reach -/
def tFor (wi : TI) (g : TG) (tb : TS) : TS := fun D σ H => wi σ H fun J H1 => ∃ W : Nat → Nat → St → Hp → Prop, (∃ m, W 0 m σ H1) ∧ ∀ i m σ H, W i m σ H →
  (J.stop i H ∧ D.nx σ H) ∨ (J.go i H ∧ ∃ N : St → Hp → Prop, (∀ σ' H', N σ' H' → ∃ m', m' < m ∧ W (i + 1) m' σ' H') ∧ ∀ x H', J.yld i H x H' → g x σ H' fun σ2 H2 => tb { D with nx := N, ct := N, bk := D.nx } σ2 H2)
/-- the records at fp as they stand -/
def pinsAt (fp : List Addr) (h : Heap) : List (Addr × Obj) := fp.filterMap fun b => (h.get? b).map fun o => (b, o)
theorem mem_pinsAt {fp : List Addr} {h : Heap} {b : Addr} {o : Obj} (hb : b ∈ fp) (e : h.get? b = some o) : (b, o) ∈ pinsAt fp h := List.mem_filterMap.mpr ⟨b, hb, by rw [e]; rfl⟩
theorem of_pinsAt {fp : List Addr} {h : Heap} {p : Addr × Obj} (hp : p ∈ pinsAt fp h) : p.1 ∈ fp ∧ h.get? p.1 = some p.2 := by
  obtain ⟨b, hb, e⟩ := List.mem_filterMap.mp hp
  cases q : h.get? b with
  | none => rw [q] at e; cases e
  | some o =>
    rw [q] at e
    have e' : (b, o) = p := Option.some.inj e
    subst e'
    exact ⟨hb, q⟩
theorem Inv.pinned {pins : List (Addr × Obj)} {σ : St} {H : Hp} {s : Shared} {fp : List Addr} (I : Inv X pins σ H s) (hf : ∀ b ∈ fp, FpOk X pins H b) (ho : ∀ b ∈ fp, ∃ o, s.heap.get? b = some o ∧ ∀ v, o.data ≠ .cell v) : Inv X (pins ++ pinsAt fp s.heap) σ H s :=
  I.pins_of fun p hp => (List.mem_append.mp hp).elim (fun z => I.pin p (List.mem_append_right _ z)) fun z => by
    obtain ⟨hb, e⟩ := of_pinsAt z
    obtain ⟨f0, f1, f2, _⟩ := hf p.1 hb
    obtain ⟨o, e', d⟩ := ho p.1 hb
    rw [e] at e'; cases e'
    exact ⟨e, f0, f1, f2, d⟩
theorem Inv.unpinned {pins pl : List (Addr × Obj)} {σ : St} {H : Hp} {s : Shared} (I : Inv X (pins ++ pl) σ H s) : Inv X pins σ H s := I.pins_of fun p hp => I.pin p (List.mem_append_right _ (List.mem_append_left _ hp))
theorem ps_for {iter : Expr} {body : List Stmt} {wi : TI} {g : TG} {tb : TS} {pos : Pos} (hp : PassesOwn (model X.prog X.w) X.A X.env X.xe) (hc : X.calm = true) (hi : PI X tg iter wi) (hg : PG X tg g) (hb : PSs X body tb)
    (hs : ∀ x, foldedSetIterable iter X.env x = pure x := by intro _; rfl) : PS X (.For tg iter body [] pos) (tFor wi g tb) := by
  intro pins s σ H D I h
  refine wpAny_For (thn (hi pins s σ H _ I h) fun v s1 h1 => thn h1 fun itv s2 h2 => ?_) hs
  obtain ⟨it, fp, tn, J, H2, e, I2, T, st2, f2, W, ⟨m0, w0⟩, turn⟩ := h2
  subst e
  -- what stays true of the iterator's objects through the loop
  have stat : ∀ {H' : Hp}, (∀ b ∈ fp, H' b = none) → ∀ b ∈ fp, FpOk X pins H' b := fun hn b hb => ⟨hn b hb, (f2 b hb).2⟩
  refine codeAny_forLoop_any (fun n s' => ∃ i σ' H', Inv X pins σ' H' s' ∧ tn i s'.heap ∧ (∀ b ∈ fp, H' b = none) ∧ W i n σ' H') ?_ m0 ⟨0, σ, H2, I2, st2, fun b hb => (f2 b hb).1, w0⟩
  rintro n s3 ⟨i, σ3, H3, I3, st3, fr3, w3⟩
  rcases turn i n σ3 H3 w3 with ⟨stop, qn⟩ | ⟨go, N, hN, step⟩
  · refine wpAny_passesOwn hp (thn (T.done X rfl rfl rfl hc i pins s3 σ3 H3 X.xe I3 (stat fr3) st3 stop) fun r s4 ⟨hr, I4⟩ => ?_)
    subst hr
    exact wpAny_execs_nil ⟨σ3, H3, I4, qn⟩
  · refine wpAny_passesOwn hp (thn (T.item X rfl rfl rfl hc i pins s3 σ3 H3 X.xe I3 (stat fr3) st3 go) fun r s4 ⟨u, hr, h4⟩ => ?_)
    subst hr
    refine wpAny_passesOwn hp (thn h4 fun _ s5 ⟨x, H5, I5, r5, y5, st5, fr5⟩ => ?_)
    have I5' := I5.pinned (stat fr5) (T.obj _ _ st5)
    refine wpAny_passesOwn hp (thn (hg _ s5 σ3 H5 x u _ I5' r5 (step x H5 y5)) fun _ s6 ⟨σ6, H6, I6, q6⟩ => ?_)
    refine wpAny_passesOwn hp (thn (hb _ s6 σ6 H6 _ I6 q6) fun f s7 q7 => ?_)
    have again : ∀ {σ7 : St} {H7 : Hp}, Inv X (pins ++ pinsAt fp s5.heap) σ7 H7 s7 → N σ7 H7 → ∃ m, m < n ∧ ∃ i σ' H', Inv X pins σ' H' s7 ∧ tn i s7.heap ∧ (∀ b ∈ fp, H' b = none) ∧ W i m σ' H' := fun {σ7 H7} I7 n7 => by
      obtain ⟨m', hm, w7⟩ := hN σ7 H7 n7
      refine ⟨m', hm, i + 1, σ7, H7, I7.unpinned, T.keep _ _ _ st5 fun b hb o e => (I7.pin (b, o) (List.mem_append_right _ (List.mem_append_right _ (mem_pinsAt hb e)))).1, fun b hb => ?_, w7⟩
      obtain ⟨o, e, d⟩ := T.obj _ _ st5 b hb
      exact (I7.pin (b, o) (List.mem_append_right _ (List.mem_append_right _ (mem_pinsAt hb e)))).2.1
    cases f with
    | next => obtain ⟨σ7, H7, I7, n7⟩ := q7; exact again I7 n7
    | cont => obtain ⟨σ7, H7, I7, n7⟩ := q7; exact again I7 n7
    | brk => obtain ⟨σ7, H7, I7, q7⟩ := q7; exact ⟨σ7, H7, I7.unpinned, q7⟩
    | ret v => obtain ⟨x7, σ7, H7, I7, r7, q7⟩ := q7; exact ⟨x7, σ7, H7, I7.unpinned, r7, q7⟩
end

/-! ### the forms one uses -/
/-- over a list that the body leaves as it is -/
theorem for_list {K : PySem.W.Frag} {a : Addr} {xs : List V} {g : TG} {tb : TS} {D : Ends} {σ : St} {H : Hp} (Pv : Nat → St → Hp → Prop) (h0 : Pv 0 σ H) (hl : ∀ i σ H, i ≤ xs.length → Pv i σ H → SqL K H a xs)
    (hs : ∀ i x σ H, xs[i]? = some x → Pv i σ H → g x σ H fun σ2 H2 => tb { D with nx := Pv (i + 1), ct := Pv (i + 1), bk := D.nx } σ2 H2) (hd : ∀ σ H, Pv xs.length σ H → D.nx σ H) :
    ∃ W : Nat → Nat → St → Hp → Prop, (∃ m, W 0 m σ H) ∧ ∀ i m σ H, W i m σ H →
      ((Itl K a).stop i H ∧ D.nx σ H) ∨ ((Itl K a).go i H ∧ ∃ N : St → Hp → Prop, (∀ σ' H', N σ' H' → ∃ m', m' < m ∧ W (i + 1) m' σ' H') ∧ ∀ x H', (Itl K a).yld i H x H' → g x σ H' fun σ2 H2 => tb { D with nx := N, ct := N, bk := D.nx } σ2 H2) := by
  refine ⟨fun i m σ H => m = xs.length - i ∧ i ≤ xs.length ∧ Pv i σ H, ⟨xs.length, by simp, Nat.zero_le _, h0⟩, ?_⟩
  rintro i m σ H ⟨rfl, hi, p⟩
  have q := hl i σ H hi p
  by_cases hlt : i < xs.length
  · refine .inr ⟨⟨xs, xs[i], q, by simp [hlt]⟩, Pv (i + 1), fun σ' H' p' => ⟨xs.length - (i + 1), by omega, rfl, hlt, p'⟩, fun x H' y => ?_⟩
    obtain ⟨e, y⟩ := y
    subst e
    exact hs i x σ _ (y xs q) p
  · have e : i = xs.length := by omega
    subst e
    exact .inl ⟨⟨xs, q, Nat.le_refl _⟩, hd σ H p⟩
theorem for_tup {K : PySem.W.Frag} {a : Addr} {xs : List V} {g : TG} {tb : TS} {D : Ends} {σ : St} {H : Hp} (Pv : Nat → St → Hp → Prop) (h0 : Pv 0 σ H) (hl : ∀ i σ H, i ≤ xs.length → Pv i σ H → SqT K H a xs)
    (hs : ∀ i x σ H, xs[i]? = some x → Pv i σ H → g x σ H fun σ2 H2 => tb { D with nx := Pv (i + 1), ct := Pv (i + 1), bk := D.nx } σ2 H2) (hd : ∀ σ H, Pv xs.length σ H → D.nx σ H) :
    ∃ W : Nat → Nat → St → Hp → Prop, (∃ m, W 0 m σ H) ∧ ∀ i m σ H, W i m σ H →
      ((Itt K a).stop i H ∧ D.nx σ H) ∨ ((Itt K a).go i H ∧ ∃ N : St → Hp → Prop, (∀ σ' H', N σ' H' → ∃ m', m' < m ∧ W (i + 1) m' σ' H') ∧ ∀ x H', (Itt K a).yld i H x H' → g x σ H' fun σ2 H2 => tb { D with nx := N, ct := N, bk := D.nx } σ2 H2) := by
  refine ⟨fun i m σ H => m = xs.length - i ∧ i ≤ xs.length ∧ Pv i σ H, ⟨xs.length, by simp, Nat.zero_le _, h0⟩, ?_⟩
  rintro i m σ H ⟨rfl, hi, p⟩
  have q := hl i σ H hi p
  by_cases hlt : i < xs.length
  · refine .inr ⟨⟨xs, xs[i], q, by simp [hlt]⟩, Pv (i + 1), fun σ' H' p' => ⟨xs.length - (i + 1), by omega, rfl, hlt, p'⟩, fun x H' y => ?_⟩
    obtain ⟨e, y⟩ := y
    subst e
    exact hs i x σ _ (y xs q) p
  · have e : i = xs.length := by omega
    subst e
    exact .inl ⟨⟨xs, q, Nat.le_refl _⟩, hd σ H p⟩
theorem for_range {lo : Int} {n : Nat} {g : TG} {tb : TS} {D : Ends} {σ : St} {H : Hp} (Pv : Nat → St → Hp → Prop) (h0 : Pv 0 σ H)
    (hs : ∀ i σ H, i < n → Pv i σ H → g (.int (lo + i)) σ H fun σ2 H2 => tb { D with nx := Pv (i + 1), ct := Pv (i + 1), bk := D.nx } σ2 H2) (hd : ∀ σ H, Pv n σ H → D.nx σ H) :
    ∃ W : Nat → Nat → St → Hp → Prop, (∃ m, W 0 m σ H) ∧ ∀ i m σ H, W i m σ H →
      ((Itr lo n).stop i H ∧ D.nx σ H) ∨ ((Itr lo n).go i H ∧ ∃ N : St → Hp → Prop, (∀ σ' H', N σ' H' → ∃ m', m' < m ∧ W (i + 1) m' σ' H') ∧ ∀ x H', (Itr lo n).yld i H x H' → g x σ H' fun σ2 H2 => tb { D with nx := N, ct := N, bk := D.nx } σ2 H2) := by
  refine ⟨fun i m σ H => m = n - i ∧ i ≤ n ∧ Pv i σ H, ⟨n, by simp, Nat.zero_le _, h0⟩, ?_⟩
  rintro i m σ H ⟨rfl, hi, p⟩
  by_cases hlt : i < n
  · refine .inr ⟨hlt, Pv (i + 1), fun σ' H' p' => ⟨n - (i + 1), by omega, rfl, hlt, p'⟩, fun x H' y => ?_⟩
    obtain ⟨e, y⟩ := y
    subst e y
    exact hs i σ _ hlt p
  · have e : i = n := by omega
    subst e
    exact .inl ⟨Nat.le_refl _, hd σ H p⟩
end L2

namespace L2
open PySem PySem.Spec PyProof.Rows

abbrev R2 := V → V → Hp → VK → Prop
/-- a two-place operation on values: f is binaryOp op, inplaceOp op or compareOp op -/
def OpR (X : Cx) (f : Value → Value → Sem Value) (r : R2) : Prop :=
  ∀ (pins : List (Addr × Obj)) (s : Shared) (σ : St) (H : Hp) (x y : V) (v u : Value) (Q : VK), Inv X pins σ H s → RelV x v → RelV y u → r x y H Q →
    wpAny (model X.prog X.w) X.A (f v u) (EP X pins σ Q) X.xe s
/-- a one-place operation -/
def UnR (X : Cx) (f : Value → Sem Value) (r : V → Hp → VK → Prop) : Prop :=
  ∀ (pins : List (Addr × Obj)) (s : Shared) (σ : St) (H : Hp) (x : V) (v : Value) (Q : VK), Inv X pins σ H s → RelV x v → r x H Q →
    wpAny (model X.prog X.w) X.A (f v) (EP X pins σ Q) X.xe s
/-- a call of a value that is known (a builtin, a type) with values -/
def CallR (X : Cx) (f : Value) (r : List V → Hp → VK → Prop) : Prop :=
  ∀ (pins : List (Addr × Obj)) (s : Shared) (σ : St) (H : Hp) (xs : List V) (us : List Value) (Q : VK), Inv X pins σ H s → Vals xs us → r xs H Q →
    wpAny (model X.prog X.w) X.A (call f us) (EP X pins σ Q) X.xe s
def tOp (r : R2) (ta tb : TE) : TE := fun σ H Q => ta σ H fun x H1 => tb σ H1 fun y H2 => r x y H2 Q
def tUn (r : V → Hp → VK → Prop) (ta : TE) : TE := fun σ H Q => ta σ H fun x H1 => r x H1 Q
/-- ints in, under C, and a value out -/
def rI (C : Int → Int → Prop) (g : Int → Int → V) : R2 := fun x y H Q => ∃ i j, x = .int i ∧ y = .int j ∧ C i j ∧ Q (g i j) H
def rI0 (g : Int → Int → V) : R2 := fun x y H Q => ∃ i j, x = .int i ∧ y = .int j ∧ Q (g i j) H
def rU (g : Int → V) : V → Hp → VK → Prop := fun x H Q => ∃ i, x = .int i ∧ Q (g i) H

section
variable {X : Cx} {a b c : Expr} {ta tb tc : TE} {pos : Pos}

theorem binT (ha : PE X a ta) (hb : PE X b tb) {pins : List (Addr × Obj)} {s : Shared} {σ : St} {H : Hp} {R : V → V → Hp → Prop} (I : Inv X pins σ H s)
    (h : ta σ H fun x H1 => tb σ H1 fun y H2 => R x y H2) {Q : Value → Shared → Prop} {f : Value → Value → Sem Value}
    (hf : ∀ v u s2 x y H2, Inv X pins σ H2 s2 → RelV x v → RelV y u → R x y H2 → wpAny (model X.prog X.w) X.A (f v u) Q X.xe s2) :
    wpAny (model X.prog X.w) X.A (eval a X.env) (fun v s₁ => wpAny (model X.prog X.w) X.A (eval b X.env) (fun u s₂ => wpAny (model X.prog X.w) X.A (f v u) Q X.xe s₂) X.xe s₁) X.xe s := by
  refine thn (ha pins s σ H _ I h) fun v s1 ⟨x, H1, I1, r1, q1⟩ => ?_
  refine thn (hb pins s1 σ H1 _ I1 q1) fun u s2 ⟨y, H2, I2, r2, q2⟩ => ?_
  exact hf v u s2 x y H2 I2 r1 r2 q2

theorem pe_op {op : Operator} {r : R2} (ho : OpR X (binaryOp op) r) (ha : PE X a ta) (hb : PE X b tb) : PE X (.BinOp a op b pos) (tOp r ta tb) := by
  intro pins s σ H Q I h
  exact wpAny_BinOp (binT ha hb I h fun v u s2 x y H2 I2 rx ry q => ho pins s2 σ H2 x y v u Q I2 rx ry q)
theorem pe_un {op : UnaryOp} {r : V → Hp → VK → Prop} (ho : UnR X (unaryOp op) r) (ha : PE X a ta) : PE X (.UnaryOp op a pos) (tUn r ta) := by
  intro pins s σ H Q I h
  exact UnaryOp_ (thn (ha pins s σ H _ I h) fun v s1 ⟨x, H1, I1, r1, q1⟩ => ho pins s1 σ H1 x v Q I1 r1 q1)
/-! ### ints -/
theorem opI {f : Value → Value → Sem Value} {C : Int → Int → Prop} {g : Int → Int → Int}
    (rule : ∀ (i j : Int) (t u : Tok) (s : Shared) (Q : Value → Shared → Prop) (E : Value → Shared → Prop), C i j → Q (.int (g i j) s.toks) { s with toks := s.toks + 1 } → wpAny (model X.prog X.w) X.A (f (.int i t) (.int j u)) Q E s) :
    OpR X f (rI C fun i j => .int (g i j)) := by
  intro pins s σ H x y v u Q I rx ry h
  obtain ⟨i, j, rfl, rfl, hc, q⟩ := h
  obtain ⟨t, rfl⟩ := rx
  obtain ⟨t', rfl⟩ := ry
  exact rule i j t t' s _ _ hc ⟨.int (g i j), H, I.tok _, ⟨_, rfl⟩, q⟩
theorem opI0 {f : Value → Value → Sem Value} {g : Int → Int → Int}
    (rule : ∀ (i j : Int) (t u : Tok) (s : Shared) (Q : Value → Shared → Prop) (E : Value → Shared → Prop), Q (.int (g i j) s.toks) { s with toks := s.toks + 1 } → wpAny (model X.prog X.w) X.A (f (.int i t) (.int j u)) Q E s) :
    OpR X f (rI0 fun i j => .int (g i j)) := by
  intro pins s σ H x y v u Q I rx ry h
  obtain ⟨i, j, rfl, rfl, q⟩ := h
  obtain ⟨t, rfl⟩ := rx
  obtain ⟨t', rfl⟩ := ry
  exact rule i j t t' s _ _ ⟨.int (g i j), H, I.tok _, ⟨_, rfl⟩, q⟩
theorem opB0 {f : Value → Value → Sem Value} {g : Int → Int → Bool}
    (rule : ∀ (i j : Int) (t u : Tok) (s : Shared) (Q : Value → Shared → Prop) (E : Value → Shared → Prop), Q (.bool (g i j)) s → wpAny (model X.prog X.w) X.A (f (.int i t) (.int j u)) Q E s) :
    OpR X f (rI0 fun i j => .bl (g i j)) := by
  intro pins s σ H x y v u Q I rx ry h
  obtain ⟨i, j, rfl, rfl, q⟩ := h
  obtain ⟨t, rfl⟩ := rx
  obtain ⟨t', rfl⟩ := ry
  exact rule i j t t' s _ _ ⟨.bl (g i j), H, I, rfl, q⟩

def CDiv (i j : Int) : Prop := 0 < j ∧ j < 1073741824
def CPow (i j : Int) : Prop := 0 ≤ j ∧ j ≤ 1000000 ∧ i.natAbs < 2 ^ 64
def CMul (i j : Int) : Prop := (-(2 ^ 64) < i ∧ i < 2 ^ 64) ∨ (-(2 ^ 64) < j ∧ j < 2 ^ 64)
theorem CMul.ok {i j : Int} (h : CMul i j) : IntMulOk i j := by
  rcases h with ⟨h1, h2⟩ | ⟨h1, h2⟩
  · exact .of_left (intBits_le_64 h1 h2)
  · exact .of_right (intBits_le_64 h1 h2)
theorem op_add : OpR X (binaryOp .Add) (rI0 fun i j => .int (i + j)) := opI0 fun _ _ _ _ _ _ _ q => add_int q
theorem op_sub : OpR X (binaryOp .Sub) (rI0 fun i j => .int (i - j)) := opI0 fun _ _ _ _ _ _ _ q => sub_int q
theorem op_mul : OpR X (binaryOp .Mult) (rI CMul fun i j => .int (i * j)) := opI fun _ _ _ _ _ _ _ hc q => mul_int q hc.ok
/-- // by a positive divisor -/
theorem op_fdiv : OpR X (binaryOp .FloorDiv) (rI CDiv fun i j => .int (i / j)) := opI fun i j _ _ _ _ _ hc q => by
  have h1 : (0 : Int) < j := hc.1
  have h2 : j < 1073741824 := hc.2
  exact floordiv_int (by omega) (by rw [Int.fdiv_eq_ediv_of_nonneg i (by omega)]; exact q) (.inl (PyProof.noPylong_small (by omega)))
/-- % by a positive divisor of any size -/
theorem op_mod : OpR X (binaryOp .Mod) (rI (fun _ j => 0 < j) fun i j => .int (i % j)) := opI fun i j _ _ _ _ _ hc q => by
  have h1 : (0 : Int) < j := hc
  exact mod_int' (by omega) (by rw [Int.fmod_eq_emod_of_nonneg i (by omega)]; exact q)
theorem op_pow : OpR X (binaryOp .Pow) (rI CPow fun i j => .int (i ^ j.toNat)) := opI fun _ _ _ _ _ _ _ hc q => pow_int_small hc.1 hc.2.1 hc.2.2 q
theorem unI {f : Value → Sem Value} {g : Int → Int}
    (rule : ∀ (i : Int) (t : Tok) (s : Shared) (Q : Value → Shared → Prop) (E : Value → Shared → Prop), Q (.int (g i) s.toks) { s with toks := s.toks + 1 } → wpAny (model X.prog X.w) X.A (f (.int i t)) Q E s) :
    UnR X f (rU fun i => .int (g i)) := by
  intro pins s σ H x v Q I rx h
  obtain ⟨i, rfl, q⟩ := h
  obtain ⟨t, rfl⟩ := rx
  exact rule i t s _ _ ⟨.int (g i), H, I.tok _, ⟨_, rfl⟩, q⟩
theorem un_neg : UnR X (unaryOp .USub) (rU fun i => .int (-i)) := unI fun _ _ _ _ _ q => neg_int q
/-! ### bools among ints: n += (a < b) -/
end

/-! ### comparisons -/
/-- the scalars that == tells apart as data does -/
def scal : V → V → Bool
  | .non, .non => true | .non, .int _ => true | .int _, .non => true | .non, .bl _ => true | .bl _, .non => true | .non, .str _ => true | .str _, .non => true
  | .int _, .int _ => true | .bl _, .bl _ => true | .str _, .str _ => true | .byt _, .byt _ => true
  | .int _, .str _ => true | .str _, .int _ => true | .bl _, .str _ => true | .str _, .bl _ => true
  | _, _ => false
def rEq : R2 := fun x y H Q => scal x y = true ∧ Q (.bl (decide (x = y))) H
def rNe : R2 := fun x y H Q => scal x y = true ∧ Q (.bl (!decide (x = y))) H

theorem dec_int {i j : Int} : decide (V.int i = V.int j) = (i == j) := by
  rw [Bool.eq_iff_iff]
  simp
theorem dec_bl {i j : Bool} : decide (V.bl i = V.bl j) = (i == j) := by
  rw [Bool.eq_iff_iff]
  simp
theorem dec_str {i j : Str} : decide (V.str i = V.str j) = (i == j) := by
  rw [Bool.eq_iff_iff]
  simp
theorem dec_byt {i j : Array UInt8} : decide (V.byt i = V.byt j) = (i.toList == j.toList) := by
  rw [Bool.eq_iff_iff]
  cases i
  cases j
  simp

section
variable {X : Cx} {a b c : Expr} {ta tb tc : TE} {pos : Pos}
theorem fin_bl {pins : List (Addr × Obj)} {σ : St} {H : Hp} {s : Shared} {Q : VK} {k k' : Bool} (I : Inv X pins σ H s) (q : Q (.bl k) H) (e : k = k') : EP X pins σ Q (.bool k') s := by
  subst e
  exact ⟨.bl k, H, I, rfl, q⟩
theorem op_eq : OpR X (compareOp .Eq) rEq := by
  intro pins s σ H x y v u Q I rx ry h
  obtain ⟨hs, q⟩ := h
  cases x with
  | non =>
    cases rx
    cases y with
    | non => cases ry; exact PySem.EqNone.eq_none_none (fin_bl I q (by simp))
    | bl j => cases ry; exact PySem.EqNone.eq_none_bool (fin_bl I q (by simp))
    | int j => obtain ⟨t', rfl⟩ := ry; exact PySem.EqNone.eq_none_int (fin_bl I q (by simp))
    | str j => obtain ⟨t', rfl⟩ := ry; exact PySem.EqNone.eq_none_str (fin_bl I q (by simp))
    | _ => exact absurd (show false = true from hs) Bool.false_ne_true
  | bl i =>
    cases rx
    cases y with
    | non => cases ry; exact PySem.EqNone.eq_bool_none (fin_bl I q (by simp))
    | bl j => cases ry; exact eq_bool (fin_bl I q dec_bl)
    | str j => obtain ⟨t', rfl⟩ := ry; exact PySem.EqMixed.eq_bool_str (fin_bl I q (by simp))
    | _ => exact absurd (show false = true from hs) Bool.false_ne_true
  | int i =>
    obtain ⟨t, rfl⟩ := rx
    cases y with
    | non => cases ry; exact PySem.EqNone.eq_int_none (fin_bl I q (by simp))
    | int j => obtain ⟨t', rfl⟩ := ry; exact eq_int (fin_bl I q dec_int)
    | str j => obtain ⟨t', rfl⟩ := ry; exact PySem.EqMixed.eq_int_str (fin_bl I q (by simp))
    | _ => exact absurd (show false = true from hs) Bool.false_ne_true
  | str i =>
    obtain ⟨t, rfl⟩ := rx
    cases y with
    | non => cases ry; exact PySem.EqNone.eq_str_none (fin_bl I q (by simp))
    | bl j => cases ry; exact PySem.EqMixed.eq_str_bool (fin_bl I q (by simp))
    | int j => obtain ⟨t', rfl⟩ := ry; exact PySem.EqMixed.eq_str_int (fin_bl I q (by simp))
    | str j => obtain ⟨t', rfl⟩ := ry; exact eq_str (fin_bl I q dec_str)
    | _ => exact absurd (show false = true from hs) Bool.false_ne_true
  | byt i =>
    obtain ⟨t, rfl⟩ := rx
    cases y with
    | byt j => obtain ⟨t', rfl⟩ := ry; exact PySem.W.eq_bytes (fin_bl I q dec_byt)
    | _ => exact absurd (show false = true from hs) Bool.false_ne_true
  | _ => cases y <;> exact absurd (show false = true from hs) Bool.false_ne_true
theorem op_ne : OpR X (compareOp .NotEq) rNe := by
  intro pins s σ H x y v u Q I rx ry h
  obtain ⟨hs, q⟩ := h
  cases x with
  | non =>
    cases rx
    cases y with
    | non => cases ry; exact PySem.EqNone.ne_none_none (fin_bl I q (by simp))
    | bl j => cases ry; exact PySem.EqNone.ne_none_bool (fin_bl I q (by simp))
    | int j => obtain ⟨t', rfl⟩ := ry; exact PySem.EqNone.ne_none_int (fin_bl I q (by simp))
    | str j => obtain ⟨t', rfl⟩ := ry; exact PySem.EqNone.ne_none_str (fin_bl I q (by simp))
    | _ => exact absurd (show false = true from hs) Bool.false_ne_true
  | bl i =>
    cases rx
    cases y with
    | non => cases ry; exact PySem.EqNone.ne_bool_none (fin_bl I q (by simp))
    | bl j => cases ry; exact ne_bool (fin_bl I q (congrArg not dec_bl))
    | str j => obtain ⟨t', rfl⟩ := ry; exact PySem.EqMixed.ne_bool_str (fin_bl I q (by simp))
    | _ => exact absurd (show false = true from hs) Bool.false_ne_true
  | int i =>
    obtain ⟨t, rfl⟩ := rx
    cases y with
    | non => cases ry; exact PySem.EqNone.ne_int_none (fin_bl I q (by simp))
    | int j => obtain ⟨t', rfl⟩ := ry; exact ne_int (fin_bl I q (congrArg not dec_int))
    | str j => obtain ⟨t', rfl⟩ := ry; exact PySem.EqMixed.ne_int_str (fin_bl I q (by simp))
    | _ => exact absurd (show false = true from hs) Bool.false_ne_true
  | str i =>
    obtain ⟨t, rfl⟩ := rx
    cases y with
    | non => cases ry; exact PySem.EqNone.ne_str_none (fin_bl I q (by simp))
    | bl j => cases ry; exact PySem.EqMixed.ne_str_bool (fin_bl I q (by simp))
    | int j => obtain ⟨t', rfl⟩ := ry; exact PySem.EqMixed.ne_str_int (fin_bl I q (by simp))
    | str j => obtain ⟨t', rfl⟩ := ry; exact ne_str (fin_bl I q (congrArg not dec_str))
    | _ => exact absurd (show false = true from hs) Bool.false_ne_true
  | byt i =>
    obtain ⟨t, rfl⟩ := rx
    cases y with
    | byt j => obtain ⟨t', rfl⟩ := ry; exact PySem.W.ne_bytes (fin_bl I q (congrArg not dec_byt))
    | _ => exact absurd (show false = true from hs) Bool.false_ne_true
  | _ => cases y <;> exact absurd (show false = true from hs) Bool.false_ne_true

theorem op_lt : OpR X (compareOp .Lt) (rI0 fun i j => .bl (decide (i < j))) := opB0 fun _ _ _ _ _ _ _ q => lt_int q
theorem op_le : OpR X (compareOp .LtE) (rI0 fun i j => .bl (decide (i ≤ j))) := opB0 fun _ _ _ _ _ _ _ q => le_int q
theorem op_gt : OpR X (compareOp .Gt) (rI0 fun i j => .bl (decide (j < i))) := opB0 fun _ _ _ _ _ _ _ q => gt_int q
theorem nomark (b : Expr) {op : CmpOp} (h : op ≠ .In := by decide) (h2 : op ≠ .NotIn := by decide) : behindInMarks op b = false := by
  have e1 : (op == CmpOp.In) = false := by cases op <;> first | rfl | exact absurd rfl h
  have e2 : (op == CmpOp.NotIn) = false := by cases op <;> first | rfl | exact absurd rfl h2
  cases b <;> simp [behindInMarks, e1, e2]
/-- a comparison as a value; hm: nomark b, or (for in, not in) by with_unfolding_all rfl -/
theorem pe_cmpR {op : CmpOp} {r : R2} (ho : OpR X (compareOp op) r) (ha : PE X a ta) (hb : PE X b tb) (hm : behindInMarks op b = false) : PE X (.Compare a [op] [b] pos) (tOp r ta tb) := by
  intro pins s σ H Q I h
  exact wpAny_Compare1 (binT ha hb I h fun v u s2 x y H2 I2 rx ry q => ho pins s2 σ H2 x y v u Q I2 rx ry q) hm
/-- a reading of a value as a test -/
def tTest (t : TE) : TT := fun σ H Q => t σ H fun x H' => ∃ k, x = .bl k ∧ Q k H'
theorem pt_cmpR {op : CmpOp} {r : R2} (ho : OpR X (compareOp op) r) (ha : PE X a ta) (hb : PE X b tb) (hm : behindInMarks op b = false) : PT X (.Compare a [op] [b] pos) (tTest (tOp r ta tb)) := by
  intro pins s σ H Q I h
  refine wpAny_isTrue_Compare1 (thn (ha pins s σ H _ I h) fun v s1 ⟨x, H1, I1, r1, q1⟩ => thn (hb pins s1 σ H1 _ I1 q1) fun u s2 ⟨y, H2, I2, r2, q2⟩ =>
    thn (ho pins s2 σ H2 x y v u _ I2 r1 r2 q2) fun c s3 ⟨z, H3, I3, r3, k, e, q3⟩ => ?_) hm
  subst e
  cases r3
  exact wpAny_truthy_bool ⟨H3, I3, q3⟩
/-- a op1 b op2 c -/
def tChain (r r' : R2) (ta tb tc : TE) : TE := fun σ H Q => ta σ H fun x H1 => tb σ H1 fun y H2 => r x y H2 fun z H3 => ∃ k, z = .bl k ∧
  (if k = true then tc σ H3 fun w' H4 => r' y w' H4 Q else Q (.bl false) H3)
theorem pe_chain {op op' : CmpOp} {r r' : R2} (ho : OpR X (compareOp op) r) (ho' : OpR X (compareOp op') r') (ha : PE X a ta) (hb : PE X b tb) (hc : PE X c tc)
    (hm : lastMarks [op, op'] [b, c] = false := by with_unfolding_all rfl) : PE X (.Compare a [op, op'] [b, c] pos) (tChain r r' ta tb tc) := by
  intro pins s σ H Q I h
  refine Compare_chain (thn (ha pins s σ H _ I h) fun v s1 ⟨x, H1, I1, r1, q1⟩ => chain_link (thn (hb pins s1 σ H1 _ I1 q1) fun u s2 ⟨y, H2, I2, r2, q2⟩ =>
    thn (ho pins s2 σ H2 x y v u _ I2 r1 r2 q2) fun d s3 ⟨z, H3, I3, r3, k, e, q3⟩ => ?_)) hm
  subst e
  cases r3
  refine wpAny_truthy_bool ?_
  cases k with
  | false => exact ite_ff ⟨.bl false, H3, I3, rfl, q3⟩
  | true => exact ite_tt (chain_last (thn (hc pins s3 σ H3 _ I3 q3) fun w' s4 ⟨z', H4, I4, r4, q4⟩ => ho' pins s4 σ H4 y z' u w' Q I4 r2 r4 q4))
theorem pt_chain {op op' : CmpOp} {r r' : R2} (ho : OpR X (compareOp op) r) (ho' : OpR X (compareOp op') r') (ha : PE X a ta) (hb : PE X b tb) (hc : PE X c tc)
    (hm : lastMarks [op, op'] [b, c] = false := by with_unfolding_all rfl) : PT X (.Compare a [op, op'] [b, c] pos) (tTest (tChain r r' ta tb tc)) := by
  intro pins s σ H Q I h
  refine isTrue_chain (thn (ha pins s σ H _ I h) fun v s1 ⟨x, H1, I1, r1, q1⟩ => test_link (thn (hb pins s1 σ H1 _ I1 q1) fun u s2 ⟨y, H2, I2, r2, q2⟩ =>
    thn (ho pins s2 σ H2 x y v u _ I2 r1 r2 q2) fun d s3 ⟨z, H3, I3, r3, k, e, q3⟩ => ?_)) hm
  subst e
  cases r3
  refine wpAny_truthy_bool ?_
  cases k with
  | false =>
    obtain ⟨k', e', q'⟩ := q3
    cases e'
    exact ite_ff ⟨H3, I3, q'⟩
  | true =>
    refine ite_tt (test_last (thn (hc pins s3 σ H3 _ I3 q3) fun w' s4 ⟨z', H4, I4, r4, q4⟩ => thn (ho' pins s4 σ H4 y z' u w' _ I4 r2 r4 q4) fun d' s5 ⟨z2, H5, I5, r5, k2, e2, q5⟩ => ?_))
    subst e2
    cases r5
    exact wpAny_truthy_bool ⟨H5, I5, q5⟩

/-! ### truth -/
theorem line63 : (sizeLine : Nat) < 2 ^ 63 := by rw [sizeLine_eq]; decide
/-! ### strs and bytes -/
/-! ### scalar builtins, by CallR -/
theorem vals1 {x : V} {us : List Value} (r : Vals [x] us) : ∃ u, us = [u] ∧ RelV x u := by
  cases r with
  | cons r1 r2 => cases r2; exact ⟨_, rfl, r1⟩
theorem vals2 {x y : V} {us : List Value} (r : Vals [x, y] us) : ∃ u w', us = [u, w'] ∧ RelV x u ∧ RelV y w' := by
  cases r with
  | cons r1 r2 =>
    cases r2 with
    | cons r3 r4 => cases r4; exact ⟨_, _, rfl, r1, r3⟩
theorem call_max2 (hc : X.calm = true) : CallR X (.builtin "max") (fun xs H Q => ∃ i j, xs = [.int i, .int j] ∧ Q (.int (if j > i then j else i)) H) := by
  intro pins s σ H xs us Q I r h
  obtain ⟨i, j, rfl, q⟩ := h
  obtain ⟨u, w', rfl, ⟨t, rfl⟩, ⟨t', rfl⟩⟩ := vals2 r
  refine max_two_ints (I.ok.hd hc) fun h' tk k => ⟨_, H, I.kept k, ?_, q⟩
  by_cases hj : j > i
  · rw [if_pos hj, if_pos hj]; exact ⟨_, rfl⟩
  · rw [if_neg hj, if_neg hj]; exact ⟨_, rfl⟩
theorem call_min2 (hc : X.calm = true) : CallR X (.builtin "min") (fun xs H Q => ∃ i j, xs = [.int i, .int j] ∧ Q (.int (if j < i then j else i)) H) := by
  intro pins s σ H xs us Q I r h
  obtain ⟨i, j, rfl, q⟩ := h
  obtain ⟨u, w', rfl, ⟨t, rfl⟩, ⟨t', rfl⟩⟩ := vals2 r
  refine min_two_ints (I.ok.hd hc) fun h' tk k => ⟨_, H, I.kept k, ?_, q⟩
  by_cases hj : j < i
  · rw [if_pos hj, if_pos hj]; exact ⟨_, rfl⟩
  · rw [if_neg hj, if_neg hj]; exact ⟨_, rfl⟩
theorem call_int1 : CallR X (.type "int") (fun xs H Q => (∃ i, xs = [.int i] ∧ Q (.int i) H) ∨ ∃ k, xs = [.bl k] ∧ Q (.int (if k then 1 else 0)) H) := by
  intro pins s σ H xs us Q I r h
  rcases h with ⟨i, rfl, q⟩ | ⟨k, rfl, q⟩
  · obtain ⟨u, rfl, t, rfl⟩ := vals1 r
    exact call_int_int ⟨.int i, H, I, ⟨_, rfl⟩, q⟩
  · obtain ⟨u, rfl, r1⟩ := vals1 r
    cases r1
    exact call_int_bool ⟨.int (if k then 1 else 0), H, I.tok _, ⟨_, rfl⟩, q⟩
end
end L2

namespace L2
open PySem PySem.Spec PyProof.Rows

/-! ### an instance, its attributes a map -/
structure ObjM (h : Heap) (x dx C : Addr) (mA : Str → Option Value) : Prop where
  obj : h.get? x = some (PySem.W.instObj C dx)
  ns : h.Ns1 dx mA
  ne : dx ≠ x

theorem lookIn_ns {h : Heap} {dx : Addr} {mA : Str → Option Value} (n : h.Ns1 dx mA) : ∃ od, h.get? dx = some od ∧ ∀ name, PySem.W.lookIn name od = some (mA name) := by
  obtain ⟨o, es, ep, ho, hd, hk, _, hm⟩ := n
  refine ⟨o, ho, fun name => ?_⟩
  have e := hm name
  unfold nsFind findBy at e
  rw [← Array.find?_toList] at e
  unfold PySem.W.lookIn
  rw [hd]
  dsimp only
  split
  · rename_i y q
    rw [q] at e
    exact congrArg some e
  · rename_i q
    rw [q] at e
    have a : es.toList.any (·.refKey) = false := by
      rw [List.any_eq_false]
      intro y hy
      obtain ⟨z, t, hkey⟩ := hk y (Array.mem_toList_iff.mp hy)
      simp [DictEntry.refKey, hkey]
    have a' : ¬ es.toList.any (·.refKey) = true := by rw [a]; exact Bool.false_ne_true
    rw [if_neg a']
    exact congrArg some e

theorem ObjM.look {h : Heap} {x dx C : Addr} {mA : Str → Option Value} (I : ObjM h x dx C mA) : ∃ od, PySem.W.InstAt h x (PySem.W.instObj C dx) C (some od) ∧ ∀ name, PySem.W.lookIn name od = some (mA name) :=
  let ⟨od, ho, hl⟩ := lookIn_ns I.ns
  ⟨od, ⟨I.obj, rfl, rfl, ho⟩, hl⟩

section
variable {prog : Program} {w : World} {A : Around} {E : Value → Shared → Prop} {s : Shared} {K : PySem.W.Frag} {x dx C f : Addr} {mA : Str → Option Value} {name : Str} {v : Value}

theorem get_map {expr : Bool} {Q : Value → Shared → Prop} (X : K.In s.heap) (I : ObjM s.heap x dx C mA) (hg : PySem.W.plainGet K C name = true) (hh : PySem.W.hasDictIn K C = true)
    (ha : PySem.W.findIn K (.ref C) name = some none) (hv : mA name = some v) (hv' : PySem.W.handedIn v = true) (h : Q v { s with toks := s.toks + 1 }) :
    wpAny (model prog w) A (getAttr (.ref x) name expr) Q E s := by
  obtain ⟨od, J, hl⟩ := I.look
  exact PySem.W.get_value X J (PySem.W.plainGet_of hg).1 (PySem.W.findObj_own hh ha rfl (by rw [hl, hv])) hv' h

theorem set_map {ns : List Str} {Q : Unit → Shared → Prop} (X : K.In s.heap) (I : ObjM s.heap x dx C mA)
    (hs : PySem.W.findIn K (.ref C) "__setattr__" = some (some (.builtin "object.__setattr__"))) (hp : PySem.W.plainOver K C = true) (ht : PySem.W.takerIn K C name = some none) (hh : PySem.W.hasDictIn K C = true)
    (hw : PySem.Within mA ns) (hsz : ns.length ≤ sizeLine)
    (h : ∀ h', ObjM h' x dx C (fun y => if y = name then some v else mA y) → Heap.SameBut dx s.heap h' → Q () { s with heap := h', toks := s.toks + 2 }) :
    wpAny (model prog w) A (setAttr (.ref x) name v) Q E s := by
  obtain ⟨od, J, hl⟩ := I.look
  refine PySem.W.set_plain X J hs (PySem.W.osa_open (s := { s with toks := s.toks + 1 }) (r := none) X J hp ht fun b => ?_)
  obtain ⟨cd, hc, hd'⟩ := PySem.W.any_some hh
  have hx : s.heap.get? x = some ⟨.ref C, some dx, .plain, #[]⟩ := I.obj
  refine wpAny_bind (wpAny_pure (wpAny_bind (wpAny_bind (wpAny_loadPart hx (wpAny_bind (PySem.W.Looks.here (s := { s with toks := s.toks + 1 }) (PySem.W.looks_clsIn X hc) ?_))))))
  rw [hd']
  refine wpAny_pure (a := some dx) (wpAny_bind (wpAny_pure (wpAny_bind ?_)))
  refine wpAny_nsSet1 (s := { s with toks := s.toks + 1 }) I.ns fun h' hn2 hs2 => ?_
  obtain ⟨oD, esD, epD, hoD, hdD, hcD⟩ := hn2.count (PySem.Within.cons name v hw)
  refine wpAny_bind (wpAny_lookBehind hoD (by rw [hdD]; exact pastItsLine_dict (Nat.le_trans hcD (by rw [List.length_cons]; omega))) ?_)
  exact wpAny_pure (h _ ⟨(hs2.2 _ (Ne.symm I.ne)).trans I.obj, hn2, I.ne⟩ hs2)

/-- C(..): the dict at the heap's end, the instance behind it; then its __init__ -/
theorem make_map {R : Result → Shared → Prop} {vs : List Value} {kw : List (Str × Value)} (X : K.In s.heap) (hm : PySem.W.makesIn K C = true)
    (hi : PySem.W.findIn K (.ref C) "__init__" = some (some (.ref f))) (hf : PySem.W.typeIn K (.ref f) = some (.type "function"))
    (h : codeAny (model prog w) (A.under (.builtin "type.__call__" ⟨.ref C :: vs, kw⟩)) (.call (.ref f) ⟨.ref (s.heap.objs.size + 1) :: vs, kw⟩) (PySem.W.InitBack (s.heap.objs.size + 1) R)
      { s with heap := (s.heap.push PySem.W.emptyDict).push (PySem.W.instObj C s.heap.objs.size) }) :
    codeAny (model prog w) A (.call (.ref C) ⟨vs, kw⟩) R s := by
  obtain ⟨hh, g, d, t, os⟩ := s
  exact PySem.W.make_core (PySem.W.makes_of X hm) (PySem.W.looks_findIn X hi) (fun self => PySem.W.bind_fn X self hf) (.inl rfl) h
end

/-! ### the attributes as a list of pairs -/
def putF (f : Str) (v : V) : List (Str × V) → List (Str × V)
  | [] => [(f, v)]
  | (g, x) :: r => if g = f then (g, v) :: r else (g, x) :: putF f v r
theorem lookup_putF (f g : Str) (v : V) : ∀ fs : List (Str × V), (putF f v fs).lookup g = if g = f then some v else fs.lookup g
  | [] => by
    show List.lookup g [(f, v)] = _
    by_cases h : g = f
    · have hb : (g == f) = true := beq_iff_eq.mpr h
      simp only [List.lookup, hb, if_pos h]
    · have hb : (g == f) = false := beq_eq_false_iff_ne.mpr h
      simp only [List.lookup, hb, if_neg h]
  | (k, x) :: r => by
    have ih := lookup_putF f g v r
    rw [show putF f v ((k, x) :: r) = (if k = f then (k, v) :: r else (k, x) :: putF f v r) from rfl]
    by_cases hk : k = f
    · rw [if_pos hk]
      by_cases h : g = k
      · have hb : (g == k) = true := beq_iff_eq.mpr h
        simp only [List.lookup, hb, if_pos (h.trans hk)]
      · have hb : (g == k) = false := beq_eq_false_iff_ne.mpr h
        simp only [List.lookup, hb, if_neg (fun e : g = f => h (e.trans hk.symm))]
    · rw [if_neg hk]
      by_cases h : g = k
      · have hb : (g == k) = true := beq_iff_eq.mpr h
        simp only [List.lookup, hb, if_neg (fun e : g = f => hk (h.symm.trans e))]
      · have hb : (g == k) = false := beq_eq_false_iff_ne.mpr h
        simp only [List.lookup, hb]
        exact ih
theorem keys_putF (f : Str) (v : V) : ∀ fs : List (Str × V), f ∈ (putF f v fs).map (·.1) ∧ ∀ g, g ∈ fs.map (·.1) → g ∈ (putF f v fs).map (·.1)
  | [] => ⟨by simp [putF], fun g h => by simp at h⟩
  | (k, x) :: r => by
    obtain ⟨i1, i2⟩ := keys_putF f v r
    rw [show putF f v ((k, x) :: r) = (if k = f then (k, v) :: r else (k, x) :: putF f v r) from rfl]
    by_cases hk : k = f
    · rw [if_pos hk]
      subst hk
      exact ⟨by simp, fun g h => by simpa using h⟩
    · rw [if_neg hk]
      refine ⟨?_, fun g h => ?_⟩
      · rw [List.map_cons]
        exact List.mem_cons_of_mem _ i1
      · rw [List.map_cons] at h ⊢
        rcases List.mem_cons.mp h with e | e
        · exact List.mem_cons.mpr (.inl e)
        · exact List.mem_cons_of_mem _ (i2 g e)
theorem length_putF (f : Str) (v : V) : ∀ fs : List (Str × V), (putF f v fs).length ≤ fs.length + 1
  | [] => by simp [putF]
  | (k, x) :: r => by
    have ih := length_putF f v r
    rw [show putF f v ((k, x) :: r) = (if k = f then (k, v) :: r else (k, x) :: putF f v r) from rfl]
    by_cases hk : k = f
    · rw [if_pos hk, List.length_cons, List.length_cons]; omega
    · rw [if_neg hk, List.length_cons, List.length_cons]; omega

theorem RelO.some_of {v : V} {o : Option Value} (r : RelO (some v) o) : ∃ u, o = some u ∧ RelV v u := by
  cases o with
  | none => exact (show False from r).elim
  | some u => exact ⟨u, rfl, r⟩
theorem handed_of {v : V} {u : Value} (r : RelV v u) : PySem.W.handedIn u = true := by
  cases v with
  | non => cases (show u = Value.none from r); rfl
  | bl b => cases (show u = Value.bool b from r); rfl
  | int i => obtain ⟨t, e⟩ := (show ∃ t, u = Value.int i t from r); cases e; rfl
  | str x => obtain ⟨t, e⟩ := (show ∃ t, u = Value.str x t from r); cases e; rfl
  | byt b => obtain ⟨t, e⟩ := (show ∃ t, u = Value.bytes b t from r); cases e; rfl
  | flt b => obtain ⟨t, e⟩ := (show ∃ t, u = Value.float b t from r); cases e; rfl
  | ref a => cases (show u = Value.ref a from r); rfl
  | ty n => cases (show u = Value.type n from r); rfl

section
variable {P : Program} {w : World} {H H' : Hp} {h h' : Heap} {a C dx : Addr} {fs fs' : List (Str × V)}
theorem ins_get (hok : HOk P w H h) (e : H a = some (.ins C dx fs)) : ∃ mA, ObjM h a dx C mA ∧ (∀ f, RelO (fs.lookup f) (mA f)) ∧ PySem.Within mA (fs.map (·.1)) ∧ fs.length ≤ 1000 ∧ H dx = some (.own a) := by
  obtain ⟨d, z, ne, ob, mA, n, r, q⟩ := (show ObjOk P w H h a (.ins C dx fs) from hok a _ e)
  exact ⟨mA, ⟨ob, n, ne⟩, r, q, z, d⟩
end

/-! ### what of the text a class must have -/
structure Cls (K : PySem.W.Frag) (C : Addr) : Prop where
  pg : PySem.W.plainGet K C Str.empty = true
  hd : PySem.W.hasDictIn K C = true
  po : PySem.W.plainOver K C = true
  sa : PySem.W.findIn K (.ref C) "__setattr__" = some (some (.builtin "object.__setattr__"))
theorem Cls.get {K : PySem.W.Frag} {C : Addr} (c : Cls K C) (f : Str) : PySem.W.plainGet K C f = true := c.pg
/-- no class of it has the name -/
def NoAttr (K : PySem.W.Frag) (C : Addr) (f : Str) : Prop := PySem.W.findIn K (.ref C) f = some none
theorem NoAttr.taker {K : PySem.W.Frag} {C : Addr} {f : Str} (n : NoAttr K C f) : PySem.W.takerIn K C f = some none := by
  unfold PySem.W.takerIn
  rw [show PySem.W.findIn K (.ref C) f = some none from n]
  rfl
/-- a constant of the class -/
structure Con (K : PySem.W.Frag) (C : Addr) (f : Str) (v : V) (u : Value) : Prop where
  at_ : PySem.W.findIn K (.ref C) f = some (some u)
  rel : RelV v u
  get : PySem.W.specialIn K u "__get__" = some none
  cp : PySem.W.copiedNames.contains f = false
/-- a method: a plain def of the class or of one above it -/
structure Meth (K : PySem.W.Frag) (C : Addr) (m : Str) (f : Addr) : Prop where
  at_ : PySem.W.findIn K (.ref C) m = some (some (.ref f))
  fn : PySem.W.isFn K (.ref f) = true
  kp : PySem.W.keepIn K (.ref f) = true

section
variable {X : Cx} {pins : List (Addr × Obj)} {σ : St} {H : Hp} {s : Shared} {a C dx : Addr} {fs : List (Str × V)} {f : Str} {v : V} {A : Around} {E : Value → Shared → Prop}

theorem getattr_ok {b : Bool} {Q : Value → Shared → Prop} (I : Inv X pins σ H s) (e : H a = some (.ins C dx fs)) (c : Cls X.K C) (n : NoAttr X.K C f) (l : fs.lookup f = some v)
    (h : ∀ u s', Inv X pins σ H s' → RelV v u → Q u s') : wpAny (model X.prog X.w) A (getAttr (.ref a) f b) Q E s := by
  obtain ⟨mA, O, r, _, _, _⟩ := ins_get I.hok e
  obtain ⟨u, hu, ru⟩ := RelO.some_of (v := v) (o := mA f) (by rw [← l]; exact r f)
  exact get_map I.kIn O (c.get f) c.hd n hu (handed_of ru) (h u _ (I.tok _) ru)

theorem setattr_ok {y : V} {u : Value} {Q : Unit → Shared → Prop} (I : Inv X pins σ H s) (e : H a = some (.ins C dx fs)) (c : Cls X.K C) (n : NoAttr X.K C f) (hl : fs.length < 1000) (ry : RelV y u)
    (h : ∀ s', Inv X pins σ (upd H a (.ins C dx (putF f y fs))) s' → Q () s') : wpAny (model X.prog X.w) A (setAttr (.ref a) f u) Q E s := by
  obtain ⟨mA, O, r, wi, _, ho⟩ := ins_get I.hok e
  have hz : (fs.map (·.1)).length ≤ sizeLine := by rw [List.length_map, sizeLine_eq]; omega
  refine set_map I.kIn O c.sa c.po n.taker c.hd wi hz fun h' O' sb => h _ ?_
  have hd : ∃ o, h'.get? dx = some o := let ⟨o, _, _, e', _⟩ := O'.ns; ⟨o, e'⟩
  refine I.write (x := a) (e := dx) (by rw [e]; exact True.intro) (.inr ho) (fun b q hb z => (sb.2 b hb).trans z) hd ?_
  refine ⟨by rw [upd_ne O.ne]; exact ho, ?_, O.ne, O'.obj, _, O'.ns, fun g => ?_, fun g hg => ?_⟩
  · have := length_putF f y fs; omega
  · show RelO ((putF f y fs).lookup g) (if g = f then some u else mA g)
    rw [lookup_putF]
    by_cases q : g = f
    · rw [if_pos q, if_pos q]; exact ry
    · rw [if_neg q, if_neg q]; exact r g
  · by_cases q : g = f
    · rw [q]; exact (keys_putF f y fs).1
    · refine (keys_putF f y fs).2 g (wi g fun z => hg ?_)
      show (if g = f then some u else mA g) = none
      rw [if_neg q]; exact z

/-- a new instance, tracked, without attributes -/
theorem Inv.made (I : Inv X pins σ H s) : Inv X pins σ (upd (upd H s.heap.objs.size (.own (s.heap.objs.size + 1))) (s.heap.objs.size + 1) (.ins C s.heap.objs.size []))
    { s with heap := (s.heap.push PySem.W.emptyDict).push (PySem.W.instObj C s.heap.objs.size) } := by
  have e1 : (s.heap.push PySem.W.emptyDict).get? s.heap.objs.size = some PySem.W.emptyDict := Heap.get?_push_size s.heap rfl
  have e2 : ((s.heap.push PySem.W.emptyDict).push (PySem.W.instObj C s.heap.objs.size)).get? (s.heap.objs.size + 1) = some (PySem.W.instObj C s.heap.objs.size) := by
    have := Heap.get?_push_size (s.heap.push PySem.W.emptyDict) (o := PySem.W.instObj C s.heap.objs.size) rfl
    rwa [Heap.size_push] at this
  have e3 : (s.heap.push PySem.W.emptyDict).Ns s.heap.objs.size (fun _ => none) := ⟨PySem.W.emptyDict, #[], _, e1, rfl, (fun e he => absurd he (by simp)), fun _ => rfl⟩
  have I1 := I.laid (a := s.heap.objs.size) (o := .own (s.heap.objs.size + 1)) (h' := s.heap.push PySem.W.emptyDict) (t' := s.toks) (fun b u q => Heap.get?_push_of_some _ q) (Nat.le_refl _) ⟨_, e1⟩
  refine I1.laid (a := s.heap.objs.size + 1) (o := .ins C s.heap.objs.size []) (t' := s.toks) (fun b u q => Heap.get?_push_of_some _ q) (Nat.le_of_eq (Heap.size_push _ _)) ?_
  have ne : s.heap.objs.size ≠ s.heap.objs.size + 1 := Nat.ne_of_lt (Nat.lt_succ_self _)
  refine ⟨by rw [upd_ne ne, upd_same], Nat.zero_le _, ne, e2, fun _ => none, (Heap.Ns1.of_empty e3).at fun o q => Heap.get?_push_of_some _ q, fun _ => True.intro, fun y hy => absurd rfl hy⟩

/-- e.f where nothing but the object is asked: through attributeBase (super) and the last hold -/
theorem attr_of {prog : Program} {w : World} {env : Env} {e : Expr} {f : Str} {pos : Pos} {s : Shared} {Q : Value → Shared → Prop} (hb : attributeBase e f env (eval e env) = eval e env)
    (h : wpAny (model prog w) A (eval e env) (fun o s₁ => wpAny (model prog w) A (getAttr o f true) Q E s₁) E s) : wpAny (model prog w) A (eval (.Attribute e f pos) env) Q E s :=
  Attribute_any_ h (by rw [arm_eval_Attribute, hb])
end

/-! ### readings and rules -/
/-- e.f, an attribute of the instance -/
def tFld (K : PySem.W.Frag) (ta : TE) (f : Str) : TE := fun σ H Q => ta σ H fun x H1 => ∃ a C dx fs v, x = .ref a ∧ H1 a = some (.ins C dx fs) ∧ Cls K C ∧ NoAttr K C f ∧ fs.lookup f = some v ∧ Q v H1
/-- e.f = value -/
def sFld (K : PySem.W.Frag) (ta tv : TE) (f : Str) : TS := fun D σ H => tv σ H fun y H1 => ta σ H1 fun x H2 => ∃ a C dx fs, x = .ref a ∧ H2 a = some (.ins C dx fs) ∧ Cls K C ∧ NoAttr K C f ∧ fs.length < 1000 ∧
  D.nx σ (upd H2 a (.ins C dx (putF f y fs)))
section
variable {X : Cx} {o e value : Expr} {f : Str} {pos pos' tpos : Pos} {ta tv : TE}
theorem pe_fld (he : PE X e ta) (hb : attributeBase e f X.env (eval e X.env) = eval e X.env) : PE X (.Attribute e f pos) (tFld X.K ta f) := by
  intro pins s σ H Q I h
  refine attr_of hb (thn (he pins s σ H _ I h) fun u s1 ⟨x, H1, I1, rx, a, C, dx, fs, v, ex, ea, c, n, l, q⟩ => ?_)
  subst ex
  obtain rfl : u = Value.ref a := rx
  exact getattr_ok I1 ea c n l fun u' s2 I2 ru => ⟨v, H1, I2, ru, q⟩
theorem ps_fld (ha : PE X o ta) (hv : PE X value tv) (hs : swapsWith value (some (.Attribute o f pos')) pos.line X.env = pure false) : PS X (.Assign [.Attribute o f pos'] value pos) (sFld X.K ta tv f) := by
  intro pins s σ H D I h
  refine plainObj_wpAny_Assign_Attribute (thn (hv pins s σ H _ I h) fun u s1 ⟨y, H1, I1, ry, q⟩ => thn (ha pins s1 σ H1 _ I1 q) fun ov s2 ⟨x, H2, I2, rx, a, C, dx, fs, ex, ea, c, n, l, q2⟩ => ?_) hs
  subst ex
  obtain rfl : ov = Value.ref a := rx
  exact setattr_ok I2 ea c n l ry fun s3 I3 => ⟨σ, _, I3, q2⟩
end

/-! ### isinstance -/
section
variable {X : Cx} {pins : List (Addr × Obj)} {σ : St} {H : Hp} {s : Shared} {A : Around} {E : Value → Shared → Prop} {Q : Value → Shared → Prop} {c : Value} {b : Bool}
/-- the type of a value, as the fragment's deciders take it; for an instance its class -/
inductive TyOf (K : PySem.W.Frag) (H : Hp) : V → Value → Prop where
  | non : TyOf K H .non (.type "NoneType")
  | bl (x : Bool) : TyOf K H (.bl x) (.type "bool")
  | int (i : Int) : TyOf K H (.int i) (.type "int")
  | str (x : Str) : TyOf K H (.str x) (.type "str")
  | flt (x : UInt64) : TyOf K H (.flt x) (.type "float")
  | lst {a : Addr} {xs : List V} (e : H a = some (.lst xs)) : TyOf K H (.ref a) (.type "list")
  | frz {a : Addr} {o : Obj} {xs : List V} (e : H a = some (.frz o (.lst xs))) : TyOf K H (.ref a) (.type "list")
  | tup {a : Addr} {xs : List V} (e : H a = some (.tup xs)) : TyOf K H (.ref a) (.type "tuple")
  | dK {a : Addr} {kvs : List (Key × V)} (e : H a = some (.dK kvs)) : TyOf K H (.ref a) (.type "dict")
  | dT {a : Addr} {kvs : List (List Key × V)} (e : H a = some (.dT kvs)) : TyOf K H (.ref a) (.type "dict")
  | ins {a C dx : Addr} {fs : List (Str × V)} (e : H a = some (.ins C dx fs)) (cl : Cls K C) (ha : PySem.W.findIn K (.ref C) "__class__" = some (some (.builtin "object.__class__")))
      (hn : PySem.W.specialIn K (.builtin "object.__class__") "__get__" = some (some (.builtin "getset_descriptor.__get__"))) (htk : PySem.W.takesIn K (.builtin "object.__class__") = some true)
      (hm : PySem.W.mroIn K C (.type "object") = some true) : TyOf K H (.ref a) (.ref C)
end
end L2

namespace L2
open PySem PySem.Spec PyProof.Rows

/-! ### room -/
structure Room (k : Nat) (A : Around) : Prop where
  hd : A.handled = none
  dp : A.depth + 3 * k + 5 < recursionLimit
  un : A.units + 16 * k + 200 < cLine
theorem Room.mono {j k : Nat} {A : Around} (r : Room k A) (h : j ≤ k) : Room j A := ⟨r.hd, by have := r.dp; omega, by have := r.un; omega⟩
theorem Room.deeper {k : Nat} {A : Around} (r : Room (k + 1) A) (env : Env) : Room k (A.deeper env) :=
  ⟨r.hd, by have := r.dp; show A.depth + 1 + 3 * k + 5 < _; omega, by have := r.un; show A.units + 3 + 16 * k + 200 < _; omega⟩
theorem make_depth {A : Around} {C : Addr} {us : List Value} {kw : List (Str × Value)} : (A.under (.builtin "type.__call__" ⟨.ref C :: us, kw⟩)).depth = A.depth + 1 := by
  first | rfl | simp [Around.under, Code.weight, Code.isCreation, Code.isGuard, Code.isCaller, Code.frames, Code.isFrame, guardIds]
theorem make_units {A : Around} {C : Addr} {us : List Value} {kw : List (Str × Value)} : (A.under (.builtin "type.__call__" ⟨.ref C :: us, kw⟩)).units = A.units + 1 := by
  first | rfl | simp [Around.under, Code.cUnits, Code.frames, Code.isFrame]
theorem Room.make {k : Nat} {A : Around} (r : Room (k + 1) A) (C : Addr) (us : List Value) (kw : List (Str × Value)) : Room k (A.under (.builtin "type.__call__" ⟨.ref C :: us, kw⟩)) :=
  ⟨r.hd, by have := r.dp; rw [make_depth]; omega, by have := r.un; rw [make_units]; omega⟩
theorem Room.depth {k : Nat} {A : Around} (r : Room k A) : A.depth < recursionLimit := by have := r.dp; omega
theorem Room.units {k : Nat} {A : Around} (r : Room k A) : A.units + 64 < cLine := by have := r.un; omega
/-! ### argument lists and displays -/
def tNil : TA := fun _ H Q => Q [] H
def tCons (ta : TE) (tr : TA) : TA := fun σ H Q => ta σ H fun x H1 => tr σ H1 fun xs H2 => Q (x :: xs) H2
section
variable {X : Cx} {e : Expr} {es : List Expr} {te : TE} {t : TA} {pos : Pos}
theorem pa_nil : PA X [] tNil := fun _ _ _ _ H Q I h => Calls.spliced_nil ⟨[], H, I, .nil, h⟩
theorem pa_cons (ha : PE X e te) (hr : PA X es t) (hs : starEach (e :: es) X.env = (false, eval e X.env) :: starEach es X.env := by rfl) : PA X (e :: es) (tCons te t) := by
  intro pos pins s σ H Q I h
  rw [hs]
  show wpAny _ _ (spliced ((false, eval e X.env) :: backTo pos (starEach es X.env))) _ _ s
  refine Calls.spliced_cons (thn (ha pins s σ H _ I h) fun u s1 ⟨x, H1, I1, r1, q1⟩ => ?_)
  exact thn (hr pos pins s1 σ H1 _ I1 q1) fun us s2 ⟨xs, H2, I2, r2, q2⟩ => ⟨x :: xs, H2, I2, .cons r1 r2, q2⟩

/-- a tuple, a list of written items -/
def tTup (t : TA) : TE := fun σ H Q => t σ H fun xs H1 => xs.length ≤ sizeLine ∧ ∀ p, H1 p = none → Q (.ref p) (upd H1 p (.tup xs))
def tLst (t : TA) : TE := fun σ H Q => t σ H fun xs H1 => xs.length ≤ sizeLine ∧ ∀ p, H1 p = none → Q (.ref p) (upd H1 p (.lst xs))
theorem pe_tup {x1} (h : PA X es t) : PE X (.Tuple es x1 pos) (tTup t) := by
  intro pins s σ H Q I hq
  refine wpAny_Tuple_spliced (thn (h pos pins s σ H _ I hq) fun us s1 ⟨xs, H1, I1, r, z, q⟩ => ⟨by rw [← r.length]; exact z, ?_⟩)
  have hf : H1 s1.heap.objs.size = none := I1.hok.fresh (Nat.le_refl _)
  refine ⟨.ref s1.heap.objs.size, upd H1 s1.heap.objs.size (.tup xs), I1.laid (t' := s1.toks) (fun b u e => Heap.get?_push_of_some _ e) (Nat.le_refl _) ?_, rfl, q _ hf⟩
  exact ⟨z, us, r, ⟨_, Heap.get?_push_size _ rfl, rfl, _, rfl⟩⟩
theorem pe_lst (h : PA X es t) : PE X (.List es pos) (tLst t) := by
  intro pins s σ H Q I hq
  refine wpAny_List_spliced (thn (h pos pins s σ H _ I hq) fun us s1 ⟨xs, H1, I1, r, z, q⟩ => ⟨by rw [← r.length]; exact z, ?_⟩)
  have hf : H1 s1.heap.objs.size = none := I1.hok.fresh (Nat.le_refl _)
  refine ⟨.ref s1.heap.objs.size, upd H1 s1.heap.objs.size (.lst xs), I1.laid (t' := s1.toks) (fun b u e => Heap.get?_push_of_some _ e) (Nat.le_refl _) ?_, rfl, q _ hf⟩
  exact ⟨z, us, 0, r, Heap.get?_push_size _ rfl⟩
end

/-! ### what a def promises -/
/-- a def's promise: the bound arguments in the parameters' order, the heap, the wanted end, the wanted exception -/
abbrev Sp := List V → Hp → VK → XK → Prop
/-- how an exception lies behind a call (file 08 gives it): the callers' frames, abstract heap and state ahead of the call, the wish, the exception, the state -/
abbrev CXT := List Env → Hp → Shared → XK → Value → Shared → Prop

/-- the state at a call -/
structure Env0 (P : Program) (w : World) (K : PySem.W.Frag) (mg : Str → Option Value) (base : Heap) (A : Around) (outer : List Env) (s : Shared) (H : Hp) : Prop where
  frames : A.frames = some outer
  mod : Mod K mg base
  bs : ∀ b o, base.get? b = some o → s.heap.get? b = some o ∧ H b = none
  bsz : base.objs.size ≤ s.heap.objs.size
  funs : s.heap.FunFrames base outer
  frf : ∀ b ∈ frs outer, H b = none
  hok : HOk P w H s.heap
  bare : AllBare s.gens
/-- a call's end -/
def CE (outer : List Env) (P : Program) (w : World) (H : Hp) (s : Shared) (Q : VK) (u : Value) (s' : Shared) : Prop :=
  ∃ v H', s'.os = s.os ∧ AllBare s'.gens ∧ Un (frs outer) [] H H' s.heap s'.heap ∧ HOk P w H' s'.heap ∧ RelV v u ∧ Q v H'
def CR (CX : CXT) (outer : List Env) (P : Program) (w : World) (H : Hp) (s : Shared) (Q : VK) (E : XK) (r : Result) (s' : Shared) : Prop :=
  match r with
  | .ok (.ret u) => CE outer P w H s Q u s'
  | .ok _ => False
  | .error e => CX outer H s E e s'
structure FnOk (P : Program) (w : World) (K : PySem.W.Frag) (mg : Str → Option Value) (base : Heap) (CX : CXT) (k : Nat) (f : Addr) (fd : FuncData) (ps : List Str) (sp : Sp) : Prop where
  len : ∀ vs H Q E, sp vs H Q E → vs.length = ps.length
  run : ∀ (A : Around) (outer : List Env) (s : Shared) (H : Hp) (args : Args) (us : List Value) (vs : List V) (Q : VK) (E : XK), Room k A → Env0 P w K mg base A outer s H → BindsTo s fd args (ps.zip us) → Vals vs us → sp vs H Q E →
    codeAny (model P w) A (.call (.ref f) args) (CR CX outer P w H s Q E) s
/-- a weaker promise -/
theorem FnOk.imp {P : Program} {w : World} {K : PySem.W.Frag} {mg : Str → Option Value} {base : Heap} {CX : CXT} {k : Nat} {f : Addr} {fd : FuncData} {ps : List Str} {sp sp' : Sp} (F : FnOk P w K mg base CX k f fd ps sp)
    (h : ∀ vs H Q E, sp' vs H Q E → sp vs H Q E) : FnOk P w K mg base CX k f fd ps sp' :=
  ⟨fun vs H Q E q => F.len vs H Q E (h _ _ _ _ q), fun A outer s H args us vs Q E hr he hb hv hs => F.run A outer s H args us vs Q E hr he hb hv (h _ _ _ _ hs)⟩

theorem Env0.make {P : Program} {w : World} {K : PySem.W.Frag} {mg : Str → Option Value} {base : Heap} {A : Around} {outer : List Env} {s : Shared} {H : Hp} (e : Env0 P w K mg base A outer s H) (C : Addr) (us : List Value) (kw : List (Str × Value)) :
    Env0 P w K mg base (A.under (.builtin "type.__call__" ⟨.ref C :: us, kw⟩)) outer s H := ⟨by first | exact e.frames | (simpa [Around.under, Code.envs, Code.isFrame, pushEnvs] using e.frames), e.mod, e.bs, e.bsz, e.funs, e.frf, e.hok, e.bare⟩
section
variable {X : Cx} {pins : List (Addr × Obj)} {σ : St} {H : Hp} {s s' : Shared}
/-- from a body: what a callee wants -/
theorem Inv.env0 (I : Inv X pins σ H s) : Env0 X.prog X.w X.K X.mg X.base X.A X.stack s H :=
  ⟨I.ok.frames, I.ok.mod, I.bs, Nat.le_trans I.ok.bsz I.sz, I.stack, I.stkFree, I.hok, I.bare⟩
/-- behind a call -/
theorem Inv.after {Q : VK} {u : Value} (I : Inv X pins σ H s) (h : CE X.stack X.prog X.w H s Q u s') : EP X pins σ Q u s' := by
  obtain ⟨v, H', os, bare, un, hok, r, q⟩ := h
  obtain ⟨hh, g, d, t, os'⟩ := s'
  obtain rfl : os' = s.os := os
  exact ⟨v, H', I.call (h' := hh) (g' := g) (d' := d) (t' := t) (ch := []) un hok bare (fun b z => absurd z (by simp)), r, q⟩
end

/-! ### calls -/
/-- f(..): the written arguments, then the defaults dvs; E: what is wanted of an exception -/
def tCall (sp : Sp) (dvs : List V) (E : XK) (t : TA) : TE := fun σ H Q => t σ H fun vs H1 => sp (vs ++ dvs) H1 Q E
/-- C(..): a new instance and its dict, then __init__ -/
def tMake (C : Addr) (sp : Sp) (dvs : List V) (E : XK) (t : TA) : TE := fun σ H Q => t σ H fun vs H1 => ∀ x dx, H1 x = none → H1 dx = none → dx ≠ x →
  sp (.ref x :: (vs ++ dvs)) (upd (upd H1 dx (.own x)) x (.ins C dx [])) (fun v H2 => v = .non ∧ Q (.ref x) H2) E

/-- how the parameters are bound: us the positional arguments, kw the keywords' values by name, ds the defaults that fill up -/
def Binds (K : PySem.W.Frag) (fd : FuncData) (ps : List Str) (ds : List Value) : Prop :=
  ∀ (s : Shared) (us : List Value), K.In s.heap → (us ++ ds).length = ps.length → BindsTo s fd ⟨us, []⟩ (ps.zip (us ++ ds))
/-- every parameter is given -/
theorem Binds.all {K : PySem.W.Frag} {fd : FuncData} {ps : List Str} (h : ∀ us : List Value, us.length = ps.length → bindArgs fd ⟨us, []⟩ = pure (ps.zip us)) : Binds K fd ps [] := fun s us _ hl => by
  rw [List.append_nil] at hl ⊢
  exact .of_eq (h us hl)

/-- an exception of a callee reaches what this body wants of exceptions -/
def Passes (CX : CXT) (X : Cx) (E : XK) : Prop := ∀ (pins : List (Addr × Obj)) (σ : St) (H : Hp) (s : Shared) (e : Value) (s' : Shared), Inv X pins σ H s → CX X.stack H s E e s' → X.xe e s'

section
variable {X : Cx} {CX : CXT} {k : Nat} {f C : Addr} {fd : FuncData} {ps : List Str} {sp : Sp} {dvs : List V} {ds : List Value} {E : XK} {x m : Str} {p pos apos : Pos} {e o : Expr} {es : List Expr} {ta : TE} {t : TA}

/-- the callee runs -/
theorem run_fn {pins : List (Addr × Obj)} {σ : St} {H : Hp} {s : Shared} {Q : VK} {us : List Value} {vs : List V} (F : FnOk X.prog X.w X.K X.mg X.base CX k f fd ps sp) (hr : Room k X.A) (hb : Binds X.K fd ps ds) (hd : Vals dvs ds) (hx : Passes CX X E)
    (I : Inv X pins σ H s) (r : Vals vs us) (h : sp (vs ++ dvs) H Q E) : wpAny (model X.prog X.w) X.A (call (.ref f) us) (EP X pins σ Q) X.xe s := by
  have r2 : Vals (vs ++ dvs) (us ++ ds) := r.append hd
  have hl : (us ++ ds).length = ps.length := by rw [← r2.length]; exact F.len _ _ _ _ h
  refine wpAny_call (codeAny_mono (F.run X.A X.stack s H ⟨us, []⟩ (us ++ ds) (vs ++ dvs) Q E hr I.env0 (hb s us I.kIn hl) r2 h) fun r s' hq => ?_)
  cases r with
  | error e => exact hx pins σ H s e s' I hq
  | ok fl =>
    cases fl with
    | ret u => exact I.after hq
    | next => exact False.elim hq
    | brk => exact False.elim hq
    | cont => exact False.elim hq

theorem pe_call (F : FnOk X.prog X.w X.K X.mg X.base CX k f fd ps sp) (hr : Room k X.A) (hg : Gl X x) (hm : X.mg x = some (.ref f)) (hk : PySem.W.keepIn X.K (.ref f) = true) (hb : Binds X.K fd ps ds) (hd : Vals dvs ds) (hx : Passes CX X E)
    (ha : PA X (e :: es) t) (hdb : (x == ("__debug__" : Str)) = false := by decide) (he : starEach (e :: es) X.env = (false, eval e X.env) :: starEach es X.env := by rfl) (hpl : (backTo pos (starEach es X.env)).any (·.1) = false := by rfl) :
    PE X (.Call (.Name x p) (e :: es) [] pos) (tCall sp dvs E t) := by
  intro pins s σ H Q I h
  refine wpAny_Call_Name_kw (ld_glob I hg hm ?_ hdb)
  refine PySem.W.callWith_K (h₀ := X.base) I.ok.mod.kin hk (thn (ha pos pins s σ H _ I h) fun us s1 ⟨vs, H1, I1, r, q⟩ => ⟨I1.kIn, ?_⟩) he hpl
  exact run_fn F hr hb hd hx I1 r q
/-- what a class must have to be made -/
structure Mk (K : PySem.W.Frag) (C f : Addr) : Prop where
  makes : PySem.W.makesIn K C = true
  init : PySem.W.findIn K (.ref C) "__init__" = some (some (.ref f))
  fn : PySem.W.isFn K (.ref f) = true
  kp : PySem.W.keepIn K (.ref C) = true

theorem run_make {pins : List (Addr × Obj)} {σ : St} {H : Hp} {s : Shared} {Q : VK} {us : List Value} {vs : List V} (M : Mk X.K C f) (F : FnOk X.prog X.w X.K X.mg X.base CX k f fd ps sp) (hr : Room (k + 1) X.A) (hb : Binds X.K fd ps ds) (hd : Vals dvs ds)
    (hx : Passes CX X E) (I : Inv X pins σ H s) (r : Vals vs us)
    (h : ∀ x dx, H x = none → H dx = none → dx ≠ x → sp (.ref x :: (vs ++ dvs)) (upd (upd H dx (.own x)) x (.ins C dx [])) (fun v H2 => v = .non ∧ Q (.ref x) H2) E) :
    wpAny (model X.prog X.w) X.A (call (.ref C) us) (EP X pins σ Q) X.xe s := by
  have hq := h (s.heap.objs.size + 1) s.heap.objs.size (I.hok.fresh (Nat.le_succ _)) (I.hok.fresh (Nat.le_refl _)) (Nat.ne_of_lt (Nat.lt_succ_self _))
  have I2 := Inv.made (C := C) I
  have r2 : Vals (V.ref (s.heap.objs.size + 1) :: (vs ++ dvs)) (Value.ref (s.heap.objs.size + 1) :: (us ++ ds)) := .cons rfl (r.append hd)
  have hl : (Value.ref (s.heap.objs.size + 1) :: us ++ ds).length = ps.length := by
    have e := r2.length
    rw [F.len _ _ _ _ hq] at e
    exact e.symm
  refine wpAny_call (make_map (f := f) I.kIn M.makes M.init (beq_iff_eq.mp M.fn) (codeAny_mono (F.run _ X.stack _ _ ⟨Value.ref (s.heap.objs.size + 1) :: us, []⟩ (Value.ref (s.heap.objs.size + 1) :: (us ++ ds)) _ _ E (hr.make C us [])
    (I2.env0.make C us []) (hb _ (Value.ref (s.heap.objs.size + 1) :: us) I2.kIn hl) r2 hq) fun r s' hq' => ?_))
  cases r with
  | error e => exact hx pins σ _ _ e s' I2 hq'
  | ok fl =>
    cases fl with
    | ret u =>
      obtain ⟨v, H', I3, rv, ev, q3⟩ := I2.after hq'
      subst ev
      exact ⟨rv, ⟨V.ref (s.heap.objs.size + 1), H', I3, rfl, q3⟩⟩
    | next => exact False.elim hq'
    | brk => exact False.elim hq'
    | cont => exact False.elim hq'
theorem pe_make (M : Mk X.K C f) (F : FnOk X.prog X.w X.K X.mg X.base CX k f fd ps sp) (hr : Room (k + 1) X.A) (hg : Gl X x) (hm : X.mg x = some (.ref C)) (hb : Binds X.K fd ps ds) (hd : Vals dvs ds) (hx : Passes CX X E)
    (ha : PA X (e :: es) t) (hdb : (x == ("__debug__" : Str)) = false := by decide) (he : starEach (e :: es) X.env = (false, eval e X.env) :: starEach es X.env := by rfl) (hpl : (backTo pos (starEach es X.env)).any (·.1) = false := by rfl) :
    PE X (.Call (.Name x p) (e :: es) [] pos) (tMake C sp dvs E t) := by
  intro pins s σ H Q I h
  refine wpAny_Call_Name_kw (ld_glob I hg hm ?_ hdb)
  refine PySem.W.callWith_K (h₀ := X.base) I.ok.mod.kin M.kp (thn (ha pos pins s σ H _ I h) fun us s1 ⟨vs, H1, I1, r, q⟩ => ⟨I1.kIn, ?_⟩) he hpl
  exact run_make M F hr hb hd hx I1 r q
end

/-! ### keywords -/
section
variable {X : Cx} {CX : CXT} {k : Nat} {f C : Addr} {fd : FuncData} {ps ks : List Str} {sp : Sp} {E : XK} {x m : Str} {p pos apos kpos : Pos} {e o : Expr} {es : List Expr} {kws : List Keyword} {te ta : TE} {t tk : TA} {nm : Option Str}
/-- how a call with keywords binds: g puts the positional values us and the keywords' values ws (names ks) in the parameters' order, defaults among them -/
structure KBinds (K : PySem.W.Frag) (fd : FuncData) (ps ks : List Str) (g : List Value → List Value → List Value) (gV : List V → List V → List V) : Prop where
  to : ∀ (s : Shared) (us ws : List Value), K.In s.heap → (g us ws).length = ps.length → BindsTo s fd ⟨us, ks.zip ws⟩ (ps.zip (g us ws))
  rel : ∀ {vs : List V} {us : List Value} {zs : List V} {ws : List Value}, Vals vs us → Vals zs ws → Vals (gV vs zs) (g us ws)
variable {g : List Value → List Value → List Value} {gV : List V → List V → List V}
end

/-! ### a def's body keeps its promise -/
/-- names: the parameters first -/
structure FnScope (N P : List Str) (sc : Scope) : Prop where
  kind : sc.kind = .function
  co : sc.isCoroutine = false
  gen : sc.isGenerator = false
  nd : N.Nodup
  pre : N.take P.length = P
  par : ∀ x ∈ P, sc.names.lookup x = some .local ∨ sc.names.lookup x = some .cell
  nofree : ∀ y ∈ sc.names, y.2 ≠ .free

theorem bindL_out {kindOf : Str → Option NameKind} {x : Str} : ∀ {binds : List (Str × Value)} {m : Str → Option Value}, (∀ v, (x, v) ∉ binds) → bindL kindOf binds m x = m x
  | [], _, _ => rfl
  | (n, v) :: r, m, h => by
    unfold bindL
    rw [bindL_out fun w hw => h w (List.mem_cons_of_mem _ hw)]
    split
    · have : x ≠ n := by rintro rfl; exact h v List.mem_cons_self
      simp [this]
    · rfl
theorem bindC_out {kindOf : Str → Option NameKind} {x : Str} : ∀ {binds : List (Str × Value)} {m : Str → Option Value}, (∀ v, (x, v) ∉ binds) → bindC kindOf binds m x = m x
  | [], _, _ => rfl
  | (n, v) :: r, m, h => by
    unfold bindC
    rw [bindC_out fun w hw => h w (List.mem_cons_of_mem _ hw)]
    split
    · rfl
    · have : x ≠ n := by rintro rfl; exact h v List.mem_cons_self
      simp [this]
theorem bindL_get {kindOf : Str → Option NameKind} {x : Str} {v : Value} : ∀ {P : List Str} {vs : List Value} {i : Nat} {m : Str → Option Value}, P.Nodup → P[i]? = some x → vs[i]? = some v → kindOf x = some .local →
    bindL kindOf (P.zip vs) m x = some v
  | [], _, _, _, _, h, _, _ => by simp at h
  | _ :: _, [], _, _, _, _, h, _ => by simp at h
  | p :: P, w :: vs, 0, m, nd, h1, h2, hk => by
    simp at h1 h2; subst h1; subst h2
    show bindL kindOf ((p, w) :: P.zip vs) m p = _
    unfold bindL
    rw [bindL_out fun v hv => (List.nodup_cons.mp nd).1 (List.of_mem_zip hv).1, if_pos hk]
    simp
  | p :: P, w :: vs, i + 1, m, nd, h1, h2, hk => by
    show bindL kindOf ((p, w) :: P.zip vs) m x = _
    unfold bindL
    exact bindL_get (i := i) (List.nodup_cons.mp nd).2 (by simpa using h1) (by simpa using h2) hk
theorem bindC_get {kindOf : Str → Option NameKind} {x : Str} {v : Value} : ∀ {P : List Str} {vs : List Value} {i : Nat} {m : Str → Option Value}, P.Nodup → P[i]? = some x → vs[i]? = some v → kindOf x ≠ some .local →
    bindC kindOf (P.zip vs) m x = some v
  | [], _, _, _, _, h, _, _ => by simp at h
  | _ :: _, [], _, _, _, _, h, _ => by simp at h
  | p :: P, w :: vs, 0, m, nd, h1, h2, hk => by
    simp at h1 h2; subst h1; subst h2
    show bindC kindOf ((p, w) :: P.zip vs) m p = _
    unfold bindC
    rw [bindC_out fun v hv => (List.nodup_cons.mp nd).1 (List.of_mem_zip hv).1, if_neg hk]
    simp
  | p :: P, w :: vs, i + 1, m, nd, h1, h2, hk => by
    show bindC kindOf ((p, w) :: P.zip vs) m x = _
    unfold bindC
    exact bindC_get (i := i) (List.nodup_cons.mp nd).2 (by simpa using h1) (by simpa using h2) hk

/-- the names' values at the entry -/
def start (N : List Str) (vs : List V) : St := vs.map some ++ List.replicate (N.length - vs.length) none

/-- the context of a def's body, at its entry; an exception leaves the frame, then lies as CX says -/
def cxOf (CX : CXT) (P : Program) (w : World) (K : PySem.W.Frag) (mg : Str → Option Value) (base : Heap) (N : List Str) (qual : Str) (scope : Scope) (f : Addr) (cd : Value) (A : Around) (outer : List Env) (s : Shared) (H : Hp) (E : XK) : Cx where
  prog := P
  w := w
  K := K
  mg := mg
  base := base
  A := A.deeper (envOfC qual scope s.heap.objs.size f cd)
  N := N
  s₀ := s
  H₀ := H
  env := envOfC qual scope s.heap.objs.size f cd
  outer := outer
  stack := envOfC qual scope s.heap.objs.size f cd :: outer
  ex := []
  calm := true
  fn := fun _ => true
  pn := []
  xe := fun e s' => wpAny (model P w) (A.deeper (envOfC qual scope s.heap.objs.size f cd)) (leaving (envOfC qual scope s.heap.objs.size f cd) e) (fun _ s'' => CX outer H s E e s'') (fun e' s'' => CX outer H s E e' s'') s'

theorem cell_has {sc : Scope} {n : Nat} {x : Str} (h : sc.names.lookup x = some .cell) : ∃ c, (cellsFrom n sc.names []).lookup x = some c := by
  have q := PySem.W.cellsFrom_some sc.names n [] (.inl h)
  exact Option.isSome_iff_exists.mp q

theorem inv_start {CX : CXT} {P : Program} {w : World} {K : PySem.W.Frag} {mg : Str → Option Value} {base : Heap} {N ps : List Str} {qual : Str} {scope : Scope} {f : Addr} {cd : Value} {A : Around} {outer : List Env} {s s1 : Shared} {H : Hp} {E : XK} {us : List Value} {vs : List V}
    (S : FnScope N ps scope) (hd : A.handled = none) (e0 : Env0 P w K mg base A outer s H) (hl : vs.length = ps.length) (r : Vals vs us)
    (x : InCallC s s.heap.objs.size (bindL (envOfC qual scope s.heap.objs.size f cd).kindOf (ps.zip us) fun _ => none) (cellsFrom (s.heap.objs.size + 1) scope.names []) (bindC (envOfC qual scope s.heap.objs.size f cd).kindOf (ps.zip us) fun _ => none) s1) :
    Inv (cxOf CX P w K mg base N qual scope f cd A outer s H E) [] (start N vs) H s1 := by
  have hpl : ps.length ≤ N.length := by have := congrArg List.length S.pre; rw [List.length_take] at this; omega
  obtain ⟨h1, tk, rfl, hk⟩ := x.done
  have noA : ∀ b : Addr, b ∉ (cxOf CX P w K mg base N qual scope f cd A outer s H E).ex := fun b z => absurd (show b ∈ ([] : List Addr) from z) (by simp)
  refine ⟨⟨e0.mod, S.kind, rfl, rfl, Nat.le_refl _, fun y z c h1 h2 => ?_, fun y hy => ?_, fun y c _ h => ?_, fun _ => hd, Around.frames_deeper e0.frames, .inr ⟨rfl, rfl⟩, fun b z => absurd z (noA b), e0.bs, e0.bsz, fun b _ _ => noA b, fun b z => absurd z (noA b), e0.funs, e0.frf⟩,
    rfl, e0.bare, Un.kept hk, ⟨_, x.toInCall.ns, fun i y v h1 h2 h3 => ?_⟩, fun y c h => ⟨_, x.cell y c h⟩, e0.hok.fresh (Nat.le_refl _), fun y c h => ?_, fun p hp => absurd (show p ∈ ([] : List (Addr × Obj)) from hp) (by simp), e0.hok.kept hk, ?_⟩
  · exact name_of_addr x.apart (PySem.mem_of_lookup h1) (PySem.mem_of_lookup h2)
  · have hy : scope.names.lookup y = some .cell ∨ scope.names.lookup y = some .free := hy
    rcases hy with hy | hy
    · exact cell_has hy
    · exact absurd rfl (S.nofree _ (PySem.mem_of_lookup hy))
  · exact Nat.le_of_lt (x.above y c (PySem.mem_of_lookup h))
  · have hi : i < vs.length := by
      unfold start at h2
      by_cases hi : i < vs.length
      · exact hi
      · rw [List.getElem?_append_right (by simpa using hi)] at h2
        rw [List.getElem?_replicate] at h2
        split at h2 <;> cases h2
    have ha : vs[i]? = some v := by
      unfold start at h2
      rw [List.getElem?_append_left (by simpa using hi), List.getElem?_map] at h2
      cases e : vs[i]? with
      | none => rw [e] at h2; cases h2
      | some a => rw [e] at h2; cases h2; rfl
    obtain ⟨u, hu, rv⟩ := r.get ha
    have hp : ps[i]? = some y := by
      rw [← S.pre, List.getElem?_take_of_lt (by omega)]; exact h1
    have ndP : ps.Nodup := by rw [← S.pre]; exact S.nd.sublist (List.take_sublist _ _)
    refine ⟨u, rv, ?_⟩
    rcases S.par y (List.mem_of_getElem? hp) with k | k
    · exact .inl ⟨k, bindL_get ndP hp hu k⟩
    · obtain ⟨c, e⟩ := cell_has (n := s.heap.objs.size + 1) k
      refine .inr ⟨.inl k, c, e, ?_⟩
      have q := x.cell y c e
      rw [bindC_get ndP hp hu (by show scope.names.lookup y ≠ _; rw [k]; decide)] at q
      exact q
  · exact e0.hok.fresh (Nat.le_of_lt (x.above y c (PySem.mem_of_lookup h)))
  · unfold start
    show _ = N.length
    rw [List.length_append, List.length_map, List.length_replicate]
    omega

/-- THE RULE: a def (or a method) of the text, by its body. The body's reading t is chosen for each entry; it is run at the parameters' values -/
theorem fn_of {CX : CXT} {P : Program} {w : World} {K : PySem.W.Frag} {mg : Str → Option Value} {base : Heap} {k : Nat} {f : Addr} {name qual : Str} {params : Arguments} {body : List Stmt} {scope : Scope} {dV kV doc pm cdv ct oc : Value} {an od : Option Addr}
    {osl : Array (Option Value)} {N ps : List Str} {sp : Sp} (lk : K.lookup f = some ⟨oc, od, .func (PySem.W.fnOf name qual params body scope dV kV doc pm an cdv ct), osl⟩) (hcd : PySem.W.codeIn K cdv qual = true) (S : FnScope N ps scope)
    (len : ∀ vs H Q E, sp vs H Q E → vs.length = ps.length)
    (hbody : ∀ (A : Around) (outer : List Env) (s : Shared) (H : Hp) (vs : List V) (Q : VK) (E : XK), Room k (A.deeper (envOfC qual scope s.heap.objs.size f cdv)) → sp vs H Q E →
      ∃ t, PSs (cxOf CX P w K mg base N qual scope f cdv A outer s H E) body t ∧ t { nx := fun _ H' => Q .non H', rt := Q } (start N vs) H) :
    FnOk P w K mg base CX (k + 1) f (PySem.W.fnOf name qual params body scope dV kV doc pm an cdv ct) ps sp := by
  refine ⟨len, fun A outer s H args us vs Q E hr e0 hb r hsp => ?_⟩
  have hl := len _ _ _ _ hsp
  have KX : K.In s.heap := e0.mod.kin.keeps fun b o e => (e0.bs b o e).1
  have lim : s.heap.NoLimit := e0.mod.nolimit.keeps fun b o e => (e0.bs b o e).1
  have hkind : ∀ y ∈ ps.zip us, scope.names.lookup y.1 = some .local ∨ (scope.names.lookup y.1 = some .cell ∧ ((cellsFrom (s.heap.objs.size + 1) scope.names []).lookup y.1).isSome = true) := fun ⟨n, v⟩ hy => by
    rcases S.par n (List.of_mem_zip hy).1 with q | q
    · exact .inl q
    · exact .inr ⟨q, PySem.W.cellsFrom_some _ _ _ (.inl q)⟩
  refine codeAny_call_function hr.depth (KX _ _ lk) rfl S.co S.gen rfl (PySem.W.codeRec_of KX hcd) (hb _ _ _ _ ?_)
  refine wpAny_newFunctionEnv_cells S.kind hkind fun env he s1 x => ?_
  subst he
  refine ⟨lim.keeps x.toInCall.keep, codeAny_func ?_⟩
  obtain ⟨t, ht, hq⟩ := hbody A outer s H vs Q E (hr.deeper _) hsp
  have I : Inv (cxOf CX P w K mg base N qual scope f cdv A outer s H E) [] (start N vs) H s1 := inv_start S hr.hd e0 hl r x
  refine wpAny_mono (ht [] s1 (start N vs) H _ I hq) (fun fl s' hs => ?_) fun e s' hs => hs
  have fin : ∀ {σ' : St} {H' : Hp} {v : V} {u : Value}, Inv (cxOf CX P w K mg base N qual scope f cdv A outer s H E) [] σ' H' s' → RelV v u → Q v H' → CE outer P w H s Q u s' :=
    fun {σ' H' v u} J rv q => ⟨v, H', J.os, J.bare, J.base, J.hok, rv, q⟩
  cases fl with
  | ret u =>
    obtain ⟨v, σ', H', J, rv, q⟩ := hs
    exact fin J rv q
  | next =>
    obtain ⟨σ', H', J, q⟩ := hs
    exact fin (v := V.non) (u := Value.none) J rfl q
  | brk =>
    obtain ⟨_, _, _, q⟩ := hs
    exact False.elim q
  | cont =>
    obtain ⟨_, _, _, q⟩ := hs
    exact False.elim q
end L2

namespace L2
open PySem PySem.Spec PyProof.Rows
section
variable {X : Cx} {x : Str} {p pos : Pos} {e : Expr} {es : List Expr} {t : TA} {id T : String} {r : List V → Hp → VK → Prop}

def tCB (r : List V → Hp → VK → Prop) (t : TA) : TE := fun σ H Q => t σ H fun vs H1 => r vs H1 Q
/-- f(e, ..), f a built-in function -/
theorem pe_callB (hc : CallR X (.builtin id) r) (hg : Gl X x) (hm : X.mg x = none) (hv : bootBuiltins x = some (.builtin id)) (ha : PA X (e :: es) t) (hn : x ≠ "__name__" := by decide) (hdb : (x == ("__debug__" : Str)) = false := by decide)
    (he : starEach (e :: es) X.env = (false, eval e X.env) :: starEach es X.env := by rfl) (hpl : (backTo pos (starEach es X.env)).any (·.1) = false := by rfl) : PE X (.Call (.Name x p) (e :: es) [] pos) (tCB r t) := by
  intro pins s σ H Q I h
  refine wpAny_Call_Name_kw (ld_blt I hg hm hv ?_ hn hdb)
  exact PyProof.Rows.callWith_builtin1 (thn (ha pos pins s σ H _ I h) fun us s1 ⟨vs, H1, I1, r1, q1⟩ => hc pins s1 σ H1 vs us Q I1 r1 q1) he hpl
/-- T(e, ..), T a built-in type -/
theorem pe_callTy (hc : CallR X (.type T) r) (hg : Gl X x) (hm : X.mg x = none) (hv : bootBuiltins x = some (.type T)) (ha : PA X (e :: es) t) (hn : x ≠ "__name__" := by decide) (hdb : (x == ("__debug__" : Str)) = false := by decide)
    (he : starEach (e :: es) X.env = (false, eval e X.env) :: starEach es X.env := by rfl) (hpl : (backTo pos (starEach es X.env)).any (·.1) = false := by rfl) : PE X (.Call (.Name x p) (e :: es) [] pos) (tCB r t) := by
  intro pins s σ H Q I h
  refine wpAny_Call_Name_kw (ld_blt I hg hm hv ?_ hn hdb)
  exact PyProof.Rows.callWith_type1 (thn (ha pos pins s σ H _ I h) fun us s1 ⟨vs, H1, I1, r1, q1⟩ => hc pins s1 σ H1 vs us Q I1 r1 q1) he hpl
end
end L2

namespace HT
open PySem PyProof.Rows

section
open PySem.SeqAt
open PySem.AutoSeq1 (wpAny_loadPart')
open PySem.MeetsSeq PySem.MeetsSeq2 PySem.MeetsSeq3

end

section
variable {prog : Program} {w : World} {A : Around} {E : Value → Shared → Prop} {s : Shared}

/-- t + u, t not empty -/
theorem cat_tup {t b : Addr} {vs ws : List Value} {Q : Value → Shared → Prop} (ht : IsTup s.heap t vs.toArray) (hb : IsTup s.heap b ws.toArray) (hv : vs ≠ [])
    (h1 : ws = [] → Q (.ref t) s) (h2 : ws ≠ [] → Q (.ref s.heap.objs.size) { s with heap := s.heap.push { cls := .type "tuple", data := .seq (vs ++ ws).toArray } })
    (hsz : vs.length + ws.length ≤ sizeLine) : wpAny (model prog w) A (binaryOp .Add (.ref t) (.ref b)) Q E s := by
  obtain ⟨⟨cls, dd, data, sl⟩, ho, hc, n, hd⟩ := id ht
  obtain ⟨⟨cls2, dd2, data2, sl2⟩, ho2, hc2, n2, hd2⟩ := id hb
  simp only at hc hd hc2 hd2
  subst hc hd hc2 hd2
  have e : vs.toArray ++ ws.toArray = (vs ++ ws).toArray := by simp
  by_cases hw : ws = []
  · exact concat_meets ⟨_, ho, rfl⟩ ⟨_, ho2, rfl⟩ noFill_tuple_add seq_tuple_add PySem.F.slot_tuple_add PySem.F.entry_tuple_add (PySem.F.args_tuple_add_2 _ _)
      (tuple_addW1 t b vs.toArray ws.toArray n n2 dd dd2 sl sl2 (by simpa using hv) (by simp [hw])) ⟨ho, ho2, h1 hw⟩
  · refine concat_meets ⟨_, ho, rfl⟩ ⟨_, ho2, rfl⟩ noFill_tuple_add seq_tuple_add PySem.F.slot_tuple_add PySem.F.entry_tuple_add (PySem.F.args_tuple_add_2 _ _)
      (tuple_addW2 t b vs.toArray ws.toArray n n2 dd dd2 sl sl2 (by simpa using hv) (by simpa using hw) (by rw [List.size_toArray, List.size_toArray]; exact hsz)) ⟨ho, ho2, ?_⟩
    rw [e]
    exact h2 hw

/-! ### t[a:b], not the whole -/
/-- a slice's bound as a place among n (d where it is left out) -/
def sIx (n d : Nat) : Option Int → Nat
  | none => d
  | some v => if v < 0 then (v + (n : Int)).toNat else min v.toNat n
theorem sIx_none (n d : Nat) : sIx n d none = d := rfl
end
end HT

namespace L2
open PySem PySem.Spec PyProof.Rows

/-! ### the parts of a slice -/
abbrev TO := St → Hp → (Option Int → Hp → Prop) → Prop
/-- a slice's part (left out, or an int) -/
def PO (X : Cx) (e : Option Expr) (t : TO) : Prop :=
  ∀ (pins : List (Addr × Obj)) (s : Shared) (σ : St) (H : Hp) (Q : Option Int → Hp → Prop), Inv X pins σ H s → t σ H Q →
    wpAny (model X.prog X.w) X.A (evalPart e X.env) (fun u s' => ∃ o H', Inv X pins σ H' s' ∧ IsPart u o ∧ Q o H') X.xe s
def tNoPart : TO := fun _ H Q => Q none H
def tPart (t : TE) : TO := fun σ H Q => t σ H fun x H1 => ∃ i, x = .int i ∧ Q (some i) H1

section
variable {X : Cx} {e : Expr} {te : TE} {lo hi : Option Expr} {tl th : TO} {pos p2 : Pos}

theorem po_none : PO X none tNoPart := by
  intro pins s σ H Q I h
  rw [evalPart_none]
  exact wpAny_pure ⟨none, H, I, .none, h⟩
theorem po_some (h : PE X e te) : PO X (some e) (tPart te) := by
  intro pins s σ H Q I hw
  rw [evalPart_some]
  refine thn (h pins s σ H _ I hw) fun u s1 ⟨x, H1, I1, r1, q1⟩ => ?_
  obtain ⟨i, rfl, q⟩ := q1
  obtain ⟨t, rfl⟩ := r1
  exact ⟨some i, H1, I1, .int i t, q⟩

/-- what a slice of a value is, by values: the slice object stands at sl -/
def SlR (X : Cx) (r : V → Option Int → Option Int → Hp → VK → Prop) : Prop :=
  ∀ (pins : List (Addr × Obj)) (s : Shared) (σ : St) (H : Hp) (x : V) (v vl vu : Value) (lo hi : Option Int) (sl : Addr) (Q : VK), Inv X pins σ H s → RelV x v → s.heap.IsSliceOf sl vl vu .none → IsPart vl lo → IsPart vu hi → r x lo hi H Q →
    ∃ T id, typeLookup (.type T) "__getitem__" = pure (some (.builtin id)) ∧ s.TypeIs v T ∧ wpAny (model X.prog X.w) X.A (getItem v (.ref sl)) (EP X pins σ Q) X.xe s
def tSl (r : V → Option Int → Option Int → Hp → VK → Prop) (te : TE) (tl th : TO) : TE := fun σ H Q => te σ H fun x H1 => tl σ H1 fun l H2 => th σ H2 fun u H3 => r x l u H3 Q
/-- a[lo:hi], any a -/
theorem pe_slice {r : V → Option Int → Option Int → Hp → VK → Prop} (hr : SlR X r) (he : PE X e te) (hl : PO X lo tl) (hu : PO X hi th) : PE X (.Subscript e (.Slice lo hi none p2) pos) (tSl r te tl th) := by
  intro pins s σ H Q I h
  refine Subscript_ (thn (he pins s σ H _ I h) fun v s1 ⟨x, H1, I1, r1, q1⟩ => ?_)
  refine wpAny_Slice (thn (hl pins s1 σ H1 _ I1 q1) fun vl s2 ⟨l, H2, I2, pl, q2⟩ => thn (hu pins s2 σ H2 _ I2 q2) fun vu s3 ⟨u, H3, I3, pu, q3⟩ => ?_)
  rw [evalPart_none]
  refine wpAny_pure ?_
  have I4 : Inv X pins σ H3 { s3 with heap := s3.heap.push { cls := .type "slice", data := .fields #[vl, vu, .none] } } := I3.kept (t' := s3.toks) fun b ob q => Heap.get?_push_of_some _ q
  obtain ⟨T, id, hT, ht, hg⟩ := hr pins { s3 with heap := s3.heap.push { cls := .type "slice", data := .fields #[vl, vu, .none] } } σ H3 x v vl vu l u s3.heap.objs.size Q I4 r1 (Heap.IsSliceOf.new ..) pl pu q3
  show wpAny (model X.prog X.w) X.A (subscriptTail e (.Slice lo hi none p2) v (.ref s3.heap.objs.size)) (EP X pins σ Q) X.xe { s3 with heap := s3.heap.push { cls := .type "slice", data := .fields #[vl, vu, .none] } }
  exact tail_any (ops := [.ref s3.heap.objs.size, v]) ht hT hg (by with_unfolding_all rfl)

/-- the items of xs[lo:hi] -/
def cutV (xs : List V) (lo hi : Option Int) : List V := (xs.drop (HT.sIx xs.length 0 lo)).take (HT.sIx xs.length xs.length hi - HT.sIx xs.length 0 lo)
theorem cutV_length (xs : List V) (lo hi : Option Int) : (cutV xs lo hi).length ≤ xs.length := by
  unfold cutV
  rw [List.length_take, List.length_drop]
  omega
/-! ### t < u, t + u -/
/-- t + u, t not empty: u empty gives t itself -/
def rCatT (K : PySem.W.Frag) : R2 := fun x y H Q => ∃ a b xs ys, x = .ref a ∧ y = .ref b ∧ SqT K H a xs ∧ SqT K H b ys ∧ xs ≠ [] ∧ xs.length + ys.length ≤ sizeLine ∧
  (ys = [] → Q (.ref a) H) ∧ (ys ≠ [] → ∀ p, H p = none → Q (.ref p) (upd H p (.tup (xs ++ ys))))
theorem Vals.nil_iff {xs : List V} {us : List Value} (r : Vals xs us) : us = [] ↔ xs = [] := by
  cases r with
  | nil => simp
  | cons _ _ => simp
theorem op_catT : OpR X (binaryOp .Add) (rCatT X.K) := by
  intro pins s σ H x y v u Q I rx ry h
  obtain ⟨a, b, xs, ys, rfl, rfl, ha, hb, hx, hz, q1, q2⟩ := h
  cases rx
  cases ry
  obtain ⟨its, r1, p1, _⟩ := I.tuple ha
  obtain ⟨its2, r2, p2, _⟩ := I.tuple hb
  refine HT.cat_tup p1 p2 (fun z => hx (r1.nil_iff.mp z)) (fun z => ⟨.ref a, H, I, rfl, q1 (r2.nil_iff.mp z)⟩) (fun z => ?_) (by rw [← r1.length, ← r2.length]; exact hz)
  refine ⟨.ref s.heap.objs.size, _, I.laid (t' := s.toks) (o := .tup (xs ++ ys)) (fun b ob q => Heap.get?_push_of_some _ q) (Nat.le_refl _) ?_, rfl, q2 (fun w => z (r2.nil_iff.mpr w)) _ (I.hok.fresh (Nat.le_refl _))⟩
  exact ⟨by rw [List.length_append]; exact hz, _, r1.append r2, IsTup.new _ _⟩
end
end L2

namespace L2
open PySem PySem.Spec PyProof.Rows

/-! ### places -/
/-- the place that an index of any sign means -/
def ixN (n : Nat) (i : Int) : Option Nat := if 0 ≤ i then (if i < n then some i.toNat else none) else if -(n : Int) ≤ i then some (i + n).toNat else none
def atI {α : Type} (xs : List α) (i : Int) : Option α := (ixN xs.length i).bind fun j => xs[j]?
theorem ixN_seq {n : Nat} {i : Int} {j : Nat} (h : ixN n i = some j) : seqIndex? i n = some j ∧ j < n ∧ -(n : Int) ≤ i ∧ i < n := by
  unfold ixN at h
  by_cases h0 : 0 ≤ i
  · rw [if_pos h0] at h
    by_cases h1 : i < n
    · rw [if_pos h1] at h
      have e : i.toNat = j := Option.some.inj h
      exact ⟨by rw [seqIndex_of h0 h1, e], by omega, by omega, h1⟩
    · rw [if_neg h1] at h; cases h
  · rw [if_neg h0] at h
    by_cases h1 : -(n : Int) ≤ i
    · rw [if_pos h1] at h
      have e : (i + n).toNat = j := Option.some.inj h
      exact ⟨by rw [seqIndex_neg (by omega) h1, e], by omega, h1, by omega⟩
    · rw [if_neg h1] at h; cases h
theorem atI_get {α : Type} {xs : List α} {i : Int} {v : α} (h : atI xs i = some v) : ∃ j, seqIndex? i xs.length = some j ∧ xs[j]? = some v ∧ j < xs.length ∧ -(xs.length : Int) ≤ i ∧ i < xs.length := by
  unfold atI at h
  cases e : ixN xs.length i with
  | none => rw [e] at h; cases h
  | some j =>
    rw [e] at h
    obtain ⟨h1, h2, h3, h4⟩ := ixN_seq e
    exact ⟨j, h1, h, h2, h3, h4⟩
/-! ### what may be subscripted -/
/-- what stands as an index of a plain subscript -/
def PlainIx (b : Expr) : Prop := ∀ o i, subscripted b false o i = operate [o, i] (getItem o i)
/-- a subscript by values -/
def IxR (X : Cx) (r : R2) : Prop :=
  ∀ (value slice : Expr) (pins : List (Addr × Obj)) (s : Shared) (σ : St) (H : Hp) (x y : V) (v u : Value) (Q : VK), Inv X pins σ H s → RelV x v → RelV y u → r x y H Q →
    subscripted slice false v u = operate [v, u] (getItem v u) → wpAny (model X.prog X.w) X.A (subscriptTail value slice v u) (EP X pins σ Q) X.xe s
/-- a call of a builtin's method by values: the receiver, the arguments -/
def MtR (X : Cx) (id : String) (r : V → List V → Hp → VK → Prop) : Prop :=
  ∀ (pins : List (Addr × Obj)) (s : Shared) (σ : St) (H : Hp) (x : V) (xs : List V) (v : Value) (us : List Value) (Q : VK), Inv X pins σ H s → RelV x v → Vals xs us → r x xs H Q →
    wpAny (model X.prog X.w) X.A (call (.builtin id) (v :: us)) (EP X pins σ Q) X.xe s
section
variable {X : Cx} {a b : Expr} {ta tb : TE} {pos : Pos}
/-- a[b] -/
theorem pe_ix {r : R2} (hr : IxR X r) (ha : PE X a ta) (hb : PE X b tb) (hs : PlainIx b) : PE X (.Subscript a b pos) (tOp r ta tb) := by
  intro pins s σ H Q I h
  exact Subscript_ (binT ha hb I h fun v u s2 x y H2 I2 rx ry q => hr a b pins s2 σ H2 x y v u Q I2 rx ry q (hs _ _))

def rIxL (K : PySem.W.Frag) : R2 := fun x y H Q => ∃ p xs i v, x = .ref p ∧ y = .int i ∧ SqL K H p xs ∧ atI xs i = some v ∧ Q v H
def rIxT (K : PySem.W.Frag) : R2 := fun x y H Q => ∃ p xs i v, x = .ref p ∧ y = .int i ∧ SqT K H p xs ∧ atI xs i = some v ∧ Q v H
theorem ix_list : IxR X (rIxL X.K) := by
  intro value slice pins s σ H x y v u Q I rx ry h hs
  obtain ⟨p, xs, i, z, rfl, rfl, hq, he, q⟩ := h
  cases rx
  obtain ⟨t, rfl⟩ := ry
  obtain ⟨its, r, pl, hz⟩ := I.list hq
  obtain ⟨j, h1, h2, h3, h4, h5⟩ := atI_get he
  obtain ⟨w, ew, rw'⟩ := r.get h2
  have hl := r.length
  have hn := line63
  have fin : EP X pins σ Q w s := ⟨z, H, I, rw', q⟩
  by_cases h0 : 0 ≤ i
  · have hj : i.toNat = j := by
      rw [seqIndex_of h0 h5] at h1
      exact Option.some.inj h1
    exact item_listR pl.isList h0 (by omega) (by rw [hj]; simpa using ew) fin hs
  · have hj : (i + (its.toArray.size : Int)).toNat = j := by
      rw [seqIndex_neg (by omega) h4] at h1
      rw [List.size_toArray, ← hl]
      exact Option.some.inj h1
    exact subscriptTail_builtinR (x := w) pl.isList.typeIs slot_list_getitem.lookup
      (wpAny_getItem_list_neg (Q := fun r s' => r = w ∧ EP X pins σ Q r s') pl.isList (by omega) (by rw [List.size_toArray] <;> omega) (by omega) (by rw [hj]; simpa using ew) ⟨rfl, fin⟩) hs
theorem ix_tup : IxR X (rIxT X.K) := by
  intro value slice pins s σ H x y v u Q I rx ry h hs
  obtain ⟨p, xs, i, z, rfl, rfl, hq, he, q⟩ := h
  cases rx
  obtain ⟨t, rfl⟩ := ry
  obtain ⟨its, r, pl, hz⟩ := I.tuple hq
  obtain ⟨j, h1, h2, h3, h4, h5⟩ := atI_get he
  obtain ⟨w, ew, rw'⟩ := r.get h2
  have hl := r.length
  have hn := line63
  have fin : EP X pins σ Q w s := ⟨z, H, I, rw', q⟩
  exact subscriptTail_builtinR (x := w) pl.typeIs slot_tuple_getitem.lookup
    (getItem_tuple (j := j) (Q := fun r s' => r = w ∧ EP X pins σ Q r s') pl (by omega) (by omega) (by rw [List.size_toArray, ← hl]; exact h1) (by simpa using ew) ⟨rfl, fin⟩) hs
/-! ### xs[i] = v, any sign -/
theorem Inv.lst {pins : List (Addr × Obj)} {σ : St} {H : Hp} {s : Shared} {p : Addr} {xs : List V} (I : Inv X pins σ H s) (h : H p = some (.lst xs)) :
    ∃ (its : List Value) (n : Nat), Vals xs its ∧ s.heap.get? p = some { cls := .type "list", data := .seq its.toArray n } ∧ xs.length ≤ sizeLine := by
  obtain ⟨z, its, n, r, e⟩ := I.hok p _ h
  exact ⟨its, n, r, e, z⟩
/-! ### slices -/
theorem slice_bounds (lo hi : Option Int) (n : Nat) : (sliceBounds lo hi none n).1 = ((HT.sIx n 0 lo : Nat) : Int) ∧ (sliceBounds lo hi none n).2.1 = ((HT.sIx n n hi : Nat) : Int) ∧ (sliceBounds lo hi none n).2.2 = 1 := by
  refine ⟨?_, ?_, rfl⟩
  · cases lo with
    | none => simp [sliceBounds, HT.sIx]
    | some i =>
      simp only [sliceBounds, HT.sIx, Option.getD_none, show (1 : Int) > 0 by decide, if_true]
      by_cases h : i < 0
      · simp only [h, if_true] <;> omega
      · simp only [h, if_false] <;> omega
  · cases hi with
    | none => simp [sliceBounds, HT.sIx]
    | some i =>
      simp only [sliceBounds, HT.sIx, Option.getD_none, show (1 : Int) > 0 by decide, if_true]
      by_cases h : i < 0
      · simp only [h, if_true] <;> omega
      · simp only [h, if_false] <;> omega
theorem slicePick_cut (its : List Value) (lo hi : Option Int) : slicePick its.toArray lo hi none = ((its.drop (HT.sIx its.length 0 lo)).take (HT.sIx its.length its.length hi - HT.sIx its.length 0 lo)).toArray := by
  obtain ⟨h1, h2, h3⟩ := slice_bounds lo hi its.toArray.size
  unfold slicePick
  rw [h1, h2, h3]
  simp only [sliceRange_one, pick_run, List.size_toArray] <;> rfl
/-- xs[lo:hi] of a list: a new list -/
def rSlL (K : PySem.W.Frag) : V → Option Int → Option Int → Hp → VK → Prop := fun x lo hi H Q => ∃ a xs, x = .ref a ∧ SqL K H a xs ∧ ∀ p, H p = none → Q (.ref p) (upd H p (.lst (cutV xs lo hi)))
theorem sl_list : SlR X (rSlL X.K) := by
  intro pins s σ H x v vl vu lo hi sl Q I rx hs pl pu h
  obtain ⟨a, xs, rfl, hx, q⟩ := h
  cases rx
  obtain ⟨its, r, ht, hz⟩ := I.list hx
  have hlen := r.length
  refine ⟨"list", _, slot_list_getitem.lookup, ht.isList.typeIs, ?_⟩
  refine wpAny_getItem_list_slice ht.isList hs pl pu .none (by simp) ?_ (by rw [List.size_toArray] <;> omega)
  rw [slicePick_cut, ← hlen]
  refine ⟨.ref s.heap.objs.size, _, I.laid (t' := s.toks) (o := .lst (cutV xs lo hi)) (fun b ob q => Heap.get?_push_of_some _ q) (Nat.le_refl _) ?_, rfl, q _ (I.hok.fresh (Nat.le_refl _))⟩
  exact ⟨Nat.le_trans (cutV_length xs lo hi) hz, _, 0, (r.drop (HT.sIx xs.length 0 lo)).take (HT.sIx xs.length xs.length hi - HT.sIx xs.length 0 lo), Heap.get?_push_size _ rfl⟩

/-! ### in, not in: flat items -/
def flatV : V → Bool
  | .non => true
  | .bl _ => true
  | .int _ => true
  | .str _ => true
  | _ => false
/-- == of flat values -/
def eqV : V → V → Bool
  | .non, .non => true
  | .bl a, .bl b => a == b
  | .bl a, .int b => (if a then 1 else 0) == b
  | .int a, .bl b => a == (if b then 1 else 0)
  | .int a, .int b => a == b
  | .str a, .str b => a == b
  | _, _ => false
theorem eqAt_V {A : Around} {s : Shared} {y x : V} {u v : Value} (ry : RelV y u) (rx : RelV x v) (fy : flatV y = true) (fx : flatV x = true) : SeqAt.EqAt A s u v (eqV y x) := by
  cases y with
  | non =>
    cases ry
    cases x with
    | non => cases rx; exact SeqAt.EqAt.same _
    | bl b => cases rx; exact SeqAt.EqAt.none_bool b
    | int b => obtain ⟨t, rfl⟩ := rx; exact SeqAt.EqAt.none_int b t
    | str b => obtain ⟨t, rfl⟩ := rx; exact SeqAt.EqAt.none_str b t
    | _ => exact absurd (show false = true from fx) Bool.false_ne_true
  | bl a =>
    cases ry
    cases x with
    | non => cases rx; exact SeqAt.EqAt.bool_none a
    | bl b => cases rx; exact SeqAt.EqAt.bool_bool a b
    | int b => obtain ⟨t, rfl⟩ := rx; exact SeqAt.EqAt.bool_int a b t
    | str b => obtain ⟨t, rfl⟩ := rx; exact SeqAt.EqAt.bool_str a b t
    | _ => exact absurd (show false = true from fx) Bool.false_ne_true
  | int a =>
    obtain ⟨t', rfl⟩ := ry
    cases x with
    | non => cases rx; exact SeqAt.EqAt.int_none a t'
    | bl b => cases rx; exact SeqAt.EqAt.int_bool a t' b
    | int b => obtain ⟨t, rfl⟩ := rx; exact SeqAt.EqAt.int_int a t' b t
    | str b => obtain ⟨t, rfl⟩ := rx; exact SeqAt.EqAt.int_str a t' b t
    | _ => exact absurd (show false = true from fx) Bool.false_ne_true
  | str a =>
    obtain ⟨t', rfl⟩ := ry
    cases x with
    | non => cases rx; exact SeqAt.EqAt.str_none a t'
    | bl b => cases rx; exact SeqAt.EqAt.str_bool a t' b
    | int b => obtain ⟨t, rfl⟩ := rx; exact SeqAt.EqAt.str_int a t' b t
    | str b => obtain ⟨t, rfl⟩ := rx; exact SeqAt.EqAt.str_str a t' b t
    | _ => exact absurd (show false = true from fx) Bool.false_ne_true
  | _ => exact absurd (show false = true from fy) Bool.false_ne_true
/-- the items' answers, read off the values (a value's own answer does not lean on its token) -/
def eqU (x : V) (u : Value) : Bool := match u with
  | .none => eqV .non x
  | .bool b => eqV (.bl b) x
  | .int i _ => eqV (.int i) x
  | .str z _ => eqV (.str z) x
  | _ => false
theorem eqU_of {x y : V} {u : Value} (r : RelV y u) (f : flatV y = true) : eqU x u = eqV y x := by
  cases y with
  | non => cases r; rfl
  | bl b => cases r; rfl
  | int i => obtain ⟨t, rfl⟩ := r; rfl
  | str z => obtain ⟨t, rfl⟩ := r; rfl
  | _ => exact absurd (show false = true from f) Bool.false_ne_true
theorem any_eqU {x : V} : ∀ {xs : List V} {us : List Value}, Vals xs us → xs.all flatV = true → us.any (eqU x) = xs.any fun y => eqV y x
  | _, _, .nil, _ => rfl
  | y :: xs, u :: us, .cons r t, f => by
    rw [List.all_cons, Bool.and_eq_true] at f
    rw [List.any_cons, List.any_cons, eqU_of r f.1, any_eqU t f.2]
theorem mem_eqAt {A : Around} {s : Shared} {x : V} {v : Value} (rx : RelV x v) (fx : flatV x = true) : ∀ {xs : List V} {us : List Value}, Vals xs us → xs.all flatV = true → ∀ u ∈ us, SeqAt.EqAt A s u v (eqU x u)
  | _, _, .nil, _ => fun u hu => by cases hu
  | y :: xs, u :: us, .cons r t, f => fun u' hu => by
    rw [List.all_cons, Bool.and_eq_true] at f
    rcases List.mem_cons.mp hu with rfl | hu
    · rw [eqU_of r f.1]; exact eqAt_V r rx f.1 fx
    · exact mem_eqAt rx fx t f.2 u' hu
def inV (x : V) (xs : List V) : Bool := xs.any fun y => eqV y x
/-- x in a list or tuple of flat items -/
def rIn (K : PySem.W.Frag) (neg : Bool) : R2 := fun x y H Q => ∃ p xs, y = .ref p ∧ (SqL K H p xs ∨ SqT K H p xs) ∧ flatV x = true ∧ xs.all flatV = true ∧ Q (.bl (if neg then !inV x xs else inV x xs)) H
theorem op_in_seq : OpR X (compareOp .In) (rIn X.K false) := by
  intro pins s σ H x y v u Q I rx ry h
  obtain ⟨p, xs, rfl, hq, fx, fs, q⟩ := h
  cases ry
  rcases hq with hq | hq
  · obtain ⟨its, r, pl, hz⟩ := I.list hq
    refine SeqAt.in_listAt (eqU x) pl.isList (fun w hw => mem_eqAt rx fx r fs w (by simpa using hw)) ⟨.bl _, H, I, rfl, ?_⟩
    rw [show its.toArray.any (eqU x) = its.any (eqU x) by simp, any_eqU r fs]
    exact q
  · obtain ⟨its, r, pl, hz⟩ := I.tuple hq
    refine SeqAt.in_tupleAt (eqU x) pl (fun w hw => mem_eqAt rx fx r fs w (by simpa using hw)) ⟨.bl _, H, I, rfl, ?_⟩
    rw [show its.toArray.any (eqU x) = its.any (eqU x) by simp, any_eqU r fs]
    exact q
theorem op_notIn_seq : OpR X (compareOp .NotIn) (rIn X.K true) := by
  intro pins s σ H x y v u Q I rx ry h
  obtain ⟨p, xs, rfl, hq, fx, fs, q⟩ := h
  cases ry
  rcases hq with hq | hq
  · obtain ⟨its, r, pl, hz⟩ := I.list hq
    refine SeqAt.notIn_listAt (eqU x) pl.isList (fun w hw => mem_eqAt rx fx r fs w (by simpa using hw)) ⟨.bl _, H, I, rfl, ?_⟩
    rw [show its.toArray.any (eqU x) = its.any (eqU x) by simp, any_eqU r fs]
    exact q
  · obtain ⟨its, r, pl, hz⟩ := I.tuple hq
    refine SeqAt.notIn_tupleAt (eqU x) pl (fun w hw => mem_eqAt rx fx r fs w (by simpa using hw)) ⟨.bl _, H, I, rfl, ?_⟩
    rw [show its.toArray.any (eqU x) = its.any (eqU x) by simp, any_eqU r fs]
    exact q
/-! ### len, list(x), tuple(x) of any list or tuple that is read -/
theorem call_len_seq : CallR X (.builtin "len") (fun xs H Q => ∃ p ys, xs = [.ref p] ∧ (SqL X.K H p ys ∨ SqT X.K H p ys) ∧ Q (.int ys.length) H) := by
  intro pins s σ H xs us Q I r h
  obtain ⟨p, ys, rfl, hq, q⟩ := h
  obtain ⟨u, rfl, rx⟩ := vals1 r
  cases rx
  have hn := line63
  rcases hq with hq | hq
  · obtain ⟨its, r', pl, hz⟩ := I.list hq
    have hlen := r'.length
    exact Calls.call_len_list pl.isList (by simp only [List.size_toArray] <;> omega) ⟨.int ys.length, H, I.tok _, ⟨s.toks + 1, by rw [List.size_toArray, hlen]⟩, q⟩
  · obtain ⟨its, r', pl, hz⟩ := I.tuple hq
    have hlen := r'.length
    exact len_tuple pl (by simp only [List.size_toArray] <;> omega) ⟨.int ys.length, H, I.tok _, ⟨s.toks + 1, by rw [List.size_toArray, hlen]⟩, q⟩
theorem call_list_of : CallR X (.type "list") (fun xs H Q => ∃ p ys, xs = [.ref p] ∧ (SqL X.K H p ys ∨ SqT X.K H p ys) ∧ ∀ l, H l = none → Q (.ref l) (upd H l (.lst ys))) := by
  intro pins s σ H xs us Q I r h
  obtain ⟨p, ys, rfl, hq, q⟩ := h
  obtain ⟨u, rfl, rx⟩ := vals1 r
  cases rx
  have fin : ∀ (its : List Value), Vals ys its → ys.length ≤ sizeLine → ∀ (h' : Heap) (c' : Nat), (∀ b o', s.heap.get? b = some o' → h'.get? b = some o') →
      h'.get? s.heap.objs.size = some { cls := .type "list", dict := none, data := .seq its.toArray c', slots := #[] } → EP X pins σ Q (.ref s.heap.objs.size) { s with heap := h' } := fun its r' hz h' c' kp e =>
    ⟨.ref s.heap.objs.size, _, I.laid (t' := s.toks) kp (Nat.le_refl _) (show ObjOk X.prog X.w _ h' _ (.lst ys) from ⟨hz, its, c', r', e⟩), rfl, q _ (I.hok.fresh (Nat.le_refl _))⟩
  rcases hq with hq | hq
  · obtain ⟨its, r', pl, hz⟩ := I.list hq
    have hlen := r'.length
    obtain ⟨o, ho, hc, n, hd⟩ := pl.isList
    exact call_list_seq p (.inl rfl) ho hc hd (fun h' c' kp e => fin its r' hz h' c' kp e) (by simp only [List.size_toArray] <;> omega)
  · obtain ⟨its, r', pl, hz⟩ := I.tuple hq
    have hlen := r'.length
    obtain ⟨o, ho, hc, n, hd⟩ := pl
    exact call_list_seq p (.inr rfl) ho hc hd (fun h' c' kp e => fin its r' hz h' c' kp e) (by simp only [List.size_toArray] <;> omega)
theorem call_tuple_of : CallR X (.type "tuple") (fun xs H Q => ∃ p ys, xs = [.ref p] ∧ ((SqL X.K H p ys ∧ ∀ l, H l = none → Q (.ref l) (upd H l (.tup ys))) ∨ (SqT X.K H p ys ∧ Q (.ref p) H))) := by
  intro pins s σ H xs us Q I r h
  obtain ⟨p, ys, rfl, h⟩ := h
  obtain ⟨u, rfl, rx⟩ := vals1 r
  cases rx
  rcases h with ⟨hq, q⟩ | ⟨hq, q⟩
  · obtain ⟨its, r', pl, hz⟩ := I.list hq
    have hlen := r'.length
    refine call_tuple_list pl.isList (fun h' kp => ?_) (by simp only [List.size_toArray] <;> omega)
    have I1 : Inv X pins σ H { s with heap := h' } := I.kept (t' := s.toks) kp
    have I2 : Inv X pins σ (upd H h'.objs.size (.tup ys)) { s with heap := h'.push { cls := .type "tuple", data := .seq its.toArray } } :=
      I1.laid (t' := s.toks) (fun b o e => Heap.get?_push_of_some _ e) (Nat.le_refl _) (show ObjOk X.prog X.w _ _ _ (.tup ys) from ⟨hz, its, r', IsTup.new _ _⟩)
    exact ⟨.ref h'.objs.size, _, I2, rfl, q _ (I1.hok.fresh (Nat.le_refl _))⟩
  · obtain ⟨its, r', pl, hz⟩ := I.tuple hq
    exact call_tuple_same pl ⟨.ref p, H, I, rfl, q⟩

/-! ### the call of a builtin's method: o.m(..) -/
/-- the value is of that builtin type -/
def tyV (K : PySem.W.Frag) (T : String) (x : V) (H : Hp) : Prop := match x with
  | .str _ => T = "str"
  | .int _ => T = "int"
  | .ref p => (T = "list" ∧ ∃ xs, SqL K H p xs) ∨ (T = "tuple" ∧ ∃ o, K.lookup p = some o ∧ o.cls = .type "tuple" ∧ o.dict = none) ∨
      (T = "dict" ∧ ((∃ kvs, H p = some (.dK kvs)) ∨ ∃ kvs, H p = some (.dT kvs))) ∨ (T = "set" ∧ ∃ S n, H p = some (.set S n))
  | _ => False
theorem tyV_is {pins : List (Addr × Obj)} {σ : St} {H : Hp} {s : Shared} {T : String} {x : V} {v : Value} (I : Inv X pins σ H s) (r : RelV x v) (ty : tyV X.K T x H) :
    s.TypeIs v T ∧ ∀ a, v = .ref a → ∃ ob, s.heap.get? a = some ob ∧ ob.dict = none := by
  cases x with
  | str z =>
    obtain ⟨t, rfl⟩ := r
    cases (show T = "str" from ty)
    exact ⟨typeIs_str s z t, fun _ e => nomatch e⟩
  | int i =>
    obtain ⟨t, rfl⟩ := r
    cases (show T = "int" from ty)
    exact ⟨typeIs_int s i t, fun _ e => nomatch e⟩
  | ref p =>
    cases r
    rcases ty with ⟨rfl, xs, hq⟩ | ⟨rfl, o, hk, hc, hd⟩ | ⟨rfl, hk⟩ | ⟨rfl, S, n, hk⟩
    · obtain ⟨its, _, pl, _⟩ := I.list hq
      refine ⟨pl.isList.typeIs, fun a e => ?_⟩
      cases e
      obtain ⟨o, n, e, c, hd, _⟩ := pl
      exact ⟨o, e, hd⟩
    · refine ⟨⟨o, I.kIn p o hk, hc⟩, fun a e => ?_⟩
      cases e
      exact ⟨o, I.kIn _ o hk, hd⟩
    · have z : ∃ o, s.heap.get? p = some o ∧ o.ExactDict := by
        rcases hk with ⟨kvs, hk⟩ | ⟨kvs, hk⟩
        · obtain ⟨_, _, _, _, o, _, _, e, ex, _⟩ := I.hok p _ hk
          exact ⟨o, e, ex⟩
        · obtain ⟨_, _, _, _, o, _, _, e, ex, _⟩ := I.hok p _ hk
          exact ⟨o, e, ex⟩
      obtain ⟨o, e, ex⟩ := z
      refine ⟨⟨o, e, ex.1⟩, fun a e2 => ?_⟩
      cases e2
      exact ⟨o, e, ex.2.1⟩
    · obtain ⟨o, _, _, _, e, ex, _⟩ := I.hok p _ hk
      refine ⟨⟨o, e, ex.1⟩, fun a e2 => ?_⟩
      cases e2
      exact ⟨o, e, ex.2.1⟩
  | _ => exact False.elim ty
def tBM0 (K : PySem.W.Frag) (T : String) (r : V → List V → Hp → VK → Prop) (to : TE) : TE := fun σ H Q => to σ H fun x H1 => tyV K T x H1 ∧ r x [] H1 Q
def tBM (K : PySem.W.Frag) (T : String) (r : V → List V → Hp → VK → Prop) (to : TE) (t : TA) : TE := fun σ H Q => to σ H fun x H1 => tyV K T x H1 ∧ t σ H1 fun xs H2 => r x xs H2 Q
variable {o e : Expr} {es : List Expr} {to : TE} {t : TA} {name : Str} {apos cpos : Pos} {T id : String} {r : V → List V → Hp → VK → Prop}
theorem pe_bm0 (pa : PlainAttrs T) (slot : Slot T name id) (hty : typeOf (.builtin id) = pure (.type "method_descriptor")) (hm : MtR X id r) (ho : PE X o to)
    (hbase : attributeBase o name X.env (eval o X.env) = eval o X.env := by rfl) (hline : (apos.endLine == cpos.line) = true := by rfl) : PE X (.Call (.Attribute o name apos) [] [] cpos) (tBM0 X.K T r to) := by
  intro pins s σ H Q I h
  refine wpAny_Call_method0_late hbase hline (thn (ho pins s σ H _ I h) fun v s1 ⟨x, H1, I1, r1, ty, q1⟩ => ?_)
  obtain ⟨h1, h2⟩ := tyV_is I1 r1 ty
  exact ⟨T, id, pa, slot, hty, h1, h2, Calls.callWith_builtin rfl (PySem.evalArgs_none (hm pins s1 σ H1 x [] v [] Q I1 r1 .nil q1))⟩
theorem pe_bm (pa : PlainAttrs T) (slot : Slot T name id) (hty : typeOf (.builtin id) = pure (.type "method_descriptor")) (hm : MtR X id r) (ho : PE X o to) (ha : PA X (e :: es) t)
    (hbase : attributeBase o name X.env (eval o X.env) = eval o X.env := by rfl)
    (hfew : ((backTo cpos (starEach (e :: es) X.env)).all (fun x => !x.1) && (backToKw cpos (keywordEach [] X.env)).all (fun x => x.1.isSome)
      && decide ((e :: es).length + ([] : List Keyword).length + (if ([] : List Keyword).isEmpty then 0 else 1) < 30)) = true := by rfl)
    (hline : (apos.endLine == cpos.line) = true := by rfl) (hs : starEach (e :: es) X.env = (false, eval e X.env) :: starEach es X.env := by rfl) (hplain : (backTo cpos (starEach es X.env)).any (·.1) = false := by rfl) :
    PE X (.Call (.Attribute o name apos) (e :: es) [] cpos) (tBM X.K T r to t) := by
  intro pins s σ H Q I h
  refine wpAny_Call_method_late hbase hfew hline rfl (thn (ho pins s σ H _ I h) fun v s1 ⟨x, H1, I1, r1, ty, q1⟩ => ?_)
  obtain ⟨h1, h2⟩ := tyV_is I1 r1 ty
  refine ⟨T, id, pa, slot, hty, h1, h2, ?_⟩
  have hA := ha cpos pins s1 σ H1 _ I1 q1
  rw [hs] at hA ⊢
  refine Calls.callWith_builtin (by show (false || (backTo cpos (starEach es X.env)).any (·.1)) = false; rw [hplain] <;> rfl) (Calls.evalArgs_plain ?_)
  exact thn hA fun us s2 ⟨vs, H2, I2, r2, q2⟩ => hm pins s2 σ H2 x vs v us Q I2 r1 r2 q2
/- xs.append(e), list.index on a module's tuple .. are MtR facts of 06m -/
end
end L2

namespace L2
open PySem PySem.Spec PyProof.Rows

def MtM (X : Cx) (id : String) (r : V → List V → Hp → VK → Prop) : Prop :=
  ∀ (pins : List (Addr × Obj)) (s : Shared) (σ : St) (H : Hp) (x : V) (xs : List V) (v : Value) (us : List Value) (Q : VK), Inv X pins σ H s → RelV x v → Vals xs us → r x xs H Q →
    wpAny (model X.prog X.w) X.A (call (.builtin id) (v :: us)) (EP X pins σ Q) X.xe s

/-! ### lists of values -/
theorem Vals.one : ∀ {x : V} {us : List Value}, Vals [x] us → ∃ u, us = [u] ∧ RelV x u
  | _, _, .cons r .nil => ⟨_, rfl, r⟩
theorem Vals.two : ∀ {x y : V} {us : List Value}, Vals [x, y] us → ∃ u v, us = [u, v] ∧ RelV x u ∧ RelV y v
  | _, _, _, .cons r (.cons q .nil) => ⟨_, _, rfl, r, q⟩
section
variable {X : Cx} {pins : List (Addr × Obj)} {σ : St} {H : Hp} {s : Shared} {l b : Addr} {xs ys zs : List V}

/-! ### the two steps: a tracked list is rewritten, a new list is laid -/
theorem Inv.lset {its its' : List Value} {n : Nat} {f : Array Value → Array Value} {t' : Nat} (I : Inv X pins σ H s) (hH : H l = some (.lst xs))
    (e : s.heap.get? l = some { cls := .type "list", data := .seq its.toArray n }) (hf : f its.toArray = its'.toArray) (hv : Vals ys its') (hz : ys.length ≤ sizeLine) :
    Inv X pins σ (upd H l (.lst ys)) { s with heap := s.heap.update l (Obj.mapSeq f), toks := t' } := by
  have q := PySem.IsL.update e f
  rw [hf] at q
  refine I.write (x := l) (e := l) (by rw [hH]; exact trivial) (.inl rfl) (fun b' u hb hu => (Heap.get?_update_other s.heap (Obj.mapSeq f) (Ne.symm hb)).trans hu) ⟨_, q⟩ ?_
  exact ⟨hz, its', _, hv, q⟩
theorem Inv.lnew {its : List Value} {t' : Nat} (I : Inv X pins σ H s) (hv : Vals ys its) (hz : ys.length ≤ sizeLine) :
    Inv X pins σ (upd H s.heap.objs.size (.lst ys)) { s with heap := s.heap.push { cls := .type "list", data := .seq its.toArray }, toks := t' } :=
  I.laid (fun _ _ q => Heap.get?_push_of_some _ q) (Nat.le_refl _) ⟨hz, its, 0, hv, Heap.get?_push_size _ rfl⟩
theorem Inv.fresh (I : Inv X pins σ H s) : H s.heap.objs.size = none := I.hok.fresh (Nat.le_refl _)
theorem Inv.lstM (I : Inv X pins σ H s) (hH : H l = some (.lst xs)) : xs.length ≤ sizeLine ∧ ∃ (its : List Value) (n : Nat), Vals xs its ∧ xs.length = its.length ∧ s.heap.get? l = some { cls := .type "list", data := .seq its.toArray n } := by
  obtain ⟨z, its, n, r, e⟩ := I.hok l _ hH
  exact ⟨z, its, n, r, r.length, e⟩

end

section
variable {X : Cx}

/-! ### methods -/
def rAppend : V → List V → Hp → VK → Prop := fun x vs H Q => ∃ l xs y, x = .ref l ∧ vs = [y] ∧ H l = some (.lst xs) ∧ xs.length < sizeLine ∧ Q .non (upd H l (.lst (xs ++ [y])))
theorem mt_append : MtM X "list.append" rAppend := by
  intro pins s σ H x vs v us Q I rx rv h
  obtain ⟨l, xs, y, rfl, rfl, hH, hz, q⟩ := h
  cases rx
  obtain ⟨u, rfl, ru⟩ := rv.one
  obtain ⟨z, its, n, r, hl, e⟩ := I.lstM hH
  refine call_meets F.slot_list_append ⟨_, e, rfl⟩ F.entry_list_append (F.args_list_append_2 _ _) (PySem.list_append l its.toArray n u (by rw [List.size_toArray]; omega)) ⟨e, ?_⟩
  refine ⟨.non, _, I.lset (its' := its ++ [u]) hH e (by simp) (r.append (.cons ru .nil)) ?_, rfl, q⟩
  rw [List.length_append, List.length_singleton]
  omega

/-! ### list + list, list += list, list * int -/
def rCat : R2 := fun x y H Q => ∃ l b xs zs, x = .ref l ∧ y = .ref b ∧ H l = some (.lst xs) ∧ H b = some (.lst zs) ∧ xs.length + zs.length ≤ sizeLine ∧ ∀ p, H p = none → Q (.ref p) (upd H p (.lst (xs ++ zs)))
theorem op_cat : OpR X (binaryOp .Add) rCat := by
  intro pins s σ H x y v u Q I rx ry h
  obtain ⟨l, b, xs, zs, rfl, rfl, hH, hB, hz, q⟩ := h
  cases rx
  cases ry
  obtain ⟨z, its, n, r, hl, e⟩ := I.lstM hH
  obtain ⟨z2, its2, n2, r2, hl2, e2⟩ := I.lstM hB
  refine PySem.P.add_list e e2 ?_ (by rw [List.size_toArray, List.size_toArray]; omega)
  have ea : its.toArray ++ its2.toArray = (its ++ its2).toArray := by simp
  rw [ea]
  exact ⟨.ref _, _, I.lnew (t' := s.toks) (r.append r2) (by rw [List.length_append]; omega), rfl, q _ I.fresh⟩
/-! ### del xs[i] -/
end

/-! ### xs[a:b] = ys -/
section
variable {prog : Program} {w : World} {A : Around} {E : Value → Shared → Prop} {s : Shared}
end

section
variable {X : Cx}
end
end L2

namespace L2
open PySem PySem.Spec PyProof.Rows

/-! ### lists of pairs as tables -/
section
variable {κ : Type} [DecidableEq κ]
def valV (kvs : List (κ × V)) (k : κ) : Option V := (kvs.find? fun kv => decide (kv.1 = k)).map (·.2)
/-- in its place, or at the end -/
def putK (kvs : List (κ × V)) (k : κ) (v : V) : List (κ × V) :=
  if (kvs.any fun kv => decide (kv.1 = k)) = true then kvs.map (fun kv => if kv.1 = k then (kv.1, v) else kv) else kvs ++ [(k, v)]
theorem valV_pos {p : κ × V} {r : List (κ × V)} {k : κ} (e : p.1 = k) : valV (p :: r) k = some p.2 := by simp [valV, List.find?_cons, e]
theorem valV_neg {p : κ × V} {r : List (κ × V)} {k : κ} (e : ¬ p.1 = k) : valV (p :: r) k = valV r k := by simp [valV, List.find?_cons, e]
theorem valV_any (k : κ) : ∀ kvs : List (κ × V), (kvs.any fun kv => decide (kv.1 = k)) = (valV kvs k).isSome
  | [] => rfl
  | p :: r => by
    rw [List.any_cons]
    by_cases e : p.1 = k
    · simp only [valV_pos e, decide_eq_true e, Bool.true_or, Option.isSome_some]
    · rw [valV_neg e, decide_eq_false e, Bool.false_or]; exact valV_any k r
theorem length_putK (kvs : List (κ × V)) (k : κ) (v : V) : (putK kvs k v).length ≤ kvs.length + 1 := by
  unfold putK
  split
  · rw [List.length_map]; omega
  · rw [List.length_append, List.length_cons, List.length_nil]; omega
theorem putK_new {kvs : List (κ × V)} {k : κ} (v : V) (h : valV kvs k = none) : putK kvs k v = kvs ++ [(k, v)] := by
  unfold putK
  rw [valV_any, h]
  exact if_neg (by decide)

theorem RelO.getD {o : Option V} {u : Option Value} {d : V} {d' : Value} (r : RelO o u) (rd : RelV d d') : RelV (o.getD d) (u.getD d') := by
  cases o with
  | none => cases u with
    | none => exact rd
    | some _ => exact (show False from r).elim
  | some _ => cases u with
    | none => exact (show False from r).elim
    | some _ => exact r

/-- raw tables of the same keys -/
theorem KV.val {kvs : List (κ × V)} {vs : List (κ × Value)} (r : KV kvs vs) (k : κ) : RelO (valV kvs k) (valueAt vs k) := by
  unfold KV at r
  induction r with
  | nil => exact True.intro
  | @cons p q ps qs h t ih =>
    obtain ⟨h1, h2⟩ := h
    by_cases e : p.1 = k
    · have e' : q.1 = k := h1.symm.trans e
      have b : valueAt (q :: qs) k = some q.2 := by simp [valueAt, List.find?_cons, e']
      rw [valV_pos e, b]; exact h2
    · have e' : ¬ q.1 = k := fun z => e (h1.trans z)
      have b : valueAt (q :: qs) k = valueAt qs k := by simp [valueAt, List.find?_cons, e']
      rw [valV_neg e, b]; exact ih
theorem KV.any {kvs : List (κ × V)} {vs : List (κ × Value)} (r : KV kvs vs) (k : κ) : (kvs.any fun kv => decide (kv.1 = k)) = vs.any fun kv => decide (kv.1 = k) := by
  unfold KV at r
  induction r with
  | nil => rfl
  | cons h t ih => rw [List.any_cons, List.any_cons, ih, h.1]
theorem KV.repl {kvs : List (κ × V)} {vs : List (κ × Value)} (r : KV kvs vs) (k : κ) {y : V} {u : Value} (ry : RelV y u) :
    KV (kvs.map fun kv => if kv.1 = k then (kv.1, y) else kv) (vs.map fun kv => if kv.1 = k then (kv.1, u) else kv) := by
  unfold KV at r ⊢
  induction r with
  | nil => exact .nil
  | @cons p q ps qs h t ih =>
    rw [List.map_cons, List.map_cons]
    refine .cons ?_ ih
    obtain ⟨h1, h2⟩ := h
    by_cases e : p.1 = k
    · rw [if_pos e, if_pos (h1.symm.trans e)]; exact ⟨h1, ry⟩
    · rw [if_neg e, if_neg (fun z => e (h1.trans z))]; exact ⟨h1, h2⟩
theorem KV.put {kvs : List (κ × V)} {vs : List (κ × Value)} (r : KV kvs vs) (k : κ) {y : V} {u : Value} (ry : RelV y u) : KV (putK kvs k y) (stored vs k u) := by
  unfold putK stored
  rw [r.any k]
  by_cases e : (vs.any fun kv => decide (kv.1 = k)) = true
  · rw [if_pos e, if_pos e]; exact r.repl k ry
  · rw [if_neg e, if_neg e]; exact Paired.snoc r ⟨rfl, ry⟩
theorem KV.length {kvs : List (κ × V)} {vs : List (κ × Value)} (r : KV kvs vs) : kvs.length = vs.length := Paired.length r
end


/-! ### a tracked dict, its keys ints and texts or tuples of these -/
theorem kV_is {P : Program} {w : World} {k : Key} {u : Value} (r : RelV (kV k) u) : (mixKind P w).is k u = true := by
  cases k with
  | inl i => obtain ⟨t, e⟩ := (show ∃ t, u = Value.int i t from r); subst e; exact mixKind_int P w i t
  | inr x => obtain ⟨t, e⟩ := (show ∃ t, u = Value.str x t from r); subst e; exact mixKind_str P w x t
section
variable {P : Program} {w : World} {H : Hp} {h : Heap} {a : Addr}
theorem rd_of {u : HO} (ok : HOk P w H h) (e : Rd H a u) : ObjOk P w H h a u := e.ok ok
theorem dk_rd {kvs : List (Key × V)} (ok : HOk P w H h) (e : Rd H a (.dK kvs)) : kvs.length ≤ sizeLine ∧ (a == sysModules) = false ∧ ∃ vs, KV kvs vs ∧ h.DictOf (mixKind P w) a vs :=
  show ObjOk P w H h a (.dK kvs) from rd_of ok e
theorem dk_of {kvs : List (Key × V)} (ok : HOk P w H h) (e : H a = some (.dK kvs)) : kvs.length ≤ sizeLine ∧ (a == sysModules) = false ∧ ∃ vs, KV kvs vs ∧ h.DictOf (mixKind P w) a vs := dk_rd ok (.inl e)
end

section
variable {X : Cx} {pins : List (Addr × Obj)} {σ : St} {H : Hp} {s : Shared} {a : Addr} {y v : V} {u r : Value} {o : Option V} {A : Around} {E : Value → Shared → Prop}

theorem Inv.big (I : Inv X pins σ H s) : sysModules < s.heap.objs.size := by
  have h : mainGlobals < s.heap.objs.size := (I.mod.glob.keeps I.bk).lt
  exact Nat.lt_trans (by decide) h

/-- a dict's object is replaced -/
theorem d_write {h' : Heap} {t' : Nat} {ob : HO} (I : Inv X pins σ H s) (mu : Mut (H a)) (hs : Heap.SameBut a s.heap h') (he : ∃ q, h'.get? a = some q) (new : ObjOk X.prog X.w (upd H a ob) h' a ob) :
    Inv X pins σ (upd H a ob) { s with heap := h', toks := t' } :=
  I.write (x := a) (e := a) mu (.inl rfl) (fun b q hb z => (hs.2 b hb).trans z) he new
theorem dk_new {P : Program} {w : World} {H' : Hp} {h' : Heap} {kvs : List (Key × V)} {vs : List (Key × Value)} (z : kvs.length ≤ sizeLine) (hd : (a == sysModules) = false) (rel : KV kvs vs) (dd : h'.DictOf (mixKind P w) a vs) :
    ObjOk P w H' h' a (.dK kvs) := ⟨z, hd, vs, rel, dd⟩
end

section
variable {X : Cx} {pins : List (Addr × Obj)} {σ : St} {H : Hp} {s : Shared} {a : Addr} {kvs : List (Key × V)} {k : Key} {u : Value} {A : Around} {E : Value → Shared → Prop}
end


/-! ### readings and rules -/
section
variable {X : Cx} {o i e value : Expr} {pos pos' tpos : Pos} {td ty tv : TE}
end


/-! ### displays -/
theorem dk_empty {P : Program} {w : World} {H : Hp} (h : Heap) (hb : sysModules < h.objs.size) : ObjOk P w H (h.push { cls := .type "dict", data := .dict #[] }) h.objs.size (.dK []) :=
  ⟨Nat.zero_le _, beq_eq_false_iff_ne.mpr (Ne.symm (Nat.ne_of_lt hb)), [], .nil, Heap.DictOf.new h⟩
/-- {}, to be a dict of the kind that is wanted -/
def tDNewK : TE := fun _ H Q => ∀ p, H p = none → Q (.ref p) (upd H p (.dK []))
section
variable {X : Cx} {pos : Pos}
theorem pe_dnewK : PE X (.Dict [] [] pos) tDNewK := fun pins s σ H Q I h =>
  wpAny_Dict_empty ⟨.ref s.heap.objs.size, _, I.laid (a := s.heap.objs.size) (o := .dK []) (t' := s.toks) (fun _ _ q => Heap.get?_push_of_some _ q) (Nat.le_refl _) (dk_empty s.heap I.big), rfl, h _ (I.hok.fresh (Nat.le_refl _))⟩
end

/-! ### methods -/
/-- a method call o.m(e) of a built-in, with one argument: what must be seen of the text -/
structure M1 (X : Cx) (o : Expr) (m : Str) (apos : Pos) (e : Expr) (cpos : Pos) : Prop where
  base : attributeBase o m X.env (eval o X.env) = eval o X.env
  few : ((backTo cpos (starEach [e] X.env)).all (fun x => !x.1) && (backToKw cpos (keywordEach [] X.env)).all (fun x => x.1.isSome)
    && decide (([e] : List Expr).length + ([] : List Keyword).length + (if ([] : List Keyword).isEmpty then 0 else 1) < 30)) = true
  line : (apos.endLine == cpos.line) = true
  trees : backTo cpos (starEach [e] X.env) = [(false, eval e X.env)]
structure M2 (X : Cx) (o : Expr) (m : Str) (apos : Pos) (e f : Expr) (cpos : Pos) : Prop where
  base : attributeBase o m X.env (eval o X.env) = eval o X.env
  few : ((backTo cpos (starEach [e, f] X.env)).all (fun x => !x.1) && (backToKw cpos (keywordEach [] X.env)).all (fun x => x.1.isSome)
    && decide (([e, f] : List Expr).length + ([] : List Keyword).length + (if ([] : List Keyword).isEmpty then 0 else 1) < 30)) = true
  line : (apos.endLine == cpos.line) = true
  trees : backTo cpos (starEach [e, f] X.env) = [(false, eval e X.env), (false, eval f X.env)]

section
variable {X : Cx} {pins : List (Addr × Obj)} {σ : St} {H : Hp} {s : Shared} {a : Addr} {y d : V} {u r : Value} {o : Option V} {A : Around} {E : Value → Shared → Prop}
end

section
variable {X : Cx} {o e f : Expr} {apos cpos : Pos} {td ty tx : TE}
end

/-! ### dict(d): a copy -/
section
variable {X : Cx} {pins : List (Addr × Obj)} {σ : St} {H : Hp} {s : Shared} {a : Addr} {kvs : List (Key × V)} {A : Around} {E : Value → Shared → Prop}
end


section
variable {X : Cx} {pins : List (Addr × Obj)} {σ : St} {H : Hp} {s : Shared} {a : Addr} {y : V} {u : Value} {A : Around} {E : Value → Shared → Prop}
end
end L2


namespace Att
open PySem PySem.W PySem.Calls PyProof.Rows

/-! ### the script -/
theorem ints_of_wellAll {P : Params} {h : Heap} : ∀ (ns : List Int) (vs : List Value), WellAll P h vs (ns.map WData.int) → IntsAre vs ns := by
  intro ns
  induction ns with
  | nil =>
    intro vs w
    rw [List.map_nil] at w
    cases w
    exact .nil
  | cons n ns ih =>
    intro vs w
    rw [List.map_cons] at w
    cases w with
    | cons a b =>
      cases a
      exact .cons _ _ (ih _ b)

theorem script_of {l : OpenLaw} {n : Nat} (hn : l.most = some n) {P : Params} {h : Heap} {args : List WData} {vals : List Value}
    (hpre : l.row.toRowW.claim.pre args = true) (hwl : WellAll P h vals args) :
    ∃ a vs ns, vals = [Value.ref a] ∧ args = [WData.list (ns.map WData.int)] ∧ h.get? a = some { cls := .type "list", data := .seq vs.toArray } ∧ IntsAre vs ns ∧ ns.length ≤ n := by
  have hsh : WShape.hasAll [] args [.list .int] = true := (pre_splitW hpre).1
  have hc : l.pre.holds [] { args := args } = true := (pre_splitW hpre).2
  obtain ⟨d, r, rfl, h1, h2⟩ := hasAllW_cons hsh
  obtain rfl := hasAllW_nil h2
  obtain ⟨xs, rfl, h3⟩ := hasW_list h1
  obtain ⟨ns, rfl⟩ := items_int h3
  have hlen : ns.length ≤ n := by
    unfold OpenLaw.pre at hc
    have h4 : (WTm.not (.lt (.lit (.int (n : Int))) (.len (.arg 0)))).holds [] { args := [.list (ns.map .int)] } = true := by
      have h4 := (holds_andW hc).1
      rw [hn] at h4
      exact h4
    have h5 := condW_of h4 (w_not (w_lt w_lit (w_len_list (w_arg rfl))))
    rw [List.length_map] at h5
    refine Nat.le_of_not_lt fun q => ?_
    have q' : (n : Int) < ((ns.length : Nat) : Int) := by omega
    first
      | (rw [decide_eq_true q'] at h5; exact absurd h5 (by decide))
      | (simp at h5; omega)
  cases hwl with
  | cons w1 w2 =>
    cases w2
    cases w1 with
    | list ho hall => exact ⟨_, _, ns, rfl, rfl, ho, ints_of_wellAll ns _ hall, hlen⟩

theorem post_true (l : OpenLaw) (args : List WData) : l.row.toRowW.claim.post args (.bool true) args = true :=
  postW_of (r := l.row.toRowW) (X := (true == true))
    (show WShape.has [] (.bool true) .bool = true by first | rfl | decide | simp [WShape.has, WShape.arms, WShape.armsAll])
    (show (WTm.eq .res (.lit (.bool true))).value [] { args := args, res := some (.bool true), after := args } = some (.bool (true == true)) from w_eq_bool (w_res rfl) w_lit) rfl

/-! ### the attachment: holds_open's last premise (the goal 'hc' behind k_head) from a wpAny of the law's body -/
/-- the same from a codeAny of the CALL (for a layer whose function contracts speak of calls) -/
theorem attach_call {l : OpenLaw} {n : Nat} {q : Program} {loose : List Str} {XP : (Str → Option Value) → Heap → Prop} {YP : World → Heap → Prop} {d : DefRec}
    (hn : l.most = some n) (hdf : d.params.defaults = [])
    (call : ∀ (w : World) (s₀ s₁ : Shared) (mg mb : Str → Option Value) (fa : Addr) (o : Obj) (pm cd doc : Value) (a : Addr) (vs : List Value) (ns : List Int),
      Ground q loose [] XP w s₀ mg mb s₁.heap → YP w s₁.heap →
      s₁.heap.get? fa = some o → o.data = .func (docDef d.name d.params d.body d.scope pm cd doc) → s₁.heap.CodeRec cd d.name → mg d.name = some (.ref fa) →
      s₁.heap.get? a = some { cls := .type "list", data := .seq vs.toArray } → IntsAre vs ns → ns.length ≤ n → s₁.gens = #[] →
      codeAny (model l.prog w) callerA (.call (.ref fa) ⟨[.ref a], []⟩) (fun r s' => r = .ok (.ret (.bool true)) ∧ OldK s₁.heap s'.heap ∧ s'.os = s₁.os ∧ AllBare s'.gens) s₁) :
    WalkO q loose XP YP l.row.toRowW d [] (fun f vs => PySem.call f vs) := by
  intro w s₀ s₁ mg mb G Y fa o pm cd doc dV kV ho hd hcd hD hmg hg args vals as hpre hlay hrd hwl hlo
  obtain rfl : dV = .none := Dflts.none hD hdf
  obtain rfl : kV = .none := Dflts.noKw hD
  obtain ⟨a, vs, ns, rfl, rfl, hobj, hints, hlen⟩ := script_of hn hpre hwl
  refine enter_call (codeAny_mono (call w s₀ s₁ mg mb fa o pm cd doc a vs ns G Y ho (fd_plain hd) hcd hmg hobj hints hlen hg) fun r s' hq => ?_)
  obtain ⟨rfl, h2, h3, h4⟩ := hq
  exact ⟨.inl ⟨.bool true, .bool true, [], rfl, fun _ => rfl, .bool true, post_true l _, fun _ => ⟨List.Pairwise.nil, fun _ hm => (nomatch hm)⟩⟩, h2, h3, h4⟩

/-! ### rules over ANY heap (no ledger) from facts about the written part K: the library's own take a ledger (News) for what they write -/
section
variable {prog : Program} {w : World} {A : Around} {E : Value → Shared → Prop} {s : Shared} {K : Frag}

/-! the whole heap as the ledger: makes every rule that writes through a ledger a rule over any heap -/
def ledger (h : Heap) (L d : Addr) : List (Addr × Obj) := (List.range h.objs.size).filterMap fun a => if a = L ∨ a = d then none else (h.get? a).map fun o => (a, o)
end
end Att

namespace L2
open PySem PySem.Spec PyProof.Rows

theorem vals_ints : ∀ {vs : List Value} {ns : List Int}, IntsAre vs ns → Vals (ns.map V.int) vs
  | _, _, .nil => .nil
  | _, _, .cons n t h => .cons ⟨t, rfl⟩ (vals_ints h)

/-- nothing is tracked but the script, known to the object (or it is an object of the module) -/
def Only (H : Hp) : Prop := ∀ b, H b = none ∨ ∃ o xs, H b = some (.frz o (.lst xs))

/-- THE HEAD: the law's promise, at the heap behind the top. F, the promise of the law's def, may use that base is part of the heap (so K.In base, base.Ns mainGlobals mg stand in Mod) -/
theorem law_call {P : Program} {w : World} {K : PySem.W.Frag} {mg mb : Str → Option Value} {CX : CXT} {k : Nat} {fa a : Addr} {fd : FuncData} {x : Str} {sp : Sp} {s₁ : Shared} {vs : List Value} {ns : List Int}
    (KX : K.In s₁.heap) (hns : s₁.heap.Ns mainGlobals mg) (hb : s₁.heap.Ns builtinsNs mb) (hbb : ∀ x : Str, x ≠ "__name__" → mb x = bootBuiltins x) (hlim : s₁.heap.NoLimit) (hg : s₁.gens = #[])
    (ha : s₁.heap.get? a = some { cls := .type "list", data := .seq vs.toArray }) (hi : IntsAre vs ns) (hl : ns.length ≤ sizeLine) (hr : Room k callerA)
    (F : ∀ base : Heap, K.In base → base.Ns mainGlobals mg → FnOk P w K mg base CX k fa fd [x] sp) (hbind : ∀ (s : Shared) (u : Value), BindsTo s fd ⟨[u], []⟩ [(x, u)])
    (hsp : ∀ H : Hp, Only H → SqL K H a (ns.map V.int) → sp [.ref a] H (fun v _ => v = .bl true) fun _ _ _ => False)
    (hCX : ∀ H e s', CX [] H s₁ (fun _ _ _ => False) e s' → False) :
    codeAny (model P w) callerA (.call (.ref fa) ⟨[.ref a], []⟩) (fun r s' => r = .ok (.ret (.bool true)) ∧ OldK s₁.heap s'.heap ∧ s'.os = s₁.os ∧ AllBare s'.gens) s₁ := by
  have rv := vals_ints hi
  have lenV := hi.length
  -- from an abstract heap in which nothing but the script may be tracked
  have core : ∀ H : Hp, Only H → SqL K H a (ns.map V.int) → HOk P w H s₁.heap → (∀ b, H b ≠ none → b = a) → (H a ≠ none → K.lookup a = none) →
      codeAny (model P w) callerA (.call (.ref fa) ⟨[.ref a], []⟩) (fun r s' => r = .ok (.ret (.bool true)) ∧ OldK s₁.heap s'.heap ∧ s'.os = s₁.os ∧ AllBare s'.gens) s₁ := by
    intro H hO hS hok hA hK
    have base_of : ∀ {b : Addr} {o : Obj}, s₁.heap.get? b = some o → H b = none → (hidT s₁.heap H).get? b = some o := fun e n => hidT_get e n
    have noA : ∀ {b : Addr} {o : Obj} {es : Array DictEntry} {ep : Nat}, s₁.heap.get? b = some o → o.data = .dict es ep → H b = none := fun {b o es ep} e d => by
      cases q : H b with
      | none => rfl
      | some u =>
        have e' : b = a := hA b (by rw [q]; simp)
        subst e'
        rw [ha] at e; cases e
        have d' : Data.seq vs.toArray _ = Data.dict es ep := d
        cases d'
    have nsK : ∀ {b : Addr} {m : Str → Option Value}, s₁.heap.Ns b m → (hidT s₁.heap H).Ns b m := fun {b m} ⟨o, es, ep, e, d, r⟩ => ⟨o, es, ep, base_of e (noA e d), d, r⟩
    have hKb : K.In (hidT s₁.heap H) := fun b o e => base_of (KX b o e) (by
      cases q : H b with
      | none => rfl
      | some u =>
        have e' : b = a := hA b (by rw [q]; simp)
        subst e'
        rw [hK (by rw [q]; simp)] at e; cases e)
    have hM : Mod K mg (hidT s₁.heap H) := ⟨hKb, nsK hns, ⟨mb, nsK hb, hbb⟩, let ⟨mc, h1, h2⟩ := hlim; ⟨mc, nsK h1, h2⟩⟩
    have e0 : Env0 P w K mg (hidT s₁.heap H) callerA [] s₁ H := ⟨rfl, hM, fun b o e => of_hidT e, Nat.le_of_eq (hidT_size _ _), trivial, fun b hb => absurd (show b ∈ ([] : List Addr) from hb) (by simp), hok, .of_eq hg⟩
    refine codeAny_mono ((F _ hKb (nsK hns)).run callerA [] s₁ H ⟨[.ref a], []⟩ [.ref a] [.ref a] _ _ hr e0 (hbind s₁ (.ref a)) (.cons rfl .nil) (hsp H hO hS)) fun r s' h => ?_
    cases r with
    | error e => exact (hCX H e s' h).elim
    | ok fl =>
      cases fl with
      | next => exact False.elim h
      | brk => exact False.elim h
      | cont => exact False.elim h
      | ret u =>
        obtain ⟨v, H', os, bare, un, hok', r', q⟩ := h
        have q' : v = .bl true := q
        subst q'
        obtain rfl : u = Value.bool true := r'
        refine ⟨rfl, OldK.of_keep fun b o e => ?_, os, bare⟩
        cases q : H b with
        | none => exact un.keep b o e q (by intro z; exact absurd (show b ∈ ([] : List Addr) from z) (by simp)) (by simp)
        | some u =>
          rcases hO b with z | ⟨ob, xs, z⟩
          · rw [q] at z; cases z
          · have z2 := un.frzs b ob _ z
            obtain ⟨e1, _⟩ := hok b _ z
            obtain ⟨e2, _⟩ := hok' b _ z2
            rw [e] at e1; cases e1
            exact e2
  cases hk : K.lookup a with
  | some o =>
    -- the script is one of the module's own objects
    have e := KX a o hk
    rw [ha] at e
    cases e
    refine core (fun _ => none) (fun _ => .inl rfl) (.inr ⟨_, vs.toArray, _, hk, rfl, rfl, rfl, by rw [List.size_toArray, lenV]; exact hl, by simpa using rv⟩) (fun b u z => by have z' : (none : Option HO) = some u := z; cases z') (fun b z => absurd rfl z) fun z => absurd rfl z
  | none =>
    refine core (fun b => if b = a then some (.frz { cls := .type "list", data := .seq vs.toArray } (.lst (ns.map V.int))) else none) (fun b => ?_) (.inl (.inr ⟨{ cls := .type "list", data := .seq vs.toArray }, if_pos rfl⟩)) (fun b u z => ?_) (fun b z => ?_) fun _ => hk
    · by_cases hb : b = a
      · exact .inr ⟨_, _, if_pos hb⟩
      · exact .inl (if_neg hb)
    · by_cases hb : b = a
      · have z' := (if_pos hb).symm.trans z
        cases z'
        subst hb
        exact ⟨ha, by rw [List.length_map]; exact hl, vs, _, rv, ha⟩
      · have z' := (if_neg hb).symm.trans z
        cases z'
    · by_cases hb : b = a
      · exact hb
      · exact absurd (if_neg hb) z
end L2

namespace L2
open PySem PySem.Spec PyProof.Rows

abbrev KOf {K : PySem.W.Frag} {h : Heap} (_ : K.In h) : PySem.W.Frag := K

/-- the goal that k_head leaves (case hc), from the law's promise. F gives the function object fd (K's own) once, then the promise over every base -/
theorem walk_of {l : PySem.W.OpenLaw} {n k : Nat} {q : Program} {loose : List Str} {XP : (Str → Option Value) → Heap → Prop} {YP : World → Heap → Prop} {d : DefRec} {K : Params → PySem.W.Frag} {CX : World → CXT} {sp : World → Sp} {x : Str}
    (hn : l.most = some n) (hn2 : n ≤ sizeLine) (hdf : d.params.defaults = []) (hr : Room k callerA)
    (hY : ∀ (w : World) (h : Heap), YP w h → (K w.params).In h)
    (F : ∀ (w : World) (mg : Str → Option Value) (fa : Addr) (h : Heap), (K w.params).In h → h.Ns mainGlobals mg → mg d.name = some (.ref fa) →
      ∃ fd : FuncData, (∀ (s : Shared) (u : Value), BindsTo s fd ⟨[u], []⟩ [(x, u)]) ∧
        ∀ base : Heap, (K w.params).In base → base.Ns mainGlobals mg → FnOk l.prog w (K w.params) mg base (CX w) k fa fd [x] (sp w))
    (hsp : ∀ (w : World) (H : Hp) (a : Addr) (ns : List Int), ns.length ≤ n → Only H → SqL (K w.params) H a (ns.map V.int) → sp w [.ref a] H (fun v _ => v = .bl true) fun _ _ _ => False)
    (hCX : ∀ (w : World) (H : Hp) (s : Shared) (e : Value) (s' : Shared), CX w [] H s (fun _ _ _ => False) e s' → False) :
    PySem.W.WalkO q loose XP YP l.row.toRowW d [] (fun f vs => PySem.call f vs) := by
  refine Att.attach_call hn hdf fun w s₀ s₁ mg mb fa o pm cd doc a vs ns G Y ho hd hcd hmg hobj hints hlen hg => ?_
  have KX := hY w _ Y
  obtain ⟨fd, hb, hF⟩ := F w mg fa _ KX G.T.g hmg
  exact law_call KX G.T.g G.T.b G.T.builtins G.T.nolimit hg hobj hints (Nat.le_trans hlen hn2) hr hF hb (fun H hO hS => hsp w H a ns hlen hO hS) fun H e s' => hCX w H s₁ e s'
/-- the same where the promise hangs on the written part alone: (sp := My.sp_law), no hole under a binder -/
theorem walk_ofK {l : PySem.W.OpenLaw} {n k : Nat} {q : Program} {loose : List Str} {XP : (Str → Option Value) → Heap → Prop} {YP : World → Heap → Prop} {d : DefRec} {K : Params → PySem.W.Frag} {CX : CXT} {sp : PySem.W.Frag → Sp} {x : Str}
    (hn : l.most = some n) (hn2 : n ≤ sizeLine) (hdf : d.params.defaults = []) (hr : Room k callerA)
    (hY : ∀ (w : World) (h : Heap), YP w h → (K w.params).In h)
    (F : ∀ (w : World) (mg : Str → Option Value) (fa : Addr) (h : Heap), (K w.params).In h → h.Ns mainGlobals mg → mg d.name = some (.ref fa) →
      ∃ fd : FuncData, (∀ (s : Shared) (u : Value), BindsTo s fd ⟨[u], []⟩ [(x, u)]) ∧
        ∀ base : Heap, (K w.params).In base → base.Ns mainGlobals mg → FnOk l.prog w (K w.params) mg base CX k fa fd [x] (sp (K w.params)))
    (hsp : ∀ (K : PySem.W.Frag) (H : Hp) (a : Addr) (ns : List Int), ns.length ≤ n → Only H → SqL K H a (ns.map V.int) → sp K [.ref a] H (fun v _ => v = .bl true) fun _ _ _ => False)
    (hCX : ∀ (H : Hp) (s : Shared) (e : Value) (s' : Shared), CX [] H s (fun _ _ _ => False) e s' → False) :
    PySem.W.WalkO q loose XP YP l.row.toRowW d [] (fun f vs => PySem.call f vs) :=
  walk_of (K := K) (CX := fun _ => CX) (sp := fun w => sp (K w.params)) hn hn2 hdf hr hY F (fun w H a ns h1 h2 h3 => hsp (K w.params) H a ns h1 h2 h3) fun _ H s e s' => hCX H s e s'
end L2

/- THE LAST THEOREM (shape; LID, My.* are yours):
   My.Adr: a structure of the addresses that your layer names (classes, functions); My.Txt K t: a structure (Prop) of the equations over K;
   My.txt_mk : {K} {implicit addresses ..} (e1 : nsIn K mainGlobals "law" = some (some (.ref f))) (e2 : K.lookup f = some ⟨oc, od, .func (fnOf "law" "law" params body scope dV kV doc pm an cdv ct), sl⟩) (e3 : codeIn K cdv "law" = true) .. : ∃ t, My.Txt K t

set_option maxRecDepth 100000 in
set_option maxHeartbeats 0 in
theorem PySem.Challenge.cw_LID_holds : PySem.Challenge.rw_LID.Holds := by
  w_on; o_law; k_head; (case hw => w_witness2)
  k_fill
  refine L2.walk_of (l := PySem.Challenge.rw_LID) (n := 63) (k := 40) (x := "script") (CX := fun w => ..) (sp := fun _ => My.sp_law) rfl (by decide) rfl ⟨rfl, by decide, by decide⟩ (fun w h Y => PySem.W.kIn_of Y) ?F ?S ?C
  case F =>
    intro w mg fa h KX G hmg
    have T : ∃ t, My.Txt (L2.KOf KX) t := by
      dsimp only [L2.KOf]                          -- K must stand as «<heap const> w.params» for k_is
      refine' My.txt_mk ?e1 ?e2 ?e3 ..
      (case e1 => PySem.W.k_is)                    -- in the order: a name -> its address -> its object -> its parts
      (case e2 => PySem.W.k_is)
      ..
    obtain ⟨t, T⟩ := T
    have e0 := hmg.symm.trans (PySem.W.mg_of KX G T.law)
    cases e0                                       -- fa is the law's own address
    exact ⟨_, fun s u => .of_eq rfl, fun base kb nb => My.law_fn T kb nb⟩     -- if «.of_eq rfl» comes too early: refine' ⟨_, ?b, fun base kb nb => My.law_fn T kb nb⟩; exact fun s u => .of_eq rfl
  case S => exact fun w H a ns hl hO hS => ..
  case C => exact ..
(the tactic k_is has no namespace: write k_is) -/

/-! SHORT WORDS over the layer: a def of the text, its body, what a loop and a test want. -/
namespace L2
open PySem PySem.Spec PyProof.Rows

/-! ### the text by places -/
/-- the j-th statement of a class's body -/
def inClass (s : Stmt) (j : Nat) : Stmt := match s with
  | .ClassDef _ _ _ body _ _ _ _ _ _ _ => body.getD j (.Pass ⟨0, 0, 0, 0⟩)
  | _ => .Pass ⟨0, 0, 0, 0⟩
def defArgs (s : Stmt) : Arguments := match s with
  | .FunctionDef _ a _ _ _ _ _ _ _ _ => a
  | _ => { posonlyargs := [], args := [], vararg := none, kwonlyargs := [], kw_defaults := [], kwarg := none, defaults := [] }
def defBody (s : Stmt) : List Stmt := match s with
  | .FunctionDef _ _ b _ _ _ _ _ _ _ => b
  | _ => []
def defScope (s : Stmt) : Scope := match s with
  | .FunctionDef _ _ _ _ _ _ sc _ _ _ => sc
  | _ => { kind := .function, names := [], isGenerator := false, isCoroutine := false }

/-! ### no exception leaves a def -/
abbrev CX0 : CXT := fun _ _ _ _ _ _ => False
abbrev E0 : XK := fun _ _ _ => False
theorem pass0 {X : Cx} : Passes CX0 X E0 := fun _ _ _ _ _ _ _ h => h.elim

/-! ### a def (or method) of the text as it stands behind the top -/
structure Fun (K : PySem.W.Frag) (x qual : Str) (st : Stmt) (f : Addr) (fd : FuncData) : Prop where
  ex : ∃ (oc : Value) (od : Option Addr) (kV doc pm : Value) (an : Option Addr) (cdv ct : Value) (osl : Array (Option Value)),
    fd = PySem.W.fnOf x qual (defArgs st) (defBody st) (defScope st) .none kV doc pm an cdv ct ∧ K.lookup f = some ⟨oc, od, .func fd, osl⟩ ∧ PySem.W.codeIn K cdv qual = true
  kp : PySem.W.keepIn K (.ref f) = true
section
variable {P : Program} {w : World} {K : PySem.W.Frag} {mg : Str → Option Value} {base : Heap}
/-- THE RULE for a def: its body as a term of rules, and the reading of that term -/
theorem Fun.ok {x qual : Str} {st : Stmt} {f : Addr} {fd : FuncData} {N ps : List Str} {k : Nat} {sp : Sp} (F : Fun K x qual st f fd) (S : FnScope N ps (defScope st)) (len : ∀ vs H Q E, sp vs H Q E → vs.length = ps.length)
    (hbody : ∀ (cdv : Value) (A : Around) (outer : List Env) (s : Shared) (H : Hp) (vs : List V) (Q : VK) (E : XK), Room k (A.deeper (envOfC qual (defScope st) s.heap.objs.size f cdv)) → sp vs H Q E →
      ∃ t, PSs (cxOf CX0 P w K mg base N qual (defScope st) f cdv A outer s H E).nox (defBody st) t ∧ t { nx := fun _ H' => Q .non H', rt := Q } (start N vs) H) : FnOk P w K mg base CX0 (k + 1) f fd ps sp := by
  obtain ⟨oc, od, kV, doc, pm, an, cdv, ct, osl, rfl, lk, hcd⟩ := F.ex
  refine fn_of lk hcd S len fun A outer s H vs Q E hr hsp => ?_
  obtain ⟨t, h, q⟩ := hbody cdv A outer s H vs Q E hr hsp
  exact ⟨t, h.nox, q⟩
/-- how its arguments bind (no defaults): h is «fun _ _ _ _ _ _ us hl => match us, hl with | [_, _], _ => rfl», one _ a parameter -/
theorem Fun.binds {x qual : Str} {st : Stmt} {f : Addr} {fd : FuncData} {ps : List Str} (F : Fun K x qual st f fd)
    (h : ∀ (kV doc pm : Value) (an : Option Addr) (cdv ct : Value) (us : List Value), us.length = ps.length → bindArgs (PySem.W.fnOf x qual (defArgs st) (defBody st) (defScope st) .none kV doc pm an cdv ct) ⟨us, []⟩ = pure (ps.zip us)) : Binds K fd ps [] := by
  obtain ⟨oc, od, kV, doc, pm, an, cdv, ct, osl, rfl, lk, hcd⟩ := F.ex
  exact .all (h kV doc pm an cdv ct)
theorem fun_mk {x qual : Str} {st : Stmt} {f : Addr} {oc : Value} {od an : Option Addr} {osl : Array (Option Value)} {kV doc pm cdv ct : Value} (l : K.lookup f = some ⟨oc, od, .func (PySem.W.fnOf x qual (defArgs st) (defBody st) (defScope st) .none kV doc pm an cdv ct), osl⟩)
    (c : PySem.W.codeIn K cdv qual = true) (k : PySem.W.keepIn K (.ref f) = true) : Fun K x qual st f (PySem.W.fnOf x qual (defArgs st) (defBody st) (defScope st) .none kV doc pm an cdv ct) := ⟨⟨oc, od, kV, doc, pm, an, cdv, ct, osl, rfl, l, c⟩, k⟩
end
/-! ### expressions in short: the name that stands in the i-th slot -/
section
variable {X : Cx}
theorem pv (i : Nat) {x : Str} {pos : Pos} (hN : X.N[i]? = some x := by rfl) (hv : Vis X.env.scope x := by first | exact Or.inl rfl | exact Or.inr (Or.inl rfl) | exact Or.inr (Or.inr rfl)) (hd : (x == ("__debug__" : Str)) = false := by decide)
    (hcd : (x == ("__classdict__" : Str)) = false := by decide) : PE X (.Name x pos) (tVar i) := pe_var hN hv hd hcd
end

/-! ### tests -/
theorem iteF {A B : Prop} (h : B) : if false = true then A else B := by
  rw [if_neg Bool.false_ne_true]
  exact h
theorem iteT {A B : Prop} (h : A) : if true = true then A else B := by
  rw [if_pos rfl]
  exact h
theorem ite2 {c A B : Prop} [Decidable c] (h1 : c → A) (h2 : ¬ c → B) : if c then A else B := by
  by_cases h : c
  · rw [if_pos h]
    exact h1 h
  · rw [if_neg h]
    exact h2 h
/-! ### heaps -/
/-- all that was tracked is as it was -/
def Same (H H' : Hp) : Prop := ∀ b o, H b = some o → H' b = some o
theorem Same.refl (H : Hp) : Same H H := fun _ _ h => h
theorem Same.trans {H H1 H2 : Hp} (a : Same H H1) (b : Same H1 H2) : Same H H2 := fun c o h => b c o (a c o h)
theorem Same.free {H H' : Hp} (e : Same H H') {l : Addr} (h : H' l = Option.none) : H l = Option.none := by
  cases q : H l with
  | none => rfl
  | some o =>
    rw [e l o q] at h
    cases h
theorem Same.seq {K : PySem.W.Frag} {H H' : Hp} {a : Addr} {xs : List V} (e : Same H H') (h : SqL K H a xs) : SqL K H' a xs := by
  rcases h with (h | ⟨o, h⟩) | h
  · exact .inl (.inl (e _ _ h))
  · exact .inl (.inr ⟨o, e _ _ h⟩)
  · exact .inr h

end L2


/-! ## comprehensions, over the layer -/
namespace L2
open PySem PySem.Spec PyProof.Rows

/-- the tests of a comprehension -/
def PTs (X : Cx) (ifs : List Expr) (t : TT) : Prop :=
  ∀ (pins : List (Addr × Obj)) (s : Shared) (σ : St) (H : Hp) (Q : Bool → Hp → Prop), Inv X pins σ H s → t σ H Q →
    wpAny (model X.prog X.w) X.A (forIn ifs true fun c r => if r = true then do let ok ← isTrue c X.env (eval c X.env); pure (ForInStep.yield ok) else pure (ForInStep.yield r)) (TP X pins σ Q) X.xe s
def tYes : TT := fun _ H Q => Q true H
theorem pts_nil {X : Cx} : PTs X [] tYes := fun _ _ _ H _ I h => wpAny_tests_nil ⟨H, I, h⟩
theorem pts_one {X : Cx} {c : Expr} {t : TT} (hc : PT X c t) : PTs X [c] t := fun pins s σ H Q I h => wpAny_tests_one (hc pins s σ H Q I h)

/-- a comprehension's turn, whatever the iterator keeps -/
theorem compLoop_any {prog : Program} {w : World} {A : Around} {s : Shared} {R : Result → Shared → Prop} {elt target iter : Expr} {ifs : List Expr} {scope : Scope} {pos : Pos} {it acc : Value} {env : Env} (J : Nat → Shared → Prop)
    (turn : ∀ n s, J n s → wpAny (model prog w) A (pyNext it) (fun r s1 => match r with
      | none => R (.ok .next) s1
      | some v => wpAny (model prog w) A (letOwnedTupleGo target it v) (fun _ s2 => wpAny (model prog w) A (assign target env v) (fun _ s3 =>
          wpAny (model prog w) A (forIn ifs true fun c r => if r = true then do let ok ← isTrue c env (eval c env); pure (ForInStep.yield ok) else pure (ForInStep.yield r)) (fun ok s4 =>
            if ok = true then wpAny (model prog w) A (eval elt env) (fun x s5 =>
              wpAny (model prog w) A (call (.builtin "list.append") [acc, x]) (fun _ s6 => ∃ m, m < n ∧ J m s6) (fun _ _ => False) s5) (fun _ _ => False) s4
            else ∃ m, m < n ∧ J m s4) (fun _ _ => False) s3) (fun _ _ => False) s2) (fun _ _ => False) s1) (fun _ _ => False) s)
    (n : Nat) (h : J n s) : codeAny (model prog w) A (.compLoop (.ListComp elt [⟨target, iter, ifs, 0⟩] scope pos) 0 it acc env) R s := by
  refine codeAny_loop rfl J (fun n s hI => ?_) n h
  show wpAny _ A ((compTurn (.ListComp elt [⟨target, iter, ifs, 0⟩] scope pos) 0 it acc env).onRaise (fun x => do noteFrame x env; theTreesLotGoes x)) _ _ s
  refine wpAny_noted ?_
  rw [compTurn_list]
  refine wpAny_bind (wpAny_standAt (wpAny_bind (wpAny_mono (turn n s hI) (fun r s1 h1 => ?_) fun _ _ z => z.elim)))
  cases r with
  | none => exact wpAny_pure h1
  | some v =>
    refine wpAny_bind (wpAny_mono h1 (fun _ s2 h2 => ?_) fun _ _ z => z.elim)
    refine wpAny_bind (wpAny_mono h2 (fun _ s3 h3 => wpAny_bind (wpAny_mono h3 (fun ok s4 h4 => ?_) fun _ _ z => z.elim)) fun _ _ z => z.elim)
    cases ok with
    | false => exact wpAny_pure ⟨rfl, h4⟩
    | true =>
      exact wpAny_bind (wpAny_bind (wpAny_mono h4 (fun x s5 h5 => wpAny_bind (wpAny_mono h5 (fun _ s6 h6 => wpAny_pure (wpAny_pure ⟨rfl, h6⟩)) fun _ _ z => z.elim)) fun _ _ z => z.elim))

/-! ### the cells that a block sees -/
def closL (cells : List (Str × Addr)) : List (Str × NameKind) → List (Str × Addr) → List (Str × Addr)
  | [], acc => acc
  | (n, k) :: r, acc => if k == .free then closL cells r ((n, (cells.lookup n).getD 0) :: acc) else closL cells r acc
theorem closure_go {env : Env} : ∀ (names : List (Str × NameKind)) (acc : List (Str × Addr)), (∀ y ∈ names, y.2 = .free → ∃ c, env.cells.lookup y.1 = some c) →
    (forIn names acc fun (x : Str × NameKind) (cs : List (Str × Addr)) => (if (x.2 == .free) = true then do let a ← cellOf env x.1; pure (ForInStep.yield ((x.1, a) :: cs)) else pure (ForInStep.yield cs) : Sem (ForInStep (List (Str × Addr))))) = pure (closL env.cells names acc)
  | [], acc, _ => rfl
  | (n, k) :: r, acc, h => by
    have ih := fun acc => closure_go r acc fun y hy => h y (List.mem_cons_of_mem _ hy)
    rw [List.forIn_cons]
    unfold closL
    by_cases hk : (k == NameKind.free) = true
    · obtain ⟨c, hc⟩ := h (n, k) List.mem_cons_self (by simpa using hk)
      have e : cellOf env n = pure c := by
        unfold cellOf
        rw [show env.cells.lookup n = some c from hc]
      simp only [hk, if_true, e, pure_bind]
      rw [ih, show env.cells.lookup n = some c from hc]
      rfl
    · simp only [hk, Bool.false_eq_true, if_false, pure_bind]
      exact ih acc
theorem closure_of {env : Env} {scope : Scope} (h : ∀ y ∈ scope.names, y.2 = .free → ∃ c, env.cells.lookup y.1 = some c) : closureFor scope env = pure (closL env.cells scope.names []) := by
  have e := closure_go scope.names [] h
  unfold closureFor
  simp only [bind_pure] at e ⊢
  exact e
theorem closL_sub {env : Env} : ∀ (names : List (Str × NameKind)) (acc : List (Str × Addr)), (∀ y ∈ names, y.2 = .free → ∃ c, env.cells.lookup y.1 = some c) → (∀ x c, acc.lookup x = some c → env.cells.lookup x = some c) →
    ∀ x c, (closL env.cells names acc).lookup x = some c → env.cells.lookup x = some c
  | [], acc, _, ha, x, c, e => ha x c e
  | (n, k) :: r, acc, h, ha, x, c, e => by
    unfold closL at e
    by_cases hk : (k == NameKind.free) = true
    · rw [if_pos hk] at e
      obtain ⟨d, hd⟩ := h (n, k) List.mem_cons_self (by simpa using hk)
      refine closL_sub r _ (fun y hy => h y (List.mem_cons_of_mem _ hy)) (fun y b q => ?_) x c e
      rw [List.lookup_cons] at q
      by_cases hy : (y == n) = true
      · rw [hy] at q
        have hy' : y = n := by simpa using hy
        have hd' : env.cells.lookup n = some d := hd
        rw [hd'] at q
        have q' : d = b := Option.some.inj q
        rw [hy', hd', q']
      · have hy' : (y == n) = false := by simpa using hy
        rw [hy'] at q
        exact ha y b q
    · rw [if_neg hk] at e
      exact closL_sub r acc (fun y hy => h y (List.mem_cons_of_mem _ hy)) ha x c e
theorem closL_acc {cells : List (Str × Addr)} : ∀ (names : List (Str × NameKind)) (acc : List (Str × Addr)) (x : Str), (acc.lookup x).isSome = true → ((closL cells names acc).lookup x).isSome = true
  | [], _, _, h => h
  | (n, k) :: r, acc, x, h => by
    unfold closL
    by_cases hk : (k == NameKind.free) = true
    · rw [if_pos hk]
      refine closL_acc r _ x ?_
      rw [List.lookup_cons]
      by_cases hx : (x == n) = true
      · rw [hx]; rfl
      · have hx' : (x == n) = false := by simpa using hx
        rw [hx']; exact h
    · rw [if_neg hk]
      exact closL_acc r acc x h
theorem closL_has {cells : List (Str × Addr)} : ∀ (names : List (Str × NameKind)) (acc : List (Str × Addr)) (x : Str), (x, NameKind.free) ∈ names → ((closL cells names acc).lookup x).isSome = true
  | [], _, _, h => nomatch h
  | (n, k) :: r, acc, x, h => by
    unfold closL
    rcases List.mem_cons.mp h with e | h
    · cases e
      rw [if_pos (by rfl)]
      refine closL_acc r _ _ ?_
      rw [List.lookup_cons]
      simp
    · by_cases hk : (k == NameKind.free) = true
      · rw [if_pos hk]; exact closL_has r _ x h
      · rw [if_neg hk]; exact closL_has r _ x h
theorem lookup_relabel {env : Env} : ∀ {names : List (Str × NameKind)} {x : Str} {k : NameKind}, (names.map fun (n, k) => if (k == NameKind.free && env.scope.kind == .function && env.kindOf n == some .cell) then (n, NameKind.cell) else (n, k)).lookup x = some k →
    (k = .cell ∨ k = .free) → (x, NameKind.free) ∈ names ∨ (x, NameKind.cell) ∈ names
  | [], _, _, h, _ => by simp at h
  | (n, q) :: r, x, k, h, hk => by
    have h' : List.lookup x ((if (q == NameKind.free && env.scope.kind == .function && env.kindOf n == some .cell) = true then (n, NameKind.cell) else (n, q)) :: r.map fun (n, k) => if (k == NameKind.free && env.scope.kind == .function && env.kindOf n == some .cell) then (n, NameKind.cell) else (n, k)) = some k := h
    by_cases hc : (q == NameKind.free && env.scope.kind == .function && env.kindOf n == some .cell) = true
    · rw [if_pos hc, List.lookup_cons] at h'
      have hq : q = .free := by
        simp only [Bool.and_eq_true, beq_iff_eq] at hc
        exact hc.1.1
      by_cases hx : (x == n) = true
      · have hx' : x = n := by simpa using hx
        subst hx'; subst hq
        exact .inl List.mem_cons_self
      · have hx' : (x == n) = false := by simpa using hx
        rw [hx'] at h'
        rcases lookup_relabel (env := env) h' hk with z | z
        · exact .inl (List.mem_cons_of_mem _ z)
        · exact .inr (List.mem_cons_of_mem _ z)
    · rw [if_neg hc, List.lookup_cons] at h'
      by_cases hx : (x == n) = true
      · rw [hx] at h'
        have hx' : x = n := by simpa using hx
        subst hx'
        have e : q = k := Option.some.inj h'
        subst e
        rcases hk with rfl | rfl
        · exact .inr List.mem_cons_self
        · exact .inl List.mem_cons_self
      · have hx' : (x == n) = false := by simpa using hx
        rw [hx'] at h'
        rcases lookup_relabel (env := env) h' hk with z | z
        · exact .inl (List.mem_cons_of_mem _ z)
        · exact .inr (List.mem_cons_of_mem _ z)
theorem relabel_free {env : Env} : ∀ {names : List (Str × NameKind)} {x : Str}, names.lookup x = some .free →
    (names.map fun (n, k) => if (k == NameKind.free && env.scope.kind == .function && env.kindOf n == some .cell) then (n, NameKind.cell) else (n, k)).lookup x = some .cell ∨
    (names.map fun (n, k) => if (k == NameKind.free && env.scope.kind == .function && env.kindOf n == some .cell) then (n, NameKind.cell) else (n, k)).lookup x = some .free
  | [], _, h => by simp at h
  | (n, q) :: r, x, h => by
    show List.lookup x ((if (q == NameKind.free && env.scope.kind == .function && env.kindOf n == some .cell) = true then (n, NameKind.cell) else (n, q)) :: _) = _ ∨ List.lookup x ((if (q == NameKind.free && env.scope.kind == .function && env.kindOf n == some .cell) = true then (n, NameKind.cell) else (n, q)) :: _) = _
    rw [List.lookup_cons] at h
    by_cases hc : (q == NameKind.free && env.scope.kind == .function && env.kindOf n == some .cell) = true
    · rw [if_pos hc, List.lookup_cons]
      by_cases hx : (x == n) = true
      · rw [hx]; exact .inl rfl
      · have hx' : (x == n) = false := by simpa using hx
        rw [hx'] at h ⊢
        exact relabel_free h
    · rw [if_neg hc, List.lookup_cons]
      by_cases hx : (x == n) = true
      · rw [hx] at h ⊢; exact .inr h
      · have hx' : (x == n) = false := by simpa using hx
        rw [hx'] at h ⊢
        exact relabel_free h

/-! ### the block -/
/-- the context of a comprehension's block -/
def cxC (X : Cx) (N' : List Str) (scope : Scope) (C : Addr) (s : Shared) (H : Hp) (fp : List Addr) : Cx where
  prog := X.prog
  w := X.w
  K := X.K
  mg := X.mg
  base := X.base
  A := X.A
  N := N'
  s₀ := s
  H₀ := H
  env := compEnvC scope (closL X.env.cells scope.names []) C X.env
  outer := X.stack
  stack := X.stack
  ex := fp
  fn := fun _ => false
  calm := X.calm
  pn := []
  xe := fun _ _ => False
/-- the block's values at a turn's start: its own names unknown, the seen ones as they are -/
def σC (o : Nat) (fr : List Nat) (σ : St) : St := List.replicate o none ++ fr.map fun j => (σ[j]?).join
/-- what the text must be like: sc0, N: the scope and the names around; names N' of the block, its o own ones first, behind them those it sees, at the places fr of N -/
structure CompScope (sc0 : Scope) (N N' : List Str) (o : Nat) (fr : List Nat) (scope : Scope) : Prop where
  kind : scope.kind = .function
  nocell : (scope.names.all fun y => y.2 != .cell) = true
  loc : (scope.names.all fun y => y.2 != .local || scope.names.lookup y.1 == some .local) = true
  free : (scope.names.all fun y => y.2 != .free || sc0.names.lookup y.1 == some .cell || sc0.names.lookup y.1 == some .free) = true
  len : N'.length = o + fr.length
  sees : ((List.range fr.length).all fun j => match fr[j]? with
    | none => false
    | some y => match N[y]? with
      | none => false
      | some x => N'[o + j]? == some x && scope.names.lookup x == some .free) = true
/-- the reading. W: turn, measure, the items so far, heap -/
def LcR (J : It) (g : TG) (tt : TT) (te : TE) (o : Nat) (fr : List Nat) (σ : St) (H1 : Hp) (Q : VK) : Prop := ∃ W : Nat → Nat → List V → Hp → Prop, (∃ m, W 0 m [] H1) ∧ ∀ i m ys H, W i m ys H →
  (J.stop i H ∧ ys.length ≤ sizeLine ∧ ∀ p, H p = none → Q (.ref p) (upd H p (.lst ys))) ∨
  (J.go i H ∧ ys.length < sizeLine ∧ ∀ x H', J.yld i H x H' → g x (σC o fr σ) H' fun σ2 H2 => tt σ2 H2 fun b H3 => if b = true then te σ2 H3 fun y H4 => ∃ m', m' < m ∧ W (i + 1) m' (ys ++ [y]) H4 else ∃ m', m' < m ∧ W (i + 1) m' ys H3)
def tLc (wi : TI) (g : TG) (tt : TT) (te : TE) (o : Nat) (fr : List Nat) : TE := fun σ H Q => wi σ H fun J H1 => LcR J g tt te o fr σ H1 Q
/-- a target that stores into the own names alone -/
def OwnG (o : Nat) (g : TG) : Prop := ∀ (x : V) (ow fr : St) (H : Hp) (Q : St → Hp → Prop), ow.length = o → g x (ow ++ fr) H Q → g x (ow ++ fr) H fun σ2 H2 => (∃ ow', ow'.length = o ∧ σ2 = ow' ++ fr) ∧ Q σ2 H2
theorem own_name {o i : Nat} (h : i < o) : OwnG o (gName i) := fun x ow fr H Q hl q => ⟨⟨ow.set i (some x), by rw [List.length_set]; exact hl, by rw [List.set_append_left _ _ (by omega)]⟩, q⟩
def OwnGs (o : Nat) (g : TGs) : Prop := ∀ (xs : List V) (ow fr : St) (H : Hp) (Q : St → Hp → Prop), ow.length = o → g xs (ow ++ fr) H Q → g xs (ow ++ fr) H fun σ2 H2 => (∃ ow', ow'.length = o ∧ σ2 = ow' ++ fr) ∧ Q σ2 H2
theorem own_nil {o : Nat} : OwnGs o gNil := fun _ ow _ _ _ hl ⟨e, q⟩ => ⟨e, ⟨ow, hl, rfl⟩, q⟩
theorem own_cons {o i : Nat} {u : TGs} (h : i < o) (h2 : OwnGs o u) : OwnGs o (gCons (gName i) u) := by
  rintro xs ow fr H Q hl ⟨v, r, rfl, q⟩
  refine ⟨v, r, rfl, ?_⟩
  have q' : u r ((ow ++ fr).set i (some v)) H Q := q
  show u r ((ow ++ fr).set i (some v)) H _
  rw [List.set_append_left _ _ (by omega)] at q' ⊢
  exact h2 r (ow.set i (some v)) fr H Q (by rw [List.length_set]; exact hl) q'
theorem own_tup {K : PySem.W.Frag} {o n : Nat} {u : TGs} (h : OwnGs o u) : OwnG o (gTup K n u) := by
  rintro x ow fr H Q hl ⟨a, xs, rfl, hs, hn, q⟩
  exact ⟨a, xs, rfl, hs, hn, h xs ow fr H Q hl q⟩

section
variable {X : Cx} {pins : List (Addr × Obj)} {σ : St} {H : Hp} {s : Shared} {N' : List Str} {o : Nat} {fr : List Nat} {scope : Scope} {fp : List Addr}
abbrev accObj (us : List Value) : Obj := { cls := .type "list", data := .seq us.toArray us.length }
theorem CompScope.nocell' {sc0 : Scope} {N : List Str} (S : CompScope sc0 N N' o fr scope) : ∀ y ∈ scope.names, y.2 ≠ .cell := fun y hy e => by
  have q := List.all_eq_true.mp S.nocell y hy
  rw [e] at q
  exact absurd q (by decide)
theorem CompScope.loc' {sc0 : Scope} {N : List Str} (S : CompScope sc0 N N' o fr scope) : ∀ y ∈ scope.names, y.2 = .local → scope.names.lookup y.1 = some .local := fun y hy e => by
  have q := List.all_eq_true.mp S.loc y hy
  rw [e] at q
  simpa using q
theorem CompScope.free' {sc0 : Scope} {N : List Str} (S : CompScope sc0 N N' o fr scope) (hs : X.env.scope = sc0) : ∀ y ∈ scope.names, y.2 = .free → X.env.kindOf y.1 = some .cell ∨ X.env.kindOf y.1 = some .free := fun y hy e => by
  have q := List.all_eq_true.mp S.free y hy
  rw [e] at q
  show X.env.scope.names.lookup y.1 = _ ∨ X.env.scope.names.lookup y.1 = _
  rw [hs]
  simpa using q
theorem CompScope.sees' {sc0 : Scope} {N : List Str} (S : CompScope sc0 N N' o fr scope) : ∀ j y, fr[j]? = some y → ∃ x, N[y]? = some x ∧ N'[o + j]? = some x ∧ scope.names.lookup x = some .free := fun j y e => by
  have hj : j < fr.length := (List.getElem?_eq_some_iff.mp e).1
  have q := List.all_eq_true.mp S.sees j (List.mem_range.mpr hj)
  rw [e] at q
  dsimp only at q
  cases ex : N[y]? with
  | none => rw [ex] at q; cases q
  | some x =>
    rw [ex] at q
    dsimp only at q
    rw [Bool.and_eq_true, beq_iff_eq, beq_iff_eq] at q
    exact ⟨x, rfl, q.1, q.2⟩
theorem CompScope.cells {sc0 : Scope} {N0 : List Str} (S : CompScope sc0 N0 N' o fr scope) (hs : X.env.scope = sc0) (I : Inv X pins σ H s) : ∀ y ∈ scope.names, y.2 = .free → ∃ c, X.env.cells.lookup y.1 = some c := fun y hy e => I.ok.has y.1 (S.free' hs y hy e)
theorem CompScope.sub {sc0 : Scope} {N0 : List Str} (S : CompScope sc0 N0 N' o fr scope) (hs : X.env.scope = sc0) (I : Inv X pins σ H s) : ∀ x c, (closL X.env.cells scope.names []).lookup x = some c → X.env.cells.lookup x = some c :=
  closL_sub (env := X.env) scope.names [] (S.cells hs I) (fun _ _ z => nomatch z)
/-- the block's entry: the list at D, the block's names at C -/
theorem Inv.block {sc0 : Scope} {N0 : List Str} (S : CompScope sc0 N0 N' o fr scope) (hs : X.env.scope = sc0) (hN : X.N = N0) (I : Inv X pins σ H s) (hf : ∀ b ∈ fp, FpOk X pins H b) (hfl : ∀ b ∈ fp, b < s.heap.objs.size) {h1 : Heap} {C D : Addr} {m : Str → Option Value} {us : List Value} {t : Nat}
    (hC : s.heap.objs.size ≤ C) (hD : s.heap.objs.size ≤ D) (hDC : D ≠ C)
    (old : ∀ b ob, s.heap.get? b = some ob → h1.get? b = some ob) (hn : h1.Ns C m) (ha : h1.get? D = some (accObj us)) : Inv (cxC X N' scope C s H fp) [(D, accObj us)] (σC o fr σ) H { s with heap := h1, toks := t } := by
  have sub := S.sub hs I
  have frC : ∀ b ∈ frs X.stack, b < s.heap.objs.size := fun b hb => by
    obtain ⟨_, ob, ho, _⟩ := I.stack.mem hb
    exact Heap.lt_size ho
  refine ⟨⟨I.ok.mod, S.kind, I.ok.glob, I.ok.blt, hC, fun x y c h1 h2 => I.ok.inj x y c (sub x c h1) (sub y c h2), fun x hx => ?_, fun x c hfx _ => (nomatch hfx), I.ok.hd, I.ok.frames, .inl rfl, fun b hb => ?_, I.bs, Nat.le_trans I.ok.bsz I.sz, fun b ob e hb => ?_, fun b hb hb' => ?_, I.stack, I.stkFree⟩,
    rfl, I.bare, Un.kept old, ⟨m, hn, fun i x v e1 e2 e3 => ?_⟩, fun x c e => ?_, I.hok.fresh hC, fun x c e => I.freeC x c (sub x c e), fun p hp => ?_, I.hok.kept old, ?_⟩
  · have hx' : (relabel scope X.env).names.lookup x = some .cell ∨ (relabel scope X.env).names.lookup x = some .free := hx
    have key : (x, NameKind.free) ∈ scope.names := by
      rcases hx' with z | z
      · rcases lookup_relabel (env := X.env) z (.inl rfl) with q | q
        · exact q
        · exact absurd rfl (S.nocell' _ q)
      · rcases lookup_relabel (env := X.env) z (.inr rfl) with q | q
        · exact q
        · exact absurd rfl (S.nocell' _ q)
    exact Option.isSome_iff_exists.mp (closL_has (cells := X.env.cells) scope.names [] x key)
  · obtain ⟨f0, f1, f2, f3, f4, f5⟩ := hf b hb
    exact ⟨Nat.ne_of_lt (Nat.lt_of_lt_of_le (hfl b hb) hC), fun x c e => f4 x c (sub x c e)⟩
  · obtain ⟨f0, f1, f2, f3, f4, f5⟩ := hf b hb
    rcases f3 with z | z
    · exact I.ok.noex b ob e z
    · exact absurd (Nat.lt_of_lt_of_le (Heap.lt_size e) (Nat.le_trans I.ok.bsz z)) (Nat.lt_irrefl _)
  · obtain ⟨f0, f1, f2, f3, f4, f5⟩ := hf b hb
    rcases List.mem_cons.mp (I.stkSub b hb') with z | z
    · exact f1 z
    · exact f2 z
  · unfold σC at e2
    by_cases hi : i < o
    · rw [List.getElem?_append_left (by rw [List.length_replicate]; exact hi), List.getElem?_replicate, if_pos hi] at e2
      cases e2
    · rw [List.getElem?_append_right (by rw [List.length_replicate]; exact Nat.not_lt.mp hi), List.length_replicate, List.getElem?_map] at e2
      cases hy : fr[i - o]? with
      | none => rw [hy] at e2; cases e2
      | some y =>
        rw [hy] at e2
        have e2' : (σ[y]?).join = some v := Option.some.inj e2
        have e3' : σ[y]? = some (some v) := by
          cases q : σ[y]? with
          | none => rw [q] at e2'; cases e2'
          | some z => rw [q] at e2'; exact congrArg some e2'
        obtain ⟨x', s2, s1, s3⟩ := S.sees' (i - o) y hy
        rw [← hN] at s2
        rw [show o + (i - o) = i by omega] at s1
        have ex : x = x' := by
          have e1' : N'[i]? = some x := e1
          rw [e1'] at s1
          exact Option.some.inj s1
        subst ex
        have hmem := PySem.mem_of_lookup s3
        obtain ⟨m0, _, hl⟩ := I.loc
        have hk := S.free' hs (x, .free) hmem rfl
        obtain ⟨u, ru, lk⟩ := hl y x v s2 e3' (by rcases hk with z | z; exact .inr (.inl z); exact .inr (.inr z))
        refine ⟨u, ru, .inr ⟨relabel_free (env := X.env) s3, ?_⟩⟩
        obtain ⟨c', hc'⟩ := Option.isSome_iff_exists.mp (closL_has (cells := X.env.cells) scope.names [] x hmem)
        refine ⟨c', hc', ?_⟩
        rcases lk with ⟨z, _⟩ | ⟨_, c, e, ob, ho, hd⟩
        · rcases hk with z' | z'
          · rw [z] at z'; cases z'
          · rw [z] at z'; cases z'
        · have ec : c = c' := by
            have := sub x c' hc'
            rw [e] at this
            exact Option.some.inj this
          subst ec
          exact ⟨ob, old _ _ ho, hd⟩
  · obtain ⟨v, ob, ho, hd⟩ := I.cell x c (sub x c e)
    exact ⟨v, ob, old _ _ ho, hd⟩
  · have e : p = (D, accObj us) := by simpa using (show p ∈ ([] : List (Addr × Obj)) ++ [(D, accObj us)] from hp)
    subst e
    refine ⟨ha, I.hok.fresh hD, hDC, fun z => absurd (Nat.lt_of_lt_of_le (frC D z) hD) (Nat.lt_irrefl _), fun v z => nomatch z⟩
  · show (σC o fr σ).length = N'.length
    unfold σC
    rw [List.length_append, List.length_replicate, List.length_map, S.len]
/-- the block's end, seen from the def: the new list is tracked, the block's names are pinned -/
theorem Inv.unblock (I : Inv X pins σ H s) (hf : ∀ b ∈ fp, FpOk X pins H b) {C D : Addr} {us : List Value} {ys : List V} {σ' : St} {H' : Hp} {s' : Shared} (hC : s.heap.objs.size ≤ C) (hD : s.heap.objs.size ≤ D) (hDC : D ≠ C)
    (I' : Inv (cxC X N' scope C s H fp) [(D, accObj us)] σ' H' s') (r : Vals ys us) (hz : ys.length ≤ sizeLine) : ∃ oC m, s'.heap.get? C = some oC ∧ s'.heap.Ns C m ∧ Inv X (pins ++ [(C, oC)]) σ (upd H' D (.lst ys)) s' := by
  obtain ⟨aD, nD, _, _, _⟩ := I'.pin (D, accObj us) (by simp)
  have aD : s'.heap.get? D = some (accObj us) := aD
  have nD : H' D = none := nD
  have un : Un (frs X.stack) fp H H' s.heap s'.heap := I'.base
  have lt : ∀ b u, H b = some u → b ≠ D := fun b u e => Nat.ne_of_lt (Nat.lt_of_lt_of_le (I.hok.lt e) hD)
  have un2 : Un (frs X.stack) fp H (upd H' D (.lst ys)) s.heap s'.heap := by
    refine ⟨un.keep, un.slot, fun b ob e n hx => ?_, un.there, fun b xs e => ?_, fun b ob u e => ?_, fun b ps e => ?_⟩
    · rw [upd_ne (Nat.ne_of_lt (Nat.lt_of_lt_of_le (Heap.lt_size e) hD))]
      exact un.free b ob e n hx
    · rw [upd_ne (lt b _ e)]; exact un.tups b xs e
    · rw [upd_ne (lt b _ e)]; exact un.frzs b ob u e
    · obtain ⟨more, q⟩ := un.tbls b ps e
      exact ⟨more, by rw [upd_ne (lt b _ e)]; exact q⟩
  have hok : HOk X.prog X.w (upd H' D (.lst ys)) s'.heap := fun b u e => by
    by_cases hb : b = D
    · subst hb
      rw [upd_same] at e
      cases e
      exact ⟨hz, us, us.length, r, aD⟩
    · rw [upd_ne hb] at e
      exact (I'.hok b u e).stay (fun c v _ q => q) (fun c q => by rw [upd_ne (ne_of_none q nD)]; exact q) fun c xs q => by rw [upd_ne (ne_of_none q nD)]; exact q
  have os : s'.os = s.os := I'.os
  have J : Inv X pins σ (upd H' D (.lst ys)) s' := I.call' (ch := fp) os un2 hok I'.bare fun b hb => by
    obtain ⟨f0, f1, f2, f3, f4, f5⟩ := hf b hb
    exact ⟨f3, f1, f4, f5⟩
  obtain ⟨m, hn, _⟩ := I'.loc
  have hn : s'.heap.Ns C m := hn
  obtain ⟨oC, es, ep, hoC, hdC, _⟩ := id hn
  refine ⟨oC, m, hoC, hn, J.pins_of fun p hp => ?_⟩
  rcases List.mem_append.mp hp with z | z
  · exact J.pin p (List.mem_append_right _ z)
  · have e : p = (C, oC) := by simpa using z
    subst e
    have nC : H' C = none := I'.free
    refine ⟨hoC, by rw [upd_ne (Ne.symm hDC)]; exact nC, Nat.ne_of_gt (Nat.lt_of_lt_of_le I.lt hC), I.nofs hC, fun v z => ?_⟩
    have z' : oC.data = .cell v := z
    rw [hdC] at z'
    cases z'
end

section
variable {X : Cx} {N' : List Str} {o : Nat} {fr : List Nat} {scope : Scope} {elt tg iter : Expr} {ifs : List Expr} {pos : Pos} {wi : TI} {g : TG} {tt : TT} {te : TE}
/-- a comprehension runs; use: what is done with the list while the block's names still stand -/
theorem lc_run (hc : X.calm = true) {sc0 : Scope} {N0 : List Str} (S : CompScope sc0 N0 N' o fr scope) (hi : PI X tg iter wi) (ho : OwnG o g)
    (hg : ∀ (C : Addr) (s : Shared) (H : Hp) (fp : List Addr), PG (cxC X N' scope C s H fp) tg g)
    (ht : ∀ (C : Addr) (s : Shared) (H : Hp) (fp : List Addr), PTs (cxC X N' scope C s H fp) ifs tt)
    (he : ∀ (C : Addr) (s : Shared) (H : Hp) (fp : List Addr), PE (cxC X N' scope C s H fp) elt te)
    (hs : ∀ x, foldedSetIterable iter X.env x = pure x) (hsc : X.env.scope = sc0) (hN0 : X.N = N0) {pins : List (Addr × Obj)} {s : Shared} {σ : St} {H : Hp} {Qv : VK} (I : Inv X pins σ H s) (h : tLc wi g tt te o fr σ H Qv)
    {use : Option (Value → Sem Unit)} {Q : Value → Shared → Prop} {E : Value → Shared → Prop}
    (hE : ∀ e s', X.xe e s' → E e s')
    (fin : ∀ (C oC D : _) (m : Str → Option Value) (H' : Hp) (ys : List V) (s' : Shared), Inv X (pins ++ [(C, oC)]) σ (upd H' D (.lst ys)) s' → Qv (.ref D) (upd H' D (.lst ys)) → s'.heap.Ns C m → H' C = none → C ≠ D →
      C ≠ X.env.locals → X.s₀.heap.objs.size ≤ C → (∀ x c, X.env.cells.lookup x = some c → c ≠ C) → (∀ p ∈ X.pn ++ pins, p.1 ≠ C) → compPost (model X.prog X.w) X.A E use Q (.ref D) C (.ok .next) s') :
    wpAny (model X.prog X.w) X.A (comprehension (.ListComp elt [⟨tg, iter, ifs, 0⟩] scope pos) scope X.env (firstIterPos [⟨tg, iter, ifs, 0⟩] pos) (newList []) false (eval iter X.env) use) Q E s := by
  refine wpAny_comprehension_free (use := use) rfl hs (closure_of (S.cells hsc I)) S.kind S.loc' (wpAny_mono (hi pins s σ H _ I h) (fun xv s1 h1 => wpAny_mono h1 (fun itv s2 h2 => ?_) hE) hE)
  obtain ⟨it, fp, tn, J, H2, rfl, I2, T, st2, f2, W, ⟨m0, w0⟩, turn⟩ := h2
  have hfl : ∀ b ∈ fp, b < s2.heap.objs.size := fun b hb => by
    obtain ⟨ob, e, _⟩ := T.obj 0 _ st2 b hb
    exact Heap.lt_size e
  refine wpAny_newObj_type (wpAny_newFunctionEnv S.nocell' (by intro y hy; simp at hy) (fun h1 hns1 hsb1 => ?_) S.kind)
  dsimp only at hns1 hsb1 ⊢
  generalize hH2 : s2.heap.push { cls := .type "list", dict := none, data := .seq ([] : List Value).toArray } = G at hns1 hsb1 ⊢
  have hCe : G.objs.size = s2.heap.objs.size + 1 := by rw [← hH2, Heap.size_push]
  have hC : s2.heap.objs.size ≤ G.objs.size := by rw [hCe]; exact Nat.le_succ _
  have hDC : s2.heap.objs.size ≠ G.objs.size := by rw [hCe]; exact Nat.ne_of_lt (Nat.lt_succ_self _)
  have old : ∀ b ob, s2.heap.get? b = some ob → h1.get? b = some ob := fun b ob e =>
    hsb1.extBut b ob (Nat.ne_of_lt (Nat.lt_of_lt_of_le (Heap.lt_size e) hC)) (Heap.get?_push_of_some _ (hH2 ▸ Heap.get?_push_of_some _ e))
  have hacc : h1.get? s2.heap.objs.size = some (accObj []) := hsb1.extBut _ _ hDC (Heap.get?_push_of_some _ (hH2 ▸ Heap.get?_push_size _ rfl))
  have st1 : tn 0 h1 := T.keep _ _ _ st2 fun b _ ob e => old b ob e
  have fpC : ∀ {us : List Value} {H' : Hp}, (∀ b ∈ fp, H' b = none) → ∀ b ∈ fp, FpOk (cxC X N' scope G.objs.size s2 H2 fp) [(s2.heap.objs.size, accObj us)] H' b := fun {us H'} hn b hb => by
    obtain ⟨f0, f1, f3, f4, f5, f6⟩ := f2 b hb
    refine ⟨hn b hb, Nat.ne_of_lt (Nat.lt_of_lt_of_le (hfl b hb) hC), fun z => ?_, .inl hb, fun x c e => f5 x c (S.sub hsc I2 x c e), fun p hp => ?_⟩
    · rcases List.mem_cons.mp (I2.stkSub b z) with q | q
      · exact f1 q
      · exact f3 q
    · have e : p = (s2.heap.objs.size, accObj us) := by simpa using (show p ∈ ([] : List (Addr × Obj)) ++ [(s2.heap.objs.size, accObj us)] from hp)
      subst e
      exact Nat.ne_of_gt (hfl b hb)
  have loop : ∀ s3 : Shared, s3 = { s2 with heap := h1, toks := s2.toks + ([] : List (Str × Value)).length } →
      codeAny (model X.prog X.w) X.A (.compLoop (.ListComp elt [⟨tg, iter, ifs, 0⟩] scope pos) 0 (.ref it) (.ref s2.heap.objs.size) (compEnvC scope (closL X.env.cells scope.names []) G.objs.size X.env))
        (compPost (model X.prog X.w) X.A E use Q (.ref s2.heap.objs.size) G.objs.size) s3 := by
    rintro s3 rfl
    refine compLoop_any (fun n s' => ∃ i σ' H' ys us, Inv (cxC X N' scope G.objs.size s2 H2 fp) [(s2.heap.objs.size, accObj us)] σ' H' s' ∧ σ' = σC o fr σ ∧ Vals ys us ∧ tn i s'.heap ∧ (∀ b ∈ fp, H' b = none) ∧ W i n ys H') ?_ m0
      ⟨0, _, H2, [], [], I2.block S hsc hN0 f2 hfl hC (Nat.le_refl _) hDC old hns1 hacc, rfl, .nil, st1, fun b hb => (f2 b hb).1, w0⟩
    rintro n s' ⟨i, σ', H', ys, us, I', rfl, rv, st', fr', w'⟩
    rcases turn i n ys H' w' with ⟨stop, hz, q⟩ | ⟨go, hz, step⟩
    · refine thn (T.done (cxC X N' scope G.objs.size s2 H2 fp) rfl rfl rfl hc i _ s' _ H' _ I' (fpC fr') st' stop) fun r s4 ⟨hr, I4⟩ => ?_
      subst hr
      obtain ⟨oC, m, hoC, hn, J4⟩ := I2.unblock f2 hC (Nat.le_refl _) hDC I4 rv hz
      exact fin _ oC _ m H' ys s4 J4 (q _ (I4.pin (s2.heap.objs.size, accObj us) (by simp)).2.1) hn I4.free (Ne.symm hDC) (Nat.ne_of_gt (Nat.lt_of_lt_of_le I2.lt hC)) (Nat.le_trans I2.sz hC)
        (fun x c e => by obtain ⟨v, z⟩ := I2.cell x c e; exact Nat.ne_of_lt (Nat.lt_of_lt_of_le z.lt hC)) fun p hp => Nat.ne_of_lt (Nat.lt_of_lt_of_le (Heap.lt_size (I2.pin p hp).1) hC)
    · refine thn (T.item (cxC X N' scope G.objs.size s2 H2 fp) rfl rfl rfl hc i _ s' _ H' _ I' (fpC fr') st' go) fun r s4 ⟨u, hr, h4⟩ => ?_
      subst hr
      refine thn h4 fun _ s5 ⟨x, H5, I5, r5, y5, st5, fr5⟩ => ?_
      have hst := step x H5 y5
      have hst' := ho x (List.replicate o none) (fr.map fun j => (σ[j]?).join) H5 _ (List.length_replicate ..) hst
      -- the iterator's records are pinned while the block's own code runs
      have I5' := I5.pinned (fpC (us := us) fr5) (T.obj _ _ st5)
      refine thn (hg _ _ _ _ _ s5 _ H5 x u _ I5' r5 hst') fun _ s6 ⟨σ6, H6, I6, ⟨ow, hol, e6⟩, q6⟩ => ?_
      subst e6
      refine thn (ht _ _ _ _ _ s6 _ H6 _ I6 q6) fun b s7 ⟨H7, I7, q7⟩ => ?_
      have back : ∀ {us' : List Value} {σ8 : St} {H8 : Hp} {s8 : Shared}, Inv (cxC X N' scope G.objs.size s2 H2 fp) ([(s2.heap.objs.size, accObj us')] ++ pinsAt fp s5.heap) (ow ++ fr.map fun j => (σ[j]?).join) H8 s8 →
          Inv (cxC X N' scope G.objs.size s2 H2 fp) [(s2.heap.objs.size, accObj us')] (σC o fr σ) H8 s8 ∧ tn (i + 1) s8.heap ∧ ∀ b ∈ fp, H8 b = none := fun {us' σ8 H8 s8} I8 => by
        refine ⟨I8.unpinned.weak ?_ fun j v e => ?_, T.keep _ _ _ st5 fun b hb ob e => (I8.pin (b, ob) (List.mem_append_right _ (List.mem_append_right _ (mem_pinsAt hb e)))).1, fun b hb => ?_⟩
        · unfold σC
          rw [List.length_append, List.length_append, List.length_replicate, hol]
        · unfold σC at e
          by_cases hj : j < o
          · rw [List.getElem?_append_left (by rw [List.length_replicate]; exact hj), List.getElem?_replicate, if_pos hj] at e
            cases e
          · rw [List.getElem?_append_right (by rw [List.length_replicate]; exact Nat.not_lt.mp hj), List.length_replicate] at e
            rw [List.getElem?_append_right (by rw [hol]; exact Nat.not_lt.mp hj), hol]
            exact e
        · obtain ⟨ob, e, _⟩ := T.obj _ _ st5 b hb
          exact (I8.pin (b, ob) (List.mem_append_right _ (List.mem_append_right _ (mem_pinsAt hb e)))).2.1
      cases b with
      | false =>
        rw [if_neg Bool.false_ne_true] at q7 ⊢
        obtain ⟨m', hm, w7⟩ := q7
        obtain ⟨I8, st8, fr8⟩ := back (us' := us) (σ8 := []) I7
        exact ⟨m', hm, i + 1, _, H7, ys, us, I8, rfl, rv, st8, fr8, w7⟩
      | true =>
        rw [if_pos rfl] at q7 ⊢
        refine thn (he _ _ _ _ _ s7 _ H7 _ I7 q7) fun y s8 ⟨yv, H8, I8, r8, m', hm, w8⟩ => ?_
        obtain ⟨aD, nD, _, _, _⟩ := I8.pin (s2.heap.objs.size, accObj us) (by simp)
        have aD : s8.heap.get? s2.heap.objs.size = some (accObj us) := aD
        have nD : H8 s2.heap.objs.size = none := nD
        have hul : us.length ≤ sizeLine := by rw [← rv.length]; exact Nat.le_of_lt hz
        refine append_at (hsz := by show us.toArray.size ≤ sizeLine; rw [List.size_toArray]; exact hul) aD fun h9 hs9 hD9 => ?_
        have hD9' : h9.get? s2.heap.objs.size = some (accObj (us ++ [y])) := by
          rw [hD9]
          show some ({ cls := .type "list", data := .seq (us.toArray.push y) (us.length + 1) } : Obj) = some { cls := .type "list", data := .seq (us ++ [y]).toArray (us ++ [y]).length }
          rw [List.length_append, List.length_singleton, List.push_toArray]
        have I9 : Inv (cxC X N' scope G.objs.size s2 H2 fp) (pinsAt fp s5.heap) (ow ++ fr.map fun j => (σ[j]?).join) H8 { s8 with heap := h9 } :=
          (I8.pins_of (pins' := pinsAt fp s5.heap) fun p hp => I8.pin p (List.mem_append_right _ (List.mem_append_right _ hp))).turned (t' := s8.toks) (it := s2.heap.objs.size) (fun b ob hb e => hs9.extBut b ob hb e) nD hDC (.inr (Nat.le_refl _))
            (fun x c e => by
              obtain ⟨v, z⟩ := I2.cell x c (S.sub hsc I2 x c e)
              exact Nat.ne_of_lt z.lt)
            fun p hp => by
              obtain ⟨hb, _⟩ := of_pinsAt (show p ∈ pinsAt fp s5.heap from by simpa [cxC] using hp)
              exact Nat.ne_of_lt (hfl p.1 hb)
        have I9' : Inv (cxC X N' scope G.objs.size s2 H2 fp) ([(s2.heap.objs.size, accObj (us ++ [y]))] ++ pinsAt fp s5.heap) (ow ++ fr.map fun j => (σ[j]?).join) H8 { s8 with heap := h9 } :=
          I9.pins_of fun p hp => by
            rcases List.mem_append.mp hp with z | z
            · have e : p = (s2.heap.objs.size, accObj (us ++ [y])) := by simpa using z
              subst e
              refine ⟨hD9', nD, hDC, fun z => ?_, fun v z => nomatch z⟩
              obtain ⟨_, ob, hob, _⟩ := I2.stack.mem z
              exact Nat.lt_irrefl _ (Heap.lt_size hob)
            · exact I9.pin p (List.mem_append_right _ z)
        obtain ⟨I10, st10, fr10⟩ := back (us' := us ++ [y]) (σ8 := []) I9'
        exact ⟨m', hm, i + 1, _, H8, ys ++ [yv], us ++ [y], I10, rfl, Vals.append rv (.cons r8 .nil), st10, fr10, w8⟩
  exact codeAny_compStart_list (loop _ rfl) (T.self _ 0 _ _ _ st1 (loop _ rfl))

/-- [elt for tg in iter if ..] -/
theorem pe_lc (hc : X.calm = true) {sc0 : Scope} {N0 : List Str} (S : CompScope sc0 N0 N' o fr scope) (hi : PI X tg iter wi) (ho : OwnG o g)
    (hg : ∀ (C : Addr) (s : Shared) (H : Hp) (fp : List Addr), PG (cxC X N' scope C s H fp) tg g)
    (ht : ∀ (C : Addr) (s : Shared) (H : Hp) (fp : List Addr), PTs (cxC X N' scope C s H fp) ifs tt)
    (he : ∀ (C : Addr) (s : Shared) (H : Hp) (fp : List Addr), PE (cxC X N' scope C s H fp) elt te)
    (hs : ∀ x, foldedSetIterable iter X.env x = pure x := by intro _; rfl) (hsc : X.env.scope = sc0 := by rfl) (hN0 : X.N = N0 := by rfl) : PE X (.ListComp elt [⟨tg, iter, ifs, 0⟩] scope pos) (tLc wi g tt te o fr) := by
  intro pins s σ H Q I h
  rw [eval_ListComp]
  refine lc_run hc S hi ho hg ht he hs hsc hN0 I h (use := none) (fun _ _ z => z) fun C oC D m H' ys s' J q hn nC hCD hCL hCs hCc hCp => ?_
  refine ⟨m, hn, fun h' hs' => ⟨.ref D, upd H' D (.lst ys), ?_, rfl, q⟩⟩
  refine J.unpinned.turned (t' := s'.toks) (it := C) (fun b ob hb e => hs'.extBut b ob hb e) (by rw [upd_ne hCD]; exact nC) hCL (.inr hCs) hCc hCp
/-- name = [elt for tg in iter if ..], where the name is stored while the block's names still stand -/
theorem ps_lc {i : Nat} {x : Str} {px : Pos} {spos : Pos} (hc : X.calm = true) (hN : X.N.Nodup) (hx : X.N[i]? = some x) (hl : X.env.kindOf x = some .local) {sc0 : Scope} {N0 : List Str} (S : CompScope sc0 N0 N' o fr scope) (hi : PI X tg iter wi) (ho : OwnG o g)
    (hg : ∀ (C : Addr) (s : Shared) (H : Hp) (fp : List Addr), PG (cxC X N' scope C s H fp) tg g)
    (ht : ∀ (C : Addr) (s : Shared) (H : Hp) (fp : List Addr), PTs (cxC X N' scope C s H fp) ifs tt)
    (he : ∀ (C : Addr) (s : Shared) (H : Hp) (fp : List Addr), PE (cxC X N' scope C s H fp) elt te)
    (hs : ∀ x, foldedSetIterable iter X.env x = pure x := by intro _; rfl) (hsc : X.env.scope = sc0 := by rfl) (hN0 : X.N = N0 := by rfl)
    (hsw : swapsWith (.ListComp elt [⟨tg, iter, ifs, 0⟩] scope pos) (some (.Name x px)) spos.line X.env = pure true := by rfl) :
    PS X (.Assign [.Name x px] (.ListComp elt [⟨tg, iter, ifs, 0⟩] scope pos) spos) (tAsg (tLc wi g tt te o fr) (gName i)) := by
  intro pins s σ H D I h
  rw [exec_Assign_Name_used _ _ _ _ hsw]
  refine wpAny_bind (wpAny_standAt (wpAny_bind ?_))
  show wpAny _ X.A (do let _ ← comprehension (.ListComp elt [⟨tg, iter, ifs, 0⟩] scope pos) scope X.env (firstIterPos [⟨tg, iter, ifs, 0⟩] pos) (newList []) false (eval iter X.env) (some (assign (.Name x px) X.env))) _ _ s
  refine wpAny_bind (wpAny_mono (lc_run (Q := fun _ s' => SP X pins D .next s') hc S hi ho hg ht he hs hsc hN0 I h (use := some (assign (.Name x px) X.env)) (fun _ _ z => z) fun C oC Dd m H' ys s' J q hn nC hCD hCL hCs hCc hCp => ?_) (fun _ s' hq => wpAny_pure (wpAny_pure hq)) fun _ _ e => e)
  show wpAny _ X.A (assign (.Name x px) X.env (.ref Dd)) _ _ _
  refine wpAny_assign_Name (store_ok J hN hx (.inl hl) (v := .ref Dd) rfl (fun s2 I2 => ?_) (.inr hl))
  have g1 := (I2.pin (C, oC) (by simp)).1
  have g1 : s2.heap.get? C = some oC := g1
  have n2 : s2.heap.Ns C m := by
    obtain ⟨oc, es, ep, e, r⟩ := hn
    have e0 := (J.pin (C, oC) (by simp)).1
    have e0 : s'.heap.get? C = some oC := e0
    rw [e] at e0
    cases e0
    exact ⟨_, es, ep, g1, r⟩
  refine ⟨m, n2, fun h' hs' => ⟨_, upd H' Dd (.lst ys), ?_, q⟩⟩
  exact I2.unpinned.turned (t' := s2.toks) (it := C) (fun b ob hb e => hs'.extBut b ob hb e) (by rw [upd_ne hCD]; exact nC) hCL (.inr hCs) hCc hCp
end
end L2

/-! ## more rules over the layer: range as a value, sum, set, enumerate, dict methods, deep == -/
namespace L2
open PySem PySem.Spec PyProof.Rows
section
variable {X : Cx}
theorem vals_two : ∀ {x y : V} {us : List Value}, Vals [x, y] us → ∃ u v, us = [u, v] ∧ RelV x u ∧ RelV y v
  | _, _, _, .cons r (.cons r' .nil) => ⟨_, _, rfl, r, r'⟩
theorem ints_of_vals : ∀ {ns : List Int} {us : List Value}, Vals (ns.map V.int) us → IntsAre us ns
  | [], _, .nil => .nil
  | n :: ns, _, .cons r t => by
    obtain ⟨tk, rfl⟩ := r
    exact .cons n tk (ints_of_vals t)
/-! ### range(..) as an object -/
theorem call_rng1 : CallR X (.type "range") (fun xs H Q => ∃ j : Int, xs = [.int j] ∧ ∀ p, H p = none → Q (.ref p) (upd H p (.rng 0 j))) := by
  intro pins s σ H xs us Q I r h
  obtain ⟨j, rfl, q⟩ := h
  obtain ⟨u, rfl, t, rfl⟩ := vals1 r
  refine call_range_1 ?_
  exact ⟨.ref s.heap.objs.size, _, I.laid (o := .rng 0 j) (fun b u e => Heap.get?_push_of_some _ e) (Nat.le_refl _) ⟨_, _, _, Heap.get?_push_size _ rfl⟩, rfl, q _ (I.hok.fresh (Nat.le_refl _))⟩
/-- lo, lo + 1, .. below hi -/
def rngI (lo hi : Int) : List Int := (List.range (hi - lo).toNat).map fun (i : Nat) => lo + (i : Int)
theorem rngI_length (lo hi : Int) : (rngI lo hi).length = (hi - lo).toNat := by unfold rngI; rw [List.length_map, List.length_range]
theorem vals_rng {lo : Int} {n : Nat} : ∀ {us : List Value}, us.length = n → (∀ (j : Nat) (v : Value), us[j]? = some v → ∃ t, v = Value.int (lo + (j : Int)) t) → Vals (((List.range n).map fun (i : Nat) => lo + (i : Int)).map V.int) us := by
  induction n generalizing lo with
  | zero =>
    intro us h _
    rw [List.length_eq_zero_iff.mp h]
    exact .nil
  | succ n ih =>
    intro us h hv
    cases us with
    | nil => cases h
    | cons u us =>
      rw [List.range_succ_eq_map, List.map_cons, List.map_cons]
      refine .cons ?_ ?_
      · obtain ⟨t, e⟩ := hv 0 u rfl
        exact ⟨t, e⟩
      · have q := ih (lo := lo + 1) (us := us) (Nat.succ.inj h) fun j v e => by
          obtain ⟨t, e'⟩ := hv (j + 1) v (by simpa using e)
          refine ⟨t, ?_⟩
          rw [e']
          congr 1
          omega
        have e : (List.range n).map (fun (i : Nat) => lo + 1 + (i : Int)) = ((List.range n).map Nat.succ).map (fun (i : Nat) => lo + (i : Int)) := by
          rw [List.map_map]
          refine List.map_congr_left fun i _ => ?_
          show lo + 1 + (i : Int) = lo + ((i + 1 : Nat) : Int)
          omega
        rw [e] at q
        exact q
theorem call_list_rng (hc : X.calm = true) : CallR X (.type "list") (fun xs H Q => ∃ p lo hi, xs = [.ref p] ∧ H p = some (.rng lo hi) ∧ (-(2 ^ 62) ≤ lo ∧ lo < 2 ^ 62 ∧ -(2 ^ 62) ≤ hi ∧ hi < 2 ^ 62) ∧ (hi - lo).toNat ≤ 16777216 ∧
    ∀ l, H l = none → Q (.ref l) (upd H l (.lst ((rngI lo hi).map V.int)))) := by
  intro pins s σ H xs us Q I r h
  obtain ⟨p, lo, hi, rfl, hp, ⟨b1, b2, b3, b4⟩, hz, q⟩ := h
  obtain ⟨u, rfl, ru⟩ := vals1 r
  obtain rfl : u = Value.ref p := ru
  obtain ⟨t, u, v, e⟩ := (show ObjOk X.prog X.w H s.heap p (.rng lo hi) from I.hok p _ hp)
  have hn : Builtin.Range.rangeSize lo hi 1 = (((hi - lo).toNat : Nat) : Int) := by rw [rangeSize_one]; split <;> omega
  refine call_list_range (I.ok.hd hc) (t := t) (u := u) (v := v) e (small_one b1 b2 b3 b4) hn hz fun h' tk acc c' hk hS ha => ?_
  have hl : acc.toList.length = (hi - lo).toNat := by rw [Array.length_toList]; exact ha.1
  have rv : Vals ((rngI lo hi).map V.int) acc.toList := vals_rng (lo := lo) hl fun j w ew => by
    obtain ⟨t, e⟩ := ha.2 j w (by simpa using ew)
    exact ⟨t, by rw [e, Int.mul_one]⟩
  refine ⟨.ref s.heap.objs.size, _, I.laid (o := .lst ((rngI lo hi).map V.int)) hk (Nat.le_refl _) ⟨?_, acc.toList, c', rv, ?_⟩, rfl, q _ (I.hok.fresh (Nat.le_refl _))⟩
  · rw [List.length_map, rngI_length]
    have : sizeLine = 16777216 := sizeLine_eq
    omega
  · rw [hS]
/-! ### sum of ints -/
theorem call_sum_ints (hc : X.calm = true) : CallR X (.builtin "sum") (fun xs H Q => ∃ (p : Addr) (ns : List Int), xs = [.ref p] ∧ SqL X.K H p (ns.map V.int) ∧ Q (.int ns.sum) H) := by
  intro pins s σ H xs us Q I r h
  obtain ⟨p, ns, rfl, hq, q⟩ := h
  obtain ⟨u, rfl, ru⟩ := vals1 r
  obtain rfl : u = Value.ref p := ru
  obtain ⟨its, rv, pl, hz⟩ := I.list hq
  have hi := ints_of_vals rv
  have hall := hi.allInts
  obtain ⟨xs, ex⟩ := hall.items
  have hl := pl.isList
  rw [ex] at hl
  refine sum_intListG (I.ok.hd hc) hl fun h' tk t' hk => ?_
  have e1 : preSum (numAt xs) xs.size = ns.sum := by
    have e2 := hi.numsOf
    rw [show its = its.toArray.toList from rfl, ex, nums_intItems] at e2
    rw [preSum_eq, List.take_of_length_le (by simp), ← e2]
  exact ⟨.int ns.sum, H, I.kept hk, ⟨t', by rw [e1]⟩, q⟩
/-! ### set(list of ints), its length -/
def seen (ns : List Int) : List Int := firstMet (fun i => ns.getD i 0) ns.length
/-! ### isinstance against a built-in type -/
/-! ### for i, x in enumerate(list) -/
/-- at turn i: a new pair (i, the list's i-th) -/
def Ite (K : PySem.W.Frag) (a : Addr) : It :=
  ⟨fun i H => ∃ xs x, SqL K H a xs ∧ xs[i]? = some x, fun i H v H' => ∃ T x, H T = none ∧ v = .ref T ∧ H' = upd H T (.tup [.int i, x]) ∧ ∀ xs, SqL K H a xs → xs[i]? = some x, fun i H => ∃ xs, SqL K H a xs ∧ xs.length ≤ i⟩
def iEnum (K : PySem.W.Frag) (ta : TA) : TI := fun σ H R => ta σ H fun vs H1 => ∃ a, vs = [.ref a] ∧ (∃ xs, SqL K H1 a xs) ∧ R (Ite K a) H1
theorem turn_enum {P : Program} {w : World} {K : PySem.W.Frag} {elts : List Expr} {x1 : Nat} {pos : Pos} (a e it : Addr) (hne : e ≠ it) : Turn P w K (.Tuple elts x1 pos) (Ite K a) [e, it] e (fun i h => (∃ old, IsEnum h e it i old) ∧ h.IsListIter it a i) where
  mem := by simp
  obj := fun i h st b hb => by
    obtain ⟨⟨old, he⟩, o, eo, c, d⟩ := st
    rcases List.mem_cons.mp hb with z | hb
    · subst z
      exact ⟨_, he, fun v z => by
        have z' : Data.fields _ = Data.cell v := z
        cases z'⟩
    · have z : b = it := by simpa using hb
      subst z
      exact ⟨o, eo, fun v z => by rw [d] at z; cases z⟩
  keep := fun i h h' st k => by
    obtain ⟨⟨old, he⟩, hit⟩ := st
    exact ⟨⟨old, k e (by simp) _ he⟩, hit.at fun o x => k it (by simp) o x⟩
  item := by
    intro X hP hw hK hc i pins s σ H E I hf st hg
    subst hP hw hK
    obtain ⟨xs, x, hq, hx⟩ := hg
    obtain ⟨⟨old, he⟩, hit⟩ := st
    obtain ⟨its, rv, p, hz⟩ := I.list hq
    obtain ⟨u, hu, ru⟩ := rv.get hx
    obtain ⟨f0, f1, f2, f3, f4, f5⟩ := hf e (by simp)
    obtain ⟨g0, g1, g2, g3, g4, g5⟩ := hf it (by simp)
    have hT0 : H s.heap.objs.size = none := I.hok.fresh (Nat.le_refl _)
    refine wpAny_pyNext_enum_item he hit p.isList (x := u) (by simpa using hu) hne fun h' ho hit' hT hsz hk => ?_
    have ltT : ∀ b ob, s.heap.get? b = some ob → b ≠ s.heap.objs.size := fun b ob z => Nat.ne_of_lt (Heap.lt_size z)
    have ltH : ∀ b ob, H b = some ob → b ≠ s.heap.objs.size := fun b ob z => Nat.ne_of_lt (I.hok.lt z)
    have nof : ∀ b ob, H b = some ob → b ≠ e ∧ b ≠ it := fun b ob z => ⟨fun q => (by rw [q, f0] at z; cases z), fun q => (by rw [q, g0] at z; cases z)⟩
    have I1 : Inv X pins σ (upd H s.heap.objs.size (.tup [.int i, x])) { s with heap := h', toks := s.toks + 1 } := by
      refine I.step (g' := s.gens) (d' := s.drawn) (ch := [e, it]) (fun b hb => ?_) (fun b o _ _ hcx z _ => hk b o (fun q => hcx (by simp [q])) (fun q => hcx (by simp [q])) z) (fun b o _ _ hcx z _ => ⟨o.slots, hk b o (fun q => hcx (by simp [q])) (fun q => hcx (by simp [q])) z⟩)
        (fun b o _ z n => by rw [upd_ne (ltT b o z)]; exact n) (fun b o hcx z => ⟨o, hk b o (fun q => hcx (by simp [q])) (fun q => hcx (by simp [q])) z⟩) (fun b ys z => by rw [upd_ne (ltH b _ z)]; exact z) (fun b o v z => by rw [upd_ne (ltH b _ z)]; exact z)
        (fun b ps z => ⟨#[], by rw [upd_ne (ltH b _ z), z]; simp⟩) (fun m hm => ?_) (fun b v z => ?_) I.bare
      · rcases List.mem_cons.mp hb with q | hb
        · rw [q]; exact ⟨f3, f1, f4, f5⟩
        · have q : b = it := by simpa using hb
          rw [q]; exact ⟨g3, g1, g4, g5⟩
      · obtain ⟨o, es, ep, ho', r⟩ := hm
        exact ⟨o, es, ep, hk _ o (Ne.symm f1) (Ne.symm g1) ho', r⟩
      · by_cases hb : b = s.heap.objs.size
        · subst hb
          rw [upd_same] at z
          cases z
          exact ⟨by show 2 ≤ sizeLine; decide, [.int i s.toks, u], .cons ⟨_, rfl⟩ (.cons ru .nil), ⟨_, hT, rfl, _, rfl⟩⟩
        · rw [upd_ne hb] at z
          refine (I.hok b v z).stay (fun c w' hc' q => ?_) (fun c q => by rw [upd_ne (ltH c _ q)]; exact q) fun c ys q => by rw [upd_ne (ltH c _ q)]; exact q
          rcases hc' with rfl | hc'
          · exact hk c w' (nof c _ z).1 (nof c _ z).2 q
          · exact hk c w' (nof c _ hc').1 (nof c _ hc').2 q
    refine ⟨_, rfl, wpAny_letOwnedTupleGo_enum ho fun h2 he2 hs2 => ?_⟩
    have fT : e ≠ s.heap.objs.size := ltT e _ he
    have I2 : Inv X pins σ (upd H s.heap.objs.size (.tup [.int i, x])) { s with heap := h2, toks := s.toks + 1 } := Inv.turned (s := { s with heap := h', toks := s.toks + 1 }) (h' := h2) (t' := s.toks + 1) (it := e) I1 (fun b o hb z => hs2.extBut b o hb z) (by rw [upd_ne fT]; exact f0) f1 f3 f4 f5
    refine ⟨.ref s.heap.objs.size, _, I2, rfl, ⟨_, x, hT0, rfl, rfl, fun ys hy => by rw [I.list_inj hy hq]; exact hx⟩, ⟨⟨u, by simpa using he2⟩, hit'.at fun o z => hs2.extBut it o (Ne.symm hne) z⟩, fun b hb => ?_⟩
    rcases List.mem_cons.mp hb with q | hb
    · rw [q, upd_ne fT]; exact f0
    · have q : b = it := by simpa using hb
      obtain ⟨o, eo, _⟩ := hit
      rw [q, upd_ne (ltT it o eo)]; exact g0
  done := by
    intro X hP hw hK hc i pins s σ H E I hf st hg
    subst hP hw hK
    obtain ⟨xs, hq, hx⟩ := hg
    obtain ⟨⟨old, he⟩, hit⟩ := st
    obtain ⟨its, rv, p, hz⟩ := I.list hq
    obtain ⟨g0, g1, g2, g3, g4, g5⟩ := hf it (by simp)
    have hl := rv.length
    exact wpAny_pyNext_enum_end (I.ok.hd hc) he hit p.isList (by simp; omega) fun h' eb => ⟨rfl, I.turned (t' := s.toks) (it := it) (fun b o hb z => eb b o hb z) g0 g1 g3 g4 g5⟩
  self := fun _ _ _ _ _ st h => let ⟨⟨_, he⟩, _⟩ := st; wpAny_pyIter_enum he h
theorem pi_enum {elts : List Expr} {x1 : Nat} {tpos : Pos} {a : Expr} {ta : TA} {p pos : Pos} (hg : Gl X "enumerate") (hm : X.mg "enumerate" = none) (ha : PA X [a] ta) (hs : starEach [a] X.env = [(false, eval a X.env)] := by rfl) :
    PI X (.Tuple elts x1 tpos) (.Call (.Name "enumerate" p) [a] [] pos) (iEnum X.K ta) := by
  intro pins s σ H R I h
  refine Call_ (ld_blt I hg hm Boot.«enumerate» (PyProof.Rows.callWith_type1 (thn (ha pos pins s σ H _ I h) fun us s1 ⟨vs, H1, I1, r1, q1⟩ => ?_) hs rfl))
  obtain ⟨b, e, ⟨xs, hq⟩, q⟩ := q1
  subst e
  obtain ⟨u, rfl, ru⟩ := vals1 r1
  obtain rfl : u = Value.ref b := ru
  obtain ⟨its, rv, pl, hz⟩ := I1.list hq
  refine call_enumerate_list pl.isList fun h' he hit hsz hk => ?_
  have I2 : Inv X pins σ H1 { s1 with heap := h' } := I1.kept (t' := s1.toks) hk
  refine wpAny_pyIter_enum he ?_
  have nn : ∀ k, s1.heap.objs.size ≤ k → H1 k = none := fun k hk => I1.hok.fresh hk
  refine ⟨s1.heap.objs.size + 1, [s1.heap.objs.size + 1, s1.heap.objs.size], _, _, H1, rfl, I2, turn_enum b _ _ (Nat.succ_ne_self _), ⟨⟨_, he⟩, hit⟩, fun c hc => ?_, q⟩
  have hle : s1.heap.objs.size ≤ c := by
    rcases List.mem_cons.mp hc with q | hc
    · rw [q]; exact Nat.le_succ _
    · have q : c = s1.heap.objs.size := by simpa using hc
      rw [q]; exact Nat.le_refl _
  exact I1.fpOk hle (nn c hle)
end
end L2

/-! ## a dict's setdefault and values; == of lists and tuples to any depth -/
namespace L2
open PySem PySem.Spec PyProof.Rows
section
variable {X : Cx}
theorem kV_vals {k : Key} {y : V} {us : List Value} (r : Vals [kV k, y] us) : ∃ u v, us = [u, v] ∧ RelV (kV k) u ∧ RelV y v := vals_two r
/-- d.setdefault(k, y) -/
def rSetDef : V → List V → Hp → VK → Prop := fun x vs H Q => ∃ d kvs k y, x = .ref d ∧ vs = [kV k, y] ∧ H d = some (.dK kvs) ∧ kvs.length < sizeLine ∧ (∀ v, valV kvs k = some v → Q v H) ∧ (valV kvs k = none → Q y (upd H d (.dK (kvs ++ [(k, y)]))))
theorem mt_setdefault : MtM X "dict.setdefault" rSetDef := by
  intro pins s σ H x vs v us Q I rx rv h
  obtain ⟨d, kvs, k, y, rfl, rfl, hH, hz, h1, h2⟩ := h
  cases rx
  obtain ⟨uk, uy, rfl, rk, ry⟩ := kV_vals rv
  obtain ⟨z, hd, ws, rel, dd⟩ := dk_of I.hok hH
  refine call_meetsIn PySem.F.slot_dict_setdefault dd.typeIs PySem.F.entry_dict_setdefault (PySem.F.args_dict_setdefault_3 _ _ _) (kt_meets_setdefault (mixKind X.prog X.w) d (kV_is rk) hd uy)
    ⟨ws, dd, by rw [← rel.length]; exact z, fun v' hv' => ?_, fun hn h' dd' hs => ?_⟩
  · cases e : valV kvs k with
    | none =>
      have q := rel.val k
      rw [e, hv'] at q
      exact False.elim q
    | some w' =>
      have q := rel.val k
      rw [e, hv'] at q
      exact ⟨w', H, I.tok _, q, h1 w' e⟩
  · have e : valV kvs k = none := by
      cases e : valV kvs k with
      | none => rfl
      | some w' =>
        have q := rel.val k
        rw [e, hn] at q
        exact False.elim q
    have he : ∃ q, h'.get? d = some q := let ⟨q, _, _, hq, _⟩ := dd'; ⟨q, hq⟩
    refine ⟨y, _, d_write (ob := .dK (putK kvs k y)) I (by rw [hH]; exact True.intro) hs he (dk_new ?_ hd (rel.put k ry) dd'), ry, ?_⟩
    · have := length_putK kvs k y; omega
    · rw [putK_new y e]; exact h2 e
/-- a view of a dict's values -/
def viewO (p d : Addr) : HO := .ext fun h => h.IsValuesView p d
def rValues : V → List V → Hp → VK → Prop := fun x vs H Q => ∃ d kvs, x = .ref d ∧ vs = [] ∧ H d = some (.dK kvs) ∧ ∀ p, H p = none → Q (.ref p) (upd H p (viewO p d))
theorem mt_values : MtM X "dict.values" rValues := by
  intro pins s σ H x vs v us Q I rx rv h
  obtain ⟨d, kvs, rfl, rfl, hH, q⟩ := h
  cases rx
  cases rv
  obtain ⟨z, hd, ws, rel, dd⟩ := dk_of I.hok hH
  refine call_meetsIn PySem.F.slot_dict_values dd.typeIs PySem.F.entry_dict_values (PySem.F.args_dict_values_1 _) (meets_dict_values (mixKind X.prog X.w) d hd) ⟨⟨ws, dd⟩, ?_⟩
  refine ⟨.ref s.heap.objs.size, _, I.laid (o := viewO s.heap.objs.size d) (fun b u e => Heap.get?_push_of_some _ e) (Nat.le_refl _) ?_, rfl, q _ (I.hok.fresh (Nat.le_refl _))⟩
  have e := Heap.get?_push_size s.heap (o := { cls := .type "dict_values", data := .fields #[.ref d] }) rfl
  exact ⟨⟨_, e, rfl, rfl⟩, ⟨_, e⟩, fun h1 h2 ⟨o, ho, r⟩ k => ⟨o, k o ho, r⟩⟩
theorem dictAt_of {P : Program} {w : World} {h : Heap} {d : Addr} {ws : List (Key × Value)} (dd : h.DictOf (mixKind P w) d ws) : ∃ ep, h.DictAt (mixKind P w) d ws ep := by
  obtain ⟨o, es, ep, r⟩ := dd
  exact ⟨ep, o, es, r⟩
theorem vals_snd {κ : Type} : ∀ {kvs : List (κ × V)} {ws : List (κ × Value)}, KV kvs ws → Vals (kvs.map (·.2)) (ws.map (·.2))
  | _, _, .nil => .nil
  | _, _, .cons r t => .cons r.2 (vals_snd t)
theorem call_list_view (hc : X.calm = true) : CallR X (.type "list") (fun xs H Q => ∃ p d kvs, xs = [.ref p] ∧ H p = some (viewO p d) ∧ H d = some (.dK kvs) ∧ ∀ l, H l = none → Q (.ref l) (upd H l (.lst (kvs.map (·.2))))) := by
  intro pins s σ H xs us Q I r h
  obtain ⟨p, d, kvs, rfl, hp, hd, q⟩ := h
  obtain ⟨u, rfl, ru⟩ := vals1 r
  obtain rfl : u = Value.ref p := ru
  obtain ⟨hv, _, _⟩ := (show ObjOk X.prog X.w H s.heap p (viewO p d) from I.hok p _ hp)
  obtain ⟨z, hds, ws, rel, dd⟩ := dk_of I.hok hd
  obtain ⟨ep, da⟩ := dictAt_of dd
  have hl : ws.length = kvs.length := rel.length.symm
  refine PySem.W.kdl_call (PySem.W.kdl_values (knd := mixKind X.prog X.w) (kvs := ws) (ep := ep) (r := p) (d := d)) (I.ok.hd hc) ⟨hv, da⟩ (by omega) fun h' tk acc c' hk hS ha => ?_
  have ea : acc.toList = ws.map (·.2) := by
    refine List.ext_getElem? fun i => ?_
    cases e : acc.toList[i]? with
    | none =>
      have : ws.length ≤ i := by
        have := List.getElem?_eq_none_iff.mp e
        rw [Array.length_toList, ha.1] at this
        exact this
      rw [List.getElem?_eq_none_iff.mpr (by rw [List.length_map]; exact this)]
    | some v =>
      obtain ⟨k, ek⟩ := ha.2 i v (by simpa using e)
      rw [List.getElem?_map, ek]
      rfl
  refine ⟨.ref s.heap.objs.size, _, I.laid (o := .lst (kvs.map (·.2))) hk (Nat.le_refl _) ⟨by rw [List.length_map]; exact z, acc.toList, c', ?_, by rw [hS]⟩, rfl, q _ (I.hok.fresh (Nat.le_refl _))⟩
  rw [ea]
  exact vals_snd rel
end

/-! ### == to any depth -/
/-- the answer of x == y by the abstract heap, down to depth n -/
inductive EqD (K : PySem.W.Frag) (H : Hp) : Nat → V → V → Bool → Prop
  | flat {n : Nat} {x y : V} (fx : flatV x = true) (fy : flatV y = true) : EqD K H n x y (eqV x y)
  | lsts {n : Nat} {a b : Addr} {xs ys : List V} {e : Nat → Bool} (ha : SqL K H a xs) (hb : SqL K H b ys) (hl : xs.length = ys.length) (h : ∀ i x y, xs[i]? = some x → ys[i]? = some y → EqD K H n x y (e i)) : EqD K H (n + 1) (.ref a) (.ref b) ((List.range xs.length).all e)
  | lens {n : Nat} {a b : Addr} {xs ys : List V} (ha : SqL K H a xs) (hb : SqL K H b ys) (hl : xs.length ≠ ys.length) : EqD K H (n + 1) (.ref a) (.ref b) false
  | tups {n : Nat} {a b : Addr} {xs ys : List V} {e : Nat → Bool} (ha : SqT K H a xs) (hb : SqT K H b ys) (h : ∀ i x y, xs[i]? = some x → ys[i]? = some y → EqD K H n x y (e i)) :
      EqD K H (n + 1) (.ref a) (.ref b) ((List.range (min xs.length ys.length)).all e && xs.length == ys.length)
theorem eqV_self {x : V} (h : flatV x = true) : eqV x x = true := by
  cases x <;> first | rfl | (simp [eqV]; done) | exact absurd (show false = true from h) Bool.false_ne_true
section
variable {X : Cx} {pins : List (Addr × Obj)} {σ : St} {H : Hp} {s : Shared}
theorem Vals.at {xs : List V} {us : List Value} {j : Nat} (r : Vals xs us) (h : j < us.length) : ∃ x, xs[j]? = some x ∧ RelV x us[j] := by
  have hl := r.length
  have hx : xs[j]? = some (xs[j]'(by omega)) := List.getElem?_eq_getElem (by omega)
  obtain ⟨u, e, ru⟩ := r.get hx
  rw [List.getElem?_eq_getElem h] at e
  cases e
  exact ⟨_, hx, ru⟩
/-- a thing and itself -/
theorem EqD.self {n : Nat} {x y : V} {b : Bool} (q : EqD X.K H n x y b) (I : Inv X pins σ H s) : x = y → b = true := by
  induction q with
  | flat fx fy => intro e; subst e; exact eqV_self fx
  | @lsts n a b xs ys e ha hb hl h ih =>
    intro z
    cases z
    have e1 : xs = ys := I.list_inj ha hb
    subst e1
    rw [List.all_eq_true]
    intro i hi
    have hx : xs[i]? = some (xs[i]'(List.mem_range.mp hi)) := List.getElem?_eq_getElem _
    exact ih i _ _ hx hx rfl
  | @lens n a b xs ys ha hb hl =>
    intro z
    cases z
    exact absurd (congrArg List.length (I.list_inj ha hb)) hl
  | @tups n a b xs ys e ha hb h ih =>
    intro z
    cases z
    have e1 : xs = ys := I.tuple_inj ha hb
    subst e1
    rw [Nat.min_self, Bool.and_eq_true, List.all_eq_true]
    refine ⟨fun i hi => ?_, by simp⟩
    have hx : xs[i]? = some (xs[i]'(List.mem_range.mp hi)) := List.getElem?_eq_getElem _
    exact ih i _ _ hx hx rfl
theorem EqD.at {n : Nat} {x y : V} {b : Bool} (q : EqD X.K H n x y b) (I : Inv X pins σ H s) : ∀ {A : Around} {u v : Value}, A.units + n < cLine → RelV x u → RelV y v → SeqAt.EqAt A s u v b := by
  induction q with
  | flat fx fy => intro A u v _ ru rv; exact eqAt_V ru rv fx fy
  | @lsts n a b xs ys e ha hb hl h ih =>
    intro A u v hu ru rv
    obtain rfl : u = Value.ref a := ru
    obtain rfl : v = Value.ref b := rv
    by_cases hab : a = b
    · have z := EqD.self (EqD.lsts ha hb hl h) I (congrArg V.ref hab)
      rw [z, hab]
      exact SeqAt.EqAt.same _
    obtain ⟨us, rx, px, _⟩ := I.list ha
    obtain ⟨vs, ry, py, _⟩ := I.list hb
    have l1 := rx.length
    have l2 := ry.length
    have z := SeqAt.RcAt.lists (A := A) (s := s) (e := e) px.isList py.isList (by rw [List.size_toArray, List.size_toArray]; omega) (by omega) fun j h1 h2 => by
      obtain ⟨x, ex, rx'⟩ := rx.at (j := j) (by simpa using h1)
      obtain ⟨y, ey, ry'⟩ := ry.at (j := j) (by simpa using h2)
      exact ih j x y ex ey (A := A.in1) (by show A.units + 1 + n < cLine; omega) (by simpa using rx') (by simpa using ry')
    rw [List.size_toArray, ← l1] at z
    exact SeqAt.EqAt.of_refs hab z
  | @lens n a b xs ys ha hb hl =>
    intro A u v hu ru rv
    obtain rfl : u = Value.ref a := ru
    obtain rfl : v = Value.ref b := rv
    obtain ⟨us, rx, px, _⟩ := I.list ha
    obtain ⟨vs, ry, py, _⟩ := I.list hb
    have l1 := rx.length
    have l2 := ry.length
    have hab : a ≠ b := fun z => by
      subst z
      exact hl (congrArg List.length (I.list_inj ha hb))
    exact SeqAt.EqAt.of_refs hab (SeqAt.RcAt.lists_lengths px.isList py.isList (by rw [List.size_toArray, List.size_toArray]; simp; omega) (by omega))
  | @tups n a b xs ys e ha hb h ih =>
    intro A u v hu ru rv
    obtain rfl : u = Value.ref a := ru
    obtain rfl : v = Value.ref b := rv
    by_cases hab : a = b
    · have z := EqD.self (EqD.tups ha hb h) I (congrArg V.ref hab)
      rw [z, hab]
      exact SeqAt.EqAt.same _
    obtain ⟨us, rx, px, _⟩ := I.tuple ha
    obtain ⟨vs, ry, py, _⟩ := I.tuple hb
    have l1 := rx.length
    have l2 := ry.length
    have z := SeqAt.RcAt.tuples (A := A) (s := s) (e := e) (show s.heap.IsTuple a us.toArray from px) (show s.heap.IsTuple b vs.toArray from py) (by omega) fun j h1 h2 => by
      obtain ⟨x, ex, rx'⟩ := rx.at (j := j) (by simpa using h1)
      obtain ⟨y, ey, ry'⟩ := ry.at (j := j) (by simpa using h2)
      exact ih j x y ex ey (A := A.in1) (by show A.units + 1 + n < cLine; omega) (by simpa using rx') (by simpa using ry')
    rw [List.size_toArray, List.size_toArray, ← l1, ← l2] at z
    exact SeqAt.EqAt.of_refs hab z
end
section
variable {X : Cx}
/-- x == y, x != y of two lists or two tuples -/
def rEqD (K : PySem.W.Frag) (neg : Bool) : R2 := fun x y H Q => ∃ n b p q, x = .ref p ∧ y = .ref q ∧ n ≤ 6 ∧ EqD K H n x y b ∧ Q (.bl (if neg then !b else b)) H
theorem op_eqD (hu : X.A.units + 8 < cLine) : OpR X (compareOp .Eq) (rEqD X.K false) := by
  intro pins s σ H x y u v Q I ru rv h
  obtain ⟨n, b, p, q, rfl, rfl, hn, d, hq⟩ := h
  obtain rfl : u = Value.ref p := ru
  obtain rfl : v = Value.ref q := rv
  have fin : EP X pins σ Q (.bool b) s := ⟨.bl b, H, I, rfl, hq⟩
  cases d with
  | flat fx fy => exact absurd (show false = true from fx) Bool.false_ne_true
  | @lsts n _ _ xs ys e ha hb hl h =>
    obtain ⟨us, rx, px, _⟩ := I.list ha
    obtain ⟨vs, ry, py, _⟩ := I.list hb
    have l1 := rx.length
    have l2 := ry.length
    refine SeqAt.eq_listAt (e := e) px.isList py.isList (by rw [List.size_toArray, List.size_toArray]; omega) (by omega) (fun j h1 h2 => ?_) (by rw [List.size_toArray, ← l1]; exact fin)
    obtain ⟨x, ex, rx'⟩ := rx.at (j := j) (by simpa using h1)
    obtain ⟨y, ey, ry'⟩ := ry.at (j := j) (by simpa using h2)
    exact (h j x y ex ey).at I (A := X.A.in1) (by show X.A.units + 1 + n < cLine; omega) (by simpa using rx') (by simpa using ry')
  | @lens n _ _ xs ys ha hb hl =>
    obtain ⟨us, rx, px, _⟩ := I.list ha
    obtain ⟨vs, ry, py, _⟩ := I.list hb
    have l1 := rx.length
    have l2 := ry.length
    exact SeqAt.eq_list_lengthsAt px.isList py.isList (by rw [List.size_toArray, List.size_toArray]; simp; omega) (by omega) fin
  | @tups n _ _ xs ys e ha hb h =>
    obtain ⟨us, rx, px, _⟩ := I.tuple ha
    obtain ⟨vs, ry, py, _⟩ := I.tuple hb
    have l1 := rx.length
    have l2 := ry.length
    refine SeqAt.eq_tupleAt (e := e) (show s.heap.IsTuple p us.toArray from px) (show s.heap.IsTuple q vs.toArray from py) (by omega) (fun j h1 h2 => ?_) (by rw [List.size_toArray, List.size_toArray, ← l1, ← l2]; exact fin)
    obtain ⟨x, ex, rx'⟩ := rx.at (j := j) (by simpa using h1)
    obtain ⟨y, ey, ry'⟩ := ry.at (j := j) (by simpa using h2)
    exact (h j x y ex ey).at I (A := X.A.in1) (by show X.A.units + 1 + n < cLine; omega) (by simpa using rx') (by simpa using ry')
theorem op_neD (hu : X.A.units + 8 < cLine) : OpR X (compareOp .NotEq) (rEqD X.K true) := by
  intro pins s σ H x y u v Q I ru rv h
  obtain ⟨n, b, p, q, rfl, rfl, hn, d, hq⟩ := h
  obtain rfl : u = Value.ref p := ru
  obtain rfl : v = Value.ref q := rv
  have fin : EP X pins σ Q (.bool (!b)) s := ⟨.bl (!b), H, I, rfl, hq⟩
  cases d with
  | flat fx fy => exact absurd (show false = true from fx) Bool.false_ne_true
  | @lsts n _ _ xs ys e ha hb hl h =>
    obtain ⟨us, rx, px, _⟩ := I.list ha
    obtain ⟨vs, ry, py, _⟩ := I.list hb
    have l1 := rx.length
    have l2 := ry.length
    refine SeqAt.RcNeAt.lists (e := e) px.isList py.isList (by rw [List.size_toArray, List.size_toArray]; omega) (by omega) (fun j h1 h2 => ?_) _ _ _ _ (by rw [List.size_toArray, ← l1]; exact fin)
    obtain ⟨x, ex, rx'⟩ := rx.at (j := j) (by simpa using h1)
    obtain ⟨y, ey, ry'⟩ := ry.at (j := j) (by simpa using h2)
    exact (h j x y ex ey).at I (A := X.A.in1) (by show X.A.units + 1 + n < cLine; omega) (by simpa using rx') (by simpa using ry')
  | @lens n _ _ xs ys ha hb hl =>
    obtain ⟨us, rx, px, _⟩ := I.list ha
    obtain ⟨vs, ry, py, _⟩ := I.list hb
    have l1 := rx.length
    have l2 := ry.length
    exact SeqAt.RcNeAt.lists_lengths px.isList py.isList (by rw [List.size_toArray, List.size_toArray]; simp; omega) (by omega) _ _ _ _ fin
  | @tups n _ _ xs ys e ha hb h =>
    obtain ⟨us, rx, px, _⟩ := I.tuple ha
    obtain ⟨vs, ry, py, _⟩ := I.tuple hb
    have l1 := rx.length
    have l2 := ry.length
    refine SeqAt.RcNeAt.tuples (e := e) (show s.heap.IsTuple p us.toArray from px) (show s.heap.IsTuple q vs.toArray from py) (by omega) (fun j h1 h2 => ?_) _ _ _ _ (by rw [List.size_toArray, List.size_toArray, ← l1, ← l2]; exact fin)
    obtain ⟨x, ex, rx'⟩ := rx.at (j := j) (by simpa using h1)
    obtain ⟨y, ey, ry'⟩ := ry.at (j := j) (by simpa using h2)
    exact (h j x y ex ey).at I (A := X.A.in1) (by show X.A.units + 1 + n < cLine; omega) (by simpa using rx') (by simpa using ry')
end
end L2

/-! ## own words over the layer: heaps, pairs, webs, loops over lists and tuples -/
namespace My
open PySem L2
abbrev IL (ns : List Int) : List V := ns.map V.int
theorem il_length (ns : List Int) : (IL ns).length = ns.length := List.length_map ..
theorem il_append (a b : List Int) : IL (a ++ b) = IL a ++ IL b := List.map_append ..
theorem il_snoc (a : List Int) (r : Int) : IL (a ++ [r]) = IL a ++ [.int r] := List.map_append ..
theorem il_take (a : List Int) (n : Nat) : IL (a.take n) = (IL a).take n := List.map_take ..
theorem il_drop (a : List Int) (n : Nat) : IL (a.drop n) = (IL a).drop n := List.map_drop ..
theorem il_at {ns : List Int} {i : Nat} {z : Int} (h : ns[i]? = some z) : (IL ns)[i]? = some (.int z) := by rw [List.getElem?_map, h]; rfl
theorem il_get {ns : List Int} {i : Nat} {x : V} (h : (IL ns)[i]? = some x) : ∃ z, x = .int z ∧ ns[i]? = some z := by
  rw [List.getElem?_map] at h
  cases e : ns[i]? with
  | none => rw [e] at h; cases h
  | some z => rw [e] at h; exact ⟨z, (Option.some.inj h).symm, rfl⟩
theorem same_upd {H H2 : Hp} {a : Addr} {o : HO} (hn : H a = none) (s : Same H H2) : Same H (upd H2 a o) := fun b u e => by rw [upd_ne (ne_of_none e hn)]; exact s b u e
theorem same_new {H H2 : Hp} {p : Addr} {o : HO} (s : Same H H2) (hp : H2 p = none) : Same H (upd H2 p o) := same_upd (s.free hp) s
theorem same_at {H : Hp} {p : Addr} {o : HO} (hp : H p = none) : Same H (upd H p o) := same_new (Same.refl H) hp
theorem sqT_same {K : PySem.W.Frag} {H H' : Hp} {a : Addr} {xs : List V} (e : Same H H') (h : SqT K H a xs) : SqT K H' a xs := by
  rcases h with (h | ⟨o, h⟩) | h
  · exact .inl (.inl (e _ _ h))
  · exact .inl (.inr ⟨o, e _ _ h⟩)
  · exact .inr h
theorem small60 {n : Nat} (h : n ≤ 1000000) : n ≤ sizeLine := Nat.le_trans h (by decide)
theorem small60' {n : Nat} (h : n ≤ 1000000) : n < sizeLine := Nat.lt_of_le_of_lt h (by decide)
theorem hu8 {A : Around} {k : Nat} (hr : Room k A) : A.units + 8 < cLine := Nat.lt_of_le_of_lt (Nat.add_le_add_left (by decide : 8 ≤ 64) _) hr.units
/-- a list's item by a reckoned index -/
theorem atI_of {α : Type} {xs : List α} {i : Int} {n : Nat} {x : α} (hi : i = (n : Int)) (h : xs[n]? = some x) : atI xs i = some x := by
  subst hi
  have hn : n < xs.length := (List.getElem?_eq_some_iff.mp h).1
  unfold atI ixN
  rw [if_pos (Int.natCast_nonneg n), if_pos (by omega)]
  simpa using h
/-! ### tests -/
theorem itd {c A B : Prop} [Decidable c] (hc : c) (h : A) : if decide c = true then A else B := by rw [if_pos (decide_eq_true hc)]; exact h
theorem itdn {c A B : Prop} [Decidable c] (hc : ¬ c) (h : B) : if decide c = true then A else B := by rw [if_neg (by simp [hc])]; exact h
theorem itn {c A B : Prop} [Decidable c] (hc : c) (h : B) : if (!decide c) = true then A else B := by rw [if_neg (by simp [hc])]; exact h
theorem itnn {c A B : Prop} [Decidable c] (hc : ¬ c) (h : A) : if (!decide c) = true then A else B := by rw [if_pos (by simp [hc])]; exact h
theorem itd2 {c A B : Prop} [Decidable c] (h1 : c → A) (h2 : ¬ c → B) : if decide c = true then A else B := by
  by_cases h : c
  · exact itd h (h1 h)
  · exact itdn h (h2 h)
theorem itn2 {c A B : Prop} [Decidable c] (h1 : c → B) (h2 : ¬ c → A) : if (!decide c) = true then A else B := by
  by_cases h : c
  · exact itn h (h1 h)
  · exact itnn h (h2 h)
theorem itb {b : Bool} {A B : Prop} (h1 : b = true → A) (h2 : b = false → B) : if b = true then A else B := by
  cases b with
  | true => exact iteT (h1 rfl)
  | false => exact iteF (h2 rfl)
theorem itnb {b : Bool} {A B : Prop} (h1 : b = true → B) (h2 : b = false → A) : if (!b) = true then A else B := by
  cases b with
  | true => exact iteF (h1 rfl)
  | false => exact iteT (h2 rfl)
/-! ### lists or tuples -/
/-- a list (false) or a tuple (true) -/
def SqK (k : Bool) (K : PySem.W.Frag) (H : Hp) (a : Addr) (xs : List V) : Prop := match k with
  | false => SqL K H a xs
  | true => SqT K H a xs
theorem SqK.same {k : Bool} {K : PySem.W.Frag} {H H' : Hp} {a : Addr} {xs : List V} (e : Same H H') (h : SqK k K H a xs) : SqK k K H' a xs := by
  cases k with
  | false => exact e.seq h
  | true => exact sqT_same e h
theorem SqK.or {k : Bool} {K : PySem.W.Frag} {H : Hp} {a : Addr} {xs : List V} (h : SqK k K H a xs) : SqL K H a xs ∨ SqT K H a xs := by
  cases k with
  | false => exact .inl h
  | true => exact .inr h
def iSeq (K : PySem.W.Frag) (tl : TE) : TI := fun σ H R => tl σ H fun x H1 => ∃ a, x = .ref a ∧ (((∃ xs, SqL K H1 a xs) ∧ R (Itl K a) H1) ∨ ((∃ xs, SqT K H1 a xs) ∧ R (Itt K a) H1))
theorem pi_seq {X : Cx} {tg : Expr} {l : Expr} {tl : TE} (hl : PE X l tl) : PI X tg l (iSeq X.K tl) := by
  intro pins s σ H R I h
  refine thn (hl pins s σ H _ I h) fun v s1 ⟨x, H1, I1, r1, q1⟩ => ?_
  obtain ⟨a, e, q⟩ := q1
  subst e
  cases r1
  rcases q with ⟨⟨xs, hq⟩, q⟩ | ⟨⟨xs, hq⟩, q⟩
  · obtain ⟨its, rv, p, hz⟩ := I1.list hq
    refine wpAny_pyIter_list p.isList ?_
    refine ⟨s1.heap.objs.size, [s1.heap.objs.size], _, _, H1, rfl, I1.kept (t' := s1.toks) fun b o e => Heap.get?_push_of_some _ e, turn_list a _, ⟨_, Heap.get?_push_size _ rfl, rfl, rfl⟩, fun b hb => ?_, q⟩
    have e : b = s1.heap.objs.size := by simpa using hb
    subst e
    exact I1.fpOk (Nat.le_refl _) (I1.hok.fresh (Nat.le_refl _))
  · obtain ⟨its, rv, p, hz⟩ := I1.tuple hq
    refine wpAny_pyIter_tuple (show s1.heap.IsTuple a its.toArray from p) ?_
    refine ⟨s1.heap.objs.size, [s1.heap.objs.size], _, _, H1, rfl, I1.kept (t' := s1.toks) fun b o e => Heap.get?_push_of_some _ e, turn_tuple a _, ⟨_, Heap.get?_push_size _ rfl, rfl, rfl⟩, fun b hb => ?_, q⟩
    have e : b = s1.heap.objs.size := by simpa using hb
    subst e
    exact I1.fpOk (Nat.le_refl _) (I1.hok.fresh (Nat.le_refl _))
/-- a loop over a list or a tuple that the body leaves as it is -/
theorem for_seq {K : PySem.W.Frag} {k : Bool} {a : Addr} {xs : List V} {g : TG} {tb : TS} {D : Ends} {σ : St} {H : Hp} (Pv : Nat → St → Hp → Prop) (h0 : Pv 0 σ H) (hl : ∀ i σ H, i ≤ xs.length → Pv i σ H → SqK k K H a xs)
    (hs : ∀ i x σ H, xs[i]? = some x → Pv i σ H → g x σ H fun σ2 H2 => tb { D with nx := Pv (i + 1), ct := Pv (i + 1), bk := D.nx } σ2 H2) (hd : ∀ σ H, Pv xs.length σ H → D.nx σ H) :
    (((∃ xs, SqL K H a xs) ∧ ∃ W : Nat → Nat → St → Hp → Prop, (∃ m, W 0 m σ H) ∧ ∀ i m σ H, W i m σ H →
      ((Itl K a).stop i H ∧ D.nx σ H) ∨ ((Itl K a).go i H ∧ ∃ N : St → Hp → Prop, (∀ σ' H', N σ' H' → ∃ m', m' < m ∧ W (i + 1) m' σ' H') ∧ ∀ x H', (Itl K a).yld i H x H' → g x σ H' fun σ2 H2 => tb { D with nx := N, ct := N, bk := D.nx } σ2 H2)) ∨
     ((∃ xs, SqT K H a xs) ∧ ∃ W : Nat → Nat → St → Hp → Prop, (∃ m, W 0 m σ H) ∧ ∀ i m σ H, W i m σ H →
      ((Itt K a).stop i H ∧ D.nx σ H) ∨ ((Itt K a).go i H ∧ ∃ N : St → Hp → Prop, (∀ σ' H', N σ' H' → ∃ m', m' < m ∧ W (i + 1) m' σ' H') ∧ ∀ x H', (Itt K a).yld i H x H' → g x σ H' fun σ2 H2 => tb { D with nx := N, ct := N, bk := D.nx } σ2 H2))) := by
  cases k with
  | false => exact .inl ⟨⟨xs, hl 0 σ H (Nat.zero_le _) h0⟩, for_list (K := K) (a := a) (xs := xs) Pv h0 hl hs hd⟩
  | true => exact .inr ⟨⟨xs, hl 0 σ H (Nat.zero_le _) h0⟩, for_tup (K := K) (a := a) (xs := xs) Pv h0 hl hs hd⟩
/-! ### pairs of ints -/
def PairV (H : Hp) (v : V) (p : Int × Int) : Prop := ∃ t, v = .ref t ∧ H t = some (.tup [.int p.1, .int p.2])
def PairsV (H : Hp) (xs : List V) (ps : List (Int × Int)) : Prop := xs.length = ps.length ∧ ∀ (i : Nat) (p : Int × Int), ps[i]? = some p → ∃ v, xs[i]? = some v ∧ PairV H v p
theorem PairV.same {H H' : Hp} {v : V} {p : Int × Int} (s : Same H H') (h : PairV H v p) : PairV H' v p := let ⟨t, e, q⟩ := h; ⟨t, e, s _ _ q⟩
theorem PairsV.same {H H' : Hp} {xs : List V} {ps : List (Int × Int)} (s : Same H H') (h : PairsV H xs ps) : PairsV H' xs ps := ⟨h.1, fun i p e => let ⟨v, e1, q⟩ := h.2 i p e; ⟨v, e1, q.same s⟩⟩
theorem PairsV.at {H : Hp} {xs : List V} {ps : List (Int × Int)} (h : PairsV H xs ps) {i : Nat} {v : V} (e : xs[i]? = some v) : ∃ p, ps[i]? = some p ∧ PairV H v p := by
  have hi : i < xs.length := (List.getElem?_eq_some_iff.mp e).1
  have hp : i < ps.length := by rw [← h.1]; exact hi
  obtain ⟨v', e1, q⟩ := h.2 i ps[i] (List.getElem?_eq_getElem hp)
  rw [e] at e1
  cases e1
  exact ⟨_, List.getElem?_eq_getElem hp, q⟩
theorem PairsV.nil {H : Hp} : PairsV H [] [] := ⟨rfl, fun i p e => by simp at e⟩
theorem PairsV.snoc {H : Hp} {xs : List V} {ps : List (Int × Int)} {v : V} {p : Int × Int} (h : PairsV H xs ps) (q : PairV H v p) : PairsV H (xs ++ [v]) (ps ++ [p]) := by
  refine ⟨by rw [List.length_append, List.length_append, h.1]; rfl, fun i p' e => ?_⟩
  by_cases hi : i < ps.length
  · rw [List.getElem?_append_left hi] at e
    rw [List.getElem?_append_left (by rw [h.1]; exact hi)]
    exact h.2 i p' e
  · have hl : i = ps.length := by
      have := (List.getElem?_eq_some_iff.mp e).1
      rw [List.length_append, List.length_singleton] at this
      omega
    subst hl
    rw [List.getElem?_append_right (Nat.le_refl _), Nat.sub_self] at e
    rw [List.getElem?_append_right (by rw [h.1]; exact Nat.le_refl _), h.1, Nat.sub_self]
    have e' : p = p' := Option.some.inj e
    subst e'
    exact ⟨v, rfl, q⟩
/-! ### a Web -/
theorem pt_ne : ¬ (("places" : Str) = "ties") := by decide +kernel
def wf (n : Int) (tl : Addr) : List (Str × V) := putF "ties" (.ref tl) (putF "places" (.int n) [])
theorem wf_places (n : Int) (tl : Addr) : (wf n tl).lookup ("places" : Str) = some (.int n) := by
  unfold wf
  rw [lookup_putF, if_neg pt_ne, lookup_putF, if_pos rfl]
theorem wf_ties (n : Int) (tl : Addr) : (wf n tl).lookup ("ties" : Str) = some (.ref tl) := by
  unfold wf
  rw [lookup_putF, if_pos rfl]
/-- a Web of n places stands at w, its ties ps -/
def WebAt (C : Addr) (H : Hp) (w : Addr) (n : Int) (ps : List (Int × Int)) : Prop := ∃ dx tl xs, H w = some (.ins C dx (wf n tl)) ∧ H tl = some (.lst xs) ∧ PairsV H xs ps
theorem WebAt.same {C : Addr} {H H' : Hp} {w : Addr} {n : Int} {ps : List (Int × Int)} (s : Same H H') (h : WebAt C H w n ps) : WebAt C H' w n ps := let ⟨dx, tl, xs, a, b, c⟩ := h; ⟨dx, tl, xs, s _ _ a, s _ _ b, c.same s⟩
/-- what a web keeps to -/
def GoodW (n : Int) (ps : List (Int × Int)) : Prop := 1 ≤ n ∧ n ≤ 14 ∧ ps.length ≤ 30 ∧ ∀ p ∈ ps, 0 ≤ p.1 ∧ p.1 < n ∧ 0 ≤ p.2 ∧ p.2 < n
/-! ### what the top has made -/
def FX (K : PySem.W.Frag) (mg : Str → Option Value) (x qual : Str) (st : Stmt) : Prop := ∃ (f : Addr) (fd : FuncData), mg x = some (.ref f) ∧ Fun K x qual st f fd
theorem fx_mk {K : PySem.W.Frag} {h : Heap} {mg : Str → Option Value} {x : Str} {st : Stmt} {f : Addr} {oc : Value} {od an : Option Addr} {osl : Array (Option Value)} {kV doc pm cdv ct : Value} (X : K.In h) (G : h.Ns mainGlobals mg)
    (a : PySem.W.nsIn K mainGlobals x = some (some (.ref f))) (l : K.lookup f = some ⟨oc, od, .func (PySem.W.fnOf x x (defArgs st) (defBody st) (defScope st) .none kV doc pm an cdv ct), osl⟩) (c : PySem.W.codeIn K cdv x = true) (k : PySem.W.keepIn K (.ref f) = true) : FX K mg x x st :=
  ⟨f, _, PySem.W.mg_of X G a, fun_mk l c k⟩
def CXF (K : PySem.W.Frag) (mg : Str → Option Value) (x qual : Str) (st : Stmt) (fs : List Str) : Prop := ∃ (C f : Addr) (fd : FuncData), mg x = some (.ref C) ∧ Fun K "__init__" qual st f fd ∧ Cls K C ∧ Mk K C f ∧ ∀ a ∈ fs, NoAttr K C a
theorem cx_mk {K : PySem.W.Frag} {h : Heap} {mg : Str → Option Value} {x qual : Str} {fs : List Str} {st : Stmt} {C f : Addr} {oc : Value} {od an : Option Addr} {osl : Array (Option Value)} {kV doc pm cdv ct : Value} (X : K.In h) (G : h.Ns mainGlobals mg)
    (aC : PySem.W.nsIn K mainGlobals x = some (some (.ref C))) (a : PySem.W.findIn K (.ref C) "__init__" = some (some (.ref f))) (i : PySem.W.isFn K (.ref f) = true)
    (l : K.lookup f = some ⟨oc, od, .func (PySem.W.fnOf "__init__" qual (defArgs st) (defBody st) (defScope st) .none kV doc pm an cdv ct), osl⟩) (c : PySem.W.codeIn K cdv qual = true) (k : PySem.W.keepIn K (.ref f) = true)
    (pg : PySem.W.plainGet K C Str.empty = true) (hd : PySem.W.hasDictIn K C = true) (po : PySem.W.plainOver K C = true) (sa : PySem.W.findIn K (.ref C) "__setattr__" = some (some (.builtin "object.__setattr__"))) (mk : PySem.W.makesIn K C = true) (kc : PySem.W.keepIn K (.ref C) = true)
    (na : ∀ a ∈ fs, PySem.W.findIn K (.ref C) a = some none) : CXF K mg x qual st fs :=
  ⟨C, f, _, PySem.W.mg_of X G aC, fun_mk l c k, ⟨pg, hd, po, sa⟩, ⟨mk, a, i, kc⟩, na⟩
theorem const_mk {K : PySem.W.Frag} {h : Heap} {mg : Str → Option Value} {x : Str} {z : Int} {v : Value} (X : K.In h) (G : h.Ns mainGlobals mg) (a : PySem.W.nsIn K mainGlobals x = some (some v)) (e : ∃ tk, v = .int z tk) : ∃ tk, mg x = some (.int z tk) := by
  obtain ⟨tk, rfl⟩ := e
  exact ⟨tk, PySem.W.mg_of X G a⟩
end My

/-! ## comprehensions: the forms one uses -/
namespace My
open PySem L2
theorem nmY {i : Nat} {x : V} {σ : St} {H : Hp} {A B : St → Hp → Prop} (h : A (σ.set i (some x)) H) : gName i x σ H fun σ2 H2 => tYes σ2 H2 fun b H3 => if b = true then A σ2 H3 else B σ2 H3 :=
  (show if true = true then A (σ.set i (some x)) H else B (σ.set i (some x)) H from iteT h)
theorem nm {i : Nat} {x : V} {σ : St} {H : Hp} {Q : St → Hp → Prop} (h : Q (σ.set i (some x)) H) : gName i x σ H Q := h
section
variable {K : PySem.W.Frag} {a : Addr} {xs : List V} {g : TG} {tt : TT} {te : TE} {o : Nat} {fr : List Nat} {σ : St} {H : Hp} {Q : VK}
/-- what a turn wants, by an invariant over turn, items so far, heap -/
abbrev LcTurn (Pv : Nat → List V → Hp → Prop) (g : TG) (tt : TT) (te : TE) (o : Nat) (fr : List Nat) (σ : St) (i : Nat) (x : V) (ys : List V) (H : Hp) : Prop :=
  ∀ S : Nat → List V → Hp → Prop, (∀ ys H, Pv (i + 1) ys H → S (i + 1) ys H) → g x (σC o fr σ) H fun σ2 H2 => tt σ2 H2 fun b H3 => if b = true then te σ2 H3 fun y H4 => S (i + 1) (ys ++ [y]) H4 else S (i + 1) ys H3
theorem lc_list (Pv : Nat → List V → Hp → Prop) (h0 : Pv 0 [] H) (hz : xs.length < sizeLine) (hl : ∀ i ys H, i ≤ xs.length → Pv i ys H → SqL K H a xs ∧ ys.length ≤ i)
    (hs : ∀ i x ys H, xs[i]? = some x → Pv i ys H → LcTurn Pv g tt te o fr σ i x ys H) (hd : ∀ ys H, Pv xs.length ys H → ∀ p, H p = none → Q (.ref p) (upd H p (.lst ys))) : LcR (Itl K a) g tt te o fr σ H Q := by
  refine ⟨fun i m ys H => m = xs.length - i ∧ i ≤ xs.length ∧ Pv i ys H, ⟨xs.length, by simp, Nat.zero_le _, h0⟩, ?_⟩
  rintro i m ys H ⟨rfl, hi, p⟩
  obtain ⟨q, hy⟩ := hl i ys H hi p
  by_cases hlt : i < xs.length
  · refine .inr ⟨⟨xs, xs[i], q, by simp [hlt]⟩, by omega, fun x H' ⟨e, y⟩ => ?_⟩
    subst e
    have hx := y xs q
    exact hs i x ys _ hx p (fun j ys H => ∃ m', m' < xs.length - i ∧ m' = xs.length - j ∧ j ≤ xs.length ∧ Pv j ys H) fun ys H p' => ⟨xs.length - (i + 1), by omega, rfl, hlt, p'⟩
  · have e : i = xs.length := by omega
    subst e
    exact .inl ⟨⟨xs, q, Nat.le_refl _⟩, by omega, hd ys H p⟩
theorem lc_tup (Pv : Nat → List V → Hp → Prop) (h0 : Pv 0 [] H) (hz : xs.length < sizeLine) (hl : ∀ i ys H, i ≤ xs.length → Pv i ys H → SqT K H a xs ∧ ys.length ≤ i)
    (hs : ∀ i x ys H, xs[i]? = some x → Pv i ys H → LcTurn Pv g tt te o fr σ i x ys H) (hd : ∀ ys H, Pv xs.length ys H → ∀ p, H p = none → Q (.ref p) (upd H p (.lst ys))) : LcR (Itt K a) g tt te o fr σ H Q := by
  refine ⟨fun i m ys H => m = xs.length - i ∧ i ≤ xs.length ∧ Pv i ys H, ⟨xs.length, by simp, Nat.zero_le _, h0⟩, ?_⟩
  rintro i m ys H ⟨rfl, hi, p⟩
  obtain ⟨q, hy⟩ := hl i ys H hi p
  by_cases hlt : i < xs.length
  · refine .inr ⟨⟨xs, xs[i], q, by simp [hlt]⟩, by omega, fun x H' ⟨e, y⟩ => ?_⟩
    subst e
    have hx := y xs q
    exact hs i x ys _ hx p (fun j ys H => ∃ m', m' < xs.length - i ∧ m' = xs.length - j ∧ j ≤ xs.length ∧ Pv j ys H) fun ys H p' => ⟨xs.length - (i + 1), by omega, rfl, hlt, p'⟩
  · have e : i = xs.length := by omega
    subst e
    exact .inl ⟨⟨xs, q, Nat.le_refl _⟩, by omega, hd ys H p⟩
theorem lc_seq {k : Bool} (Pv : Nat → List V → Hp → Prop) (h0 : Pv 0 [] H) (hz : xs.length < sizeLine) (hl : ∀ i ys H, i ≤ xs.length → Pv i ys H → SqK k K H a xs ∧ ys.length ≤ i)
    (hs : ∀ i x ys H, xs[i]? = some x → Pv i ys H → LcTurn Pv g tt te o fr σ i x ys H) (hd : ∀ ys H, Pv xs.length ys H → ∀ p, H p = none → Q (.ref p) (upd H p (.lst ys))) :
    ((∃ xs, SqL K H a xs) ∧ LcR (Itl K a) g tt te o fr σ H Q) ∨ ((∃ xs, SqT K H a xs) ∧ LcR (Itt K a) g tt te o fr σ H Q) := by
  cases k with
  | false => exact .inl ⟨⟨xs, (hl 0 [] H (Nat.zero_le _) h0).1⟩, lc_list Pv h0 hz hl hs hd⟩
  | true => exact .inr ⟨⟨xs, (hl 0 [] H (Nat.zero_le _) h0).1⟩, lc_tup Pv h0 hz hl hs hd⟩
theorem lc_range {lo : Int} {n : Nat} (Pv : Nat → List V → Hp → Prop) (h0 : Pv 0 [] H) (hz : n < sizeLine) (hl : ∀ i ys H, i ≤ n → Pv i ys H → ys.length ≤ i)
    (hs : ∀ i ys H, i < n → Pv i ys H → LcTurn Pv g tt te o fr σ i (.int (lo + i)) ys H) (hd : ∀ ys H, Pv n ys H → ∀ p, H p = none → Q (.ref p) (upd H p (.lst ys))) : LcR (Itr lo n) g tt te o fr σ H Q := by
  refine ⟨fun i m ys H => m = n - i ∧ i ≤ n ∧ Pv i ys H, ⟨n, by simp, Nat.zero_le _, h0⟩, ?_⟩
  rintro i m ys H ⟨rfl, hi, p⟩
  have hy := hl i ys H hi p
  by_cases hlt : i < n
  · refine .inr ⟨hlt, by omega, fun x H' ⟨e, y⟩ => ?_⟩
    subst e
    subst y
    exact hs i ys _ hlt p (fun j ys H => ∃ m', m' < n - i ∧ m' = n - j ∧ j ≤ n ∧ Pv j ys H) fun ys H p' => ⟨n - (i + 1), by omega, rfl, hlt, p'⟩
  · have e : i = n := by omega
    subst e
    exact .inl ⟨Nat.le_refl _, by omega, hd ys H p⟩
end
end My
namespace My
open PySem L2
theorem nodup_get {α : Type} {l : List α} (h : l.Nodup) {i j : Nat} {x : α} (a : l[i]? = some x) (b : l[j]? = some x) : i = j := by
  obtain ⟨h1, e1⟩ := List.getElem?_eq_some_iff.mp a
  obtain ⟨h2, e2⟩ := List.getElem?_eq_some_iff.mp b
  exact (List.getElem_inj h).mp (e1.trans e2.symm)
theorem getD_of {α : Type} {l : List α} {i : Nat} {x d : α} (h : l[i]? = some x) : l.getD i d = x := by rw [List.getD_eq_getElem?_getD, h]; rfl
theorem nd_snoc {α : Type} {l : List α} {x : α} (h : l.Nodup) (hx : x ∉ l) : (l ++ [x]).Nodup := by
  rw [List.nodup_append]
  refine ⟨h, by simp, fun a ha b hb => ?_⟩
  rw [List.mem_singleton] at hb
  subst hb
  rintro rfl
  exact hx ha
/-- for i, x in enumerate(a list that the body leaves as it is): a new pair at each turn -/
theorem for_enum {K : PySem.W.Frag} {a : Addr} {xs : List V} {g : TG} {tb : TS} {D : Ends} {σ : St} {H : Hp} (Pv : Nat → St → Hp → Prop) (h0 : Pv 0 σ H) (hl : ∀ i σ H, i ≤ xs.length → Pv i σ H → SqL K H a xs)
    (hs : ∀ (i : Nat) x σ H (p : Addr), H p = none → xs[i]? = some x → Pv i σ H → g (.ref p) σ (upd H p (.tup [.int i, x])) fun σ2 H2 => tb { D with nx := Pv (i + 1), ct := Pv (i + 1), bk := D.nx } σ2 H2) (hd : ∀ σ H, Pv xs.length σ H → D.nx σ H) :
    ∃ W : Nat → Nat → St → Hp → Prop, (∃ m, W 0 m σ H) ∧ ∀ i m σ H, W i m σ H →
      ((Ite K a).stop i H ∧ D.nx σ H) ∨ ((Ite K a).go i H ∧ ∃ N : St → Hp → Prop, (∀ σ' H', N σ' H' → ∃ m', m' < m ∧ W (i + 1) m' σ' H') ∧ ∀ x H', (Ite K a).yld i H x H' → g x σ H' fun σ2 H2 => tb { D with nx := N, ct := N, bk := D.nx } σ2 H2) := by
  refine ⟨fun i m σ H => m = xs.length - i ∧ i ≤ xs.length ∧ Pv i σ H, ⟨xs.length, by simp, Nat.zero_le _, h0⟩, ?_⟩
  rintro i m σ H ⟨rfl, hi, p⟩
  have q := hl i σ H hi p
  by_cases hlt : i < xs.length
  · refine .inr ⟨⟨xs, xs[i], q, by simp [hlt]⟩, Pv (i + 1), fun σ' H' p' => ⟨xs.length - (i + 1), by omega, rfl, hlt, p'⟩, fun x H' ⟨T, y, hT, ex, eH, hy⟩ => ?_⟩
    subst ex eH
    exact hs i y σ H T hT (hy xs q) p
  · have e : i = xs.length := by omega
    subst e
    exact .inl ⟨⟨xs, q, Nat.le_refl _⟩, hd σ H p⟩
end My
namespace My
open PySem L2
end My

/-! ## the rules that name the written part, with it named apart (for a comprehension's block) -/
namespace L2
open PySem PySem.Spec PyProof.Rows
section
variable {X : Cx} {a b o e : Expr} {es : List Expr} {ta tb te to : TE} {t : TA} {pos : Pos}
theorem ix_listK (K : PySem.W.Frag) (h : X.K = K := by rfl) : IxR X (rIxL K) := h ▸ ix_list
theorem ix_tupK (K : PySem.W.Frag) (h : X.K = K := by rfl) : IxR X (rIxT K) := h ▸ ix_tup
theorem sl_listK (K : PySem.W.Frag) (h : X.K = K := by rfl) : SlR X (rSlL K) := h ▸ sl_list
theorem op_inK (K : PySem.W.Frag) (h : X.K = K := by rfl) : OpR X (compareOp .In) (fun x y H Q => ∃ p xs, y = .ref p ∧ (SqL K H p xs ∨ SqT K H p xs) ∧ flatV x = true ∧ xs.all flatV = true ∧ Q (.bl (inV x xs)) H) := h ▸ op_in_seq
theorem op_notInK (K : PySem.W.Frag) (h : X.K = K := by rfl) : OpR X (compareOp .NotIn) (fun x y H Q => ∃ p xs, y = .ref p ∧ (SqL K H p xs ∨ SqT K H p xs) ∧ flatV x = true ∧ xs.all flatV = true ∧ Q (.bl (!inV x xs)) H) := h ▸ op_notIn_seq
theorem op_eqDK (K : PySem.W.Frag) (hu : X.A.units + 8 < cLine) (h : X.K = K := by rfl) : OpR X (compareOp .Eq) (rEqD K false) := h ▸ op_eqD hu
theorem op_neDK (K : PySem.W.Frag) (hu : X.A.units + 8 < cLine) (h : X.K = K := by rfl) : OpR X (compareOp .NotEq) (rEqD K true) := h ▸ op_neD hu
theorem op_catTK (K : PySem.W.Frag) (h : X.K = K := by rfl) : OpR X (binaryOp .Add) (rCatT K) := h ▸ op_catT
theorem pe_fldK (K : PySem.W.Frag) {f : Str} (he : PE X e ta) (hb : attributeBase e f X.env (eval e X.env) = eval e X.env) (h : X.K = K := by rfl) : PE X (.Attribute e f pos) (tFld K ta f) := h ▸ pe_fld he hb
theorem call_lenK (K : PySem.W.Frag) (h : X.K = K := by rfl) : CallR X (.builtin "len") (fun xs H Q => ∃ p ys, xs = [.ref p] ∧ (SqL K H p ys ∨ SqT K H p ys) ∧ Q (.int ys.length) H) := h ▸ call_len_seq
theorem call_listK (K : PySem.W.Frag) (h : X.K = K := by rfl) : CallR X (.type "list") (fun xs H Q => ∃ p ys, xs = [.ref p] ∧ (SqL K H p ys ∨ SqT K H p ys) ∧ ∀ l, H l = none → Q (.ref l) (upd H l (.lst ys))) := h ▸ call_list_of
theorem call_tupleK (K : PySem.W.Frag) (h : X.K = K := by rfl) : CallR X (.type "tuple") (fun xs H Q => ∃ p ys, xs = [.ref p] ∧ ((SqL K H p ys ∧ ∀ l, H l = none → Q (.ref l) (upd H l (.tup ys))) ∨ (SqT K H p ys ∧ Q (.ref p) H))) := h ▸ call_tuple_of
theorem call_sumK (K : PySem.W.Frag) (hc : X.calm = true) (h : X.K = K := by rfl) : CallR X (.builtin "sum") (fun xs H Q => ∃ (p : Addr) (ns : List Int), xs = [.ref p] ∧ SqL K H p (ns.map V.int) ∧ Q (.int ns.sum) H) := h ▸ call_sum_ints hc
theorem pi_listK (K : PySem.W.Frag) {tg : Expr} {l : Expr} {tl : TE} (hl : PE X l tl) (h : X.K = K := by rfl) : PI X tg l (iList K tl) := h ▸ pi_list hl
theorem pi_tupK (K : PySem.W.Frag) {tg : Expr} {l : Expr} {tl : TE} (hl : PE X l tl) (h : X.K = K := by rfl) : PI X tg l (iTup K tl) := h ▸ pi_tup hl
theorem pi_seqK (K : PySem.W.Frag) {tg : Expr} {l : Expr} {tl : TE} (hl : PE X l tl) (h : X.K = K := by rfl) : PI X tg l (My.iSeq K tl) := h ▸ My.pi_seq hl
theorem pi_enumK (K : PySem.W.Frag) {elts : List Expr} {x1 : Nat} {tpos : Pos} {a : Expr} {ta : TA} {p pos : Pos} (hg : Gl X "enumerate") (hm : X.mg "enumerate" = none) (ha : PA X [a] ta) (hs : starEach [a] X.env = [(false, eval a X.env)] := by rfl) (h : X.K = K := by rfl) :
    PI X (.Tuple elts x1 tpos) (.Call (.Name "enumerate" p) [a] [] pos) (iEnum K ta) := h ▸ pi_enum hg hm ha hs
theorem pg_tupK (K : PySem.W.Frag) {es : List Expr} {k : Nat} {t : TGs} {n : Nat} (hc : X.calm = true) (ht : PGs X es t)
    (hn : (assignEach es X.env).length = n := by rfl) (hst : (assignEach es X.env).findIdx? (·.1) = none := by rfl) (h : X.K = K := by rfl) : PG X (.Tuple es k pos) (gTup K n t) := h ▸ pg_tup hc ht hn hst
theorem pe_bmK (K : PySem.W.Frag) {name : Str} {apos cpos : Pos} {T id : String} {r : V → List V → Hp → VK → Prop} (pa : PlainAttrs T) (slot : Slot T name id) (hty : typeOf (.builtin id) = pure (.type "method_descriptor")) (hm : MtR X id r) (ho : PE X o to) (ha : PA X (e :: es) t)
    (hbase : attributeBase o name X.env (eval o X.env) = eval o X.env := by rfl)
    (hfew : ((backTo cpos (starEach (e :: es) X.env)).all (fun x => !x.1) && (backToKw cpos (keywordEach [] X.env)).all (fun x => x.1.isSome)
      && decide ((e :: es).length + ([] : List Keyword).length + (if ([] : List Keyword).isEmpty then 0 else 1) < 30)) = true := by rfl)
    (hline : (apos.endLine == cpos.line) = true := by rfl) (hs : starEach (e :: es) X.env = (false, eval e X.env) :: starEach es X.env := by rfl) (hplain : (backTo cpos (starEach es X.env)).any (·.1) = false := by rfl) (h : X.K = K := by rfl) :
    PE X (.Call (.Attribute o name apos) (e :: es) [] cpos) (tBM K T r to t) := h ▸ pe_bm pa slot hty hm ho ha hbase hfew hline hs hplain
theorem pe_bm0K (K : PySem.W.Frag) {name : Str} {apos cpos : Pos} {T id : String} {r : V → List V → Hp → VK → Prop} (pa : PlainAttrs T) (slot : Slot T name id) (hty : typeOf (.builtin id) = pure (.type "method_descriptor")) (hm : MtR X id r) (ho : PE X o to)
    (hbase : attributeBase o name X.env (eval o X.env) = eval o X.env := by rfl) (hline : (apos.endLine == cpos.line) = true := by rfl) (h : X.K = K := by rfl) : PE X (.Call (.Attribute o name apos) [] [] cpos) (tBM0 K T r to) := h ▸ pe_bm0 pa slot hty hm ho hbase hline
end
end L2

/-! ## marks: two ways to join, one partition -/
namespace My
/-- the mark at a place -/
abbrev mk (m : List Int) (i : Nat) : Int := m.getD i 0
/-- the program's step: the greater mark gives way -/
def pm (m : List Int) (a b : Nat) : List Int :=
  if min (mk m a) (mk m b) < max (mk m a) (mk m b) then m.map (fun k => if k = max (mk m a) (mk m b) then min (mk m a) (mk m b) else k) else m
/-- the other step: the second mark gives way -/
def lm (m : List Int) (a b : Nat) : List Int :=
  if mk m a ≠ mk m b then m.map (fun k => if k = mk m b then mk m a else k) else m
/-- the places fall alike -/
def SameP (m l : List Int) : Prop := m.length = l.length ∧ ∀ i j, i < m.length → j < m.length → (mk m i = mk m j ↔ mk l i = mk l j)
theorem mk_map (m : List Int) (f : Int → Int) {i : Nat} (h : i < m.length) : mk (m.map f) i = f (mk m i) := by
  simp [mk, List.getD_eq_getElem?_getD, List.getElem?_map, List.getElem?_eq_getElem h]
theorem pm_length (m : List Int) (a b : Nat) : (pm m a b).length = m.length := by unfold pm; split <;> simp
theorem lm_length (m : List Int) (a b : Nat) : (lm m a b).length = m.length := by unfold lm; split <;> simp
/-- two places are alike behind a step -/
def Mrg (m : List Int) (a b i j : Nat) : Prop := mk m i = mk m j ∨ ((mk m i = mk m a ∨ mk m i = mk m b) ∧ (mk m j = mk m a ∨ mk m j = mk m b))
theorem pm_iff {m : List Int} {a b i j : Nat} (hi : i < m.length) (hj : j < m.length) : mk (pm m a b) i = mk (pm m a b) j ↔ Mrg m a b i j := by
  unfold pm Mrg
  split
  · rename_i h
    rw [mk_map _ _ hi, mk_map _ _ hj]
    generalize mk m i = x at *
    generalize mk m j = y at *
    generalize mk m a = p at *
    generalize mk m b = q at *
    by_cases hpq : p < q
    · rw [Int.min_eq_left (by omega), Int.max_eq_right (by omega)]
      split <;> split <;> omega
    · rw [Int.min_eq_right (by omega), Int.max_eq_left (by omega)] at *
      split <;> split <;> omega
  · rename_i h
    generalize mk m i = x at *
    generalize mk m j = y at *
    generalize mk m a = p at *
    generalize mk m b = q at *
    omega
theorem lm_iff {m : List Int} {a b i j : Nat} (hi : i < m.length) (hj : j < m.length) : mk (lm m a b) i = mk (lm m a b) j ↔ Mrg m a b i j := by
  unfold lm Mrg
  split
  · rename_i h
    rw [mk_map _ _ hi, mk_map _ _ hj]
    generalize mk m i = x at *
    generalize mk m j = y at *
    generalize mk m a = p at *
    generalize mk m b = q at *
    split <;> split <;> omega
  · rename_i h
    generalize mk m i = x at *
    generalize mk m j = y at *
    generalize mk m a = p at *
    generalize mk m b = q at *
    omega
theorem SameP.step {m l : List Int} (s : SameP m l) {a b : Nat} (ha : a < m.length) (hb : b < m.length) : SameP (pm m a b) (lm l a b) := by
  obtain ⟨hl, h⟩ := s
  refine ⟨by rw [pm_length, lm_length, hl], fun i j hi hj => ?_⟩
  rw [pm_length] at hi hj
  rw [pm_iff hi hj, lm_iff (by omega) (by omega)]
  unfold Mrg
  rw [h i j hi hj, h i a hi ha, h i b hi hb, h j a hj ha, h j b hj hb]
/-- the marks behind a row of ties (their ends) -/
def pms (n : Nat) (es : List (Nat × Nat)) : List Int := es.foldl (fun m e => pm m e.1 e.2) ((List.range n).map fun (i : Nat) => (i : Int))
def lms (n : Nat) (es : List (Nat × Nat)) : List Int := es.foldl (fun m e => lm m e.1 e.2) ((List.range n).map fun (i : Nat) => (i : Int))
theorem pms_length (n : Nat) (es : List (Nat × Nat)) : (pms n es).length = n := by
  have : ∀ (es : List (Nat × Nat)) (m : List Int), (es.foldl (fun m e => pm m e.1 e.2) m).length = m.length := by
    intro es
    induction es with
    | nil => intro m; rfl
    | cons e es ih => intro m; rw [List.foldl_cons, ih, pm_length]
  unfold pms; rw [this]; simp
theorem lms_length (n : Nat) (es : List (Nat × Nat)) : (lms n es).length = n := by
  have : ∀ (es : List (Nat × Nat)) (m : List Int), (es.foldl (fun m e => lm m e.1 e.2) m).length = m.length := by
    intro es
    induction es with
    | nil => intro m; rfl
    | cons e es ih => intro m; rw [List.foldl_cons, ih, lm_length]
  unfold lms; rw [this]; simp
theorem pms_snoc (n : Nat) (es : List (Nat × Nat)) (e : Nat × Nat) : pms n (es ++ [e]) = pm (pms n es) e.1 e.2 := by unfold pms; rw [List.foldl_append]; rfl
theorem lms_snoc (n : Nat) (es : List (Nat × Nat)) (e : Nat × Nat) : lms n (es ++ [e]) = lm (lms n es) e.1 e.2 := by unfold lms; rw [List.foldl_append]; rfl
theorem same_pms {n : Nat} : ∀ {es : List (Nat × Nat)}, (∀ e ∈ es, e.1 < n ∧ e.2 < n) → SameP (pms n es) (lms n es) := by
  intro es
  have key : ∀ (es : List (Nat × Nat)) (m l : List Int), SameP m l → m.length = n → (∀ e ∈ es, e.1 < n ∧ e.2 < n) → SameP (es.foldl (fun m e => pm m e.1 e.2) m) (es.foldl (fun m e => lm m e.1 e.2) l) := by
    intro es
    induction es with
    | nil => intro m l s _ _; exact s
    | cons e es ih =>
      intro m l s hm he
      have h1 := he e List.mem_cons_self
      exact ih _ _ (s.step (by omega) (by omega)) (by rw [pm_length]; exact hm) fun x hx => he x (List.mem_cons_of_mem _ hx)
  exact key es _ _ ⟨rfl, fun i j _ _ => Iff.rfl⟩ (by simp)
end My

/-! ## places by their marks -/
namespace My
def gstep (g : List (Int × List Int)) (place k : Int) : List (Int × List Int) :=
  if k ∈ g.map (·.1) then g.map (fun kv => if kv.1 = k then (kv.1, kv.2 ++ [place]) else kv) else g ++ [(k, [place])]
def grpA (M : List Int) : Nat → List (Int × List Int)
  | 0 => []
  | i + 1 => gstep (grpA M i) (i : Int) (mk M i)
def grp (M : List Int) : List (Int × List Int) := grpA M M.length
theorem gstep_keys (g : List (Int × List Int)) (p k : Int) : (gstep g p k).map (·.1) = if k ∈ g.map (·.1) then g.map (·.1) else g.map (·.1) ++ [k] := by
  unfold gstep
  split
  · rw [List.map_map]
    refine List.map_congr_left fun kv _ => ?_
    show (if kv.1 = k then (kv.1, kv.2 ++ [p]) else kv).1 = kv.1
    split <;> rfl
  · simp
theorem gstep_nodup {g : List (Int × List Int)} {p k : Int} (h : (g.map (·.1)).Nodup) : ((gstep g p k).map (·.1)).Nodup := by
  rw [gstep_keys]
  split
  · exact h
  · rename_i hk
    rw [List.nodup_append]
    refine ⟨h, by simp, fun a ha b hb => ?_⟩
    rw [List.mem_singleton] at hb
    subst hb
    rintro rfl
    exact hk ha
theorem grpA_nodup (M : List Int) : ∀ i, ((grpA M i).map (·.1)).Nodup
  | 0 => by simp [grpA]
  | i + 1 => gstep_nodup (grpA_nodup M i)
/-- what stands in the groups -/
theorem grpA_mem (M : List Int) : ∀ i kv, kv ∈ grpA M i → ∀ z : Int, z ∈ kv.2 ↔ (0 ≤ z ∧ z < (i : Int) ∧ mk M z.toNat = kv.1)
  | 0, kv, h, z => by simp [grpA] at h
  | i + 1, kv, h, z => by
    unfold grpA gstep at h
    split at h
    · rename_i hk
      obtain ⟨kv0, h0, e⟩ := List.mem_map.mp h
      have ih := grpA_mem M i kv0 h0 z
      by_cases hc : kv0.1 = mk M i
      · rw [if_pos hc] at e
        subst e
        rw [List.mem_append, ih, List.mem_singleton]
        constructor
        · rintro (⟨a, b, c⟩ | rfl)
          · exact ⟨a, by omega, c⟩
          · exact ⟨by omega, by omega, by simpa using hc.symm⟩
        · rintro ⟨a, b, c⟩
          by_cases hz : z < (i : Int)
          · exact .inl ⟨a, hz, c⟩
          · exact .inr (by omega)
      · rw [if_neg hc] at e
        subst e
        rw [ih]
        constructor
        · rintro ⟨a, b, c⟩; exact ⟨a, by omega, c⟩
        · rintro ⟨a, b, c⟩
          refine ⟨a, ?_, c⟩
          by_cases hz : z < (i : Int)
          · exact hz
          · have e : z.toNat = i := by omega
            rw [e] at c
            exact absurd c.symm hc
    · rename_i hk
      rcases List.mem_append.mp h with h0 | h0
      · have ih := grpA_mem M i kv h0 z
        rw [ih]
        constructor
        · rintro ⟨a, b, c⟩; exact ⟨a, by omega, c⟩
        · rintro ⟨a, b, c⟩
          refine ⟨a, ?_, c⟩
          by_cases hz : z < (i : Int)
          · exact hz
          · have e : z.toNat = i := by omega
            rw [e] at c
            exact absurd (List.mem_map.mpr ⟨kv, h0, c.symm⟩) hk
      · rw [List.mem_singleton] at h0
        subst h0
        simp only [List.mem_singleton]
        constructor
        · rintro rfl; exact ⟨by omega, by omega, by simp⟩
        · rintro ⟨a, b, c⟩
          by_cases hz : z < (i : Int)
          · exfalso
            have key := grpA_key M i z.toNat (by omega)
            rw [c] at key
            exact hk key
          · omega
where
  grpA_key (M : List Int) : ∀ i j, j < i → mk M j ∈ (grpA M i).map (·.1)
    | 0, j, h => absurd h (Nat.not_lt_zero j)
    | i + 1, j, h => by
      show mk M j ∈ (gstep (grpA M i) (i : Int) (mk M i)).map (·.1)
      rw [gstep_keys]
      by_cases hj : j < i
      · have := grpA_key M i j hj
        split
        · exact this
        · exact List.mem_append_left _ this
      · have e : j = i := by omega
        subst e
        split
        · assumption
        · simp
theorem grpA_key {M : List Int} {i j : Nat} (h : j < i) : mk M j ∈ (grpA M i).map (·.1) := grpA_mem.grpA_key M i j h
theorem grpA_of_key (M : List Int) : ∀ i k, k ∈ (grpA M i).map (·.1) → ∃ j, j < i ∧ mk M j = k
  | 0, k, h => by simp [grpA] at h
  | i + 1, k, h => by
    have h : k ∈ (gstep (grpA M i) (i : Int) (mk M i)).map (·.1) := h
    rw [gstep_keys] at h
    have old : k ∈ (grpA M i).map (·.1) → ∃ j, j < i + 1 ∧ mk M j = k := fun q => by
      obtain ⟨j, hj, e⟩ := grpA_of_key M i k q
      exact ⟨j, by omega, e⟩
    split at h
    · exact old h
    · rcases List.mem_append.mp h with q | q
      · exact old q
      · rw [List.mem_singleton] at q
        exact ⟨i, by omega, q.symm⟩
/-- one group just where all places are alike -/
theorem grp_one {M : List Int} (hM : 1 ≤ M.length) : (grp M).length = 1 ↔ ∀ i j, i < M.length → j < M.length → mk M i = mk M j := by
  unfold grp
  constructor
  · intro h i j hi hj
    obtain ⟨kv, e⟩ := List.length_eq_one_iff.mp h
    have h1 := grpA_key (M := M) hi
    have h2 := grpA_key (M := M) hj
    rw [e] at h1 h2
    rw [List.map_singleton, List.mem_singleton] at h1 h2
    rw [h1, h2]
  · intro h
    have nd := grpA_nodup M M.length
    have h0 := grpA_key (M := M) (i := M.length) (j := 0) (by omega)
    generalize hg : (grpA M M.length) = g at *
    match g, hg with
    | [], _ => simp at h0
    | [kv], _ => rfl
    | a :: b :: r, hg =>
      exfalso
      obtain ⟨i, hi, e1⟩ := grpA_of_key M M.length a.1 (by rw [hg]; simp)
      obtain ⟨j, hj, e2⟩ := grpA_of_key M M.length b.1 (by rw [hg]; simp)
      have e3 := h i j hi hj
      have : a.1 = b.1 := by rw [← e1, ← e2, e3]
      simp [this] at nd
/-- one value in a list just where all are alike -/
theorem SameP.one {m l : List Int} (s : SameP m l) : (∀ i j, i < m.length → j < m.length → mk m i = mk m j) ↔ (∀ i j, i < l.length → j < l.length → mk l i = mk l j) := by
  obtain ⟨hl, h⟩ := s
  rw [← hl]
  constructor
  · intro q i j hi hj; exact (h i j hi hj).mp (q i j hi hj)
  · intro q i j hi hj; exact (h i j hi hj).mpr (q i j hi hj)
end My
namespace My
theorem grpA_len {M : List Int} : ∀ {i : Nat} {kv : Int × List Int}, kv ∈ grpA M i → kv.2.length ≤ i
  | 0, kv, h => by simp [grpA] at h
  | i + 1, kv, h => by
    unfold grpA gstep at h
    split at h
    · obtain ⟨kv0, h0, e⟩ := List.mem_map.mp h
      have ih := grpA_len h0
      by_cases hc : kv0.1 = mk M i
      · rw [if_pos hc] at e
        subst e
        rw [List.length_append, List.length_singleton]
        omega
      · rw [if_neg hc] at e
        subst e
        omega
    · rcases List.mem_append.mp h with h0 | h0
      · have ih := grpA_len h0
        omega
      · rw [List.mem_singleton] at h0
        subst h0
        simp
end My

/-! ## sets of ints, in, isinstance -/
namespace My
open PySem L2 PyProof.Rows
theorem inV_ints (z : Int) (l : List Int) : inV (.int z) (IL l) = decide (z ∈ l) := by
  unfold inV
  rw [List.any_map]
  rw [Bool.eq_iff_iff, List.any_eq_true, decide_eq_true_iff]
  constructor
  · rintro ⟨y, hy, e⟩
    have e' : y = z := by simpa [eqV] using e
    rw [← e']; exact hy
  · intro h; exact ⟨z, h, by simp [eqV]⟩
theorem flat_ints (l : List Int) : (IL l).all flatV = true := by
  rw [List.all_map, List.all_eq_true]
  intro x _
  rfl
theorem dec_int {a b : Int} : decide (V.int a = V.int b) = decide (a = b) := by
  by_cases h : a = b
  · subst h; simp
  · have h' : ¬ V.int a = V.int b := fun z => h (V.int.inj z)
    rw [decide_eq_false h, decide_eq_false h']
theorem dec_bl {a b : Bool} : decide (V.bl a = V.bl b) = decide (a = b) := by
  by_cases h : a = b
  · subst h; simp
  · have h' : ¬ V.bl a = V.bl b := fun z => h (V.bl.inj z)
    rw [decide_eq_false h, decide_eq_false h']
end My

/-! ## own words about sets of ties, marks and groups -/
namespace My
open PySem L2
/-! from is_set.txt -/
/-- ascending numbers of ties -/
def IsSet (m : Nat) (ns : List Int) : Prop := ∀ i z, ns[i]? = some z → 0 ≤ z ∧ z < (m : Int) ∧ ∀ y, i ≠ 0 → ns[i - 1]? = some y → y < z
/-! from piece_marks.txt -/
/-- the ends of ties -/
def endsOf (ps : List (Int × Int)) (ns : List Int) : List (Nat × Nat) := ns.map fun z => ((ps.getD z.toNat (0, 0)).1.toNat, (ps.getD z.toNat (0, 0)).2.toNat)
theorem endsOf_snoc {ps : List (Int × Int)} {ns : List Int} {i : Nat} {z : Int} (h : ns[i]? = some z) : endsOf ps (ns.take (i + 1)) = endsOf ps (ns.take i) ++ [((ps.getD z.toNat (0, 0)).1.toNat, (ps.getD z.toNat (0, 0)).2.toNat)] := by
  unfold endsOf
  rw [List.take_succ, h]
  simp
theorem mk_some {m : List Int} {i : Nat} (h : i < m.length) : m[i]? = some (mk m i) := by
  rw [List.getElem?_eq_getElem h]
  simp [mk, List.getD_eq_getElem?_getD, List.getElem?_eq_getElem h]
theorem rngI_zero (n : Int) : rngI 0 n = (List.range n.toNat).map fun (i : Nat) => (i : Int) := by
  unfold rngI
  rw [Int.sub_zero]
  refine List.map_congr_left fun i _ => ?_
  omega
/-! from pieces_of.txt -/
/-- a dict of groups: as the addresses of its lists -/
def gkv (g : List (Int × List Int)) (as : List Addr) : List (Key × V) := List.zipWith (fun kv a => ((Sum.inl kv.1 : Key), V.ref a)) g as
theorem gkv_length {g : List (Int × List Int)} {as : List Addr} (h : as.length = g.length) : (gkv g as).length = g.length := by unfold gkv; rw [List.length_zipWith]; omega
theorem gkv_snd : ∀ {g : List (Int × List Int)} {as : List Addr}, as.length = g.length → (gkv g as).map (·.2) = as.map V.ref
  | [], [], _ => rfl
  | [], _ :: _, h => by simp at h
  | _ :: _, [], h => by simp at h
  | kv :: g, a :: as, h => by
    show V.ref a :: (gkv g as).map (·.2) = V.ref a :: as.map V.ref
    rw [gkv_snd (Nat.succ.inj h)]
theorem gkv_keys : ∀ {g g' : List (Int × List Int)} {as : List Addr}, g.map (·.1) = g'.map (·.1) → gkv g as = gkv g' as
  | [], [], _, _ => rfl
  | [], _ :: _, _, h => by simp at h
  | _ :: _, [], _, h => by simp at h
  | kv :: g, kv' :: g', [], _ => rfl
  | kv :: g, kv' :: g', a :: as, h => by
    rw [List.map_cons, List.map_cons, List.cons.injEq] at h
    show ((Sum.inl kv.1 : Key), V.ref a) :: gkv g as = ((Sum.inl kv'.1 : Key), V.ref a) :: gkv g' as
    rw [h.1, gkv_keys h.2]
theorem gkv_snoc : ∀ {g : List (Int × List Int)} {as : List Addr} {kv : Int × List Int} {a : Addr}, as.length = g.length → gkv (g ++ [kv]) (as ++ [a]) = gkv g as ++ [((Sum.inl kv.1 : Key), V.ref a)]
  | [], [], _, _, _ => rfl
  | [], _ :: _, _, _, h => by simp at h
  | _ :: _, [], _, _, h => by simp at h
  | x :: g, y :: as, kv, a, h => by
    show _ :: gkv (g ++ [kv]) (as ++ [a]) = _ :: (gkv g as ++ _)
    rw [gkv_snoc (Nat.succ.inj h)]
theorem gkv_val : ∀ {g : List (Int × List Int)} {as : List Addr} {k : Int}, as.length = g.length →
    (valV (gkv g as) (Sum.inl k : Key) = none ∧ k ∉ g.map (·.1)) ∨ ∃ (j : Nat) (kv : Int × List Int) (a : Addr), g[j]? = some kv ∧ as[j]? = some a ∧ kv.1 = k ∧ valV (gkv g as) (Sum.inl k : Key) = some (.ref a)
  | [], [], k, _ => .inl ⟨rfl, by simp⟩
  | [], _ :: _, _, h => by simp at h
  | _ :: _, [], _, h => by simp at h
  | kv :: g, a :: as, k, h => by
    by_cases e : kv.1 = k
    · refine .inr ⟨0, kv, a, rfl, rfl, e, ?_⟩
      show valV (((Sum.inl kv.1 : Key), V.ref a) :: gkv g as) _ = _
      rw [valV_pos (by rw [e])]
    · have e' : ¬ ((Sum.inl kv.1 : Key) = Sum.inl k) := fun z => e (Sum.inl.inj z)
      have ev : valV (gkv (kv :: g) (a :: as)) (Sum.inl k : Key) = valV (gkv g as) (Sum.inl k : Key) := valV_neg (p := ((Sum.inl kv.1 : Key), V.ref a)) e'
      rcases gkv_val (g := g) (as := as) (k := k) (Nat.succ.inj h) with ⟨h1, h2⟩ | ⟨j, kv', a', h1, h2, h3, h4⟩
      · refine .inl ⟨by rw [ev]; exact h1, ?_⟩
        rw [List.map_cons, List.mem_cons]
        rintro (z | z)
        · exact e z.symm
        · exact h2 z
      · exact .inr ⟨j + 1, kv', a', by simpa using h1, by simpa using h2, h3, by rw [ev]; exact h4⟩
/-- the groups' lists stand apart, and none of them stood ahead of the call -/
structure GrpAt (H0 H : Hp) (g : List (Int × List Int)) (as : List Addr) : Prop where
  len : as.length = g.length
  nd : as.Nodup
  at_ : ∀ (i : Nat) (kv : Int × List Int) (a : Addr), g[i]? = some kv → as[i]? = some a → H a = some (.lst (IL kv.2))
  new : ∀ a ∈ as, H0 a = none
theorem GrpAt.same {H0 H H' : Hp} {g : List (Int × List Int)} {as : List Addr} (s : Same H H') (h : GrpAt H0 H g as) : GrpAt H0 H' g as := ⟨h.len, h.nd, fun i kv a e1 e2 => s _ _ (h.at_ i kv a e1 e2), h.new⟩
theorem GrpAt.mem {H0 H : Hp} {g : List (Int × List Int)} {as : List Addr} (h : GrpAt H0 H g as) {a : Addr} (ha : a ∈ as) : ∃ l, H a = some (.lst l) := by
  obtain ⟨i, hi, e⟩ := List.getElem_of_mem ha
  have hg : i < g.length := by rw [← h.len]; exact hi
  exact ⟨_, h.at_ i g[i] a (List.getElem?_eq_getElem hg) (by rw [List.getElem?_eq_getElem hi, e])⟩
theorem IsSet.all {m : Nat} {ns : List Int} (h : IsSet m ns) : ∀ z ∈ ns, 0 ≤ z ∧ z < (m : Int) := fun z hz => by
  obtain ⟨i, hi, e⟩ := List.getElem_of_mem hz
  obtain ⟨a, b, _⟩ := h i z (by rw [List.getElem?_eq_getElem hi, e])
  exact ⟨a, b⟩
/-! from _law_some.txt -/
theorem IsSet.nil (m : Nat) : IsSet m [] := fun i z e => by simp at e
theorem IsSet.len {m : Nat} : ∀ {ns : List Int}, IsSet m ns → ns.length ≤ m := fun {ns} h => by
  have key : ∀ (i : Nat) (z : Int), ns[i]? = some z → (i : Int) ≤ z := by
    intro i
    induction i with
    | zero => intro z e; exact (h 0 z e).1
    | succ i ih =>
      intro z e
      have hi : i < ns.length := by have := (List.getElem?_eq_some_iff.mp e).1; omega
      have e2 : ns[i]? = some ns[i] := List.getElem?_eq_getElem hi
      have := ih _ e2
      have := (h (i + 1) z e).2.2 ns[i] (by omega) (by rw [Nat.add_sub_cancel]; exact e2)
      omega
  by_cases h0 : ns.length = 0
  · omega
  · have e : ns[ns.length - 1]? = some (ns[ns.length - 1]'(by omega)) := List.getElem?_eq_getElem _
    have a := key _ _ e
    have b := (h _ _ e).2.1
    omega
end My

/-! ## list.index, all and any over a list of bools, == of known data -/
namespace L2
open PySem PySem.Spec PyProof.Rows
section
variable {X : Cx}
end
end L2
namespace My
open PySem L2
section
variable {K : PySem.W.Frag} {H : Hp} {α : Type} [DecidableEq α]
/-- the values bear the data, place by place -/
def Bears (R : V → α → Prop) (xs : List V) (l : List α) : Prop := xs.length = l.length ∧ ∀ (i : Nat) (a : α), l[i]? = some a → ∃ x, xs[i]? = some x ∧ R x a
theorem Bears.at {R : V → α → Prop} {xs : List V} {l : List α} (h : Bears R xs l) {i : Nat} {x : V} (e : xs[i]? = some x) : ∃ a, l[i]? = some a ∧ R x a := by
  have hi : i < xs.length := (List.getElem?_eq_some_iff.mp e).1
  have hl : i < l.length := by rw [← h.1]; exact hi
  obtain ⟨x', e1, q⟩ := h.2 i l[i] (List.getElem?_eq_getElem hl)
  rw [e] at e1
  cases e1
  exact ⟨_, List.getElem?_eq_getElem hl, q⟩
theorem all_dec {l m : List α} (h : l.length = m.length) : (List.range l.length).all (fun i => decide (l[i]? = m[i]?)) = decide (l = m) := by
  rw [Bool.eq_iff_iff, List.all_eq_true, decide_eq_true_iff]
  constructor
  · intro q
    refine List.ext_getElem? fun i => ?_
    by_cases hi : i < l.length
    · exact of_decide_eq_true (q i (List.mem_range.mpr hi))
    · rw [List.getElem?_eq_none (by omega), List.getElem?_eq_none (by omega)]
  · rintro rfl i _
    simp
theorem eqd_lists {R : V → α → Prop} {n : Nat} {p q : Addr} {xs ys : List V} {l m : List α} (hp : SqL K H p xs) (hq : SqL K H q ys) (h1 : Bears R xs l) (h2 : Bears R ys m) (hR : ∀ x y a b, R x a → R y b → EqD K H n x y (decide (a = b))) : EqD K H (n + 1) (.ref p) (.ref q) (decide (l = m)) := by
  by_cases hl : xs.length = ys.length
  · have e := all_dec (l := l) (m := m) (by rw [← h1.1, ← h2.1, hl])
    rw [← e, ← h1.1]
    refine EqD.lsts hp hq hl fun i x y ex ey => ?_
    obtain ⟨a, ea, ra⟩ := h1.at ex
    obtain ⟨b, eb, rb⟩ := h2.at ey
    rw [ea, eb, show decide (some a = some b) = decide (a = b) by simp]
    exact hR x y a b ra rb
  · have e : decide (l = m) = false := decide_eq_false fun z => hl (by rw [h1.1, h2.1, z])
    rw [e]
    exact EqD.lens hp hq hl
theorem eqd_tups {R : V → α → Prop} {n : Nat} {p q : Addr} {xs ys : List V} {l m : List α} (hp : SqT K H p xs) (hq : SqT K H q ys) (h1 : Bears R xs l) (h2 : Bears R ys m) (hR : ∀ x y a b, R x a → R y b → EqD K H n x y (decide (a = b))) : EqD K H (n + 1) (.ref p) (.ref q) (decide (l = m)) := by
  have key := EqD.tups (e := fun i => decide (l[i]? = m[i]?)) hp hq fun i x y ex ey => by
    obtain ⟨a, ea, ra⟩ := h1.at ex
    obtain ⟨b, eb, rb⟩ := h2.at ey
    rw [ea, eb, show decide (some a = some b) = decide (a = b) by simp]
    exact hR x y a b ra rb
  by_cases hl : xs.length = ys.length
  · have e := all_dec (l := l) (m := m) (by rw [← h1.1, ← h2.1, hl])
    rw [← hl, Nat.min_self, h1.1, e, show (l.length == l.length) = true by simp, Bool.and_true] at key
    exact key
  · have e : decide (l = m) = false := decide_eq_false fun z => hl (by rw [h1.1, h2.1, z])
    rw [show (xs.length == ys.length) = false by simpa using hl, Bool.and_false] at key
    rw [e]
    exact key
theorem bears_ints (ns : List Int) : Bears (fun x (z : Int) => x = .int z) (IL ns) ns := ⟨il_length ns, fun i z e => ⟨_, il_at e, rfl⟩⟩
theorem eqd_int {n : Nat} {x y : V} {a b : Int} (hx : x = .int a) (hy : y = .int b) : EqD K H n x y (decide (a = b)) := by
  subst hx hy
  have e : decide (a = b) = eqV (.int a) (.int b) := by
    show decide (a = b) = (a == b)
    rw [Bool.beq_eq_decide_eq]
  rw [e]
  exact EqD.flat rfl rfl
theorem eqd_ints {p q : Addr} {ns ms : List Int} (hp : SqL K H p (IL ns)) (hq : SqL K H q (IL ms)) : EqD K H 1 (.ref p) (.ref q) (decide (ns = ms)) :=
  eqd_lists hp hq (bears_ints ns) (bears_ints ms) fun _ _ _ _ => eqd_int
theorem eqd_tints {p q : Addr} {ns ms : List Int} (hp : SqT K H p (IL ns)) (hq : SqT K H q (IL ms)) : EqD K H 1 (.ref p) (.ref q) (decide (ns = ms)) :=
  eqd_tups hp hq (bears_ints ns) (bears_ints ms) fun _ _ _ _ => eqd_int
end
end My

/-! ## the groups by first places -/
namespace My
def fstB (M : List Int) (p : Nat) : Bool := (List.range p).all fun i => decide (mk M i ≠ mk M p)
def posA (M : List Int) (k : Int) (i : Nat) : List Int := ((List.range i).filter fun j => decide (mk M j = k)).map fun (j : Nat) => (j : Int)
def fstA (M : List Int) (i : Nat) : List Nat := (List.range i).filter (fstB M)
theorem fstB_iff {M : List Int} {p : Nat} : fstB M p = true ↔ ∀ i, i < p → mk M i ≠ mk M p := by
  unfold fstB
  rw [List.all_eq_true]
  constructor
  · intro h i hi; exact of_decide_eq_true (h i (List.mem_range.mpr hi))
  · intro h i hi; exact decide_eq_true (h i (List.mem_range.mp hi))
theorem posA_succ (M : List Int) (k : Int) (i : Nat) : posA M k (i + 1) = posA M k i ++ (if mk M i = k then [(i : Int)] else []) := by
  unfold posA
  rw [List.range_succ, List.filter_append, List.map_append]
  congr 1
  by_cases h : mk M i = k
  · rw [if_pos h, List.filter_cons, if_pos (by simpa using h)]; rfl
  · rw [if_neg h, List.filter_cons, if_neg (by simpa using h)]; rfl
theorem fstA_succ (M : List Int) (i : Nat) : fstA M (i + 1) = fstA M i ++ (if fstB M i = true then [i] else []) := by
  unfold fstA
  rw [List.range_succ, List.filter_append]
  congr 1
  by_cases h : fstB M i = true
  · rw [if_pos h, List.filter_cons, if_pos h]; rfl
  · rw [if_neg h, List.filter_cons, if_neg h]; rfl
theorem grpA_eq (M : List Int) : ∀ i, grpA M i = (fstA M i).map fun p => (mk M p, posA M (mk M p) i)
  | 0 => rfl
  | i + 1 => by
    have ih := grpA_eq M i
    show gstep (grpA M i) (i : Int) (mk M i) = _
    have hk : (mk M i ∈ (grpA M i).map (·.1)) ↔ fstB M i ≠ true := by
      constructor
      · intro h q
        obtain ⟨j, hj, e⟩ := grpA_of_key M i _ h
        exact fstB_iff.mp q j hj e
      · intro h
        by_cases q : ∃ j, j < i ∧ mk M j = mk M i
        · obtain ⟨j, hj, e⟩ := q
          rw [← e]
          exact grpA_key hj
        · exact absurd (fstB_iff.mpr fun j hj e => q ⟨j, hj, e⟩) h
    unfold gstep
    by_cases h : mk M i ∈ (grpA M i).map (·.1)
    · have hf := hk.mp h
      rw [if_pos h, fstA_succ, if_neg hf, List.append_nil, ih, List.map_map]
      refine List.map_congr_left fun p _ => ?_
      show (if mk M p = mk M i then (mk M p, posA M (mk M p) i ++ [(i : Int)]) else (mk M p, posA M (mk M p) i)) = (mk M p, posA M (mk M p) (i + 1))
      rw [posA_succ]
      by_cases e : mk M p = mk M i
      · rw [if_pos e, if_pos e.symm]
      · rw [if_neg e, if_neg (fun z => e z.symm), List.append_nil]
    · have hf : fstB M i = true := by
        cases q : fstB M i with
        | true => rfl
        | false => exact absurd (hk.mpr (by rw [q]; exact Bool.false_ne_true)) h
      rw [if_neg h, fstA_succ, if_pos hf, List.map_append, ih]
      congr 1
      · refine List.map_congr_left fun p hp => ?_
        have hpi : p < i := List.mem_range.mp (List.mem_filter.mp hp).1
        rw [posA_succ, if_neg (fun z => fstB_iff.mp hf p hpi z.symm), List.append_nil]
      · show [(mk M i, [(i : Int)])] = [(mk M i, posA M (mk M i) (i + 1))]
        rw [posA_succ, if_pos rfl]
        have e0 : posA M (mk M i) i = [] := by
          unfold posA
          rw [List.filter_eq_nil_iff.mpr fun j hj => by simpa using fstB_iff.mp hf j (List.mem_range.mp hj)]
          rfl
        rw [e0]
        rfl
end My

/-! ## more own words -/
namespace My
open PySem L2
theorem Bears.imp {α : Type} [DecidableEq α] {R R' : V → α → Prop} {xs : List V} {l : List α} (h : Bears R xs l) (f : ∀ x a, R x a → R' x a) : Bears R' xs l := ⟨h.1, fun i a e => let ⟨x, e1, r⟩ := h.2 i a e; ⟨x, e1, f x a r⟩⟩
end My

/-! ## exceptions of own classes: raised, passing a def, caught by a try -/
namespace L2
open PySem PySem.Spec PyProof.Rows
theorem ObjOk.there {P : Program} {w : World} {H : Hp} {h : Heap} {a : Addr} {o : HO} (x : ObjOk P w H h a o) : ∃ u, h.get? a = some u := by
  cases o with
  | lst xs => obtain ⟨_, _, _, _, e⟩ := x; exact ⟨_, e⟩
  | tup xs => obtain ⟨_, _, _, o, e, _⟩ := x; exact ⟨_, e⟩
  | dK kvs => obtain ⟨_, _, _, _, o, _, _, e, _⟩ := x; exact ⟨_, e⟩
  | dT kvs => obtain ⟨_, _, _, _, o, _, _, e, _⟩ := x; exact ⟨_, e⟩
  | set S n => obtain ⟨o, _, _, _, e, _⟩ := x; exact ⟨_, e⟩
  | ins C dx fs => obtain ⟨_, _, _, e, _⟩ := x; exact ⟨_, e⟩
  | own y => exact x
  | xd fs => obtain ⟨_, ⟨_, _, _, e, _⟩, _⟩ := x; exact ⟨_, e⟩
  | rng lo hi => obtain ⟨_, _, _, e⟩ := x; exact ⟨_, e⟩
  | frz ob u => obtain ⟨e, _⟩ := x; exact ⟨_, e⟩
  | tbl ps => exact ⟨_, x⟩
  | met f y => exact ⟨_, x⟩
  | ext φ => obtain ⟨_, e, _⟩ := x; exact e
/-- an exception in flight at e, of the class C: it and its last entry are new and not tracked -/
structure Fly (h0 : Heap) (H : Hp) (e C : Addr) (h : Heap) : Prop where
  ex : ∃ oe vs T oT ts a0, h.get? e = some oe ∧ oe.cls = .ref C ∧ oe.data = .fields vs ∧ vs[0]? = some a0 ∧ vs[1]? = some (.ref T) ∧ T ≠ e ∧ h.get? T = some oT ∧ oT.data = .fields ts ∧ ts[3]? = some .none ∧ h0.get? T = none ∧ H T = none
  new : h0.get? e = none
  free : H e = none
/-- how it lies behind a call -/
def CXW (P : Program) (w : World) : CXT := fun outer H s E ev s' => ∃ (e C : Addr) (H' : Hp), ev = Value.ref e ∧ s'.os = s.os ∧ AllBare s'.gens ∧ Un (frs outer) [] H H' s.heap s'.heap ∧ HOk P w H' s'.heap ∧ Fly s.heap H' e C s'.heap ∧ E (.ref C) none H'
section
variable {X : Cx} {pins : List (Addr × Obj)} {σ : St} {H : Hp} {s : Shared} {e C : Addr}
/-- the ground that a step of an exception leaves as it is -/
abbrev grd (X : Cx) (h : Heap) (ns : List Addr) : Heap := PySem.W.hideAll h (frs X.stack ++ ns)
theorem grd_get {h : Heap} {ns : List Addr} {b : Addr} {o : Obj} (q : h.get? b = some o) (h1 : b ∉ frs X.stack) (h2 : b ∉ ns) : (grd X h ns).get? b = some o :=
  PySem.W.hideAll_get _ q fun z => (List.mem_append.mp z).elim h1 h2
theorem grd_of {h : Heap} {ns : List Addr} : (grd X h ns).StaysIn h := fun _ _ q => PySem.W.of_hideAll _ q
theorem Inv.was (I : Inv X pins σ H s) (hex : X.ex = []) {b : Addr} (h : s.heap.get? b = none) : X.s₀.heap.get? b = none := by
  cases q : X.s₀.heap.get? b with
  | none => rfl
  | some o =>
    obtain ⟨o', e⟩ := I.base.there b o q (by rw [hex]; simp)
    rw [h] at e; cases e
/-- what is kept where the ground stays -/
theorem hok_grd {P : Program} {w : World} {h' : Heap} {ns : List Addr} {h : Heap} (ok : HOk P w H h) (hf : ∀ b ∈ frs X.stack, H b = none) (hns : ∀ b ∈ ns, H b = none) (k : (grd X h ns).StaysIn h') : HOk P w H h' := fun a o q =>
  (ok a o q).stay (fun b u hb g => k b u (grd_get g (fun z => by
    have := hf b z
    rcases hb with rfl | hb
    · rw [q] at this; cases this
    · rw [hb] at this; cases this) fun z => by
    have := hns b z
    rcases hb with rfl | hb
    · rw [q] at this; cases this
    · rw [hb] at this; cases this)) (fun _ z => z) fun _ _ z => z
theorem frs_stack (hst : X.stack = X.env :: X.outer) (hfr : X.env.frame = some X.env.locals) : frs X.stack = X.env.locals :: frs X.outer := by
  rw [hst]
  unfold frs
  rw [List.filterMap_cons, hfr]
/-- behind the step by which it leaves the frame -/
theorem cx_left (hst : X.stack = X.env :: X.outer) (hfr : X.env.frame = some X.env.locals) (hex : X.ex = []) (I : Inv X pins σ H s) {ns : List Addr} (hns : ∀ b ∈ ns, X.s₀.heap.get? b = none ∧ H b = none) {h' : Heap} {a0 : Value} {E : XK} {s' : Shared}
    (hfl : Heap.FlyingW (grd X s.heap ns) X.outer e (.ref C) a0 h') (up : s.heap.UpToSlots h') (ne : X.s₀.heap.get? e = none) (fe : H e = none) (hE : E (.ref C) none H) (hs : s'.heap = h') (ho : s'.os = s.os) (hg : s'.gens = s.gens) :
    CXW X.prog X.w X.outer X.H₀ X.s₀ E (.ref e) s' := by
  subst hs
  have fst := frs_stack (X := X) hst hfr
  have noL : ∀ b o, X.s₀.heap.get? b = some o → b ≠ X.env.locals := fun b o q => Nat.ne_of_lt (Nat.lt_of_lt_of_le (Heap.lt_size q) I.ok.above)
  have nns : ∀ b o, X.s₀.heap.get? b = some o → b ∉ ns := fun b o q z => by rw [(hns b z).1] at q; cases q
  have nfs : ∀ b o, X.s₀.heap.get? b = some o → b ∉ frs X.outer → b ∉ frs X.stack := fun b o q n z => by
    rw [fst] at z
    rcases List.mem_cons.mp z with z | z
    · exact noL b o q z
    · exact n z
  have nex : ∀ b, b ∉ X.ex := fun b z => by rw [hex] at z; cases z
  have keep : ∀ b o u, X.s₀.heap.get? b = some o → b ∉ frs X.outer → s.heap.get? b = some u → s'.heap.get? b = some u := fun b o u q n g => hfl.1 b u (grd_get g (nfs b o q n) (nns b o q))
  have slot : ∀ b u, b ∈ frs X.outer → s.heap.get? b = some u → ∃ sl, s'.heap.get? b = some { u with slots := sl } := fun b u hb g => by
    obtain ⟨_, o', ho', hd⟩ := I.funs.mem hb
    rw [g] at ho'
    cases ho'
    exact up b u g hd
  refine ⟨e, C, H, rfl, ho.trans I.os, hg ▸ I.bare, ⟨fun b o q n hb _ => ?_, fun b o q n hb _ => ?_, fun b o q n _ => I.base.free b o q n (nex b), fun b o q _ => ?_, I.base.tups, I.base.frzs, I.base.tbls⟩, hok_grd I.hok I.stkFree (fun b hb => (hns b hb).2) hfl.1, ⟨?_, ne, fe⟩, hE⟩
  · exact keep b o o q hb (I.base.keep b o q n hb (nex b))
  · obtain ⟨sl, g⟩ := I.base.slot b o q n hb (nex b)
    obtain ⟨sl', g'⟩ := slot b _ hb g
    exact ⟨sl', g'⟩
  · obtain ⟨u, g⟩ := I.base.there b o q (nex b)
    by_cases hb : b ∈ frs X.outer
    · obtain ⟨sl, g'⟩ := slot b u hb g
      exact ⟨_, g'⟩
    · exact ⟨u, keep b o u q hb g⟩
  · obtain ⟨f1, f2, f3, oe, vs, T, oT, ts, he, ⟨hc, h0⟩, hd, h1, hnT, hTe, hT, hdT, h3⟩ := hfl
    refine ⟨oe, vs, T, oT, ts, a0, he, hc, hd, h0, h1, hTe, hT, hdT, h3, ?_, ?_⟩
    · cases q : X.s₀.heap.get? T with
      | none => rfl
      | some o =>
        obtain ⟨u, g⟩ := I.base.there T o q (nex T)
        by_cases hb : T ∈ frs X.outer
        · obtain ⟨_, o', ho', hd'⟩ := f3.mem hb
          rw [hT] at ho'
          cases ho'
          exact absurd hdT (hd' ts)
        · rw [grd_get g (nfs T o q hb) (nns T o q)] at hnT
          cases hnT
    · cases q : H T with
      | none => rfl
      | some ho =>
        obtain ⟨u, g⟩ := (I.hok T ho q).there
        rw [grd_get g (fun z => by rw [I.stkFree T z] at q; cases q) (fun z => by rw [(hns T z).2] at q; cases q)] at hnT
        cases hnT
theorem fly_base (hst : X.stack = X.env :: X.outer) (I : Inv X pins σ H s) {h0 : Heap} (F : Fly h0 H e C s.heap) : ∃ T a0, Heap.FlyingW (grd X s.heap [e, T]) X.stack e (.ref C) a0 s.heap ∧ h0.get? T = none ∧ H T = none := by
  obtain ⟨oe, vs, T, oT, ts, a0, he, hc, hd, h0', h1, hTe, hT, hdT, h3, nT, fT⟩ := F.ex
  refine ⟨T, a0, ⟨grd_of, PySem.W.hideAll_none _ (by simp), ?_, oe, vs, T, oT, ts, he, ⟨hc, h0'⟩, hd, h1, PySem.W.hideAll_none _ (by simp), hTe, hT, hdT, h3⟩, nT, fT⟩
  exact PySem.W.funFrames_hide I.stack fun env henv a hf => List.mem_append_left _ (List.mem_filterMap.mpr ⟨env, henv, hf⟩)
/-- it leaves the frame on its way -/
theorem leave_fly (hst : X.stack = X.env :: X.outer) (hfr : X.env.frame = some X.env.locals) (hex : X.ex = []) (I : Inv X pins σ H s) (F : Fly X.s₀.heap H e C s.heap) {E : XK} (hE : E (.ref C) none H) {E' : Value → Shared → Prop} :
    wpAny (model X.prog X.w) X.A (leaving X.env (.ref e)) (fun _ s'' => CXW X.prog X.w X.outer X.H₀ X.s₀ E (.ref e) s'') E' s := by
  obtain ⟨T, a0, fl, nT, fT⟩ := fly_base hst I F
  rw [hst] at fl
  refine wpAny_leaves_onW (by rw [I.ok.frames, hst]) hfr fl fun h' fl' up => ?_
  refine cx_left hst hfr hex I (fun b hb => ?_) fl' up F.new F.free hE rfl rfl rfl
  rcases List.mem_cons.mp hb with rfl | hb
  · exact ⟨F.new, F.free⟩
  · rw [List.mem_singleton.mp hb]; exact ⟨nT, fT⟩
/-- it is raised here and leaves the frame -/
theorem leave_made (hst : X.stack = X.env :: X.outer) (hfr : X.env.frame = some X.env.locals) (hex : X.ex = []) (I : Inv X pins σ H s) {h' : Heap} {vs : List Value} (hm : Heap.MadeExcOf s.heap h' e (.ref C) vs) {E : XK} (hE : E (.ref C) none H) {E' : Value → Shared → Prop} :
    wpAny (model X.prog X.w) X.A (leaving X.env (.ref e)) (fun _ s'' => CXW X.prog X.w X.outer X.H₀ X.s₀ E (.ref e) s'') E' { s with heap := h' } := by
  have ff : s.heap.FunFrames (grd X s.heap []) X.stack := PySem.W.funFrames_hide I.stack fun env henv a hf => List.mem_append_left _ (List.mem_filterMap.mpr ⟨env, henv, hf⟩)
  rw [hst] at ff
  refine wpAny_leaves_madeW (base := grd X s.heap []) (h := s.heap) (by rw [I.ok.frames, hst]) hfr grd_of ff hm fun h'' t fl _ _ up => ?_
  have fe : H e = none := by
    cases q : H e with
    | none => rfl
    | some ho =>
      obtain ⟨u, g⟩ := (I.hok e ho q).there
      rw [hm.new] at g
      cases g
  exact cx_left (s' := { s with heap := h'' }) hst hfr hex I (fun b hb => by cases hb) fl ((Heap.UpToSlots.of_keeps hm.keeps).trans up) (I.was hex hm.new) fe hE rfl rfl rfl
/-- the state behind a call that ended in an exception -/
theorem Inv.flown {E : XK} {ev : Value} {s' : Shared} (I : Inv X pins σ H s) (h : CXW X.prog X.w X.stack H s E ev s') : ∃ e C H', ev = Value.ref e ∧ Inv X pins σ H' s' ∧ Fly s.heap H' e C s'.heap ∧ E (.ref C) none H' := by
  obtain ⟨e, C, H', rfl, ho, hg, u, ok, F, hE⟩ := h
  exact ⟨e, C, H', rfl, I.call' (ch := []) ho u ok hg (fun _ z => nomatch z), F, hE⟩
theorem Fly.older {h0 h1 h : Heap} (F : Fly h0 H e C h) (k : ∀ b, h0.get? b = none → h1.get? b = none) : Fly h1 H e C h := by
  obtain ⟨oe, vs, T, oT, ts, a0, he, hc, hd, h0', h1', hTe, hT, hdT, h3, nT, fT⟩ := F.ex
  exact ⟨⟨oe, vs, T, oT, ts, a0, he, hc, hd, h0', h1', hTe, hT, hdT, h3, k _ nT, fT⟩, k _ F.new, F.free⟩
end
section
variable {P : Program} {w : World} {K : PySem.W.Frag} {mg : Str → Option Value} {base : Heap}
/-- a callee's exception passes a def -/
theorem pxs {N : List Str} {qual : Str} {scope : Scope} {f : Addr} {cd : Value} {A : Around} {outer : List Env} {s : Shared} {H : Hp} {E : XK} : Passes (CXW P w) (cxOf (CXW P w) P w K mg base N qual scope f cd A outer s H E) E := by
  intro pins σ H1 s1 ev s' I h
  obtain ⟨e, C, H', rfl, J, F, hE⟩ := I.flown h
  exact leave_fly rfl rfl rfl J (F.older fun b hb => I.was rfl hb) hE
/-- THE RULE for a def that may raise -/
theorem Fun.okX {x qual : Str} {st : Stmt} {f : Addr} {fd : FuncData} {N ps : List Str} {k : Nat} {sp : Sp} (F : Fun K x qual st f fd) (S : FnScope N ps (defScope st)) (len : ∀ vs H Q E, sp vs H Q E → vs.length = ps.length)
    (hbody : ∀ (cdv : Value) (A : Around) (outer : List Env) (s : Shared) (H : Hp) (vs : List V) (Q : VK) (E : XK), Room k (A.deeper (envOfC qual (defScope st) s.heap.objs.size f cdv)) → sp vs H Q E →
      ∃ t, PSs (cxOf (CXW P w) P w K mg base N qual (defScope st) f cdv A outer s H E) (defBody st) t ∧ t { nx := fun _ H' => Q .non H', rt := Q } (start N vs) H) : FnOk P w K mg base (CXW P w) (k + 1) f fd ps sp := by
  obtain ⟨oc, od, kV, doc, pm, an, cdv, ct, osl, rfl, lk, hcd⟩ := F.ex
  exact fn_of lk hcd S len fun A outer s H vs Q E hr hsp => hbody cdv A outer s H vs Q E hr hsp
end
/-- what of the text an own exception's class must have -/
structure XCls (K : PySem.W.Frag) (C : Addr) : Prop where
  ex : PySem.W.excIn K C [.type "ValueError", .type "Exception", .type "BaseException", .type "object"] "ValueError.__new__" = true
  ga : PySem.W.findIn K (.ref C) "__getattribute__" = some (some (.builtin "BaseException.__getattribute__"))
  gh : PySem.W.findIn K (.ref C) "__getattr__" = some none
  cl : PySem.W.findIn K (.ref C) "__class__" = some (some (.builtin "object.__class__"))
  ob : PySem.W.mroIn K C (.type "object") = some true
  bx : PySem.W.mroIn K C (.type "BaseException") = some true
theorem XCls.obj {K : PySem.W.Frag} {C : Addr} {h : Heap} (c : XCls K C) (X : K.In h) : ∃ bm N nm q bs hdct sn sub ab col dd k0 k1 k2 k3 k5 mN, h.get? C = some (excClassObj nm q C N bs bm hdct sn sub ab col dd k0 k1 k2 k3 k5 "ValueError.__new__") ∧ h.Ns N mN ∧ mN "__init__" = none ∧ OwnTail h [.type "ValueError", .type "Exception", .type "BaseException", .type "object"] bm := by
  have q := c.ex
  unfold PySem.W.excIn at q
  split at q
  · rename_i dd cd sl ho
    split at q
    · rename_i C' bm k0 k1 k2 k3 n k5 hm hs
      simp only [Bool.and_eq_true, beq_iff_eq, Bool.not_eq_true'] at q
      obtain ⟨⟨⟨⟨⟨rfl, rfl⟩, hdel⟩, ht⟩, hok⟩, hni⟩ := q
      obtain ⟨nm, bs, mro, ns, qn, hd, sn, sub, ab, col, del⟩ := cd
      dsimp only at hm hdel hok hni
      subst hm hdel
      have hsl : sl = #[k0, k1, k2, k3, some (.builtin "ValueError.__new__"), k5] := by
        obtain ⟨l⟩ := sl
        simp only at hs
        rw [hs]
      subst hsl
      exact ⟨bm, ns, nm, qn, bs, hd, sn, sub, ab, col, dd, k0, k1, k2, k3, k5, _, X _ _ ho, .of_isNs (PySem.W.isNs_of_in X hok), PySem.W.nsMap_none_of_in X hok hni, PySem.W.tail_of_in X ht⟩
    · cases q
  · cases q
/-- raise C(e, ..) -/
def tRaise (C : Addr) (E : XK) (t : TA) : TS := fun _ σ H => t σ H fun vs H1 => vs.length ≤ sizeLine ∧ E (.ref C) none H1
theorem ps_raise {P : Program} {w : World} {K : PySem.W.Frag} {mg : Str → Option Value} {base : Heap} {N : List Str} {qual : Str} {scope : Scope} {f : Addr} {cd : Value} {A : Around} {outer : List Env} {s0 : Shared} {H0 : Hp} {E : XK} {C : Addr} {x : Str} {np cpos pos : Pos} {e₀ : Expr} {rest : List Expr} {t : TA}
    (c : XCls K C) (hm : mg x = some (.ref C)) (ha : PA (cxOf (CXW P w) P w K mg base N qual scope f cd A outer s0 H0 E) (e₀ :: rest) t)
    (hg : Gl (cxOf (CXW P w) P w K mg base N qual scope f cd A outer s0 H0 E) x := by rfl) (hd : (x == ("__debug__" : Str)) = false := by decide)
    (he : starEach (e₀ :: rest) (cxOf (CXW P w) P w K mg base N qual scope f cd A outer s0 H0 E).env = (false, eval e₀ (cxOf (CXW P w) P w K mg base N qual scope f cd A outer s0 H0 E).env) :: starEach rest (cxOf (CXW P w) P w K mg base N qual scope f cd A outer s0 H0 E).env := by rfl)
    (hplain : (backTo cpos (starEach rest (cxOf (CXW P w) P w K mg base N qual scope f cd A outer s0 H0 E).env)).any (·.1) = false := by rfl) :
    PS (cxOf (CXW P w) P w K mg base N qual scope f cd A outer s0 H0 E) (.Raise (some (.Call (.Name x np) (e₀ :: rest) [] cpos)) none pos) (tRaise C E t) := by
  intro pins s σ H D I h
  obtain ⟨tl, NN, nm, q, bs, hdct, sn, sub, ab, col, dd, k0, k1, k2, k3, k5, mN, hC, hN, hni, T⟩ := c.obj I.ok.mod.kin
  refine wpAny_Raise_call_subT (C := C) (nm := nm) (q := q) (N := NN) (bs := bs) (bm := tl) (hdct := hdct) (sn := sn) (sub := sub) (ab := ab) (col := col) (dd := dd) (k0 := k0) (k1 := k1) (k2 := k2) (k3 := k3) (k5 := k5)
    PySem.F.excBase_ValueError (mN := mN) (T.hasType PySem.F.excBase_ValueError.hasBase) (I.ok.hd rfl) (by rw [he]; show (false || (backTo cpos (starEach rest _)).any (·.1)) = false; rw [hplain]; rfl) hni (ld_glob I hg hm ⟨rfl, ?_⟩ hd)
  have h := ha cpos pins s σ H _ I h
  rw [he] at h ⊢
  refine Calls.evalArgs_plain (wpAny_mono h (fun vs s₂ h₂ => ?_) fun _ _ y => y)
  obtain ⟨zs, H2, I2, rz, hz, hE⟩ := h₂
  refine ⟨rfl, by rw [← rz.length]; exact hz, I2.bk _ _ hC, hN.keeps I2.bk, T.keeps I2.bk, fun h' e hme => ?_⟩
  exact leave_made rfl rfl rfl I2 hme hE
end L2

/-! ## try, except C as e; isinstance of a caught exception -/
namespace L2
open PySem PySem.Spec PyProof.Rows
section
variable {X : Cx} {pins : List (Addr × Obj)} {σ : St} {H : Hp} {s : Shared} {e C : Addr}
end
/-! ### the contexts within a try -/
section
variable {X : Cx} {pins pins' : List (Addr × Obj)} {σ : St} {H : Hp} {s : Shared} {R : St → XK} {e C : Addr} {oe : Obj}
end
/-! ### calls that may raise, by what is wanted at these names' values -/
section
variable {X : Cx} {CX : CXT} {k : Nat} {f C : Addr} {fd : FuncData} {ps : List Str} {sp : Sp} {dvs : List V} {ds : List Value} {R : St → XK} {x m : Str} {p pos apos : Pos} {e o : Expr} {es : List Expr} {ta : TE} {t : TA}
end
/-! ### the statement -/
end L2

/-! ## isinstance of a caught exception -/
namespace L2
open PySem PySem.Spec PyProof.Rows PySem.W PySem.Calls Builtin Builtin.ObjectAttr Builtin.Getset_descriptor
section
variable {prog : Program} {w : World} {A : Around} {E : Value → Shared → Prop} {K : PySem.W.Frag} {x C : Addr} {ox : Obj}
end
theorem XCls.isSome {K : PySem.W.Frag} {C : Addr} (c : XCls K C) : (clsIn K C).isSome = true := by
  have q := c.ex
  unfold excIn at q
  unfold clsIn
  split at q
  · rename_i dd cd sl ho
    rw [ho]
    rfl
  · cases q
section
variable {X : Cx}
end
end L2

/-! ## f-texts of ints -/
namespace L2
open PySem PySem.Spec PyProof.Rows
theorem log_small {a : Int} (h1 : -(10 ^ 70) < a) (h2 : a < 10 ^ 70) : a.natAbs.log2 < 1920 := by
  have h : a.natAbs < 10 ^ 70 := by omega
  by_cases h0 : a.natAbs = 0
  · rw [h0]; decide
  · exact (Nat.log2_lt h0).mpr (Nat.lt_trans h (by decide))
/-- the parts of an f-text, from the left; n stand ahead -/
def PJ (X : Cx) (es : List Expr) (t : St → Hp → (Hp → Prop) → Prop) : Prop := ∀ (n : Nat) (pins : List (Addr × Obj)) (s : Shared) (σ : St) (H : Hp) (acc : Str) (Q : Hp → Prop), acc.length ≤ 4000 * n → n + es.length ≤ 100 → Inv X pins σ H s → t σ H Q →
  wpAny (model X.prog X.w) X.A (joinParts acc (evalEach es X.env)) (fun v s' => ∃ x tk H', v = Value.str x tk ∧ Inv X pins σ H' s' ∧ Q H') X.xe s
section
variable {X : Cx} {es : List Expr} {e : Expr} {te : TE} {t : St → Hp → (Hp → Prop) → Prop} {pos : Pos}
theorem line4 : 4000 * 100 ≤ sizeLine := by decide
theorem pj_nil : PJ X [] (fun _ H Q => Q H) := fun n pins s σ H acc Q ha hn I h => by
  refine joinParts_nil ⟨acc, _, H, rfl, I.tok _, h⟩ (Nat.le_trans ha (Nat.le_trans (Nat.mul_le_mul_left _ ?_) line4))
  simpa using hn
theorem pj_str {x : Str} {j : Nat} {p : Pos} (hr : PJ X es t) (hz : x.length ≤ 4000 := by decide +kernel) : PJ X (.Constant (.str x) j p :: es) t := fun n pins s σ H acc Q ha hn I h => by
  have hl : (acc ++ x).length = acc.length + x.length := strLen_append ..
  rw [List.length_cons] at hn
  have hb : (acc ++ x).length ≤ 4000 * (n + 1) := by rw [hl]; omega
  refine joinParts_cons (Calls.Constant_str ⟨Nat.le_trans hb (Nat.le_trans (Nat.mul_le_mul_left _ (by omega)) line4), ?_⟩)
  exact hr (n + 1) pins _ σ H _ Q hb (by omega) (I.tok _) h
def jInt (te : TE) (t : St → Hp → (Hp → Prop) → Prop) : St → Hp → (Hp → Prop) → Prop := fun σ H Q => te σ H fun v H1 => ∃ a : Int, v = .int a ∧ -(10 ^ 70) < a ∧ a < 10 ^ 70 ∧ t σ H1 Q
theorem pj_int {p : Pos} (he : PE X e te) (hr : PJ X es t) : PJ X (.FormattedValue e (-1) none p :: es) (jInt te t) := fun n pins s σ H acc Q ha hn I h => by
  rw [List.length_cons] at hn
  refine joinParts_cons (FormattedValue_plain (thn (he pins s σ H _ I h) fun u s1 ⟨v, H1, I1, r, a, ev, a1, a2, q⟩ => ?_))
  subst ev
  obtain ⟨tk, rfl⟩ := r
  have hlog := log_small a1 a2
  have hlen : (Str.ofString (toString a)).length ≤ 4000 := by
    have z := int_text_length_le (k := 1920) (by decide) hlog
    rw [PySem.ofString_length]
    omega
  refine formatField_int_small hlog ?_
  have hl : (acc ++ Str.ofString (toString a)).length = acc.length + (Str.ofString (toString a)).length := strLen_append ..
  have hb : (acc ++ Str.ofString (toString a)).length ≤ 4000 * (n + 1) := by rw [hl]; omega
  refine ⟨Nat.le_trans hb (Nat.le_trans (Nat.mul_le_mul_left _ (by omega)) line4), ?_⟩
  exact hr (n + 1) pins _ σ H1 _ Q hb (by omega) (I1.tok _) q
def tJoin (t : St → Hp → (Hp → Prop) → Prop) : TE := fun σ H Q => t σ H fun H' => ∀ x : Str, Q (.str x) H'
theorem pe_fstr {v₁ v₂ : Expr} {rest : List Expr} (h : PJ X (v₁ :: v₂ :: rest) t) (hn : (v₁ :: v₂ :: rest).length ≤ 100 := by decide) : PE X (.JoinedStr (v₁ :: v₂ :: rest) pos) (tJoin t) := fun pins s σ H Q I hq =>
  JoinedStr_many (thn (h 0 pins s σ H Str.empty _ (by decide) (by simpa using hn) I hq) fun u s1 ⟨x, tk, H1, eu, I1, q⟩ => by
    subst eu
    exact ⟨.str x, H1, I1, ⟨tk, rfl⟩, q x⟩)
end
end L2

namespace L2
open PySem PySem.Spec PyProof.Rows
/-- no exception is let through -/
theorem passN {P : Program} {w : World} {X : Cx} : Passes (CXW P w) X E0 := fun _ _ _ _ _ _ _ h => by
  obtain ⟨_, _, _, _, _, _, _, _, _, z⟩ := h
  exact z.elim
end L2

/-! ## lists of ints: slices, sums of lists -/
namespace My
open PySem L2
theorem cat_ok {H : Hp} {p1 p2 : Addr} {l1 l2 : List Int} {Q : VK} (h1 : H p1 = some (.lst (IL l1))) (h2 : H p2 = some (.lst (IL l2))) (hl : l1.length + l2.length ≤ 1000000) (k : ∀ r, H r = none → Q (.ref r) (upd H r (.lst (IL (l1 ++ l2))))) : rCat (.ref p1) (.ref p2) H Q := by
  refine ⟨p1, p2, _, _, rfl, rfl, h1, h2, ?_, fun r hr => ?_⟩
  · rw [il_length, il_length]
    exact small60 hl
  · have := k r hr
    rw [il_append] at this
    exact this
def cutI (ns : List Int) (lo hi : Option Int) : List Int := (ns.drop (HT.sIx ns.length 0 lo)).take (HT.sIx ns.length ns.length hi - HT.sIx ns.length 0 lo)
theorem cutI_eq (ns : List Int) (lo hi : Option Int) : cutV (IL ns) lo hi = IL (cutI ns lo hi) := by
  unfold cutV cutI
  rw [il_take, il_drop, il_length]
end My

/-! ## what the laws share: the web made, the number of turns -/
namespace My
open PySem L2
theorem xI {α : Type} {p : α → Prop} {w : α} (h : p w) : ∃ x, p x := ⟨w, h⟩
end My

/-! ## sorted(ints), reversed(list), list(reversed(list)) -/
namespace L2
open PySem PySem.Spec PyProof.Rows
theorem vals_of_ints : ∀ {us : List Value} {ns : List Int}, IntsAre us ns → Vals (ns.map V.int) us
  | [], [], _ => .nil
  | _ :: _, [], h => by cases h
  | [], _ :: _, h => by cases h
  | u :: us, n :: ns, h => by
    cases h with
    | cons _ _ t => exact .cons ⟨_, rfl⟩ (vals_of_ints t)
section
variable {X : Cx}
theorem call_sortedK (K : PySem.W.Frag) (hk : X.K = K := by rfl) : CallR X (.builtin "sorted") (fun xs H Q => ∃ (p : Addr) (ns : List Int), xs = [.ref p] ∧ SqL K H p (ns.map V.int) ∧ ns.length < 64 ∧
    ∀ ms : List Int, ms.Perm ns → ms.Pairwise (· ≤ ·) → ∀ l, H l = none → Q (.ref l) (upd H l (.lst (ms.map V.int)))) := by
  subst hk
  intro pins s σ H xs us Q I r h
  obtain ⟨p, ns, rfl, hq, hn, q⟩ := h
  obtain ⟨u, rfl, ru⟩ := vals1 r
  obtain rfl : u = Value.ref p := ru
  obtain ⟨its, rv, pl, hz⟩ := I.list hq
  have hi := ints_of_vals rv
  have hl : its.length = ns.length := by rw [← rv.length, List.length_map]
  refine sorted_ints pl.isList hi (by omega) fun out ms h1 h2 h3 => ?_
  obtain ⟨e, he⟩ := sortedAll_at s.heap its out
  have hml : ms.length = ns.length := h2.length_eq
  refine ⟨.ref (s.heap.objs.size + 1), _, I.laid (t' := s.toks) (o := .lst (ms.map V.int)) (fun b o g => sortedAll_old g) (Nat.le_succ _) ⟨?_, out.toList, e, vals_of_ints h1, ?_⟩, rfl, q ms h2 h3 _ (I.hok.fresh (Nat.le_succ _))⟩
  · rw [List.length_map, hml]
    have : sizeLine = 16777216 := sizeLine_eq
    omega
  · exact he
end
/-! ### reversed(list) -/
section
variable {X : Cx}
section
variable {prog : Program} {w : World} {A : Around} {E : Value → Shared → Prop} {s : Shared} {it a : Addr} {items : Array Value}
end
end
section
variable {X : Cx} {p p2 pos pos2 : Pos} {e : Expr} {t : TA}
end
end L2

/-! ## sets of ties: ascending lists -/
namespace My
open PySem L2
theorem isSet_iff {m : Nat} {ns : List Int} : IsSet m ns ↔ (∀ z ∈ ns, 0 ≤ z ∧ z < (m : Int)) ∧ ns.Pairwise (· < ·) := by
  constructor
  · intro h
    refine ⟨h.all, ?_⟩
    rw [List.pairwise_iff_getElem]
    intro i j hi hj hij
    induction j with
    | zero => exact absurd hij (Nat.not_lt_zero i)
    | succ j ih =>
      have hj' : j < ns.length := by omega
      have key := (h (j + 1) ns[j + 1] (List.getElem?_eq_getElem hj)).2.2 ns[j] (by omega) (by rw [Nat.add_sub_cancel]; exact List.getElem?_eq_getElem hj')
      by_cases e : i = j
      · subst e; exact key
      · have := ih hj' (by omega)
        omega
  · rintro ⟨ha, hp⟩ i z hz
    obtain ⟨hi, ei⟩ := List.getElem?_eq_some_iff.mp hz
    have hm := ha z (List.mem_of_getElem? hz)
    refine ⟨hm.1, hm.2, fun y h0 hy => ?_⟩
    obtain ⟨hi', ei'⟩ := List.getElem?_eq_some_iff.mp hy
    have := List.pairwise_iff_getElem.mp hp (i - 1) i hi' hi (by omega)
    rw [ei, ei'] at this
    exact this
theorem lt_nodup {ns : List Int} (h : ns.Pairwise (· < ·)) : ns.Nodup := h.imp fun hab e => by omega
theorem IsSet.nodup {m : Nat} {ns : List Int} (h : IsSet m ns) : ns.Nodup := lt_nodup (isSet_iff.mp h).2
end My

/-! ## joined places: the closure of the ties; how many pieces there are -/
namespace My
theorem snoc_ind {α : Type} {P : List α → Prop} (h0 : P []) (h1 : ∀ l x, P l → P (l ++ [x])) : ∀ l, P l := by
  intro l
  rw [← List.reverse_reverse l]
  induction l.reverse with
  | nil => exact h0
  | cons x r ih =>
    rw [List.reverse_cons]
    exact h1 _ _ ih
/-- two places are joined over ties -/
inductive Conn (es : List (Nat × Nat)) : Nat → Nat → Prop
  | refl (i : Nat) : Conn es i i
  | edge {a b : Nat} (h : (a, b) ∈ es) : Conn es a b
  | symm {i j : Nat} : Conn es i j → Conn es j i
  | trans {i j k : Nat} : Conn es i j → Conn es j k → Conn es i k
theorem Conn.mono {es fs : List (Nat × Nat)} (h : ∀ e ∈ es, e ∈ fs) {i j : Nat} (c : Conn es i j) : Conn fs i j := by
  induction c with
  | refl i => exact .refl i
  | edge q => exact .edge (h _ q)
  | symm _ ih => exact .symm ih
  | trans _ _ i1 i2 => exact .trans i1 i2
theorem mk_range {n i : Nat} (h : i < n) : mk ((List.range n).map fun (i : Nat) => (i : Int)) i = (i : Int) := by
  rw [mk_map' h]
where
  mk_map' {n i : Nat} (h : i < n) : mk ((List.range n).map fun (i : Nat) => (i : Int)) i = (i : Int) := by
    simp [mk, List.getD_eq_getElem?_getD, List.getElem?_map, List.getElem?_range h]
def InN (n : Nat) (es : List (Nat × Nat)) : Prop := ∀ e ∈ es, e.1 < n ∧ e.2 < n
theorem InN.snoc {n : Nat} {es : List (Nat × Nat)} {e : Nat × Nat} (h : InN n (es ++ [e])) : InN n es ∧ e.1 < n ∧ e.2 < n := ⟨fun x hx => h x (List.mem_append_left _ hx), h e (by simp)⟩
theorem lms_edge {n : Nat} : ∀ es : List (Nat × Nat), InN n es → ∀ e ∈ es, mk (lms n es) e.1 = mk (lms n es) e.2 := by
  refine snoc_ind (fun _ e h => by cases h) fun es x ih hn e he => ?_
  obtain ⟨h1, h2, h3⟩ := hn.snoc
  have hl := lms_length n es
  have hx := hn e he
  rw [lms_snoc]
  refine (lm_iff (by omega) (by omega)).mpr ?_
  rcases List.mem_append.mp he with q | q
  · exact .inl (ih h1 e q)
  · rw [List.mem_singleton.mp q]
    exact .inr ⟨.inl rfl, .inr rfl⟩
theorem lms_conn {n : Nat} : ∀ es : List (Nat × Nat), InN n es → ∀ i j, i < n → j < n → mk (lms n es) i = mk (lms n es) j → Conn es i j := by
  refine snoc_ind (fun _ i j hi hj h => ?_) fun es x ih hn i j hi hj h => ?_
  · have h : mk ((List.range n).map fun (i : Nat) => (i : Int)) i = mk ((List.range n).map fun (i : Nat) => (i : Int)) j := h
    rw [mk_range hi, mk_range hj] at h
    have : i = j := by omega
    subst this
    exact .refl i
  · obtain ⟨h1, h2, h3⟩ := hn.snoc
    have hl := lms_length n es
    have up : ∀ {i j : Nat}, Conn es i j → Conn (es ++ [x]) i j := fun c => c.mono fun e he => List.mem_append_left _ he
    have ex : Conn (es ++ [x]) x.1 x.2 := .edge (by simp)
    rw [lms_snoc] at h
    rcases (lm_iff (by omega) (by omega)).mp h with q | ⟨q1, q2⟩
    · exact up (ih h1 i j hi hj q)
    · have ci : Conn (es ++ [x]) i x.1 := by
        rcases q1 with q | q
        · exact up (ih h1 i _ hi h2 q)
        · exact (up (ih h1 i _ hi h3 q)).trans ex.symm
      have cj : Conn (es ++ [x]) j x.1 := by
        rcases q2 with q | q
        · exact up (ih h1 j _ hj h2 q)
        · exact (up (ih h1 j _ hj h3 q)).trans ex.symm
      exact ci.trans cj.symm
theorem conn_lms {n : Nat} {es : List (Nat × Nat)} (hn : InN n es) {i j : Nat} (c : Conn es i j) : i = j ∨ (i < n ∧ j < n ∧ mk (lms n es) i = mk (lms n es) j) := by
  induction c with
  | refl i => exact .inl rfl
  | edge q => exact .inr ⟨(hn _ q).1, (hn _ q).2, lms_edge es hn _ q⟩
  | symm _ ih =>
    rcases ih with e | ⟨a, b, c⟩
    · exact .inl e.symm
    · exact .inr ⟨b, a, c.symm⟩
  | trans _ _ i1 i2 =>
    rcases i1 with e | ⟨a, b, c⟩
    · rw [e]; exact i2
    · rcases i2 with e | ⟨a', b', c'⟩
      · rw [← e]; exact .inr ⟨a, b, c⟩
      · exact .inr ⟨a, b', c.trans c'⟩
theorem lms_iff {n : Nat} {es : List (Nat × Nat)} (hn : InN n es) {i j : Nat} (hi : i < n) (hj : j < n) : mk (lms n es) i = mk (lms n es) j ↔ Conn es i j := by
  constructor
  · exact lms_conn es hn i j hi hj
  · intro c
    rcases conn_lms hn c with e | ⟨_, _, e⟩
    · rw [e]
    · exact e
theorem pms_iff {n : Nat} {es : List (Nat × Nat)} (hn : InN n es) {i j : Nat} (hi : i < n) (hj : j < n) : mk (pms n es) i = mk (pms n es) j ↔ Conn es i j := by
  rw [← lms_iff hn hi hj]
  have s := same_pms (n := n) (es := es) hn
  exact s.2 i j (by rw [pms_length]; exact hi) (by rw [pms_length]; exact hj)
theorem same_lms {n : Nat} {es fs : List (Nat × Nat)} (h1 : InN n es) (h2 : InN n fs) (h : ∀ i j, Conn es i j ↔ Conn fs i j) : SameP (lms n es) (lms n fs) := by
  refine ⟨by rw [lms_length, lms_length], fun i j hi hj => ?_⟩
  rw [lms_length] at hi hj
  rw [lms_iff h1 hi hj, lms_iff h2 hi hj]
  exact h i j
/-! ### how many pieces -/
def cnt (M : List Int) : Nat := (fstA M M.length).length
theorem fst_ex (M : List Int) {i : Nat} : ∃ p, p ≤ i ∧ mk M p = mk M i ∧ fstB M p = true := by
  induction i using Nat.strongRecOn with
  | ind i ih =>
    by_cases h : fstB M i = true
    · exact ⟨i, Nat.le_refl _, rfl, h⟩
    · have : ∃ j, j < i ∧ mk M j = mk M i := by
        by_cases q : ∃ j, j < i ∧ mk M j = mk M i
        · exact q
        · exact absurd (fstB_iff.mpr fun j hj e => q ⟨j, hj, e⟩) h
      obtain ⟨j, hj, e⟩ := this
      obtain ⟨p, h1, h2, h3⟩ := ih j hj
      exact ⟨p, by omega, h2.trans e, h3⟩
theorem count_less {p q : Nat → Bool} {x n : Nat} (hx : x < n) (hpx : p x = true) (h : ∀ y, y < n → q y = (p y && !decide (y = x))) : ((List.range n).filter q).length + 1 = ((List.range n).filter p).length := by
  induction n with
  | zero => exact absurd hx (Nat.not_lt_zero x)
  | succ n ih =>
    rw [List.range_succ, List.filter_append, List.filter_append, List.length_append, List.length_append]
    by_cases e : x = n
    · subst e
      have e1 : (List.range x).filter q = (List.range x).filter p := List.filter_congr fun y hy => by
        have hy := List.mem_range.mp hy
        rw [h y (by omega), show decide (y = x) = false from decide_eq_false (by omega)]
        simp
      have e2 : q x = false := by rw [h x (by omega)]; simp
      rw [e1]
      simp [List.filter_cons, e2, hpx]
    · have hq : q n = p n := by rw [h n (by omega), show decide (n = x) = false from decide_eq_false (fun z => e z.symm)]; simp
      have := ih (by omega) fun y hy => h y (by omega)
      simp only [List.filter_cons, List.filter_nil, hq]
      omega
theorem fst_uniq {M : List Int} {p q : Nat} (hp : fstB M p = true) (hq : fstB M q = true) (e : mk M p = mk M q) : p = q := by
  rcases Nat.lt_trichotomy p q with h | h | h
  · exact absurd e (fstB_iff.mp hq p h)
  · exact h
  · exact absurd e.symm (fstB_iff.mp hp q h)
theorem cnt_step {m : List Int} {a b : Nat} (ha : a < m.length) (hb : b < m.length) (hne : mk m a ≠ mk m b) : cnt (lm m a b) + 1 = cnt m := by
  obtain ⟨A, hA1, hA2, hA3⟩ := fst_ex m (i := a)
  obtain ⟨B, hB1, hB2, hB3⟩ := fst_ex m (i := b)
  have hAB : A ≠ B := fun e => hne (by rw [← hA2, ← hB2, e])
  unfold cnt fstA
  rw [lm_length]
  refine count_less (x := max A B) (by omega) ?_ fun y hy => ?_
  · rcases Nat.le_total A B with h | h
    · rw [Nat.max_eq_right h]; exact hB3
    · rw [Nat.max_eq_left h]; exact hA3
  · rw [Bool.eq_iff_iff, Bool.and_eq_true, fstB_iff, fstB_iff]
    have key : ∀ i, i < y → (mk (lm m a b) i = mk (lm m a b) y ↔ Mrg m a b i y) := fun i hi => lm_iff (by omega) hy
    have nmax : (!decide (y = max A B)) = true ↔ y ≠ max A B := by simp
    rw [nmax]
    constructor
    · intro q
      refine ⟨fun i hi e => q i hi ((key i hi).mpr (.inl e)), fun e => ?_⟩
      -- the other one is ahead
      rcases Nat.lt_or_gt_of_ne hAB with h | h
      · have ey : y = B := by omega
        subst ey
        exact q A h ((key A h).mpr (.inr ⟨.inl hA2, .inr hB2⟩))
      · have ey : y = A := by omega
        subst ey
        exact q B h ((key B h).mpr (.inr ⟨.inr hB2, .inl hA2⟩))
    · rintro ⟨q1, q2⟩ i hi e
      rcases (key i hi).mp e with e | ⟨e1, e2⟩
      · exact q1 i hi e
      · have fy : fstB m y = true := fstB_iff.mpr q1
        rcases e2 with e2 | e2
        · have ey : y = A := fst_uniq fy hA3 (e2.trans hA2.symm)
          rcases e1 with e1 | e1
          · exact q1 i hi (e1.trans e2.symm)
          · obtain ⟨p, p1, p2, p3⟩ := fst_ex m (i := i)
            have : p = B := fst_uniq p3 hB3 (by rw [p2, e1, hB2])
            omega
        · have ey : y = B := fst_uniq fy hB3 (e2.trans hB2.symm)
          rcases e1 with e1 | e1
          · obtain ⟨p, p1, p2, p3⟩ := fst_ex m (i := i)
            have : p = A := fst_uniq p3 hA3 (by rw [p2, e1, hA2])
            omega
          · exact q1 i hi (e1.trans e2.symm)
theorem cnt_range (n : Nat) : cnt ((List.range n).map fun (i : Nat) => (i : Int)) = n := by
  unfold cnt fstA
  rw [List.length_map, List.length_range]
  have e : (List.range n).filter (fstB ((List.range n).map fun (i : Nat) => (i : Int))) = List.range n := by
    refine List.filter_eq_self.mpr fun p hp => fstB_iff.mpr fun i hi e => ?_
    have hp := List.mem_range.mp hp
    rw [mk_range (by omega), mk_range hp] at e
    omega
  rw [e, List.length_range]
theorem cnt_one {M : List Int} (hM : 1 ≤ M.length) : cnt M = 1 ↔ ∀ i j, i < M.length → j < M.length → mk M i = mk M j := by
  have e : cnt M = (grp M).length := by
    unfold cnt grp
    rw [grpA_eq, List.length_map]
  rw [e]
  exact grp_one hM
end My

/-! ## trees -/
namespace My
open PySem L2
theorem seq_ix {i : Int} {n : Nat} (h0 : 0 ≤ i) (h1 : i < (n : Int)) : seqIndex? i n = some i.toNat := by
  have e : (if i < 0 then i + (n : Int) else i) = i := if_neg (by omega)
  unfold seqIndex?
  simp only [e]
  rw [if_pos (by simp; omega)]
def IsTree (n : Int) (ps : List (Int × Int)) (ns : List Int) : Prop := IsSet ps.length ns ∧ (ns.length : Int) = n - 1 ∧ ∀ i j, i < n.toNat → j < n.toNat → Conn (endsOf ps ns) i j
theorem ends_in {n : Int} {ps : List (Int × Int)} {ns : List Int} (g : GoodW n ps) (h : ∀ z ∈ ns, 0 ≤ z ∧ z < (ps.length : Int)) : InN n.toNat (endsOf ps ns) := fun e he => by
  obtain ⟨z, hz, rfl⟩ := List.mem_map.mp he
  obtain ⟨z0, z1⟩ := h z hz
  have hp : ps[z.toNat]? = some (ps[z.toNat]'(by omega)) := List.getElem?_eq_getElem _
  rw [getD_of hp]
  obtain ⟨b1, b2, b3, b4⟩ := g.2.2.2 _ (List.mem_of_getElem? hp)
  exact ⟨by omega, by omega⟩
theorem ends_sub {ps : List (Int × Int)} {ns ms : List Int} (h : ∀ z ∈ ns, z ∈ ms) : ∀ e ∈ endsOf ps ns, e ∈ endsOf ps ms := fun e he => by
  obtain ⟨z, hz, rfl⟩ := List.mem_map.mp he
  exact List.mem_map.mpr ⟨z, h z hz, rfl⟩
/-- all places have one mark -/
theorem one_conn {n : Nat} {es : List (Nat × Nat)} (h : InN n es) : (∀ i j, i < (lms n es).length → j < (lms n es).length → mk (lms n es) i = mk (lms n es) j) ↔ ∀ i j, i < n → j < n → Conn es i j := by
  rw [lms_length]
  constructor
  · intro q i j hi hj; exact (lms_iff h hi hj).mp (q i j hi hj)
  · intro q i j hi hj; exact (lms_iff h hi hj).mpr (q i j hi hj)
theorem grp_conn {n : Nat} {es : List (Nat × Nat)} (hn : 1 ≤ n) (h : InN n es) : (grp (pms n es)).length = 1 ↔ ∀ i j, i < n → j < n → Conn es i j := by
  rw [grp_one (by rw [pms_length]; exact hn), (same_pms h).one]
  exact one_conn h
theorem conn_perm {ps : List (Int × Int)} {ns ms : List Int} (h : ∀ z, z ∈ ns ↔ z ∈ ms) {i j : Nat} : Conn (endsOf ps ns) i j ↔ Conn (endsOf ps ms) i j :=
  ⟨fun c => c.mono (ends_sub fun z hz => (h z).mp hz), fun c => c.mono (ends_sub fun z hz => (h z).mpr hz)⟩
end My

/-! ## comprehensions over enumerate; cuts -/
namespace My
open PySem L2
section
variable {K : PySem.W.Frag} {a : Addr} {xs : List V} {g : TG} {tt : TT} {te : TE} {o : Nat} {fr : List Nat} {σ : St} {H : Hp} {Q : VK}
theorem lc_enum (Pv : Nat → List V → Hp → Prop) (h0 : Pv 0 [] H) (hz : xs.length < sizeLine) (hl : ∀ i ys H, i ≤ xs.length → Pv i ys H → SqL K H a xs ∧ ys.length ≤ i)
    (hs : ∀ (i : Nat) x ys H (p : Addr), H p = none → xs[i]? = some x → Pv i ys H → LcTurn Pv g tt te o fr σ i (.ref p) ys (upd H p (.tup [.int i, x]))) (hd : ∀ ys H, Pv xs.length ys H → ∀ p, H p = none → Q (.ref p) (upd H p (.lst ys))) : LcR (Ite K a) g tt te o fr σ H Q := by
  refine ⟨fun i m ys H => m = xs.length - i ∧ i ≤ xs.length ∧ Pv i ys H, ⟨xs.length, by simp, Nat.zero_le _, h0⟩, ?_⟩
  rintro i m ys H ⟨rfl, hi, p⟩
  obtain ⟨q, hy⟩ := hl i ys H hi p
  by_cases hlt : i < xs.length
  · refine .inr ⟨⟨xs, xs[i], q, by simp [hlt]⟩, by omega, fun x H' ⟨T, y, hT, ex, eH, hyy⟩ => ?_⟩
    subst ex eH
    exact hs i y ys H T hT (hyy xs q) p (fun j ys H => ∃ m', m' < xs.length - i ∧ m' = xs.length - j ∧ j ≤ xs.length ∧ Pv j ys H) fun ys H p' => ⟨xs.length - (i + 1), by omega, rfl, hlt, p'⟩
  · have e : i = xs.length := by omega
    subst e
    exact .inl ⟨⟨xs, q, Nat.le_refl _⟩, by omega, hd ys H p⟩
end
/-- the numbers of the ties whose ends have unlike marks -/
def unlike (M : List Int) (ps : List (Int × Int)) (i : Nat) : List Int := ((List.range i).filter fun k => decide (mk M (ps.getD k (0, 0)).1.toNat ≠ mk M (ps.getD k (0, 0)).2.toNat)).map fun (k : Nat) => (k : Int)
theorem unlike_succ (M : List Int) (ps : List (Int × Int)) (i : Nat) : unlike M ps (i + 1) = unlike M ps i ++ (if mk M (ps.getD i (0, 0)).1.toNat ≠ mk M (ps.getD i (0, 0)).2.toNat then [(i : Int)] else []) := by
  unfold unlike
  rw [List.range_succ, List.filter_append, List.map_append]
  congr 1
  by_cases h : mk M (ps.getD i (0, 0)).1.toNat ≠ mk M (ps.getD i (0, 0)).2.toNat
  · rw [if_pos h, List.filter_cons, if_pos (decide_eq_true h)]; rfl
  · rw [if_neg h, List.filter_cons, if_neg (by simpa using h)]; rfl
theorem unlike_len (M : List Int) (ps : List (Int × Int)) (i : Nat) : (unlike M ps i).length ≤ i := by
  unfold unlike
  rw [List.length_map]
  exact Nat.le_trans (List.length_filter_le _ _) (by simp)
/-- the ties other than one -/
def wo (ns : List Int) (z : Int) : List Int := ns.filter fun y => decide (y ≠ z)
theorem wo_mem {ns : List Int} {z y : Int} : y ∈ wo ns z ↔ y ∈ ns ∧ y ≠ z := by unfold wo; rw [List.mem_filter]; simp
theorem wo_len (ns : List Int) (z : Int) : (wo ns z).length ≤ ns.length := List.length_filter_le _ _
theorem wo_take_succ {ns : List Int} {i : Nat} {y z : Int} (h : ns[i]? = some y) : wo (ns.take (i + 1)) z = wo (ns.take i) z ++ (if y ≠ z then [y] else []) := by
  unfold wo
  rw [List.take_succ, h, List.filter_append]
  congr 1
  by_cases e : y ≠ z
  · rw [if_pos e]; show List.filter _ [y] = _; rw [List.filter_cons, if_pos (decide_eq_true e)]; rfl
  · rw [if_neg e]; show List.filter _ [y] = _; rw [List.filter_cons, if_neg (by simpa using e)]; rfl
theorem unlike_same {n : Int} {ps : List (Int × Int)} {M L : List Int} (g : GoodW n ps) (hM : M.length = n.toNat) (s : SameP M L) : unlike M ps ps.length = unlike L ps ps.length := by
  unfold unlike
  congr 1
  refine List.filter_congr fun k hk => ?_
  have hk := List.mem_range.mp hk
  have hp : ps[k]? = some ps[k] := List.getElem?_eq_getElem hk
  rw [getD_of hp]
  obtain ⟨b1, b2, b3, b4⟩ := g.2.2.2 _ (List.mem_of_getElem? hp)
  have := s.2 ps[k].1.toNat ps[k].2.toNat (by omega) (by omega)
  rw [Bool.eq_iff_iff, decide_eq_true_iff, decide_eq_true_iff]
  exact not_congr this
end My

/-! ## rings -/
namespace My
open PySem L2
/-- the ties of a tree whose cut has the tie -/
def ringA (n : Int) (ps : List (Int × Int)) (ns : List Int) (z : Int) (l : List Int) : List Int := l.filter fun y => decide (z ∈ unlike (lms n.toNat (endsOf ps (wo ns y))) ps ps.length)
theorem ringA_succ {n : Int} {ps : List (Int × Int)} {ns : List Int} {z : Int} {l : List Int} {i : Nat} {y : Int} (h : l[i]? = some y) :
    ringA n ps ns z (l.take (i + 1)) = ringA n ps ns z (l.take i) ++ (if z ∈ unlike (lms n.toNat (endsOf ps (wo ns y))) ps ps.length then [y] else []) := by
  unfold ringA
  rw [List.take_succ, h, List.filter_append]
  congr 1
  by_cases e : z ∈ unlike (lms n.toNat (endsOf ps (wo ns y))) ps ps.length
  · rw [if_pos e]; show List.filter _ [y] = _; rw [List.filter_cons, if_pos (decide_eq_true e)]; rfl
  · rw [if_neg e]; show List.filter _ [y] = _; rw [List.filter_cons, if_neg (by simpa using e)]; rfl
theorem ringA_len (n : Int) (ps : List (Int × Int)) (ns : List Int) (z : Int) (l : List Int) : (ringA n ps ns z l).length ≤ l.length := List.length_filter_le _ _
theorem unlike_mem {M : List Int} {ps : List (Int × Int)} {z : Int} (h0 : 0 ≤ z) (h1 : z < (ps.length : Int)) : z ∈ unlike M ps ps.length ↔ mk M (ps.getD z.toNat (0, 0)).1.toNat ≠ mk M (ps.getD z.toNat (0, 0)).2.toNat := by
  unfold unlike
  rw [List.mem_map]
  constructor
  · rintro ⟨k, hk, rfl⟩
    have := of_decide_eq_true (List.mem_filter.mp hk).2
    rw [Int.toNat_natCast]
    exact this
  · intro h
    exact ⟨z.toNat, List.mem_filter.mpr ⟨List.mem_range.mpr (by omega), decide_eq_true h⟩, by omega⟩
/-- two ascending rows of the same numbers are one -/
theorem sorted_uniq {a b : List Int} (h : a.Perm b) (h1 : a.Pairwise (· ≤ ·)) (h2 : b.Pairwise (· ≤ ·)) : a = b := by
  induction a generalizing b with
  | nil => exact (List.Perm.nil_eq h)
  | cons x a ih =>
    cases b with
    | nil => exact absurd h.length_eq (by simp)
    | cons y b =>
      obtain ⟨hx, ha⟩ := List.pairwise_cons.mp h1
      obtain ⟨hy, hb⟩ := List.pairwise_cons.mp h2
      have e : x = y := by
        have m1 : y ∈ x :: a := h.mem_iff.mpr List.mem_cons_self
        have m2 : x ∈ y :: b := h.mem_iff.mp List.mem_cons_self
        rcases List.mem_cons.mp m1 with e1 | e1
        · exact e1.symm
        · rcases List.mem_cons.mp m2 with e2 | e2
          · exact e2
          · have := hx y e1; have := hy x e2; omega
      subst e
      rw [ih (List.Perm.cons_inv h) ha hb]
end My

/-! ## sorted(tuple of ints) -/
namespace L2
open PySem PySem.Spec PyProof.Rows
section
variable {prog : Program} {w : World} {A : Around} {E : Value → Shared → Prop} {s : Shared}
theorem collect_tup {tp : Addr} {vs : List Value} {Q : List Value → Shared → Prop} {ot : Obj} {m : Nat} (ht : s.heap.get? tp = some ot) (hc : ot.cls = .type "tuple") (hd : ot.data = .seq vs.toArray m) (hz : vs.length ≤ sizeLine)
    (k : Q vs { s with heap := (s.heap.push (seqObj "list" #[] 0)).update s.heap.objs.size (Obj.mapSeq (· ++ vs.toArray)) }) : wpAny (model prog w) A (collect (.ref tp)) Q E s := by
  have ht1 : (s.heap.push (seqObj "list" #[] 0)).get? tp = some ot := Heap.get?_push_of_some _ ht
  have hL1 : (s.heap.push (seqObj "list" #[] 0)).get? s.heap.objs.size = some (seqObj "list" #[] 0) := Heap.get?_push_size _ rfl
  unfold collect
  refine wpAny_bind (wpAny_runValue (codeAny_builtin entry_proto_collect' ?_))
  show wpAny _ _ (do again (.builtin "list.__iadd__" ⟨[← newList [], .ref tp], []⟩)) _ _ s
  refine wpAny_bind (wpAny_newList (wpAny_pure ⟨Code.quiet_builtin _ (by decide +kernel), codeAny_builtin entry_list_iadd' ?_⟩))
  show wpAny _ _ (Builtin.List.listExtendWith (.ref s.heap.objs.size) (.ref tp) (.ref s.heap.objs.size)) _ _ { s with heap := s.heap.push (seqObj "list" #[] 0) }
  unfold Builtin.List.listExtendWith
  refine wpAny_bind (wpAny_typeOf (T := "tuple") ⟨ot, ht1, hc⟩ ?_)
  rw [if_pos (by rw [show (Value.type "tuple" == Value.type "tuple") = true from rfl]; simp)]
  refine wpAny_bind (listItems_at ht1 hd ?_)
  refine wpAny_bind (listItems_at (xs := #[]) (n := 0) hL1 rfl ?_)
  rw [if_neg (by simp)]
  refine wpAny_bind (listUpdate_at (xs := #[]) (n := 0) hL1 rfl ?_ (Nat.zero_le _) (by show (#[] ++ vs.toArray).size ≤ sizeLine + 1; simp only [Array.size_append, List.size_toArray, List.length_nil]; omega))
  refine wpAny_pure ?_
  refine wpAny_bind (wpAny_load (get?_update_seq hL1 _) ?_)
  show wpAny _ _ (pure ((#[] : Array Value) ++ vs.toArray).toList) Q E _
  rw [show ((#[] : Array Value) ++ vs.toArray).toList = vs by simp]
  exact wpAny_pure k
theorem sorted_tupI {tp : Addr} {vs : List Value} {ns : List Int} {Q : Value → Shared → Prop} {ot : Obj} {m : Nat} (ht : s.heap.get? tp = some ot) (hc : ot.cls = .type "tuple") (hd : ot.data = .seq vs.toArray m) (hI : IntsAre vs ns) (h64 : vs.length < 64)
    (k : ∀ (out : Array Value) (ms : List Int), IntsAre out.toList ms → ms.Perm ns → ms.Pairwise (· ≤ ·) → Q (.ref (s.heap.objs.size + 1)) { s with heap := sortedAll s.heap vs out }) :
    wpAny (model prog w) A (call (.builtin "sorted") [.ref tp]) Q E s := by
  have hsl : sizeLine = 16777216 := sizeLine_eq
  have hsz : ((s.heap.push (seqObj "list" #[] 0)).update s.heap.objs.size (Obj.mapSeq (· ++ vs.toArray))).objs.size = s.heap.objs.size + 1 := by
    rw [Heap.size_update, size_push']
  have hoL : (((s.heap.push (seqObj "list" #[] 0)).update s.heap.objs.size (Obj.mapSeq (· ++ vs.toArray))).push (seqObj "list" vs.toArray 0)).get? (s.heap.objs.size + 1) = some (seqObj "list" vs.toArray 0) := by
    rw [← hsz]
    exact Heap.get?_push_size _ rfl
  refine Calls.call_function_entry kind_sorted plain_sorted entry_sorted (args_sorted1 _) ?_
  unfold Builtin.«sorted»
  refine wpAny_bind (m := checkCount "sorted" 1 1 _) (wpAny_pure ?_)
  refine wpAny_bind (collect_tup ht hc hd (by omega) ?_)
  refine wpAny_bind (wpAny_newList ?_)
  show wpAny _ _ _ _ _ { s with heap := ((s.heap.push (seqObj "list" #[] 0)).update s.heap.objs.size (Obj.mapSeq (· ++ vs.toArray))).push (seqObj "list" vs.toArray 0) }
  rw [hsz]
  refine wpAny_bind (wpAny_holding (wpAny_call_entry slot_list_sort ⟨_, hoL, rfl⟩ entry_list_sort (list_sort_tree hoL hI h64 fun out ms b1 b2 b3 => ⟨_, rfl, ?_⟩) (args_list_sort _)))
  exact wpAny_pure ⟨_, rfl, k out ms b1 b2 b3⟩
end
section
variable {X : Cx}
theorem call_sortedT (K : PySem.W.Frag) (hk : X.K = K := by rfl) : CallR X (.builtin "sorted") (fun xs H Q => ∃ (p : Addr) (ns : List Int), xs = [.ref p] ∧ SqT K H p (ns.map V.int) ∧ ns.length < 64 ∧
    ∀ ms : List Int, ms.Perm ns → ms.Pairwise (· ≤ ·) → ∀ l, H l = none → Q (.ref l) (upd H l (.lst (ms.map V.int)))) := by
  subst hk
  intro pins s σ H xs us Q I r h
  obtain ⟨p, ns, rfl, hq, hn, q⟩ := h
  obtain ⟨u, rfl, ru⟩ := vals1 r
  obtain rfl : u = Value.ref p := ru
  obtain ⟨its, rv, ⟨ot, h1, h2, m, h3⟩, hz⟩ := I.tuple hq
  have hi := ints_of_vals rv
  have hl : its.length = ns.length := by rw [← rv.length, List.length_map]
  refine sorted_tupI h1 h2 h3 hi (by omega) fun out ms b1 b2 b3 => ?_
  obtain ⟨e, he⟩ := sortedAll_at s.heap its out
  have hml : ms.length = ns.length := b2.length_eq
  refine ⟨.ref (s.heap.objs.size + 1), _, I.laid (t' := s.toks) (o := .lst (ms.map V.int)) (fun b o g => sortedAll_old g) (Nat.le_succ _) ⟨?_, out.toList, e, vals_of_ints b1, he⟩, rfl, q ms b2 b3 _ (I.hok.fresh (Nat.le_succ _))⟩
  rw [List.length_map, hml]
  have : sizeLine = 16777216 := sizeLine_eq
  omega
end
end L2

/-! ## t + u, either may be empty -/
namespace L2
open PySem PySem.Spec PyProof.Rows
section
variable {X : Cx}
/-- t + u: where one of them is empty the other one itself -/
def rCatU (K : PySem.W.Frag) : R2 := fun x y H Q => ∃ a b xs ys, x = .ref a ∧ y = .ref b ∧ SqT K H a xs ∧ SqT K H b ys ∧ xs.length + ys.length ≤ sizeLine ∧
  (xs = [] → Q (.ref b) H) ∧ (xs ≠ [] → ys = [] → Q (.ref a) H) ∧ (xs ≠ [] → ys ≠ [] → ∀ p, H p = none → Q (.ref p) (upd H p (.tup (xs ++ ys))))
theorem op_catU (K : PySem.W.Frag) (hk : X.K = K := by rfl) : OpR X (binaryOp .Add) (rCatU K) := by
  intro pins s σ H x y v u Q I rx ry h
  obtain ⟨a, b, xs, ys, e1, e2, ha, hb, hz, q0, q1, q2⟩ := id h
  by_cases hx : xs = []
  · subst hk e1 e2
    cases rx
    cases ry
    obtain ⟨its, r1, p1, _⟩ := I.tuple ha
    obtain ⟨its2, r2, p2, _⟩ := I.tuple hb
    have hi : its = [] := r1.nil_iff.mpr hx
    obtain ⟨⟨cls, dd, data, sl⟩, ho, hc, n, hd⟩ := id p1
    obtain ⟨⟨cls2, dd2, data2, sl2⟩, ho2, hc2, n2, hd2⟩ := id p2
    simp only at hc hd hc2 hd2
    subst hc hd hc2 hd2
    exact concat_meets ⟨_, ho, rfl⟩ ⟨_, ho2, rfl⟩ noFill_tuple_add seq_tuple_add PySem.F.slot_tuple_add PySem.F.entry_tuple_add (PySem.F.args_tuple_add_2 _ _)
      (tuple_addW0 a b its.toArray its2.toArray n n2 dd dd2 sl sl2 (by simp [hi])) ⟨ho, ho2, ⟨.ref b, H, I, rfl, q0 hx⟩⟩
  · exact op_catTK K hk pins s σ H x y v u Q I rx ry ⟨a, b, xs, ys, e1, e2, ha, hb, hx, hz, q1 hx, q2 hx⟩
end
end L2

/-! ## exchanges -/
namespace My
open PySem L2
theorem lm_id {m : List Int} {a b : Nat} (h : mk m a = mk m b) : lm m a b = m := by unfold lm; rw [if_neg (fun z => z h)]
theorem cnt_less {m : List Int} {a b : Nat} (ha : a < m.length) (hb : b < m.length) : cnt m ≤ cnt (lm m a b) + 1 := by
  by_cases e : mk m a = mk m b
  · rw [lm_id e]; omega
  · have := cnt_step ha hb e; omega
theorem cnt_lms {n : Nat} : ∀ es : List (Nat × Nat), InN n es → n ≤ cnt (lms n es) + es.length := by
  refine snoc_ind (fun _ => ?_) fun es x ih hn => ?_
  · have : cnt (lms n []) = n := cnt_range n
    omega
  · obtain ⟨h1, h2, h3⟩ := hn.snoc
    have hl := lms_length n es
    have := cnt_less (m := lms n es) (a := x.1) (b := x.2) (by omega) (by omega)
    have := ih h1
    rw [lms_snoc, List.length_append, List.length_cons, List.length_nil]
    omega
theorem cnt_pos {M : List Int} (h : 1 ≤ M.length) : 1 ≤ cnt M := by
  unfold cnt fstA
  refine List.length_pos_of_mem (a := 0) (List.mem_filter.mpr ⟨List.mem_range.mpr (by omega), fstB_iff.mpr fun i hi => absurd hi (Nat.not_lt_zero i)⟩)
theorem cnt_conn {n : Nat} {es : List (Nat × Nat)} (hn : 1 ≤ n) (h : InN n es) : cnt (lms n es) = 1 ↔ ∀ i j, i < n → j < n → Conn es i j := by
  rw [cnt_one (by rw [lms_length]; exact hn)]
  exact one_conn h
/-- an item once in a row -/
theorem wo_length {ts : List Int} {o : Int} (hn : ts.Nodup) (ho : o ∈ ts) : (wo ts o).length + 1 = ts.length := by
  induction ts with
  | nil => cases ho
  | cons x r ih =>
    obtain ⟨h1, h2⟩ := List.nodup_cons.mp hn
    unfold wo
    rw [List.filter_cons]
    by_cases e : x = o
    · subst e
      rw [if_neg (by simp)]
      have : r.filter (fun y => decide (y ≠ x)) = r := List.filter_eq_self.mpr fun y hy => decide_eq_true fun e => h1 (e ▸ hy)
      rw [this]; rfl
    · rw [if_pos (decide_eq_true e)]
      have := ih h2 ((List.mem_cons.mp ho).resolve_left fun z => e z.symm)
      unfold wo at this
      rw [List.length_cons, List.length_cons]
      omega
/-- the ends of a tie -/
def endOf (ps : List (Int × Int)) (z : Int) : Nat × Nat := ((ps.getD z.toNat (0, 0)).1.toNat, (ps.getD z.toNat (0, 0)).2.toNat)
theorem ends_snoc (ps : List (Int × Int)) (ns : List Int) (z : Int) : endsOf ps (ns ++ [z]) = endsOf ps ns ++ [endOf ps z] := by unfold endsOf endOf; rw [List.map_append]; rfl
theorem end_in {n : Int} {ps : List (Int × Int)} {z : Int} (g : GoodW n ps) (z0 : 0 ≤ z) (z1 : z < (ps.length : Int)) : (endOf ps z).1 < n.toNat ∧ (endOf ps z).2 < n.toNat := by
  have := ends_in (ns := [z]) g (fun y hy => by rw [List.mem_singleton.mp hy]; exact ⟨z0, z1⟩)
  exact this (endOf ps z) (by unfold endsOf endOf; simp)
theorem wo_all {n : Int} {ps : List (Int × Int)} {ts : List Int} {o : Int} (hT : IsTree n ps ts) : ∀ y ∈ wo ts o, 0 ≤ y ∧ y < (ps.length : Int) := fun y hy => hT.1.all y (wo_mem.mp hy).1
/-- a tree with one tie for another is joined where the other one's ends are in two pieces without the one -/
theorem exch {n : Int} {ps : List (Int × Int)} {ts : List Int} {o z : Int} (g : GoodW n ps) (hT : IsTree n ps ts) (ho : o ∈ ts) (z0 : 0 ≤ z) (z1 : z < (ps.length : Int)) :
    (∀ i j, i < n.toNat → j < n.toNat → Conn (endsOf ps (wo ts o ++ [z])) i j) ↔ ¬ Conn (endsOf ps (wo ts o)) (endOf ps z).1 (endOf ps z).2 := by
  have hn : 1 ≤ n.toNat := by have := g.1; omega
  have hw := wo_length hT.1.nodup ho
  have hl : (ts.length : Int) = n - 1 := hT.2.1
  have i0 : InN n.toNat (endsOf ps (wo ts o)) := ends_in g (wo_all hT)
  have hz := end_in g z0 z1
  have ob := hT.1.all o ho
  have hoe := end_in g ob.1 ob.2
  have i1 : InN n.toNat (endsOf ps (wo ts o) ++ [endOf ps z]) := fun e he => (List.mem_append.mp he).elim (i0 e) fun q => by rw [List.mem_singleton.mp q]; exact hz
  have i2 : InN n.toNat (endsOf ps (wo ts o) ++ [endOf ps o]) := fun e he => (List.mem_append.mp he).elim (i0 e) fun q => by rw [List.mem_singleton.mp q]; exact hoe
  have hL := lms_length n.toNat (endsOf ps (wo ts o))
  have le : (endsOf ps (wo ts o)).length = (wo ts o).length := by unfold endsOf; rw [List.length_map]
  rw [ends_snoc]
  constructor
  · intro hc c
    have h1 : cnt (lms n.toNat (endsOf ps (wo ts o) ++ [endOf ps z])) = 1 := (cnt_conn hn i1).mpr hc
    rw [lms_snoc, lm_id ((lms_iff i0 hz.1 hz.2).mpr c)] at h1
    have := cnt_lms _ i0
    omega
  · intro hc
    have h2 : cnt (lms n.toNat (endsOf ps (wo ts o) ++ [endOf ps o])) = 1 := by
      refine (cnt_conn hn i2).mpr fun i j hi hj => ?_
      rw [← ends_snoc]
      refine (conn_perm fun y => ?_).mp (hT.2.2 i j hi hj)
      rw [List.mem_append, wo_mem, List.mem_singleton]
      constructor
      · intro hy
        by_cases e : y = o
        · exact .inr e
        · exact .inl ⟨hy, e⟩
      · rintro (q | q)
        · exact q.1
        · rw [q]; exact ho
    rw [lms_snoc] at h2
    have h3 := cnt_less (m := lms n.toNat (endsOf ps (wo ts o))) (a := (endOf ps o).1) (b := (endOf ps o).2) (by omega) (by omega)
    have h4 := cnt_step (m := lms n.toNat (endsOf ps (wo ts o))) (a := (endOf ps z).1) (b := (endOf ps z).2) (by omega) (by omega) (fun e => hc ((lms_iff i0 hz.1 hz.2).mp e))
    have h5 := cnt_pos (M := lm (lms n.toNat (endsOf ps (wo ts o))) (endOf ps z).1 (endOf ps z).2) (by rw [lm_length]; omega)
    refine (cnt_conn hn i1).mp ?_
    rw [lms_snoc]
    omega
/-- the cut of a tie of a tree -/
def cutT (n : Int) (ps : List (Int × Int)) (ts : List Int) (o : Int) : List Int := unlike (lms n.toNat (endsOf ps (wo ts o))) ps ps.length
theorem unlike_bnd {M : List Int} {ps : List (Int × Int)} {i : Nat} {z : Int} (h : z ∈ unlike M ps i) : 0 ≤ z ∧ z < (i : Int) := by
  unfold unlike at h
  obtain ⟨k, hk, rfl⟩ := List.mem_map.mp h
  have := List.mem_range.mp (List.mem_filter.mp hk).1
  omega
theorem cutT_mem {n : Int} {ps : List (Int × Int)} {ts : List Int} {o z : Int} (g : GoodW n ps) (hT : IsTree n ps ts) (z0 : 0 ≤ z) (z1 : z < (ps.length : Int)) : z ∈ cutT n ps ts o ↔ ¬ Conn (endsOf ps (wo ts o)) (endOf ps z).1 (endOf ps z).2 := by
  have hz := end_in g z0 z1
  unfold cutT
  rw [unlike_mem z0 z1]
  exact not_congr (lms_iff (ends_in g (wo_all hT)) hz.1 hz.2)
def exg (n : Int) (ps : List (Int × Int)) (ts : List Int) (o z : Int) : Prop := o ∈ ts ∧ z ≠ o ∧ z ∈ cutT n ps ts o
instance (n : Int) (ps : List (Int × Int)) (ts : List Int) (o z : Int) : Decidable (exg n ps ts o z) := by unfold exg; infer_instance
theorem exg_iff {n : Int} {ps : List (Int × Int)} {ts : List Int} {o z : Int} (g : GoodW n ps) (hT : IsTree n ps ts) :
    exg n ps ts o z ↔ o ∈ ts ∧ z ∉ ts ∧ 0 ≤ z ∧ z < (ps.length : Int) ∧ ∀ i j, i < n.toNat → j < n.toNat → Conn (endsOf ps (wo ts o ++ [z])) i j := by
  constructor
  · rintro ⟨h1, h2, h3⟩
    obtain ⟨z0, z1⟩ := unlike_bnd h3
    have hc := (cutT_mem g hT z0 z1).mp h3
    refine ⟨h1, fun hz => hc ?_, z0, z1, (exch g hT h1 z0 z1).mpr hc⟩
    refine .edge ?_
    exact List.mem_map.mpr ⟨z, wo_mem.mpr ⟨hz, h2⟩, rfl⟩
  · rintro ⟨h1, h2, z0, z1, hc⟩
    exact ⟨h1, fun e => h2 (e ▸ h1), (cutT_mem g hT z0 z1).mpr ((exch g hT h1 z0 z1).mp hc)⟩
/-! ### the list of exchanges -/
end My

/-! ## lists of pairs, a list changed -/
namespace My
open PySem L2
theorem PairsV.mut {H : Hp} {l : Addr} {ys zs xs : List V} {ps : List (Int × Int)} (hP : PairsV H xs ps) (hl : H l = some (.lst ys)) : PairsV (upd H l (.lst zs)) xs ps := by
  refine ⟨hP.1, fun j p e => ?_⟩
  obtain ⟨v, e1, tt, e2, e3⟩ := hP.2 j p e
  exact ⟨v, e1, tt, e2, by rw [upd_ne (ne_of e3 hl (fun z => nomatch z))]; exact e3⟩
end My

/-! ## list(reversed(tuple)) -/
namespace L2
open PySem PySem.Spec PyProof.Rows
theorem rv_mro : mroOf (.type "reversed") = pure [.type "reversed", .type "object"] := by rw [mroOf_type]; kernel_rfl
theorem rv_init : PySem.Slot "reversed" "__init__" "object.__init__" :=
  .of (owner := "object") (n := "__init__") (by rw [typeLookup_type, builtinLookup_eq_fast]; kernel_rfl) (by decide +kernel) (by decide +kernel) (by decide +kernel)
    (by first | exact .inl (by decide +kernel) | exact .inr (by decide +kernel)) (by rw [isSubtype_type]; kernel_rfl)
theorem rv_called : TypeCalled "reversed" "reversed.__new__" "object.__init__" :=
  ⟨by decide +kernel, by decide +kernel, ⟨_, _, rv_mro⟩, madeBy_type rv_mro PySem.F.lookup_reversed_new (by decide +kernel), by decide +kernel, by rw [isSubtype_type]; kernel_rfl, rv_init⟩
theorem rv_owner : Manifest.owners.lookup (String.ofList ['d', 'e', 's', 'r', 'e', 'v', 'e', 'r'].reverse) = some Manifest.sig_reversed := by kernel_rfl
theorem rv_next : PySem.Slot "reversed" "__next__" "reversed.__next__" :=
  .of (owner := "reversed") (n := "__next__") (by rw [typeLookup_type, builtinLookup_eq_fast]; kernel_rfl) (by decide +kernel) (by decide +kernel) (by decide +kernel)
    (by first | exact .inl (by decide +kernel) | exact .inr (by decide +kernel)) (by rw [isSubtype_type]; kernel_rfl)
theorem rv_enext : entryFor table "reversed.__next__" = some Builtin.«reversed.__next__» := entryFor_of_tree (by kernel_rfl)
theorem rv_anext (a : Value) : argsOk "reversed.__next__" ⟨[a], []⟩ := by
  unfold argsOk; rw [signature?_of (id := "reversed.__next__") (n := ['_', '_', 't', 'x', 'e', 'n', '_', '_']) (o := ['d', 'e', 's', 'r', 'e', 'v', 'e', 'r']) (by kernel_rfl) rv_owner]; kernel_rfl
theorem rv_iter : PySem.Slot "reversed" "__iter__" "reversed.__iter__" :=
  .of (owner := "reversed") (n := "__iter__") (by rw [typeLookup_type, builtinLookup_eq_fast]; kernel_rfl) (by decide +kernel) (by decide +kernel) (by decide +kernel)
    (by first | exact .inl (by decide +kernel) | exact .inr (by decide +kernel)) (by rw [isSubtype_type]; kernel_rfl)
theorem rv_aiter (a : Value) : argsOk "reversed.__iter__" ⟨[a], []⟩ := by
  unfold argsOk; rw [signature?_of (id := "reversed.__iter__") (n := ['_', '_', 'r', 'e', 't', 'i', '_', '_']) (o := ['d', 'e', 's', 'r', 'e', 'v', 'e', 'r']) (by kernel_rfl) rv_owner]; kernel_rfl
theorem rv_eiter : entryFor table "reversed.__iter__" = some Builtin.«dict_keyiterator.__iter__» :=
  entryFor_alias (id' := "dict_keyiterator.__iter__") (by kernel_rfl) (by first | rfl | decide +kernel | (unfold String.splitOn; simp +decide [String.splitOnAux])) (by decide +kernel) (by kernel_rfl)
theorem rv_none : typeLookup (.type "tuple") "__reversed__" = pure none := by rw [typeLookup_type, builtinLookup_eq_fast]; kernel_rfl
theorem rv_nodict : isSubtype (.type "tuple") (.type "dict") = pure false := by rw [isSubtype_type]; kernel_rfl
theorem rv_meets (l : Addr) (items : Array Value) (n : Nat) (dd : Option Addr) (sl : Array (Option Value)) :
    Meets (Builtin.«reversed.__new__» ⟨[.type "reversed", .ref l], []⟩) (fun _ R s => s.heap.get? l = some { cls := .type "tuple", dict := dd, data := .seq items n, slots := sl } ∧ ¬ (items.size : Int) ≥ 2 ^ 63 ∧
      ∀ tk, R (.ok (.ret (.ref s.heap.objs.size))) { s with heap := s.heap.push { cls := .type "reversed", data := .fields #[.ref l, rawInt ((items.size : Int) - 1)] }, toks := tk }) :=
  .of_wp fun prog w A R s h => by
    obtain ⟨hl, hf, h⟩ := h
    have hT : s.TypeIs (.ref l) "tuple" := ⟨_, hl, rfl⟩
    have f0 := PySem.F.sub_reversed_self
    have f1 := rv_none
    have f2 := rv_nodict
    have f3 := PySem.F.slot_tuple_getitem.lookup
    unfold Builtin.«reversed.__new__»
    refine wpAny_bind (wpAny_of_eq (newClass_reversed _) ?_)
    try dsimp only
    refine wpAny_bind (wpAny_of_eq (a := ()) (by first | rfl | kernel_rfl) ?_)
    refine wpAny_bind (wpAny_of_eq (a := ()) (by first | rfl | kernel_rfl) ?_)
    try dsimp only
    refine wpAny_bind (wpAny_specialOf hT f1 ?_)
    try dsimp only
    refine wpAny_bind ?_
    wp_delta
    refine wpAny_bind (wpAny_isInstance (T := "tuple") (b := false) hT f2 ?_)
    rw [if_neg (by decide)]
    refine wpAny_bind (wpAny_specialOf hT f3 ?_)
    dsimp only
    rw [if_pos (by decide +kernel)]
    refine wpAny_pure ?_
    rw [if_neg (by decide)]
    refine wpAny_bind (len_tuple ⟨_, hl, rfl, n, rfl⟩ (by omega) ?_)
    refine wpAny_bind (wpAny_of_eq (a := some (items.size : Int)) rfl ?_)
    dsimp only
    refine wpAny_bind ?_
    unfold Builtin.SmallTypes.newRecord
    refine wpAny_newObj_type ?_ (by size_fits)
    exact wpAny_pure ⟨_, rfl, h _⟩
/-! ### the iterator of reversed(tuple) -/
def IsRv (h : Heap) (r l : Addr) (i : Int) : Prop := ∃ o, h.get? r = some o ∧ o.cls = .type "reversed" ∧ o.data = .fields #[.ref l, rawInt i]
theorem IsRv.ty {s : Shared} {r l : Addr} {i : Int} (x : IsRv s.heap r l i) : s.TypeIs (.ref r) "reversed" := let ⟨o, a, b, _⟩ := x; ⟨o, a, b⟩
theorem IsRv.keep {h h' : Heap} {r l : Addr} {i : Int} (x : IsRv h r l i) (e : ∀ o, h.get? r = some o → h'.get? r = some o) : IsRv h' r l i := let ⟨o, a, b⟩ := x; ⟨o, e _ a, b⟩
section
variable {prog : Program} {w : World} {A : Around} {E : Value → Shared → Prop} {s : Shared}
theorem rv_call {l : Addr} {items : Array Value} {Q : Value → Shared → Prop} (hl : IsTup s.heap l items) (hf : (items.size : Int) < 2 ^ 63)
    (k : ∀ tk h', IsRv h' s.heap.objs.size l ((items.size : Int) - 1) → (∀ b o, s.heap.get? b = some o → h'.get? b = some o) → h'.objs.size = s.heap.objs.size + 1 → Q (.ref s.heap.objs.size) { s with heap := h', toks := tk }) :
    wpAny (model prog w) A (call (.type "reversed") [.ref l]) Q E s := by
  obtain ⟨⟨cls, dd, data, sl⟩, ho, hc, n, hd⟩ := id hl
  simp only at hc hd
  subst hc hd
  refine callType_new rv_called (by decide) (PySem.F.typeCall_reversed_1 _) (PySem.F.newCall_reversed_1 _) (fun obj => PySem.F.args_object_init_2 obj _) PySem.F.entry_reversed_new (rv_meets l items n dd sl) ⟨ho, by omega, fun tk => ?_⟩
  have e := Heap.get?_push_size s.heap (o := { cls := .type "reversed", data := .fields #[.ref l, rawInt ((items.size : Int) - 1)] }) rfl
  exact ⟨⟨_, e, rfl⟩, k tk _ ⟨_, e, rfl, rfl⟩ (fun b o g => Heap.get?_push_of_some _ g) (Heap.size_push ..)⟩
theorem rv_item {r l : Addr} {i : Nat} {items : Array Value} {x : Value} {Q : Option Value → Shared → Prop} (hr : IsRv s.heap r l (i : Int)) (hl : IsTup s.heap l items) (hx : items[i]? = some x) (h63 : (i : Int) < 2 ^ 63)
    (hQ : ∀ h' tk, IsRv h' r l ((i : Int) - 1) → Heap.SameBut r s.heap h' → Q (some x) { s with heap := h', toks := tk }) : wpAny (model prog w) A (pyNext (.ref r)) Q E s := by
  obtain ⟨o, ho, hc, hd⟩ := id hr
  have hi : i < items.size := (Array.getElem?_eq_some_iff.mp hx).1
  unfold pyNext
  refine wpAny_bind (wpAny_attempt (wpAny_callSpecial?_slot (name := Str.ofString "__next__") hr.ty rv_next (wpAny_call_entry rv_next hr.ty rv_enext ?_ (rv_anext _))))
  unfold Builtin.«reversed.__next__»
  refine wpAny_bind (wpAny_of_eq (a := (Value.ref r, [])) rfl ?_)
  dsimp only
  refine wpAny_bind (wpAny_field ho hd (x := .ref l) rfl ?_)
  refine wpAny_bind (wpAny_field ho hd (x := rawInt (i : Int)) rfl ?_)
  show wpAny _ _ (if (i : Int) < 0 then _ else _) _ _ s
  rw [if_neg (by omega)]
  refine wpAny_bind (wpAny_specialOf hl.typeIs PySem.F.slot_tuple_getitem.lookup ?_)
  rw [if_neg (by simp)]
  refine wpAny_bind (wpAny_mkInt ?_)
  refine wpAny_bind (wpAny_attempt (getItem_tuple (j := i) hl (by omega) h63 (My.seq_ix (by omega) (by omega)) hx ?_))
  dsimp only
  refine wpAny_bind (wpAny_field ho hd (x := rawInt (i : Int)) rfl ?_)
  show wpAny _ _ (setField (.ref r) 1 (rawInt ((i : Int) - 1)) >>= _) _ _ _
  refine wpAny_bind (wpAny_setField ho hd (by simp) ?_)
  refine wpAny_pure ⟨x, rfl, wpAny_pure (hQ _ _ ⟨_, Heap.get?_update_self _ ho (Obj.isFreed_of_fields (Obj.data_mapFields hd _)), (Obj.cls_mapFields ..).trans hc, ?_⟩ (Heap.SameBut.update ..))⟩
  rw [Obj.data_mapFields hd]
  simp
theorem rv_end {r l : Addr} {Q : Option Value → Shared → Prop} (hh : A.handled = none) (hr : IsRv s.heap r l (-1)) (hQ : ∀ h', Heap.ExtBut r s.heap h' → Q none { s with heap := h' }) : wpAny (model prog w) A (pyNext (.ref r)) Q E s := by
  obtain ⟨o, ho, hc, hd⟩ := id hr
  unfold pyNext
  refine wpAny_bind (wpAny_attempt (wpAny_callSpecial?_slot (name := Str.ofString "__next__") hr.ty rv_next (wpAny_call_entry rv_next hr.ty rv_enext ?_ (rv_anext _))))
  unfold Builtin.«reversed.__next__»
  refine wpAny_bind (wpAny_of_eq (a := (Value.ref r, [])) rfl ?_)
  dsimp only
  refine wpAny_bind (wpAny_field ho hd (x := .ref l) rfl ?_)
  refine wpAny_bind (wpAny_field ho hd (x := rawInt (-1)) rfl ?_)
  show wpAny _ _ (if (-1 : Int) < 0 then _ else _) _ _ s
  rw [if_pos (by decide)]
  refine wpAny_bind (wpAny_rule ?_)
  refine wpAny_bind ?_
  wp_delta
  refine wpAny_bind (wpAny_setField ho hd (by simp) ?_)
  have ho2 := Heap.get?_update_self (Obj.mapFields (fun vs => vs.setIfInBounds 1 (rawInt (-1)))) ho (Obj.isFreed_of_fields (Obj.data_mapFields hd _))
  refine wpAny_setField ho2 (Obj.data_mapFields hd _) (by simp) ?_
  refine wpAny_bind ?_
  show wpAny _ _ (newExc (.type "StopIteration") [] >>= _) _ _ _
  refine wpAny_bind ?_
  simp only [newExc, newTuple]
  refine wpAny_bind (wpAny_newObj_type ?_ (by size_fits))
  refine wpAny_bind (m := firstArgMember _ _) (wpAny_of_eq (a := Value.none) (by first | rfl | (simp only [firstArgMember]; rfl)) ?_)
  refine wpAny_newObj_type ?_ (by size_fits)
  simp only [raiseNew]
  refine wpAny_bind (wpAny_handled ?_)
  rw [show A.in1.handled = none from hh]
  refine wpAny_bind (wpAny_pure (wpAny_throw ?_))
  refine wpAny_bind (wpAny_isInstance (T := "StopIteration") (b := true) ⟨_, Heap.get?_push_size _ rfl, rfl⟩ isSubtype_stop ?_)
  exact wpAny_pure (hQ _ (((((Heap.SameBut.update ..).trans (Heap.SameBut.update ..)).extBut).push _).push _))
theorem rv_self {r l : Addr} {i : Int} {Q : Value → Shared → Prop} (hr : IsRv s.heap r l i) (h : Q (.ref r) s) : wpAny (model prog w) A (pyIter (.ref r)) Q E s := by
  refine wpAny_pyIter_slot hr.ty rv_iter (wpAny_call_entry rv_iter hr.ty rv_eiter ?_ (rv_aiter _))
  show wpAny _ _ (ret (.ref r)) _ _ s
  exact wpAny_pure ⟨_, rfl, "reversed", _, hr.ty, rv_next.lookup, h⟩
end
section
variable {prog : Program} {w : World} {A : Around} {E : Value → Shared → Prop} {s : Shared} {it a : Addr} {items : Array Value}
end
section
variable {X : Cx} {p p2 pos pos2 : Pos} {e : Expr} {t : TA}
end
end L2

/-! ## t[lo:hi], also the whole -/
namespace L2
open PySem PySem.Spec PyProof.Rows
section
variable {prog : Program} {w : World} {A : Around} {E : Value → Shared → Prop} {s : Shared}
end
section
variable {X : Cx}
end
end L2

/-! ## tuples of ints: slices -/
namespace My
open PySem L2
end My

/-! ## x in a list of objects, by what they hold -/
namespace L2
open PySem PySem.Spec PyProof.Rows
section
variable {X : Cx}
end
end L2
namespace My
open PySem L2
end My

/-! ## rings and cuts of a tree, and behind an exchange -/
namespace My
open PySem L2
/-- of the tree's own ties only the one that is left out is in the cut -/
theorem cut_own {n : Int} {ps : List (Int × Int)} {ts : List Int} {o y : Int} (g : GoodW n ps) (hT : IsTree n ps ts) (ho : o ∈ ts) (hy : y ∈ ts) : y ∈ cutT n ps ts o ↔ y = o := by
  have yb := hT.1.all y hy
  rw [cutT_mem g hT yb.1 yb.2]
  constructor
  · intro h
    by_cases e : y = o
    · exact e
    · exact absurd (.edge (List.mem_map.mpr ⟨y, wo_mem.mpr ⟨hy, e⟩, rfl⟩)) h
  · rintro rfl
    refine (exch g hT hy yb.1 yb.2).mp fun i j hi hj => (conn_perm fun z => ?_).mp (hT.2.2 i j hi hj)
    rw [List.mem_append, wo_mem, List.mem_singleton]
    constructor
    · intro hz
      by_cases e : z = y
      · exact .inr e
      · exact .inl ⟨hz, e⟩
    · rintro (q | q)
      · exact q.1
      · rw [q]; exact hy
theorem ringA_mem {n : Int} {ps : List (Int × Int)} {ts l : List Int} {z y : Int} : y ∈ ringA n ps ts z l ↔ y ∈ l ∧ z ∈ cutT n ps ts y := by
  unfold ringA
  rw [List.mem_filter, decide_eq_true_iff]
  exact Iff.rfl
/-- the tree behind an exchange -/
theorem exg_tree {n : Int} {ps : List (Int × Int)} {ts ms : List Int} {o z : Int} (g : GoodW n ps) (hT : IsTree n ps ts) (hx : exg n ps ts o z) (hpm : ms.Perm (wo ts o ++ [z])) (hpw : ms.Pairwise (· ≤ ·)) : IsTree n ps ms := by
  obtain ⟨ho, hz, z0, z1, hc⟩ := (exg_iff g hT).mp hx
  have nd : (wo ts o ++ [z]).Nodup := nd_snoc (hT.1.nodup.sublist List.filter_sublist) fun h => hz (wo_mem.mp h).1
  have ndm : ms.Nodup := hpm.nodup_iff.mpr nd
  have hl := wo_length hT.1.nodup ho
  have hl2 := hpm.length_eq
  rw [List.length_append, List.length_singleton] at hl2
  refine ⟨isSet_iff.mpr ⟨fun y hy => ?_, (List.pairwise_and_iff.mpr ⟨hpw, ndm⟩).imp fun {x y} h => by have := h.1; have := h.2; omega⟩, by rw [hl2, hl]; exact hT.2.1, fun i j hi hj => (conn_perm fun y => hpm.mem_iff).mpr (hc i j hi hj)⟩
  rcases List.mem_append.mp (hpm.mem_iff.mp hy) with h | h
  · exact hT.1.all y (wo_mem.mp h).1
  · rw [List.mem_singleton.mp h]; exact ⟨z0, z1⟩
section
variable {n : Int} {ps : List (Int × Int)} {ts ms : List Int} {o z : Int} (g : GoodW n ps) (hT : IsTree n ps ts) (hx : exg n ps ts o z) (hpm : ms.Perm (wo ts o ++ [z])) (hpw : ms.Pairwise (· ≤ ·))
include g hT hx hpm hpw
theorem exg_mem {y : Int} : y ∈ ms ↔ (y ∈ ts ∧ y ≠ o) ∨ y = z := by
  rw [hpm.mem_iff, List.mem_append, wo_mem, List.mem_singleton]
theorem exg_cut : cutT n ps ms z = cutT n ps ts o := by
  have hM := exg_tree g hT hx hpm hpw
  have hz : z ∉ ts := ((exg_iff g hT).mp hx).2.1
  unfold cutT
  refine unlike_same g (lms_length _ _) (same_lms (ends_in g (wo_all hM)) (ends_in g (wo_all hT)) fun i j => conn_perm fun y => ?_)
  rw [wo_mem, wo_mem, exg_mem g hT hx hpm hpw]
  constructor
  · rintro ⟨h | h, h2⟩
    · exact h
    · exact absurd h h2
  · intro h
    exact ⟨.inl h, fun e => hz (e ▸ h.1)⟩
end
end My

/-! ## the least tree: each tie that closes no ring -/
namespace My
open PySem L2
def grd (n : Nat) (ps : List (Int × Int)) : Nat → List Int
  | 0 => []
  | k + 1 => if mk (lms n (endsOf ps (grd n ps k))) (endOf ps (k : Int)).1 = mk (lms n (endsOf ps (grd n ps k))) (endOf ps (k : Int)).2 then grd n ps k else grd n ps k ++ [(k : Int)]
/-! ### order of rows -/
end My

/-! ## min(list of tuples of ints) -/
namespace My
open PySem L2
end My
namespace L2
open PySem PySem.Spec PyProof.Rows
section
variable {prog : Program} {w : World} {A : Around} {I S : Addr} {fp wr : List Addr} {n : Nat} {P : Nat → Value → Prop} {St : Nat → Heap → Prop} {R : Result → Shared → Prop}
/-- the items are tuples of ints, apart from what the loop writes -/
def TupsAt (S : Addr) (wr : List Addr) (P : Nat → Value → Prop) (L : Nat → List Int) (h : Heap) : Prop := ∀ i v, P i v → ∃ a vs, v = .ref a ∧ a ≠ S ∧ a ∉ wr ∧ IsTup h a vs ∧ IntsAre vs.toList (L i)
theorem TupsAt.keep {L : Nat → List Int} {h h' : Heap} (x : TupsAt S wr P L h) (k : ∀ b o, b ≠ S → b ∉ wr → h.get? b = some o → h'.get? b = some o) : TupsAt S wr P L h' := fun i v p => by
  obtain ⟨a, vs, e, n1, n2, ⟨o, ho, z⟩, hi⟩ := x i v p
  exact ⟨a, vs, e, n1, n2, ⟨o, k a o n1 n2 ho, z⟩, hi⟩
end
section
variable {X : Cx}
end
end L2

/-! ## lists of tuples of ints; all ascending rows of a length -/
namespace My
open PySem L2
def TupV (H : Hp) (v : V) (l : List Int) : Prop := ∃ a, v = .ref a ∧ H a = some (.tup (IL l))
def TupsV (H : Hp) (xs : List V) (L : List (List Int)) : Prop := xs.length = L.length ∧ ∀ (i : Nat) (l : List Int), L[i]? = some l → ∃ v, xs[i]? = some v ∧ TupV H v l
theorem TupsV.nil {H : Hp} : TupsV H [] [] := ⟨rfl, fun i p e => by simp at e⟩
/-! ### rows -/
def nxt (s : List Int) : Int := match s.getLast? with | none => 0 | some x => x + 1
def ext1 (m : Int) (s : List Int) : List (List Int) := (List.range (m - nxt s).toNat).map fun (i : Nat) => s ++ [nxt s + (i : Int)]
def cmb (m : Int) : Nat → List (List Int)
  | 0 => [[]]
  | k + 1 => (cmb m k).flatMap (ext1 m)
end My

/-! ## every tree is reached by exchanges -/
namespace My
open PySem L2
theorem asc_sub : ∀ {w t : List Int}, t.Pairwise (· < ·) → w.Pairwise (· < ·) → (∀ z ∈ t, z ∈ w) → t.Sublist w
  | [], [], _, _, _ => List.Sublist.slnil
  | [], x :: t, _, _, h => absurd (h x List.mem_cons_self) (by simp)
  | y :: w, [], _, _, _ => List.nil_sublist _
  | y :: w, x :: t, ht, hw, h => by
    obtain ⟨h1, h2⟩ := List.pairwise_cons.mp ht
    obtain ⟨h3, h4⟩ := List.pairwise_cons.mp hw
    by_cases e : x = y
    · subst e
      refine List.Sublist.cons₂ _ (asc_sub h2 h4 fun z hz => ?_)
      rcases List.mem_cons.mp (h z (List.mem_cons_of_mem _ hz)) with q | q
      · have := h1 z hz; omega
      · exact q
    · have hx : x ∈ w := (List.mem_cons.mp (h x List.mem_cons_self)).resolve_left e
      refine List.Sublist.cons _ (asc_sub ht h4 fun z hz => ?_)
      rcases List.mem_cons.mp (h z hz) with q | q
      · have := h3 x hx
        rcases List.mem_cons.mp hz with q2 | q2
        · rw [q2]; exact hx
        · have := h1 z q2; omega
      · exact q
/-- a tree crosses each cut of another -/
theorem cross {n : Int} {ps : List (Int × Int)} {T W : List Int} {o : Int} (g : GoodW n ps) (hT : IsTree n ps T) (hW : IsTree n ps W) (ho : o ∈ T) : ∃ z ∈ W, z ∈ cutT n ps T o := by
  refine Classical.byContradiction fun hno => ?_
  have all : ∀ i j, Conn (endsOf ps W) i j → Conn (endsOf ps (wo T o)) i j := fun i j c => by
    induction c with
    | refl i => exact .refl i
    | symm _ ih => exact .symm ih
    | trans _ _ i1 i2 => exact .trans i1 i2
    | @edge a b h =>
      obtain ⟨z, hz, e⟩ := List.mem_map.mp h
      obtain ⟨z0, z1⟩ := hW.1.all z hz
      have c : Conn (endsOf ps (wo T o)) (endOf ps z).1 (endOf ps z).2 := Classical.byContradiction fun hc => hno ⟨z, hz, (cutT_mem g hT z0 z1).mpr hc⟩
      have ea : a = (endOf ps z).1 := (congrArg Prod.fst e).symm
      have eb : b = (endOf ps z).2 := (congrArg Prod.snd e).symm
      rw [ea, eb]
      exact c
  have ob := hT.1.all o ho
  have he := end_in g ob.1 ob.2
  exact (cutT_mem g hT ob.1 ob.2).mp ((cut_own g hT ho ho).mpr rfl) (all _ _ (hW.2.2 _ _ he.1 he.2))
theorem reach {n : Int} {ps : List (Int × Int)} {W : List Int} (g : GoodW n ps) (hW : IsTree n ps W) (R : List Int → Prop)
    (close : ∀ T o z ms, R T → IsTree n ps T → exg n ps T o z → ms.Perm (wo T o ++ [z]) → ms.Pairwise (· ≤ ·) → R ms) : ∀ (k : Nat) (T : List Int), R T → IsTree n ps T → (T.filter fun y => decide (y ∉ W)).length = k → R W
  | 0, T, hR, hT, h => by
    have hsub : ∀ z ∈ T, z ∈ W := fun z hz => Classical.byContradiction fun hn => by
      have : z ∈ T.filter fun y => decide (y ∉ W) := List.mem_filter.mpr ⟨hz, decide_eq_true hn⟩
      rw [List.length_eq_zero_iff.mp h] at this
      cases this
    have := (asc_sub (isSet_iff.mp hT.1).2 (isSet_iff.mp hW.1).2 hsub).eq_of_length (by have := hT.2.1; have := hW.2.1; omega)
    exact this ▸ hR
  | k + 1, T, hR, hT, h => by
    obtain ⟨o, hof⟩ : ∃ o, o ∈ T.filter fun y => decide (y ∉ W) := List.exists_mem_of_length_pos (by omega)
    have ho := (List.mem_filter.mp hof).1
    have hoW : o ∉ W := of_decide_eq_true (List.mem_filter.mp hof).2
    obtain ⟨z, hzW, hzc⟩ := cross g hT hW ho
    have hzo : z ≠ o := fun e => hoW (e ▸ hzW)
    have hx : exg n ps T o z := ⟨ho, hzo, hzc⟩
    have hpm : ((wo T o ++ [z]).mergeSort fun a b => decide (a ≤ b)).Perm (wo T o ++ [z]) := List.mergeSort_perm ..
    have hpw : ((wo T o ++ [z]).mergeSort fun a b => decide (a ≤ b)).Pairwise (· ≤ ·) := by
      have := List.pairwise_mergeSort (le := fun (a b : Int) => decide (a ≤ b)) (fun a b c h1 h2 => by simp only [decide_eq_true_eq] at *; omega) (fun a b => by simp only [Bool.or_eq_true, decide_eq_true_eq]; omega) (wo T o ++ [z])
      exact this.imp fun h => by simpa using h
    refine reach g hW R close k _ (close T o z _ hR hT hx hpm hpw) (exg_tree g hT hx hpm hpw) ?_
    rw [(hpm.filter _).length_eq, List.filter_append]
    have e1 : [z].filter (fun y => decide (y ∉ W)) = [] := by rw [List.filter_cons, if_neg (by simpa using hzW)]; rfl
    rw [e1, List.append_nil]
    have e2 : (wo T o).filter (fun y => decide (y ∉ W)) = wo (T.filter fun y => decide (y ∉ W)) o := by
      unfold wo
      rw [List.filter_filter, List.filter_filter]
      refine List.filter_congr fun y _ => Bool.and_comm ..
    rw [e2]
    have := wo_length (hT.1.nodup.sublist List.filter_sublist) hof
    omega
end My

/-! ## marks merged, ties grown -/
namespace My
open PySem L2
def pmf (M : List Int) (es : List (Nat × Nat)) : List Int := es.foldl (fun m e => pm m e.1 e.2) M
theorem pmf_snoc (M : List Int) (es : List (Nat × Nat)) (e : Nat × Nat) : pmf M (es ++ [e]) = pm (pmf M es) e.1 e.2 := by unfold pmf; rw [List.foldl_append]; rfl
theorem pmf_length (M : List Int) : ∀ es : List (Nat × Nat), (pmf M es).length = M.length := by
  intro es
  unfold pmf
  induction es generalizing M with
  | nil => rfl
  | cons e l ih => rw [List.foldl_cons, ih, pm_length]
end My
namespace My
open PySem L2
theorem cut_upto {xs : List V} {i : Int} (h0 : 0 ≤ i) : cutV xs none (some i) = xs.take i.toNat := by
  have e : HT.sIx xs.length xs.length (some i) = min i.toNat xs.length := by
    show (if i < 0 then (i + (xs.length : Int)).toNat else min i.toNat xs.length) = _
    rw [if_neg (by omega)]
  unfold cutV
  rw [e, HT.sIx_none, List.drop_zero, Nat.sub_zero]
  by_cases h : i.toNat ≤ xs.length
  · rw [Nat.min_eq_left h]
  · rw [Nat.min_eq_right (by omega), List.take_of_length_le (Nat.le_refl _), List.take_of_length_le (by omega)]
/-- all numbers of ties -/
def rgL (m : Nat) : List Int := (List.range m).map fun (i : Nat) => (i : Int)
theorem rgL_mem {m : Nat} {z : Int} : z ∈ rgL m ↔ 0 ≤ z ∧ z < (m : Int) := by
  unfold rgL
  rw [List.mem_map]
  constructor
  · rintro ⟨i, hi, rfl⟩
    have := List.mem_range.mp hi
    omega
  · intro h
    exact ⟨z.toNat, List.mem_range.mpr (by omega), by omega⟩
theorem rgL_asc (m : Nat) : (rgL m).Pairwise (· < ·) := by
  unfold rgL
  rw [List.pairwise_map]
  exact List.pairwise_lt_range.imp fun h => by omega
/-- all places are one piece over all ties -/
def Joined (n : Int) (ps : List (Int × Int)) : Prop := ∀ i j, i < n.toNat → j < n.toNat → Conn (endsOf ps (rgL ps.length)) i j
end My

/-! ## tuple(range) -/
namespace L2
open PySem PySem.Spec PyProof.Rows
section
variable {prog : Program} {w : World} {A : Around} {E : Value → Shared → Prop} {s : Shared}
end
section
variable {X : Cx}
end
end L2

/-! ## ties grown in an order: each that closes no ring -/
namespace My
open PySem L2
def gst (n : Nat) (ps : List (Int × Int)) (G : List Int) (z : Int) : List Int := if mk (lms n (endsOf ps G)) (endOf ps z).1 = mk (lms n (endsOf ps G)) (endOf ps z).2 then G else G ++ [z]
def grw (n : Nat) (ps : List (Int × Int)) (zs : List Int) : List Int := zs.foldl (gst n ps) []
theorem grw_snoc (n : Nat) (ps : List (Int × Int)) (zs : List Int) (z : Int) : grw n ps (zs ++ [z]) = gst n ps (grw n ps zs) z := by unfold grw; rw [List.foldl_append]; rfl
theorem grw_app (n : Nat) (ps : List (Int × Int)) (zs : List Int) : ∀ ys, ∃ us, grw n ps (zs ++ ys) = grw n ps zs ++ us ∧ us.Sublist ys := by
  refine snoc_ind ⟨[], by simp⟩ fun ys y ih => ?_
  obtain ⟨us, e, s⟩ := ih
  rw [← List.append_assoc, grw_snoc, e]
  unfold gst
  split
  · exact ⟨us, rfl, s.trans (List.sublist_append_left _ _)⟩
  · exact ⟨us ++ [y], by rw [List.append_assoc], s.append (List.Sublist.refl _)⟩
theorem grw_sub (n : Nat) (ps : List (Int × Int)) (zs : List Int) : (grw n ps zs).Sublist zs := by
  obtain ⟨us, e, s⟩ := grw_app n ps [] zs
  rw [List.nil_append] at e
  rw [e]
  exact s
theorem grw_all {n : Nat} {ps : List (Int × Int)} {zs : List Int} (h : ∀ z ∈ zs, 0 ≤ z ∧ z < (ps.length : Int)) : ∀ z ∈ grw n ps zs, 0 ≤ z ∧ z < (ps.length : Int) := fun z hz => h z ((grw_sub n ps zs).subset hz)
theorem grw_in {n : Int} {ps : List (Int × Int)} (g : GoodW n ps) {zs : List Int} (h : ∀ z ∈ zs, 0 ≤ z ∧ z < (ps.length : Int)) : InN n.toNat (endsOf ps (grw n.toNat ps zs)) := ends_in g (grw_all h)
theorem grw_cnt {n : Int} {ps : List (Int × Int)} (g : GoodW n ps) : ∀ zs : List Int, (∀ z ∈ zs, 0 ≤ z ∧ z < (ps.length : Int)) → cnt (lms n.toNat (endsOf ps (grw n.toNat ps zs))) + (grw n.toNat ps zs).length = n.toNat := by
  refine snoc_ind (fun _ => cnt_range n.toNat) fun zs z ih h => ?_
  have h1 : ∀ z ∈ zs, 0 ≤ z ∧ z < (ps.length : Int) := fun y hy => h y (List.mem_append_left _ hy)
  have ih := ih h1
  obtain ⟨z0, z1⟩ := h z (List.mem_append_right _ (List.mem_singleton.mpr rfl))
  have he := end_in (z := z) g z0 z1
  have hl := lms_length n.toNat (endsOf ps (grw n.toNat ps zs))
  rw [grw_snoc]
  unfold gst
  split
  · exact ih
  · rename_i h
    rw [ends_snoc, lms_snoc, List.length_append, List.length_singleton]
    have := cnt_step (m := lms n.toNat (endsOf ps (grw n.toNat ps zs))) (by omega) (by omega) h
    omega
theorem grw_len {n : Int} {ps : List (Int × Int)} (g : GoodW n ps) {zs : List Int} (h : ∀ z ∈ zs, 0 ≤ z ∧ z < (ps.length : Int)) : (grw n.toNat ps zs).length ≤ 14 := by
  have := grw_cnt g zs h
  have := g.2.1
  omega
/-- what is joined over the ties is joined over the grown ones -/
theorem grw_conn {n : Int} {ps : List (Int × Int)} (g : GoodW n ps) : ∀ zs : List Int, (∀ z ∈ zs, 0 ≤ z ∧ z < (ps.length : Int)) → ∀ {i j : Nat}, Conn (endsOf ps zs) i j → Conn (endsOf ps (grw n.toNat ps zs)) i j := by
  refine snoc_ind (fun _ _ _ c => c) fun zs z IH h i j c => ?_
  have h1 : ∀ z ∈ zs, 0 ≤ z ∧ z < (ps.length : Int) := fun y hy => h y (List.mem_append_left _ hy)
  obtain ⟨z0, z1⟩ := h z (List.mem_append_right _ (List.mem_singleton.mpr rfl))
  have he := end_in (z := z) g z0 z1
  have up : ∀ {a b : Nat}, Conn (endsOf ps (grw n.toNat ps zs)) a b → Conn (endsOf ps (grw n.toNat ps (zs ++ [z]))) a b := fun c => by
    rw [grw_snoc]
    unfold gst
    split
    · exact c
    · exact c.mono (ends_sub fun y hy => List.mem_append_left _ hy)
  have own : Conn (endsOf ps (grw n.toNat ps (zs ++ [z]))) (endOf ps z).1 (endOf ps z).2 := by
    rw [grw_snoc]
    unfold gst
    split
    · rename_i e
      exact (lms_iff (grw_in g h1) he.1 he.2).mp e
    · rw [ends_snoc]
      exact .edge (List.mem_append_right _ (List.mem_singleton.mpr rfl))
  induction c with
  | refl i => exact .refl i
  | symm _ ih => exact .symm ih
  | trans _ _ i1 i2 => exact .trans i1 i2
  | @edge a b e =>
    rw [ends_snoc] at e
    rcases List.mem_append.mp e with e | e
    · exact up (IH h1 (.edge e))
    · have e := List.mem_singleton.mp e
      have ea : a = (endOf ps z).1 := congrArg Prod.fst e
      have eb : b = (endOf ps z).2 := congrArg Prod.snd e
      rw [ea, eb]
      exact own
end My
namespace My
open PySem L2
end My

/-! ## lists sorted, however long -/
namespace PyProof.Rows
open PySem
abbrev dK : Keyed := (Value.none, Value.none)
section
variable {M : Model} {A : Around} {E : Value → Shared → Prop} {s : Shared} {O : KeyOrd} {key : Keyed → O.α} {kd : SortKind} {S : Keyed → Prop}
def ke (key : Keyed → O.α) (arr : Array Keyed) (i : Nat) : O.α := key (arr.getD i dK)
end
end PyProof.Rows
namespace PyProof.Rows
open PySem
section
variable {M : Model} {A : Around} {E : Value → Shared → Prop} {s : Shared} {O : KeyOrd} {key : Keyed → O.α} {kd : SortKind} {S : Keyed → Prop}
def RK (O : KeyOrd) (key : Keyed → O.α) (x y : Keyed) : Prop := O.kle (key x) (key y)
structure MI (O : KeyOrd) (key : Keyed → O.α) (la lb : List Keyed) (out : Array Keyed) (ia ib : Nat) : Prop where
  so : out.toList.Pairwise (RK O key)
  oa : ∀ x ∈ out.toList, ∀ y ∈ la.drop ia, RK O key x y
  ob : ∀ x ∈ out.toList, ∀ y ∈ lb.drop ib, RK O key x y
  pm : (out.toList ++ la.drop ia ++ lb.drop ib).Perm (la ++ lb)
abbrev LoS := Option (Array Keyed) × Array Keyed × Nat × Nat × Nat × Nat × Nat
section
variable {a b out : Array Keyed} {ia ib : Nat} {st : SortSt} {R : ForInStep LoS → SortSt → Prop}
end
section
variable {a b : Array Keyed} {st : SortSt}
end
end
end PyProof.Rows
namespace PyProof.Rows
open PySem
section
variable {M : Model} {A : Around} {E : Value → Shared → Prop} {s : Shared} {O : KeyOrd} {key : Keyed → O.α} {kd : SortKind} {S : Keyed → Prop}
structure MH (O : KeyOrd) (key : Keyed → O.α) (la lb : List Keyed) (out : Array Keyed) (na nb : Nat) : Prop where
  so : out.toList.Pairwise fun x y => RK O key y x
  oa : ∀ x ∈ la.take na, ∀ y ∈ out.toList, RK O key x y
  ob : ∀ x ∈ lb.take nb, ∀ y ∈ out.toList, RK O key x y
  pm : (la.take na ++ lb.take nb ++ out.toList).Perm (la ++ lb)
abbrev HiS := Option (Array Keyed) × Nat × Nat × Array Keyed × Nat × Nat × Nat
section
variable {a b out : Array Keyed} {na nb : Nat} {st : SortSt} {R : ForInStep HiS → SortSt → Prop}
end
section
variable {a b : Array Keyed} {st : SortSt}
end
end
end PyProof.Rows
namespace PyProof.Rows
open PySem
section
variable {M : Model} {A : Around} {E : Value → Shared → Prop} {s : Shared} {O : KeyOrd} {key : Keyed → O.α} {kd : SortKind} {S : Keyed → Prop}
end
end PyProof.Rows
namespace PyProof.Rows
open PySem
section
variable {M : Model} {A : Around} {E : Value → Shared → Prop} {s : Shared} {O : KeyOrd} {key : Keyed → O.α} {kd : SortKind} {S : Keyed → Prop}
/-- as it was, but for the order of what stands from lo on -/
def Stp (lo : Nat) (st st' : SortSt) : Prop := kindOf st' = kindOf st ∧ failedOf st' = failedOf st ∧ pendingOf st' = pendingOf st ∧ (arrOf st').Perm (arrOf st) ∧ ∀ i, i < lo → (arrOf st')[i]? = (arrOf st)[i]?
theorem Stp.refl (lo : Nat) (st : SortSt) : Stp lo st st := ⟨rfl, rfl, rfl, Array.Perm.refl _, fun _ _ => rfl⟩
theorem Stp.trans {lo : Nat} {a b c : SortSt} (h : Stp lo a b) (k : Stp lo b c) : Stp lo a c := ⟨k.1.trans h.1, k.2.1.trans h.2.1, k.2.2.1.trans h.2.2.1, k.2.2.2.1.trans h.2.2.2.1, fun i hi => (k.2.2.2.2 i hi).trans (h.2.2.2.2 i hi)⟩
theorem Stp.size {lo : Nat} {a b : SortSt} (h : Stp lo a b) : (arrOf b).size = (arrOf a).size := h.2.2.2.1.size_eq
theorem Stp.all {lo : Nat} {a b : SortSt} (h : Stp lo a b) (hS : ∀ x ∈ (arrOf a).toList, S x) : ∀ x ∈ (arrOf b).toList, S x := fun x hx => hS x ((Array.perm_iff_toList_perm.mp h.2.2.2.1).mem_iff.mp hx)
end
end PyProof.Rows
namespace PyProof.Rows
open PySem
section
variable {M : Model} {A : Around} {E : Value → Shared → Prop} {s : Shared} {O : KeyOrd} {key : Keyed → O.α} {kd : SortKind} {S : Keyed → Prop}
/-- where the runs lie -/
def offs : List (List Keyed) → Nat → List (Nat × Nat)
  | [], _ => []
  | g :: gs, o => (o, g.length) :: offs gs (o + g.length)
structure PI (O : KeyOrd) (key : Keyed → O.α) (kd : SortKind) (a₀ : Array Keyed) (st : SortSt) (segs : List (List Keyed)) (rest : List Keyed) : Prop where
  kind : kindOf st = kd
  fail : failedOf st = none
  perm : (arrOf st).Perm a₀
  arr : (arrOf st).toList = segs.flatten ++ rest
  srt : ∀ g ∈ segs, 1 ≤ g.length ∧ g.Pairwise (RK O key)
  pend : (pendingOf st).toList.map (fun p => (p.1, p.2.1)) = offs segs 0
theorem PI.size {a₀ : Array Keyed} {st : SortSt} {segs : List (List Keyed)} {rest : List Keyed} (h : PI O key kd a₀ st segs rest) : a₀.size = segs.flatten.length + rest.length := by
  rw [← h.perm.size_eq, ← Array.length_toList, h.arr, List.length_append]
end
end PyProof.Rows

/-! ## sorted(list of tuples of ints), however long -/
namespace L2
open PySem PySem.Spec PyProof.Rows
section
variable {prog : Program} {w : World} {A : Around} {E : Value → Shared → Prop} {s : Shared}
def sameBut (a : Addr) (h h' : Heap) : Prop := ∀ b o, b ≠ a → h.get? b = some o → h'.get? b = some o
/-! ### tuples of ints as keys -/
end
end L2
namespace L2
open PySem PySem.Spec PyProof.Rows My
section
variable {X : Cx}
end
end L2

/-! ## a tuple in a list of tuples, and not in it -/
namespace L2
open PySem PySem.Spec PyProof.Rows
section
variable {X : Cx}
end
end L2
namespace My
open PySem L2
/-! ### rows in order -/
end My

/-! ## a tie beside a tree has a ring -/
namespace My
open PySem L2
end My

/-! ## greater numbers -/
namespace L2
open PySem PySem.Spec PyProof.Rows
section
variable {X : Cx}
end
end L2

/-! ## sorted(list of lists of ints) -/
namespace L2
open PySem PySem.Spec PyProof.Rows
open PySem.SeqAt
open PySem.AutoSeq1 (wpAny_loadPart')
open PySem.MeetsSeq PySem.MeetsSeq2 PySem.MeetsSeq3
end L2
namespace L2
open PySem PySem.Spec PyProof.Rows My
section
variable {prog : Program} {w : World} {A : Around} {E : Value → Shared → Prop} {s : Shared}
end
section
variable {X : Cx}
end
end L2

/-! ## greater factors -/
namespace L2
open PySem PySem.Spec PyProof.Rows
def CMulC (i j : Int) : Prop := (-(10 ^ 200) < i ∧ i < 10 ^ 200) ∧ (-(10 ^ 200) < j ∧ j < 10 ^ 200)
theorem bits_great {a : Int} (h1 : -(10 ^ 200) < a) (h2 : a < 10 ^ 200) : Builtin.Int.intBits a ≤ 1000 := by
  have h : a.natAbs < 10 ^ 200 := by omega
  exact PySem.intBits_le_iff.mpr (Nat.lt_trans h (by decide))
section
variable {X : Cx}
theorem op_mulC : OpR X (binaryOp .Mult) (rI CMulC fun i j => .int (i * j)) := opI fun _ _ _ _ _ _ _ hc q => mul_int q (.of_bits (Nat.le_trans (bits_great hc.1.1 hc.1.2) (by decide)) (Nat.le_trans (bits_great hc.2.1 hc.2.2) (by decide)))
end
end L2

/-! ## all rows of ties that are not longer than a tree -/
namespace My
open PySem L2
end My

/-! ## min(list of ints) -/
namespace L2
open PySem PySem.Spec PyProof.Rows
section
variable {X : Cx}
theorem call_minIK (K : PySem.W.Frag) (hc : X.calm = true) (hk : X.K = K := by rfl) : CallR X (.builtin "min") (fun xs H Q => ∃ (p : Addr) (ns : List Int), xs = [.ref p] ∧ SqL K H p (ns.map V.int) ∧ 0 < ns.length ∧ ∀ m : Int, m ∈ ns → (∀ a ∈ ns, m ≤ a) → Q (.int m) H) := by
  subst hk
  intro pins s σ H xs us Q I r h
  obtain ⟨p, ns, rfl, hq, hn, q⟩ := h
  obtain ⟨u, rfl, ru⟩ := vals1 r
  obtain rfl : u = Value.ref p := ru
  obtain ⟨its, rv, pl, hz⟩ := I.list hq
  have hi := ints_of_vals rv
  obtain ⟨xs, e⟩ := hi.allInts.items
  have hns : ns = xs.toList.map (·.1) := by rw [← hi.numsOf, ← nums_intItems, ← e]
  have hsz : 0 < xs.size := by rw [hns, List.length_map, Array.length_toList] at hn; exact hn
  have hl := pl.isList
  rw [e] at hl
  refine min_intList (I.ok.hd hc) hl hsz fun v h' tk hv hk => ?_
  obtain ⟨t, rfl⟩ := intItems_at hv
  obtain ⟨h1, h2⟩ := argBest_lt (numAt xs) (xs.size - 1)
  refine ⟨.int _, H, I.kept (t' := tk) hk, ⟨t, rfl⟩, q _ ?_ fun a ha => ?_⟩
  · rw [hns, numAt_eq]
    exact getD_mem (by rw [List.length_map, Array.length_toList]; omega)
  · rw [hns] at ha
    obtain ⟨j, hj, rfl⟩ := mem_getD ha
    rw [List.length_map, Array.length_toList] at hj
    rw [← numAt_eq]
    exact h2 j (by omega)
end
end L2

/-! ## ways from tree to tree -/
namespace My
open PySem L2
/-- the ends of a tie are joined over its ring -/
theorem ring_conn {n : Int} {ps : List (Int × Int)} {T : List Int} {z : Int} (g : GoodW n ps) (hT : IsTree n ps T) (z0 : 0 ≤ z) (z1 : z < (ps.length : Int)) : Conn (endsOf ps (ringA n ps T z T)) (endOf ps z).1 (endOf ps z).2 := by
  have he := end_in (z := z) g z0 z1
  have key : ∀ D : List Int, (∀ o ∈ D, o ∈ T ∧ z ∉ cutT n ps T o) → Conn (endsOf ps (T.filter fun y => decide (y ∉ D))) (endOf ps z).1 (endOf ps z).2 := by
    intro D
    induction D with
    | nil =>
      intro _
      have e : (T.filter fun y => decide (y ∉ ([] : List Int))) = T := List.filter_eq_self.mpr fun y _ => by simp
      rw [e]
      exact hT.2.2 _ _ he.1 he.2
    | cons o D ih =>
      intro hD
      have c := ih fun y hy => hD y (List.mem_cons_of_mem _ hy)
      obtain ⟨hoT, hoc⟩ := hD o List.mem_cons_self
      by_cases hoD : o ∈ D
      · refine c.mono (ends_sub fun y hy => ?_)
        obtain ⟨h1, h2⟩ := List.mem_filter.mp hy
        have h2 := of_decide_eq_true h2
        exact List.mem_filter.mpr ⟨h1, decide_eq_true fun h => (List.mem_cons.mp h).elim (fun e => h2 (e ▸ hoD)) h2⟩
      · refine Classical.byContradiction fun hno => ?_
        have hsub : ∀ y, y ∈ (T.filter fun y => decide (y ∉ o :: D)) → y ∈ wo T o := fun y hy => by
          obtain ⟨h1, h2⟩ := List.mem_filter.mp hy
          have h2 := of_decide_eq_true h2
          exact wo_mem.mpr ⟨h1, fun e => h2 (by rw [e]; exact List.mem_cons_self)⟩
        have c2 : Conn (endsOf ps ((T.filter fun y => decide (y ∉ o :: D)) ++ [o])) (endOf ps z).1 (endOf ps z).2 := (conn_perm fun y => by
          rw [List.mem_append, List.mem_filter, List.mem_filter, List.mem_singleton]
          simp only [decide_eq_true_eq, List.mem_cons, not_or]
          constructor
          · rintro ⟨h1, h2⟩
            by_cases e : y = o
            · exact .inr e
            · exact .inl ⟨h1, e, h2⟩
          · rintro (⟨h1, _, h2⟩ | e)
            · exact ⟨h1, h2⟩
            · rw [e]; exact ⟨hoT, hoD⟩).mp c
        have hall : ∀ y ∈ (T.filter fun y => decide (y ∉ o :: D)), 0 ≤ y ∧ y < (ps.length : Int) := fun y hy => hT.1.all y (List.mem_filter.mp hy).1
        obtain ⟨o0, o1⟩ := hT.1.all o hoT
        have hin : InN n.toNat (endsOf ps (T.filter fun y => decide (y ∉ o :: D))) := ends_in g hall
        have hin1 : InN n.toNat (endsOf ps ((T.filter fun y => decide (y ∉ o :: D)) ++ [o])) := ends_in g fun y hy => by
          rcases List.mem_append.mp hy with h | h
          · exact hall y h
          · rw [List.mem_singleton.mp h]; exact ⟨o0, o1⟩
        have hoe := end_in (z := o) g o0 o1
        have hl := lms_length n.toNat (endsOf ps (T.filter fun y => decide (y ∉ o :: D)))
        have own : ¬ Conn (endsOf ps (wo T o)) (endOf ps o).1 (endOf ps o).2 := (cutT_mem g hT o0 o1).mp ((cut_own g hT hoT hoT).mpr rfl)
        have cw : Conn (endsOf ps (wo T o)) (endOf ps z).1 (endOf ps z).2 := Classical.byContradiction fun h => hoc ((cutT_mem g hT z0 z1).mpr h)
        have up : ∀ {i j : Nat}, i < n.toNat → j < n.toNat → mk (lms n.toNat (endsOf ps (T.filter fun y => decide (y ∉ o :: D)))) i = mk (lms n.toNat (endsOf ps (T.filter fun y => decide (y ∉ o :: D)))) j → Conn (endsOf ps (wo T o)) i j := fun hi hj e => ((lms_iff hin hi hj).mp e).mono (ends_sub hsub)
        have m := (lms_iff hin1 he.1 he.2).mpr c2
        rw [ends_snoc, lms_snoc, lm_iff (by omega) (by omega)] at m
        rcases m with m | ⟨m1, m2⟩
        · exact hno ((lms_iff hin he.1 he.2).mp m)
        · rcases m1 with m1 | m1 <;> rcases m2 with m2 | m2
          · exact hno ((lms_iff hin he.1 he.2).mp (m1.trans m2.symm))
          · exact own (((up he.1 hoe.1 m1).symm.trans cw).trans (up he.2 hoe.2 m2))
          · exact own (((up he.2 hoe.1 m2).symm.trans cw.symm).trans (up he.1 hoe.2 m1))
          · exact hno ((lms_iff hin he.1 he.2).mp (m1.trans m2.symm))
  have c := key (T.filter fun y => decide (z ∉ cutT n ps T y)) fun o ho => by
    obtain ⟨h1, h2⟩ := List.mem_filter.mp ho
    exact ⟨h1, of_decide_eq_true h2⟩
  refine c.mono (ends_sub fun y hy => ?_)
  obtain ⟨h1, h2⟩ := List.mem_filter.mp hy
  have h2 := of_decide_eq_true h2
  exact ringA_mem.mpr ⟨h1, Classical.byContradiction fun h => h2 (List.mem_filter.mpr ⟨h1, decide_eq_true h⟩)⟩
/-- a ring has a tie that another tree has not -/
theorem ring_out {n : Int} {ps : List (Int × Int)} {T W : List Int} {z : Int} (g : GoodW n ps) (hT : IsTree n ps T) (hW : IsTree n ps W) (hz : z ∈ W) (hzT : z ∉ T) : ∃ o ∈ ringA n ps T z T, o ∉ W := by
  obtain ⟨z0, z1⟩ := hW.1.all z hz
  refine Classical.byContradiction fun hno => ?_
  refine (cutT_mem g hW z0 z1).mp ((cut_own g hW hz hz).mpr rfl) ((ring_conn g hT z0 z1).mono (ends_sub fun y hy => ?_))
  have hy1 := ringA_mem.mp hy
  refine wo_mem.mpr ⟨Classical.byContradiction fun h => hno ⟨y, hy, h⟩, fun e => hzT (e ▸ hy1.1)⟩
/-- the steps of a way: by the ties of the other tree, in their order -/
inductive WP (n : Int) (ps : List (Int × Int)) (W : List Int) (T0 : List Int) : List Int → List (Int × Int) → List Int → Prop
  | nil : WP n ps W T0 [] [] T0
  | skip {l : List Int} {ws : List (Int × Int)} {T : List Int} {z : Int} : WP n ps W T0 l ws T → z ∈ T → WP n ps W T0 (l ++ [z]) ws T
  | step {l : List Int} {ws : List (Int × Int)} {T T' : List Int} {z o : Int} : WP n ps W T0 l ws T → z ∉ T → o ∈ ringA n ps T z T → o ∉ W → (∀ y ∈ ringA n ps T z T, y ∉ W → o ≤ y) → T'.Perm (wo T o ++ [z]) → T'.Pairwise (· ≤ ·) → WP n ps W T0 (l ++ [z]) (ws ++ [(o, z)]) T'
/-- what a way does, from its beginning on -/
def Leads (n : Int) (ps : List (Int × Int)) : List Int → List (Int × Int) → List Int → Prop
  | T, [], U => T = U
  | T, (o, z) :: ws, U => o ∈ T ∧ z ∉ T ∧ ∃ T', T'.Perm (wo T o ++ [z]) ∧ T'.Pairwise (· ≤ ·) ∧ IsTree n ps T' ∧ Leads n ps T' ws U
theorem Leads.snoc {n : Int} {ps : List (Int × Int)} {U V : List Int} {o z : Int} : ∀ {ws : List (Int × Int)} {T : List Int}, Leads n ps T ws U → o ∈ U → z ∉ U → V.Perm (wo U o ++ [z]) → V.Pairwise (· ≤ ·) → IsTree n ps V → Leads n ps T (ws ++ [(o, z)]) V
  | [], T, h, h1, h2, h3, h4, h5 => by
    have h : T = U := h
    subst h
    exact ⟨h1, h2, V, h3, h4, h5, rfl⟩
  | (o', z') :: ws, T, ⟨a1, a2, T', a3, a4, a5, a6⟩, h1, h2, h3, h4, h5 => ⟨a1, a2, T', a3, a4, a5, Leads.snoc a6 h1 h2 h3 h4 h5⟩
theorem WP.facts {n : Int} {ps : List (Int × Int)} {W T0 l : List Int} {ws : List (Int × Int)} {T : List Int} (g : GoodW n ps) (hT0 : IsTree n ps T0) (h : WP n ps W T0 l ws T) (hl : ∀ z ∈ l, z ∈ W) (hW : IsTree n ps W) :
    IsTree n ps T ∧ (∀ z ∈ l, z ∈ T) ∧ Leads n ps T0 ws T ∧ ws.length + (T.filter fun y => decide (y ∉ W)).length = (T0.filter fun y => decide (y ∉ W)).length := by
  induction h with
  | nil => exact ⟨hT0, fun z h => (by cases h), rfl, by simp⟩
  | @skip l ws T z h1 h2 ih =>
    obtain ⟨i1, i2, i3, i4⟩ := ih fun y hy => hl y (List.mem_append_left _ hy)
    refine ⟨i1, fun y hy => ?_, i3, i4⟩
    rcases List.mem_append.mp hy with h | h
    · exact i2 y h
    · rw [List.mem_singleton.mp h]; exact h2
  | @step l ws T T' z o h1 h2 h3 h4 h5 h6 h7 ih =>
    obtain ⟨i1, i2, i3, i4⟩ := ih fun y hy => hl y (List.mem_append_left _ hy)
    have hz := hl z (List.mem_append_right _ (List.mem_singleton.mpr rfl))
    have hr := ringA_mem.mp h3
    have hx : exg n ps T o z := ⟨hr.1, fun e => h2 (e ▸ hr.1), hr.2⟩
    have hT' := exg_tree g i1 hx h6 h7
    have mem : ∀ y, y ∈ T' ↔ (y ∈ T ∧ y ≠ o) ∨ y = z := fun y => by rw [h6.mem_iff, List.mem_append, wo_mem, List.mem_singleton]
    refine ⟨hT', fun y hy => ?_, i3.snoc hr.1 h2 h6 h7 hT', ?_⟩
    · rw [mem]
      rcases List.mem_append.mp hy with h | h
      · refine .inl ⟨i2 y h, fun e => h4 (by rw [← e]; exact hl y (List.mem_append_left _ h))⟩
      · exact .inr (List.mem_singleton.mp h)
    · have e1 : (T'.filter fun y => decide (y ∉ W)).length = ((wo T o ++ [z]).filter fun y => decide (y ∉ W)).length := (h6.filter _).length_eq
      have e2 : ((wo T o ++ [z]).filter fun y => decide (y ∉ W)) = wo (T.filter fun y => decide (y ∉ W)) o := by
        rw [List.filter_append, List.filter_cons, if_neg (by simpa using hz), List.filter_nil, List.append_nil]
        unfold wo
        rw [List.filter_filter, List.filter_filter]
        congr 1
        funext y
        rw [Bool.and_comm]
      have hnd : (T.filter fun y => decide (y ∉ W)).Nodup := i1.1.nodup.sublist List.filter_sublist
      have e3 := wo_length hnd (List.mem_filter.mpr ⟨hr.1, decide_eq_true h4⟩)
      rw [e1, e2, List.length_append, List.length_singleton]
      omega
/-- all ties gone through, the other tree is reached -/
theorem WP.end {n : Int} {ps : List (Int × Int)} {W T0 : List Int} {ws : List (Int × Int)} {T : List Int} (g : GoodW n ps) (hT0 : IsTree n ps T0) (h : WP n ps W T0 W ws T) (hW : IsTree n ps W) : T = W ∧ Leads n ps T0 ws W ∧ ws.length = (T0.filter fun y => decide (y ∉ W)).length := by
  obtain ⟨f1, f2, f3, f4⟩ := h.facts g hT0 (fun _ h => h) hW
  have hs := asc_sub (isSet_iff.mp hW.1).2 (isSet_iff.mp f1.1).2 f2
  have e : W = T := hs.eq_of_length (by have := f1.2.1; have := hW.2.1; omega)
  subst e
  refine ⟨rfl, f3, ?_⟩
  have : (W.filter fun y => decide (y ∉ W)) = [] := List.filter_eq_nil_iff.mpr fun y hy => by simpa using hy
  rw [this] at f4
  simpa using f4
end My

/-! ## pieces joined -/
namespace My
open PySem L2
end My

/-! ## webs numbered anew -/
namespace My
open PySem L2
end My

/-! ## min and max of a tuple of ints -/
namespace L2
open PySem PySem.Spec PyProof.Rows
section
variable {prog : Program} {w : World} {A : Around} {E : Value → Shared → Prop} {s : Shared} {l : Addr} {xs : Array (Int × Tok)}
end
section
variable {X : Cx}
end
end L2

/-! ## one tie left out, two places drawn together -/
namespace My
open PySem L2
end My

/-! ## an item of a list or of a tuple; two tests with one end -/
namespace L2
open PySem PySem.Spec PyProof.Rows
section
variable {X : Cx}
end
end L2

/-! ## lists of a known length -/
namespace My
theorem len1 {α : Type} {l : List α} (h : l.length = 1) : ∃ a, l = [a] := by
  cases l with
  | nil => cases h
  | cons a l => cases l with
    | nil => exact ⟨a, rfl⟩
    | cons b l => simp at h
theorem len2 {α : Type} {l : List α} (h : l.length = 2) : ∃ a b, l = [a, b] := by
  cases l with
  | nil => cases h
  | cons a l =>
    obtain ⟨b, rfl⟩ := len1 (Nat.succ.inj h)
    exact ⟨a, b, rfl⟩
theorem len3 {α : Type} {l : List α} (h : l.length = 3) : ∃ a b c, l = [a, b, c] := by
  cases l with
  | nil => cases h
  | cons a l =>
    obtain ⟨b, c, rfl⟩ := len2 (Nat.succ.inj h)
    exact ⟨a, b, c, rfl⟩
theorem len4 {α : Type} {l : List α} (h : l.length = 4) : ∃ a b c d, l = [a, b, c, d] := by
  cases l with
  | nil => cases h
  | cons a l =>
    obtain ⟨b, c, d, rfl⟩ := len3 (Nat.succ.inj h)
    exact ⟨a, b, c, d, rfl⟩
end My

/-! ## the script's numbers have a weight; products within it -/
namespace L2
open PySem PySem.Spec PyProof.Rows
section
variable {X : Cx}
end
end L2
namespace Att
open PySem PySem.W PySem.Calls PyProof.Rows
end Att
namespace L2
open PySem PySem.Spec PyProof.Rows
end L2

/-! ## two webs put together; a pair many times -/
namespace My
open PySem L2
end My

/-! ## tuple(list or tuple), told once -/
namespace L2
open PySem PySem.Spec PyProof.Rows
section
variable {X : Cx}
theorem call_tupleQ (K : PySem.W.Frag) (hk : X.K = K := by rfl) : CallR X (.type "tuple") (fun xs H Q => ∃ (p : Addr) (ys : List V) (kd : Bool), xs = [.ref p] ∧ My.SqK kd K H p ys ∧ ∀ (r : Addr) (H' : Hp), Same H H' → My.SqK true K H' r ys → Q (.ref r) H') := by
  intro pins s σ H xs us Q I r h
  obtain ⟨p, ys, kd, rfl, hq, q⟩ := h
  refine call_tupleK K hk pins s σ H _ us Q I r ⟨p, ys, rfl, ?_⟩
  cases kd with
  | false => exact .inl ⟨hq, fun l hl => q l _ (My.same_at hl) (SqT.of upd_same)⟩
  | true => exact .inr ⟨hq, q p H (Same.refl H) hq⟩
end
end L2
namespace My
open PySem L2
theorem SqK.mutL {K : PySem.W.Frag} {H : Hp} {a d : Addr} {xs ys zs : List V} (h : SqK true K H a xs) (hd : H d = some (.lst ys)) : SqK true K (upd H d (.lst zs)) a xs := by
  rcases h with h | h
  · refine .inl ?_
    rcases h with h | ⟨o, h⟩
    · exact .inl (by rw [upd_ne (ne_of h hd (fun z => nomatch z))]; exact h)
    · exact .inr ⟨o, by rw [upd_ne (ne_of h hd (fun z => nomatch z))]; exact h⟩
  · exact .inr h
theorem filt_take {l : List Int} {f : Int → Bool} {i : Nat} {y : Int} (h : l[i]? = some y) : (l.take (i + 1)).filter f = (l.take i).filter f ++ (if f y = true then [y] else []) := by
  rw [List.take_succ, h, List.filter_append]
  congr 1
  by_cases e : f y = true
  · rw [if_pos e]; show List.filter _ [y] = _; rw [List.filter_cons, if_pos e]; rfl
  · rw [if_neg e]; show List.filter _ [y] = _; rw [List.filter_cons, if_neg e]; rfl
end My

/-! ## tuple(reversed(tuple)) -/
namespace L2
open PySem PySem.Spec PyProof.Rows
section
variable {prog : Program} {w : World} {A : Around} {E : Value → Shared → Prop} {s : Shared} {it a : Addr} {items : Array Value}
end
section
variable {X : Cx} {p p2 pos pos2 : Pos} {e : Expr} {t : TA}
end
end L2

/-! ## t + u and t[lo:hi] of own tuples, told once -/
namespace L2
open PySem PySem.Spec PyProof.Rows
section
variable {X : Cx}
def rCatQ : R2 := fun x y H Q => ∃ a b xs ys, x = .ref a ∧ y = .ref b ∧ H a = some (.tup xs) ∧ H b = some (.tup ys) ∧ xs.length + ys.length ≤ sizeLine ∧ ∀ (r : Addr) (H' : Hp), Same H H' → H' r = some (.tup (xs ++ ys)) → Q (.ref r) H'
theorem op_catQ (K : PySem.W.Frag) (hk : X.K = K := by rfl) : OpR X (binaryOp .Add) rCatQ := by
  intro pins s σ H x y v u Q I rx ry h
  obtain ⟨a, b, xs, ys, e1, e2, ha, hb, hz, q⟩ := h
  refine op_catU K hk pins s σ H x y v u Q I rx ry ⟨a, b, xs, ys, e1, e2, SqT.of ha, SqT.of hb, hz, fun hx => ?_, fun _ hy => ?_, fun _ _ p hp => q p _ (My.same_at hp) upd_same⟩
  · subst hx
    exact q b H (Same.refl H) hb
  · subst hy
    exact q a H (Same.refl H) (by rw [List.append_nil]; exact ha)
end
end L2

/-! ## partners between two trees -/
namespace My
open PySem L2
theorem Conn.lift {es fs : List (Nat × Nat)} (h : ∀ e ∈ es, Conn fs e.1 e.2) {i j : Nat} (c : Conn es i j) : Conn fs i j := by
  induction c with
  | refl i => exact .refl i
  | edge e => exact h _ e
  | symm _ ih => exact ih.symm
  | trans _ _ ih1 ih2 => exact ih1.trans ih2
theorem partner_ex {n : Int} {ps : List (Int × Int)} {T W : List Int} {z : Int} (g : GoodW n ps) (hT : IsTree n ps T) (hW : IsTree n ps W) (hz : z ∈ T) (hzW : z ∉ W) : ∃ y, exg n ps T z y ∧ exg n ps W y z := by
  obtain ⟨z0, z1⟩ := hT.1.all z hz
  refine Classical.byContradiction fun hno => ?_
  refine (cutT_mem g hT z0 z1).mp ((cut_own g hT hz hz).mpr rfl) ((ring_conn g hW z0 z1).lift fun e he => ?_)
  unfold endsOf at he
  obtain ⟨y, hy, rfl⟩ := List.mem_map.mp he
  obtain ⟨hyW, hyc⟩ := ringA_mem.mp hy
  obtain ⟨y0, y1⟩ := hW.1.all y hyW
  have hyz : y ≠ z := fun e => hzW (e ▸ hyW)
  have := (cutT_mem (o := z) g hT y0 y1)
  exact Classical.byContradiction fun h => hno ⟨y, ⟨hz, hyz, this.mpr h⟩, ⟨hyW, Ne.symm hyz, hyc⟩⟩
end My

/-! ## trees within joined ties, trees with a tie -/
namespace My
open PySem L2
end My

/-! ## tuple(..) of an own tuple or a list: an own tuple -/
namespace L2
open PySem PySem.Spec PyProof.Rows
section
variable {X : Cx}
theorem call_tupleH (K : PySem.W.Frag) (hk : X.K = K := by rfl) : CallR X (.type "tuple") (fun xs H Q => ∃ (p : Addr) (ys : List V), xs = [.ref p] ∧ (H p = some (.tup ys) ∨ SqL K H p ys) ∧ ∀ (r : Addr) (H' : Hp), Same H H' → H' r = some (.tup ys) → Q (.ref r) H') := by
  intro pins s σ H xs us Q I r h
  obtain ⟨p, ys, rfl, hq, q⟩ := h
  refine call_tupleK K hk pins s σ H _ us Q I r ⟨p, ys, rfl, ?_⟩
  rcases hq with hq | hq
  · exact .inr ⟨SqT.of hq, q p H (Same.refl H) hq⟩
  · exact .inl ⟨hq, fun l hl => q l _ (My.same_at hl) upd_same⟩
end
end L2
namespace My
open PySem L2
/-- a walk of good steps from a tree -/
inductive Wk (n : Int) (ps : List (Int × Int)) (T0 : List Int) : List (Int × Int) → List Int → Prop
  | nil : Wk n ps T0 [] T0
  | step {ws : List (Int × Int)} {T T' : List Int} {o z : Int} : Wk n ps T0 ws T → exg n ps T o z → T'.Perm (wo T o ++ [z]) → T'.Pairwise (· ≤ ·) → Wk n ps T0 (ws ++ [(o, z)]) T'
theorem Wk.tree {n : Int} {ps : List (Int × Int)} {T0 : List Int} {ws : List (Int × Int)} {U : List Int} (g : GoodW n ps) (hT : IsTree n ps T0) (h : Wk n ps T0 ws U) : IsTree n ps U := by
  induction h with
  | nil => exact hT
  | step _ h2 h3 h4 ih => exact exg_tree g ih h2 h3 h4
theorem Wk.last {n : Int} {ps : List (Int × Int)} {T0 U : List Int} {ws : List (Int × Int)} {o z : Int} (h : Wk n ps T0 (ws ++ [(o, z)]) U) : ∃ T, Wk n ps T0 ws T ∧ exg n ps T o z ∧ U.Perm (wo T o ++ [z]) ∧ U.Pairwise (· ≤ ·) := by
  generalize hl : ws ++ [(o, z)] = l at h
  cases h with
  | nil => simp at hl
  | step k1 k2 k3 k4 =>
    obtain ⟨rfl, e⟩ := List.append_inj' hl rfl
    cases e
    exact ⟨_, k1, k2, k3, k4⟩
theorem Wk.uniq {n : Int} {ps : List (Int × Int)} {T0 : List Int} {ws : List (Int × Int)} {U : List Int} (h : Wk n ps T0 ws U) : ∀ {V}, Wk n ps T0 ws V → U = V := by
  induction h with
  | nil =>
    intro V k
    generalize hl : ([] : List (Int × Int)) = l at k
    cases k with
    | nil => rfl
    | step _ _ _ _ => simp at hl
  | step h1 h2 h3 h4 ih =>
    intro V k
    obtain ⟨T, k1, k2, k3, k4⟩ := k.last
    obtain rfl := ih k1
    exact sorted_uniq (h3.trans k3.symm) h4 k4
/-- a walk that breaks off -/
def Brk (n : Int) (ps : List (Int × Int)) (T0 : List Int) (ws : List (Int × Int)) : Prop := ∃ (i : Nat) (o z : Int) (U : List Int), ws[i]? = some (o, z) ∧ Wk n ps T0 (ws.take i) U ∧ ¬ exg n ps U o z
end My

/-! ## the tree farthest from a tree -/
namespace My
open PySem L2
theorem filter_two {α : Type} (p : α → Bool) (l : List α) : (l.filter p).length + (l.filter fun x => !p x).length = l.length := by
  induction l with
  | nil => rfl
  | cons x l ih =>
    rw [List.filter_cons, List.filter_cons]
    cases p x with
    | true => simp only [if_true, Bool.not_true, Bool.false_eq_true, if_false, List.length_cons]; omega
    | false => simp only [Bool.not_false, if_true, Bool.false_eq_true, if_false, List.length_cons]; omega
end My

/-! ## forests, listed in order -/
namespace My
open PySem L2
/-- no ring among them -/
def Fr (n : Nat) (ps : List (Int × Int)) (l : List Int) : Bool := decide (grw n ps l = l)
theorem Fr.nil (n : Nat) (ps : List (Int × Int)) : Fr n ps [] = true := decide_eq_true rfl
/-- the forests of so many ties -/
def frs (n : Nat) (ps : List (Int × Int)) (k : Nat) : List (List Int) := (cmb (ps.length : Int) k).filter (Fr n ps)
end My

/-! ## a tree that no exchange makes shorter is a shortest one -/
namespace My
open PySem L2
end My

/-! ## the gains of a tree, found tie by tie -/
namespace My
open PySem L2
end My

/-! ## the least and the greatest tree with some ties and without others -/
namespace My
open PySem L2
end My

/-! ## for x in reversed(a list or a tuple) -/
namespace L2
open PySem PySem.Spec PyProof.Rows
/-- at turn i: the i-th from the end -/
def ItrL (K : PySem.W.Frag) (a : Addr) (m : Nat) : It :=
  ⟨fun i H => i < m ∧ ∃ xs x, SqL K H a xs ∧ xs[m - 1 - i]? = some x, fun i H x H' => H' = H ∧ ∀ xs, SqL K H a xs → xs[m - 1 - i]? = some x, fun i _ => i = m⟩
def ItrT (K : PySem.W.Frag) (a : Addr) (m : Nat) : It :=
  ⟨fun i H => i < m ∧ m < 2 ^ 62 ∧ ∃ xs x, SqT K H a xs ∧ xs[m - 1 - i]? = some x, fun i H x H' => H' = H ∧ ∀ xs, SqT K H a xs → xs[m - 1 - i]? = some x, fun i _ => i = m⟩
theorem turn_revL {P : Program} {w : World} {K : PySem.W.Frag} {tg : Expr} (a it : Addr) (m : Nat) : Turn P w K tg (ItrL K a m) [it] it (fun i h => h.IsRevIter it a ((m : Int) - 1 - (i : Int))) where
  mem := by simp
  obj := fun i h st b hb => by
    have e : b = it := by simpa using hb
    subst e
    obtain ⟨o, e, c, d⟩ := st
    exact ⟨o, e, fun v z => by rw [d] at z; cases z⟩
  keep := fun i h h' st k => st.at fun o e => k it (by simp) o e
  item := by
    intro X hP hw hK hc i pins s σ H E I hf st hg
    subst hP hw hK
    obtain ⟨him, xs, x, hq, hx⟩ := hg
    obtain ⟨its, rv, p, hz⟩ := I.list hq
    obtain ⟨u, hu, ru⟩ := rv.get hx
    obtain ⟨f0, f1, f2, f3, f4, f5⟩ := hf it (by simp)
    rw [show (m : Int) - 1 - (i : Int) = ((m - 1 - i : Nat) : Int) by omega] at st
    refine wpAny_pyNext_rev_item st p.isList (x := u) (by simpa using hu) fun h' st' sb => ?_
    rw [show ((m - 1 - i : Nat) : Int) - 1 = (m : Int) - 1 - ((i + 1 : Nat) : Int) by omega] at st'
    have I1 : Inv X pins σ H { s with heap := h' } := I.turned (t' := s.toks) (fun b o hb e => (sb.2 b hb).trans e) f0 f1 f3 f4 f5
    obtain ⟨o, e, c, d⟩ := id st'
    exact ⟨u, rfl, go_of (s := { s with heap := h' }) e c d (by decide) ⟨x, H, I1, ru, ⟨rfl, fun ys hy => by rw [I.list_inj hy hq]; exact hx⟩, st', fun b hb => (hf b hb).1⟩⟩
  done := by
    intro X hP hw hK hc i pins s σ H E I hf st hg
    subst hP hw hK
    obtain rfl : i = m := hg
    rw [show (i : Int) - 1 - (i : Int) = -1 by omega] at st
    obtain ⟨f0, f1, f2, f3, f4, f5⟩ := hf it (by simp)
    exact wpAny_pyNext_rev_end (I.ok.hd hc) st fun h' eb => ⟨rfl, I.turned (t' := s.toks) (fun b o hb e => eb b o hb e) f0 f1 f3 f4 f5⟩
  self := fun _ _ _ _ _ st h => wpAny_pyIter_revIter st h
theorem turn_revT {P : Program} {w : World} {K : PySem.W.Frag} {tg : Expr} (a it : Addr) (m : Nat) : Turn P w K tg (ItrT K a m) [it] it (fun i h => IsRv h it a ((m : Int) - 1 - (i : Int))) where
  mem := by simp
  obj := fun i h st b hb => by
    have e : b = it := by simpa using hb
    subst e
    obtain ⟨o, e, c, d⟩ := st
    exact ⟨o, e, fun v z => by rw [d] at z; cases z⟩
  keep := fun i h h' st k => st.keep fun o e => k it (by simp) o e
  item := by
    intro X hP hw hK hc i pins s σ H E I hf st hg
    subst hP hw hK
    obtain ⟨him, hm62, xs, x, hq, hx⟩ := hg
    obtain ⟨its, rv, p, hz⟩ := I.tuple hq
    obtain ⟨u, hu, ru⟩ := rv.get hx
    obtain ⟨f0, f1, f2, f3, f4, f5⟩ := hf it (by simp)
    rw [show (m : Int) - 1 - (i : Int) = ((m - 1 - i : Nat) : Int) by omega] at st
    refine rv_item st p (x := u) (by simpa using hu) (by omega) fun h' tk st' sb => ?_
    rw [show ((m - 1 - i : Nat) : Int) - 1 = (m : Int) - 1 - ((i + 1 : Nat) : Int) by omega] at st'
    have I1 : Inv X pins σ H { s with heap := h', toks := tk } := I.turned (t' := tk) (fun b o hb e => (sb.2 b hb).trans e) f0 f1 f3 f4 f5
    obtain ⟨o, e, c, d⟩ := id st'
    exact ⟨u, rfl, go_of (s := { s with heap := h', toks := tk }) e c d (by decide) ⟨x, H, I1, ru, ⟨rfl, fun ys hy => by rw [I.tuple_inj hy hq]; exact hx⟩, st', fun b hb => (hf b hb).1⟩⟩
  done := by
    intro X hP hw hK hc i pins s σ H E I hf st hg
    subst hP hw hK
    obtain rfl : i = m := hg
    rw [show (i : Int) - 1 - (i : Int) = -1 by omega] at st
    obtain ⟨f0, f1, f2, f3, f4, f5⟩ := hf it (by simp)
    exact rv_end (I.ok.hd hc) st fun h' eb => ⟨rfl, I.turned (t' := s.toks) (fun b o hb e => eb b o hb e) f0 f1 f3 f4 f5⟩
  self := fun _ _ _ _ _ st h => rv_self st h
def iRev (K : PySem.W.Frag) (ta : TA) : TI := fun σ H R => ta σ H fun vs H1 => ∃ a, vs = [.ref a] ∧ ((∃ xs, SqL K H1 a xs ∧ R (ItrL K a xs.length) H1) ∨ ∃ xs, SqT K H1 a xs ∧ R (ItrT K a xs.length) H1)
section
variable {X : Cx}
theorem pi_rev (K : PySem.W.Frag) {tg : Expr} {a : Expr} {ta : TA} {p pos : Pos} (hg : Gl X "reversed") (hm : X.mg "reversed" = none) (ha : PA X [a] ta) (hs : starEach [a] X.env = [(false, eval a X.env)] := by rfl) (hk : X.K = K := by rfl) :
    PI X tg (.Call (.Name "reversed" p) [a] [] pos) (iRev K ta) := by
  subst hk
  intro pins s σ H R I h
  refine Call_ (ld_blt I hg hm Boot.«reversed» (PyProof.Rows.callWith_type1 (thn (ha pos pins s σ H _ I h) fun us s1 ⟨vs, H1, I1, r1, q1⟩ => ?_) hs rfl))
  obtain ⟨b, e, q⟩ := q1
  subst e
  obtain ⟨u, rfl, ru⟩ := vals1 r1
  obtain rfl : u = Value.ref b := ru
  rcases q with ⟨xs, hq, q⟩ | ⟨xs, hq, q⟩
  · obtain ⟨its, rv, pl, hz⟩ := I1.list hq
    have el : its.toArray.size = xs.length := by rw [List.size_toArray, ← rv.length]
    refine call_reversed_list pl.isList ?_
    have hit : (s1.heap.push (revObj b ((its.toArray.size : Int) - 1))).IsRevIter s1.heap.objs.size b ((its.toArray.size : Int) - 1) := ⟨_, Heap.get?_push_size _ rfl, rfl, rfl⟩
    refine wpAny_pyIter_revIter (s := { s1 with heap := s1.heap.push (revObj b ((its.toArray.size : Int) - 1)) }) hit ?_
    refine ⟨s1.heap.objs.size, [s1.heap.objs.size], _, _, H1, rfl, I1.kept (t' := s1.toks) fun b o e => Heap.get?_push_of_some _ e, turn_revL b _ xs.length, ?_, fun c hc => ?_, q⟩
    · rw [el] at hit
      show Heap.IsRevIter _ _ _ _
      rw [show (xs.length : Int) - 1 - ((0 : Nat) : Int) = (xs.length : Int) - 1 by omega, el]
      exact hit
    · have e : c = s1.heap.objs.size := by simpa using hc
      subst e
      exact I1.fpOk (Nat.le_refl _) (I1.hok.fresh (Nat.le_refl _))
  · obtain ⟨its, rv, pl, hz⟩ := I1.tuple hq
    have el : its.toArray.size = xs.length := by rw [List.size_toArray, ← rv.length]
    have hzl : sizeLine = 16777216 := sizeLine_eq
    refine rv_call pl (by omega) fun tk1 h1 hit ext1 hz1 => ?_
    refine rv_self (s := { s1 with heap := h1, toks := tk1 }) hit ?_
    refine ⟨s1.heap.objs.size, [s1.heap.objs.size], _, _, H1, rfl, I1.kept (t' := tk1) ext1, turn_revT b _ xs.length, ?_, fun c hc => ?_, q⟩
    · rw [el] at hit
      show IsRv _ _ _ _
      rw [show (xs.length : Int) - 1 - ((0 : Nat) : Int) = (xs.length : Int) - 1 by omega]
      exact hit
    · have e : c = s1.heap.objs.size := by simpa using hc
      subst e
      exact I1.fpOk (Nat.le_refl _) (I1.hok.fresh (Nat.le_refl _))
end
end L2
namespace My
open PySem L2
end My

/-! ## the tree behind and the tree ahead -/
namespace My
open PySem L2
/-! ### what a call may answer: nothing, or a tree -/
end My

/-! ## a + b of two lists, wherever they lie -/
namespace L2
open PySem PySem.Spec PyProof.Rows
def rCatK (K : PySem.W.Frag) : R2 := fun x y H Q => ∃ l b xs zs, x = .ref l ∧ y = .ref b ∧ SqL K H l xs ∧ SqL K H b zs ∧ xs.length + zs.length ≤ sizeLine ∧ ∀ p, H p = none → Q (.ref p) (upd H p (.lst (xs ++ zs)))
section
variable {X : Cx}
theorem op_catK (K : PySem.W.Frag) (hk : X.K = K := by rfl) : OpR X (binaryOp .Add) (rCatK K) := by
  subst hk
  intro pins s σ H x y v u Q I rx ry h
  obtain ⟨l, b, xs, zs, rfl, rfl, hH, hB, hz, q⟩ := h
  cases rx
  cases ry
  obtain ⟨its, r, p, _⟩ := I.list hH
  obtain ⟨its2, r2, p2, _⟩ := I.list hB
  have l1 := r.length
  have l2 := r2.length
  obtain ⟨⟨cls, dd, data, sl⟩, ho, hc, n, hd⟩ := id p.isList
  obtain ⟨⟨cls2, dd2, data2, sl2⟩, ho2, hc2, n2, hd2⟩ := id p2.isList
  simp only at hc hd hc2 hd2
  subst hc hd hc2 hd2
  have e : its.toArray ++ its2.toArray = (its ++ its2).toArray := by simp
  refine concat_meets ⟨_, ho, rfl⟩ ⟨_, ho2, rfl⟩ noFill_list_add seq_list_add PySem.F.slot_list_add PySem.F.entry_list_add (PySem.F.args_list_add_2 _ _) (list_addW l b its.toArray its2.toArray n n2 dd dd2 sl sl2 (by rw [List.size_toArray, List.size_toArray]; omega)) ⟨ho, ho2, ?_⟩
  rw [e]
  exact ⟨.ref _, _, I.lnew (t' := s.toks) (r.append r2) (by rw [List.length_append]; omega), rfl, q _ I.fresh⟩
end
end L2

/-! ## trees counted by parting -/
namespace My
open PySem L2
end My

/-! ## loops in front -/
namespace My
open PySem L2
end My

/-! ## list.insert -/
namespace L2
open PySem PySem.Spec PyProof.Rows
section
variable {X : Cx}
theorem arr_insert (its : List Value) (y : Value) (k : Nat) : (its.toArray.extract 0 k).push y ++ its.toArray.extract k = (its.take k ++ y :: its.drop k).toArray := by
  apply Array.ext'
  simp
  exact List.take_of_length_le (by rw [List.length_drop]; exact Nat.le_refl _)
def rInsert : V → List V → Hp → VK → Prop := fun x vs H Q => ∃ l xs i y, x = .ref l ∧ vs = [.int i, y] ∧ H l = some (.lst xs) ∧ 0 ≤ i ∧ i ≤ (xs.length : Int) ∧ xs.length < sizeLine ∧ Q .non (upd H l (.lst (xs.take i.toNat ++ y :: xs.drop i.toNat)))
theorem mt_insert : MtM X "list.insert" rInsert := by
  intro pins s σ H x vs v us Q I rx rv h
  obtain ⟨l, xs, i, y, rfl, rfl, hH, h0, h1, hz, q⟩ := h
  cases rx
  obtain ⟨u, y', rfl, ru, ry⟩ := rv.two
  obtain ⟨t, rfl⟩ := ru
  obtain ⟨z, its, n, r, hl, e⟩ := I.lstM hH
  have hzl : sizeLine = 16777216 := sizeLine_eq
  have hfit : ¬ (!Builtin.List.listFitsIndex i) = true := by
    unfold Builtin.List.listFitsIndex
    simp
    omega
  refine call_meets PySem.F.slot_list_insert ⟨_, e, rfl⟩ PySem.F.entry_list_insert (PySem.F.args_list_insert_3 _ _ _) (PySem.AutoSeq1.list_insert_list_int_val_1 l its.toArray n i t y' hfit (by rw [List.size_toArray]; omega)) ⟨e, ?_⟩
  refine ⟨.non, _, I.lset (its' := its.take i.toNat ++ y' :: its.drop i.toNat) hH e ?_ ((r.take _).append (.cons ry (r.drop _))) ?_, rfl, q⟩
  · show ((its.toArray.extract 0 (if i < 0 then (i + (its.toArray.size : Int)).toNat else min i.toNat its.toArray.size)).push y' ++ its.toArray.extract (if i < 0 then (i + (its.toArray.size : Int)).toNat else min i.toNat its.toArray.size)) = _
    rw [if_neg (by omega), List.size_toArray, Nat.min_eq_left (by omega)]
    exact arr_insert its y' i.toNat
  · rw [List.length_append, List.length_cons, List.length_take, List.length_drop]
    omega
end
end L2

/-! ## forests, tie after tie -/
namespace My
open PySem L2
theorem PairsV.set {H : Hp} {xs : List V} {ps : List (Int × Int)} {v : V} {p : Int × Int} (h : PairsV H xs ps) (i : Nat) (q : PairV H v p) : PairsV H (xs.set i v) (ps.set i p) := by
  refine ⟨by rw [List.length_set, List.length_set]; exact h.1, fun j x e => ?_⟩
  have hl := h.1
  by_cases c : i = j
  · subst c
    rw [List.getElem?_set] at e
    rw [if_pos rfl] at e
    by_cases hlt : i < ps.length
    · rw [if_pos hlt] at e
      obtain rfl := Option.some.inj e
      exact ⟨v, by rw [List.getElem?_set, if_pos rfl, if_pos (by omega)], q⟩
    · rw [if_neg hlt] at e
      cases e
  · rw [List.getElem?_set, if_neg c] at e
    obtain ⟨w, e1, r⟩ := h.2 j x e
    exact ⟨w, by rw [List.getElem?_set, if_neg c]; exact e1, r⟩
end My

/-! ## for x, y in zip(list, list) -/
namespace L2
open PySem PySem.Spec PyProof.Rows
section
variable {X : Cx}
end
end L2
namespace My
open PySem L2
section
variable {K : PySem.W.Frag} {a b : Addr} {xs ys : List V} {g : TG} {tt : TT} {te : TE} {o : Nat} {fr : List Nat} {σ : St} {H : Hp} {Q : VK}
end
end My

/-! ## determinants, by the first row -/
namespace My
/-- the sum of the first n -/
def sm : Nat → (Nat → Int) → Int
  | 0, _ => 0
  | n + 1, f => sm n f + f n
end My

/-! ## determinants: rows exchanged, rows taken off -/
namespace My
end My

/-! ## determinants, without fractions -/
namespace My
/-- the first k, and then those behind them that r names -/
def ex (k : Nat) (r : Nat → Nat) (i : Nat) : Nat := if i < k then i else k + r (i - k)
end My

/-! ## products and quotients of great numbers -/
namespace L2
open PySem PySem.Spec PyProof.Rows
section
variable {X : Cx}
end
end L2

/-! ## tables as rows of rows -/
namespace My
/-- how great a determinant can be -/
def bnd (B : Nat) : Nat → Nat
  | 0 => 1
  | n + 1 => (n + 1) * (B * bnd B n)
end My

/-! ## tables as they lie -/
namespace My
open PySem L2
/-- a list that is not the one at d -/
def LiV (d : Addr) (H : Hp) (v : V) (l : List Int) : Prop := ∃ r, v = .ref r ∧ H r = some (.lst (IL l)) ∧ r ≠ d
end My

/-! ## determinants: columns, turned tables, any two rows -/
namespace My
end My

/-! ## the tables of webs: a tie more -/
namespace My
/-- where a tie begins and where it ends -/
def ind (u v i : Nat) : Int := (if i = u then 1 else 0) - (if i = v then 1 else 0)
end My

/-! ## the tables of webs tell their trees -/
namespace My
open PySem L2
/-- label a goes to b, and is left out -/
def sh (a x : Nat) : Nat := if x < a then x else x - 1
def dl (a b x : Nat) : Nat := if x = a then sh a b else sh a x
end My

/-! ## the matrix-tree theorem -/
namespace My
open PySem L2
/-! ### for webs -/
end My

/-! ## o[i] += e, o a list -/
namespace L2
open PySem PySem.Spec PyProof.Rows
section
variable {X : Cx}
end
end L2

/-! ## a table that is written into; loops over two lists -/
namespace My
open PySem L2
/-- a table of own rows at r, made since H0 -/
structure TabAt (H0 : Hp) (r : Addr) (n : Nat) (H : Hp) (ys : List V) (L : List (List Int)) : Prop where
  tab : H r = some (.lst ys)
  rows : Bears (LiV r H) ys L
  len : L.length = n
  all : ∀ l ∈ L, l.length = n
  nd : ys.Nodup
  new : ∀ A, V.ref A ∈ ys → H0 A = none
end My

/-! ## one tie left out, wherever it stands -/
namespace My
open PySem L2
end My

/-! ## trees told back -/
namespace My
open PySem L2
end My

/-! ## two webs put together: their trees -/
namespace My
open PySem L2
end My

/-! ## how many sets there are; two webs put together the other way round -/
namespace My
open PySem L2
end My

/-! ## the table of a set: its places ascend -/
namespace L2
open PySem
end L2

/-! ## an int put into a set, its table kept in order -/
namespace L2
open PySem PySem.Spec PyProof.Rows
section
variable {prog : Program} {w : World} {A : Around} {E : Value → Shared → Prop} {s : Shared}
end
end L2

/-! ## set(list of ints), its table kept in order -/
namespace L2
open PySem PySem.Spec PyProof.Rows
section
variable {prog : Program} {w : World} {A : Around} {R : Result → Shared → Prop} {I : Addr} {fp wr : List Addr} {G : Array GenState → Array GenState → Prop} {n : Nat} {P : Nat → Value → Prop} {St : Nat → Shared → Prop}
end
section
variable {prog : Program} {w : World} {A : Around} {E : Value → Shared → Prop} {s : Shared}
end
end L2

/-! ## the call set(list of ints) -/
namespace L2
open PySem PySem.Spec PyProof.Rows
section
variable {prog : Program} {w : World} {A : Around} {E : Value → Shared → Prop} {s : Shared}
end
end L2

/-! ## what a set's iterator tells -/
namespace L2
open PySem PySem.Spec PyProof.Rows
/-- a set's iterator: what goes first, how many were told, the set, its size and its epoch -/
def IsSi (h : Heap) (I a : Addr) (f : Value) (i n ep : Nat) : Prop := ∃ o, h.get? I = some o ∧ o.cls = .type "set_iterator" ∧ o.data = .fields #[f, rawInt (i : Int), .ref a, rawInt (n : Int), rawInt (ep : Int)]
theorem IsSi.keep {h h' : Heap} {I a : Addr} {f : Value} {i n ep : Nat} (x : IsSi h I a f i n ep) (e : ∀ o, h.get? I = some o → h'.get? I = some o) : IsSi h' I a f i n ep := let ⟨o, p, q⟩ := x; ⟨o, e _ p, q⟩
/-- what a set holds -/
def SetIs (h : Heap) (a : Addr) (es : Array (Int × Value)) (ep : Nat) (t : SetTable) : Prop := ∃ o, h.get? a = some o ∧ o.ExactSet ∧ o.data = .set es ep t
theorem SetIs.keep {h h' : Heap} {a : Addr} {es : Array (Int × Value)} {ep : Nat} {t : SetTable} (x : SetIs h a es ep t) (e : ∀ o, h.get? a = some o → h'.get? a = some o) : SetIs h' a es ep t := let ⟨o, p, q⟩ := x; ⟨o, e _ p, q⟩
section
variable {prog : Program} {w : World} {A : Around} {E : Value → Shared → Prop} {s : Shared}
end
end L2

/-! ## a set walked through -/
namespace L2
open PySem PySem.Spec PyProof.Rows
section
variable {prog : Program} {w : World} {A : Around} {E : Value → Shared → Prop} {s : Shared}
end
end L2

/-! ## a set walked through in a drawn order; its iterator made -/
namespace L2
open PySem PySem.Spec PyProof.Rows
section
variable {prog : Program} {w : World} {A : Around} {E : Value → Shared → Prop} {s : Shared}
def IsPl (h : Heap) (b : Addr) (pl : List Nat) : Prop := ∃ o n, h.get? b = some o ∧ o.data = .seq (pl.map fun (i : Nat) => rawInt (i : Int)).toArray n
theorem IsPl.keep {h h' : Heap} {b : Addr} {pl : List Nat} (x : IsPl h b pl) (e : ∀ o, h.get? b = some o → h'.get? b = some o) : IsPl h' b pl := let ⟨o, n, p, q⟩ := x; ⟨o, n, e _ p, q⟩
end
end L2

/-! ## sorted(set of ints) -/
namespace L2
open PySem PySem.Spec PyProof.Rows
section
variable {prog : Program} {w : World} {A B : Around} {E : Value → Shared → Prop} {s : Shared}
end
end L2

/-! ## a set's items as a list; sorted(set of ints) -/
namespace L2
open PySem PySem.Spec PyProof.Rows
section
variable {prog : Program} {w : World} {A : Around} {E : Value → Shared → Prop} {s : Shared}
end
end L2

/-! ## sorted(set(list of ints)) -/
namespace L2
open PySem PySem.Spec PyProof.Rows
section
variable {prog : Program} {w : World} {A : Around} {E : Value → Shared → Prop} {s : Shared}
end
section
variable {X : Cx} {p p2 pos pos2 : Pos} {e : Expr} {t : TA}
end
end L2

/-! ## pieces drawn together: trees with some ties and without others -/
namespace My
open PySem L2
section
variable {n : Int} {ps : List (Int × Int)} {I O S : List Int} {f g : Nat → Nat} {k : Nat}
end
end My

/-! ## marks numbered in their order -/
namespace My
open PySem L2
section
variable {N : Nat} {es : List (Nat × Nat)} {F : List Int}
end
end My

/-! ## counts with and without, when a tie is left out or drawn together -/
namespace My
open PySem L2
end My

/-! ## counts that meet: by one tie, over all ties, turned about -/
namespace My
open PySem L2
/-- the ties from the last to the first, their ends turned about -/
def tur (ps : List (Int × Int)) : List (Int × Int) := ps.reverse.map fun p => (p.2, p.1)
theorem tur_len (ps : List (Int × Int)) : (tur ps).length = ps.length := by unfold tur; rw [List.length_map, List.length_reverse]
end My

/-! ## a list out of another one, from its end -/
namespace My
open PySem L2
section
variable {K : PySem.W.Frag} {a : Addr} {xs : List V} {g : TG} {tt : TT} {te : TE} {o : Nat} {fr : List Nat} {σ : St} {H : Hp} {Q : VK}
theorem lc_revL (Pv : Nat → List V → Hp → Prop) (h0 : Pv 0 [] H) (hz : xs.length < sizeLine) (hl : ∀ i zs H, i ≤ xs.length → Pv i zs H → SqL K H a xs ∧ zs.length ≤ i)
    (hs : ∀ (i : Nat) x zs H, i < xs.length → xs[xs.length - 1 - i]? = some x → Pv i zs H → LcTurn Pv g tt te o fr σ i x zs H) (hd : ∀ zs H, Pv xs.length zs H → ∀ p, H p = none → Q (.ref p) (upd H p (.lst zs))) : LcR (ItrL K a xs.length) g tt te o fr σ H Q := by
  refine ⟨fun i m zs H => m = xs.length - i ∧ i ≤ xs.length ∧ Pv i zs H, ⟨xs.length, by simp, Nat.zero_le _, h0⟩, ?_⟩
  rintro i m zs H ⟨rfl, hi, p⟩
  obtain ⟨q, hy⟩ := hl i zs H hi p
  by_cases hlt : i < xs.length
  · refine .inr ⟨⟨hlt, xs, xs[xs.length - 1 - i]'(by omega), q, List.getElem?_eq_getElem (by omega)⟩, by omega, fun x H' ⟨eH, hx⟩ => ?_⟩
    subst eH
    exact hs i x zs _ hlt (hx xs q) p (fun j zs H => ∃ m', m' < xs.length - i ∧ m' = xs.length - j ∧ j ≤ xs.length ∧ Pv j zs H) fun zs H p' => ⟨xs.length - (i + 1), by omega, rfl, hlt, p'⟩
  · have e : i = xs.length := by omega
    subst e
    exact .inl ⟨rfl, by omega, hd zs H p⟩
end
end My

/-! ## the number of a tree: how many are less -/
namespace My
open PySem L2
end My

/-! ## a tree found by its number, tie by tie -/
namespace My
open PySem L2
section
variable {n : Int} {ps : List (Int × Int)} {I O : List Int} {i b c : Nat}
end
end My

/-! ## the number of a tree in the row of all -/
namespace My
open PySem L2
end My

/-! ## abs(int) -/
namespace L2
open PySem PySem.Spec PyProof.Rows
section
variable {X : Cx}
end
end L2

/-! ## a piece of a list -/
namespace My
open PySem L2
end My

/-! ## steps of a block told once; try: .. except W: without a name -/
namespace My
open PySem L2
end My
namespace L2
open PySem PySem.Spec PyProof.Rows
end L2

/-! ## tuple < tuple, of ints -/
namespace L2
open PySem PySem.Spec PyProof.Rows
section
variable {X : Cx}
end
end L2

/-! ## how many trees there can be; ranks and order; trees tie by tie -/
namespace My
open PySem L2
end My

/-! ## tuple <= tuple, of ints; a <= b <= c <= d <= e -/
namespace HT
open PySem PyProof.Rows
section
open PySem.SeqAt
open PySem.AutoSeq1 (wpAny_loadPart')
open PySem.MeetsSeq PySem.MeetsSeq2 PySem.MeetsSeq3
end
section
variable {prog : Program} {w : World} {A : Around} {E : Value → Shared → Prop} {s : Shared}
end
end HT
namespace L2
open PySem PySem.Spec PyProof.Rows
section
variable {X : Cx}
end
end L2

/-! ## webs made so that they hang together -/
namespace My
open PySem L2
/-- the ends as they are -/
def edN (ps : List (Int × Int)) : List (Nat × Nat) := ps.map fun p => (p.1.toNat, p.2.toNat)
theorem ends_all (ps : List (Int × Int)) {e : Nat × Nat} : e ∈ endsOf ps (rgL ps.length) ↔ e ∈ edN ps := by
  unfold endsOf edN
  rw [List.mem_map, List.mem_map]
  constructor
  · rintro ⟨z, hz, rfl⟩
    obtain ⟨z0, z1⟩ := rgL_mem.mp hz
    have hp : ps[z.toNat]? = some (ps[z.toNat]'(by omega)) := List.getElem?_eq_getElem (by omega)
    refine ⟨_, List.mem_of_getElem? hp, ?_⟩
    rw [getD_of hp]
  · rintro ⟨p, hp, rfl⟩
    obtain ⟨i, hi⟩ := List.getElem?_of_mem hp
    have := (List.getElem?_eq_some_iff.mp hi).1
    refine ⟨(i : Int), rgL_mem.mpr (by omega), ?_⟩
    rw [Int.toNat_natCast, getD_of hi]
theorem joined_ed {n : Int} {ps : List (Int × Int)} : Joined n ps ↔ ∀ i j, i < n.toNat → j < n.toNat → Conn (edN ps) i j :=
  ⟨fun h i j hi hj => (h i j hi hj).mono fun e he => (ends_all ps).mp he, fun h i j hi hj => (h i j hi hj).mono fun e he => (ends_all ps).mpr he⟩
theorem PairsV.ins {H : Hp} {xs : List V} {ps : List (Int × Int)} {v : V} {p : Int × Int} (h : PairsV H xs ps) (hv : PairV H v p) (j : Nat) (hj : j ≤ ps.length) : PairsV H (xs.take j ++ v :: xs.drop j) (ps.take j ++ p :: ps.drop j) := by
  have hl := h.1
  refine ⟨by rw [List.length_append, List.length_append, List.length_cons, List.length_cons, List.length_take, List.length_take, List.length_drop, List.length_drop]; omega, fun i q e => ?_⟩
  rcases (by omega : i < j ∨ i = j ∨ j < i) with c | c | c
  · rw [List.getElem?_append_left (by rw [List.length_take]; omega), List.getElem?_take_of_lt c] at e
    rw [List.getElem?_append_left (by rw [List.length_take]; omega), List.getElem?_take_of_lt c]
    exact h.2 i q e
  · rw [List.getElem?_append_right (by rw [List.length_take]; omega), List.length_take, show i - min j ps.length = 0 by omega] at e
    rw [List.getElem?_append_right (by rw [List.length_take]; omega), List.length_take, show i - min j xs.length = 0 by omega]
    obtain rfl := Option.some.inj e
    exact ⟨v, rfl, hv⟩
  · rw [List.getElem?_append_right (by rw [List.length_take]; omega), List.length_take, show i - min j ps.length = (i - j - 1) + 1 by omega, List.getElem?_cons_succ, List.getElem?_drop, show j + (i - j - 1) = i - 1 by omega] at e
    rw [List.getElem?_append_right (by rw [List.length_take]; omega), List.length_take, show i - min j xs.length = (i - j - 1) + 1 by omega, List.getElem?_cons_succ, List.getElem?_drop, show j + (i - j - 1) = i - 1 by omega]
    exact h.2 _ q e
theorem ins_mem {α : Type} {l : List α} {x y : α} {j : Nat} : y ∈ l.take j ++ x :: l.drop j ↔ y = x ∨ y ∈ l := by
  rw [List.mem_append, List.mem_cons]
  constructor
  · rintro (h | h | h)
    · exact .inr (List.mem_of_mem_take h)
    · exact .inl h
    · exact .inr (List.mem_of_mem_drop h)
  · rintro (h | h)
    · exact .inr (.inl h)
    · rw [← List.take_append_drop j l] at h
      rcases List.mem_append.mp h with h | h
      · exact .inl h
      · exact .inr (.inr h)
theorem ins_len {α : Type} (l : List α) (x : α) (j : Nat) : (l.take j ++ x :: l.drop j).length = l.length + 1 := by
  rw [List.length_append, List.length_cons, List.length_take, List.length_drop]
  omega
theorem il_ins (l : List Int) (x : Int) (j : Nat) : (IL l).take j ++ .int x :: (IL l).drop j = IL (l.take j ++ x :: l.drop j) := by
  rw [il_append, il_take]
  show _ = _ ++ .int x :: IL (l.drop j)
  rw [il_drop]
end My

/-! ## a list whose own name is seen by a list within it -/
namespace L2
open PySem PySem.Spec PyProof.Rows
section
variable {M : Model} {A : Around} {E : Value → Shared → Prop} {s : Shared}
end
/-- as CompScope, with one own name xo that is seen by a list within -/
structure CompScopeD (sc0 : Scope) (N N' : List Str) (o : Nat) (fr : List Nat) (scope : Scope) (xo : Str) : Prop where
  kind : scope.kind = .function
  one : (scope.names.filter fun y => y.2 == .cell) = [(xo, .cell)]
  loc : (scope.names.all fun y => y.2 != .local || scope.names.lookup y.1 == some .local) = true
  free : (scope.names.all fun y => y.2 != .free || (y.1 != xo && (sc0.names.lookup y.1 == some .cell || sc0.names.lookup y.1 == some .free))) = true
  len : N'.length = o + fr.length
  sees : ((List.range fr.length).all fun j => match fr[j]? with
    | none => false
    | some y => match N[y]? with
      | none => false
      | some x => N'[o + j]? == some x && scope.names.lookup x == some .free) = true
section
variable {X : Cx} {pins : List (Addr × Obj)} {σ : St} {H : Hp} {s : Shared} {N' : List Str} {o : Nat} {fr : List Nat} {scope : Scope} {fp : List Addr} {xo : Str}
end

section
variable {xo : Str} {X : Cx} {N' : List Str} {o : Nat} {fr : List Nat} {scope : Scope} {elt tg iter : Expr} {ifs : List Expr} {pos : Pos} {wi : TI} {g : TG} {tt : TT} {te : TE}
end
end L2

/-! ## sums over trees: weights -/
namespace My
open PySem L2
end My

/-! ## for x, y in zip(list, tuple) -/
namespace L2
open PySem PySem.Spec PyProof.Rows
section
variable {prog : Program} {w : World} {A : Around} {E : Value → Shared → Prop} {s : Shared}
end
end L2

/-! ## for x, y in zip(list, list or tuple) -/
namespace L2
open PySem PySem.Spec PyProof.Rows
section
variable {prog : Program} {w : World} {A : Around} {E : Value → Shared → Prop} {s : Shared}
end
section
variable {X : Cx}
end
end L2
namespace My
open PySem L2
end My

/-! ## trees sorted by the ties of a set: numbers as figures of a sum -/
namespace My
open PySem L2
/-- the number with these figures, the first one the least -/
def ev (b : Int) : List Int → Int
  | [] => 0
  | d :: l => d + b * ev b l
end My

/-! ## one more place, tied to each with the same weight -/
namespace My
open PySem L2
end My

/-! ## the trees of the web with one more place, sorted by the ties at that place -/
namespace My
open PySem L2
end My

/-! ## list.count -/
namespace L2
open PySem PySem.Spec PyProof.Rows
section
variable {X : Cx}
end
end L2

/-! ## forests with a chosen place of each piece -/
namespace My
open PySem L2
end My

/-! ## the trees of the web with one more place, by their ties of the web -/
namespace My
open PySem L2
end My

/-! ## the web whose trees are the cheapest ones -/
namespace My
open PySem L2
/-! ### marks: each the least place of its piece -/
section
variable {n : Nat} {es : List (Nat × Nat)} (h : InN n es)
include h
end
/-! ### the ties of the web by their lengths -/
abbrev lnz (ls : List Int) (z : Int) : Int := ls.getD z.toNat 0
def lwS (ls : List Int) (x : Int) : List Int := (rgL ls.length).filter fun z => decide (lnz ls z < x)
/-- the marks below and up to a length -/
def mA (N : Nat) (ps : List (Int × Int)) (ls : List Int) (x : Int) : List Int := pms N (endsOf ps (lwS ls x))
section
variable {n : Int} {ps : List (Int × Int)} {ls T : List Int} (g : GoodW n ps) (hl : ls.length = ps.length)
include g hl
end
end My

/-! ## sums that meet: sorts turned, forests of few and of all pieces, weights scaled -/
namespace My
open PySem L2
/-! ### forests of no, of one and of all pieces -/
/-! ### the web with one more place, and weights scaled -/
end My

/-! ## sum of a tuple of ints -/
namespace L2
open PySem PySem.Spec PyProof.Rows
section
variable {prog : Program} {w : World} {A : Around} {E : Value → Shared → Prop} {s : Shared} {l : Addr} {xs : Array (Int × Tok)}
end
section
variable {X : Cx}
end
end L2

/-! ## the trees of that web are the trees without a gain, the cheapest ones -/
namespace My
open PySem L2
section
variable {n : Int} {ps : List (Int × Int)} {ls T : List Int} (g : GoodW n ps) (hl : ls.length = ps.length)
include g hl
omit hl in
end
end My

/-! ## the steps that make the web of the cheapest -/
namespace My
open PySem L2
section
variable {n : Int} {ps : List (Int × Int)} {ls Ls S : List Int} {j : Nat} {x : Int} (g : GoodW n ps) (hl : ls.length = ps.length) (hLa : Ls.Pairwise (· < ·)) (hLm : ∀ z, z ∈ Ls ↔ z ∈ ls) (hx : Ls[j]? = some x)
include hLa hx
include g hl hLm
end
end My

/-! ## the trees without a gain are those of least length -/
namespace My
open PySem L2
section
variable {n : Int} {ps : List (Int × Int)} {ls T : List Int} (g : GoodW n ps)
include g
end
end My

/-! ## sorted(list of empty tuples) -/
namespace L2
open PySem PySem.Spec PyProof.Rows My
section
variable {prog : Program} {w : World} {A : Around} {E : Value → Shared → Prop} {s : Shared}
end
section
variable {X : Cx}
end
end L2

/-! ## sorted(list of two tuples that stand in their order) -/
namespace L2
open PySem PySem.Spec PyProof.Rows My
section
variable {M : Model} {A : Around} {E : Value → Shared → Prop} {s : Shared}
end
section
variable {prog : Program} {w : World} {A : Around} {E : Value → Shared → Prop} {s : Shared}
end
section
variable {X : Cx}
end
end L2

/-! ## walks turned round -/
namespace My
open PySem L2
theorem Wk.cons {n : Int} {ps : List (Int × Int)} {T T' : List Int} {o z : Int} (h1 : exg n ps T o z) (h2 : T'.Perm (wo T o ++ [z])) (h3 : T'.Pairwise (· ≤ ·)) {ws : List (Int × Int)} {U : List Int} (h : Wk n ps T' ws U) : Wk n ps T ((o, z) :: ws) U := by
  induction h with
  | nil => exact Wk.step (ws := []) .nil h1 h2 h3
  | step k1 k2 k3 k4 ih => exact Wk.step (ws := (o, z) :: _) ih k2 k3 k4
/-- an exchange taken back -/
theorem exg_back {n : Int} {ps : List (Int × Int)} {T T' : List Int} {o z : Int} (g : GoodW n ps) (hT : IsTree n ps T) (hx : exg n ps T o z) (hp : T'.Perm (wo T o ++ [z])) (hs : T'.Pairwise (· ≤ ·)) : exg n ps T' z o ∧ T.Perm (wo T' z ++ [o]) := by
  have zT : z ∉ T := ((exg_iff g hT).mp hx).2.1
  have hT' := exg_tree g hT hx hp hs
  refine ⟨⟨(exg_mem g hT hx hp hs).mpr (.inr rfl), fun e => hx.2.1 e.symm, ?_⟩, ?_⟩
  · rw [exg_cut g hT hx hp hs]
    exact (cut_own g hT hx.1 hx.1).mpr rfl
  · refine (List.perm_ext_iff_of_nodup hT.1.nodup ?_).mpr fun y => ?_
    · refine List.nodup_append.mpr ⟨hT'.1.nodup.filter _, by simp, fun a ha b hb e => ?_⟩
      rw [List.mem_singleton.mp hb] at e
      have := (wo_mem.mp ha).1
      rw [e] at this
      rcases (exg_mem g hT hx hp hs).mp this with c | c
      · exact c.2 rfl
      · exact hx.2.1 c.symm
    · rw [List.mem_append, wo_mem, List.mem_singleton, exg_mem g hT hx hp hs]
      constructor
      · intro h
        by_cases c : y = o
        · exact .inr c
        · exact .inl ⟨.inl ⟨h, c⟩, fun e => zT (e ▸ h)⟩
      · rintro (⟨c | c, d⟩ | c)
        · exact c.1
        · exact absurd c d
        · rw [c]; exact hx.1
theorem Wk.rev {n : Int} {ps : List (Int × Int)} {T0 : List Int} {ws : List (Int × Int)} {U : List Int} (g : GoodW n ps) (hT : IsTree n ps T0) (h : Wk n ps T0 ws U) : Wk n ps U (ws.reverse.map fun p => (p.2, p.1)) T0 := by
  induction h with
  | nil => exact .nil
  | step k1 k2 k3 k4 ih =>
    rw [List.reverse_append, List.map_append]
    have hT1 := k1.tree g hT
    obtain ⟨b1, b2⟩ := exg_back g hT1 k2 k3 k4
    exact Wk.cons b1 b2 ((isSet_iff.mp hT1.1).2.imp fun h => by omega) ih
theorem WP.wk {n : Int} {ps : List (Int × Int)} {W T0 l : List Int} {ws : List (Int × Int)} {T : List Int} (g : GoodW n ps) (hT0 : IsTree n ps T0) (h : WP n ps W T0 l ws T) : Wk n ps T0 ws T := by
  induction h with
  | nil => exact .nil
  | skip _ _ ih => exact ih
  | step _ h2 h3 h4 h5 h6 h7 ih =>
    obtain ⟨r1, r2⟩ := ringA_mem.mp h3
    exact Wk.step ih ⟨r1, fun e => h2 (e ▸ r1), r2⟩ h6 h7
theorem diff_same {n : Int} {ps : List (Int × Int)} {T W : List Int} (hT : IsTree n ps T) (hW : IsTree n ps W) : (T.filter fun y => decide (y ∉ W)).length = (W.filter fun y => decide (y ∉ T)).length := by
  have e1 := filter_two (fun y => decide (y ∈ W)) T
  have e2 := filter_two (fun y => decide (y ∈ T)) W
  have p : (T.filter fun y => decide (y ∈ W)).Perm (W.filter fun y => decide (y ∈ T)) := (List.perm_ext_iff_of_nodup (hT.1.nodup.filter _) (hW.1.nodup.filter _)).mpr fun y => by
    rw [List.mem_filter, List.mem_filter, decide_eq_true_iff, decide_eq_true_iff]
    exact And.comm
  have f1 : (T.filter fun y => decide (y ∉ W)) = T.filter fun y => !decide (y ∈ W) := List.filter_congr fun y _ => by simp
  have f2 : (W.filter fun y => decide (y ∉ T)) = W.filter fun y => !decide (y ∈ T) := List.filter_congr fun y _ => by simp
  have := p.length_eq
  have h1 := hT.2.1
  have h2 := hW.2.1
  rw [f1, f2]
  omega
/-- grown in any order of all ties: a tree -/
theorem grw_tree {n : Int} {ps : List (Int × Int)} {zs ms : List Int} (g : GoodW n ps) (hJ : Joined n ps) (hn : zs.Nodup) (hz : ∀ z, z ∈ zs ↔ 0 ≤ z ∧ z < (ps.length : Int)) (hp : ms.Perm (grw n.toNat ps zs)) (hs : ms.Pairwise (· ≤ ·)) : IsTree n ps ms := by
  have g1 := g.1
  have hb : ∀ z ∈ zs, 0 ≤ z ∧ z < (ps.length : Int) := fun z h => (hz z).mp h
  have hcov : ∀ i j, i < n.toNat → j < n.toNat → Conn (endsOf ps (grw n.toNat ps zs)) i j := fun i j hi hj => grw_conn g _ hb ((hJ i j hi hj).mono (ends_sub fun z h => (hz z).mpr (rgL_mem.mp h)))
  have h1 := (cnt_conn (by omega) (grw_in g hb)).mpr hcov
  have h2 := grw_cnt g zs hb
  have nd : (grw n.toNat ps zs).Nodup := List.Nodup.sublist (grw_sub _ _ _) hn
  refine ⟨isSet_iff.mpr ⟨fun z h => hb z ((grw_sub _ _ _).subset (hp.mem_iff.mp h)), (hs.and (hp.nodup_iff.mpr nd)).imp fun z => by have := z.1; have := z.2; omega⟩, by rw [hp.length_eq]; omega, fun i j hi hj => ?_⟩
  exact (conn_perm fun y => hp.mem_iff).mpr (hcov i j hi hj)
end My
namespace My
open PySem L2
theorem Wk.at {n : Int} {ps : List (Int × Int)} {T0 : List Int} {ws : List (Int × Int)} {U : List Int} (h : Wk n ps T0 ws U) : ∀ (i : Nat) (o z : Int), ws[i]? = some (o, z) → ∃ T, Wk n ps T0 (ws.take i) T ∧ exg n ps T o z := by
  induction h with
  | nil => intro i o z e; simp at e
  | @step ws T T' o z k1 k2 k3 k4 ih =>
    intro i o' z' e
    by_cases c : i < ws.length
    · rw [List.getElem?_append_left c] at e
      rw [List.take_append_of_le_length (by omega)]
      exact ih i o' z' e
    · have hi := (List.getElem?_eq_some_iff.mp e).1
      rw [List.length_append] at hi
      have hi : i = ws.length := by have : [(o, z)].length = 1 := rfl; omega
      subst hi
      rw [List.getElem?_append_right (Nat.le_refl _), Nat.sub_self] at e
      cases e
      rw [List.take_append_of_le_length (Nat.le_refl _), List.take_length]
      exact ⟨T, k1, k2⟩
theorem Wk.whole {n : Int} {ps : List (Int × Int)} {T0 : List Int} {ws : List (Int × Int)} {U : List Int} (h : Wk n ps T0 ws U) : ¬ Brk n ps T0 ws := fun ⟨i, o, z, V, e, hV, hno⟩ => by
  obtain ⟨T, hT, hx⟩ := h.at i o z e
  rw [hT.uniq hV] at hx
  exact hno hx
theorem Wk.bnd {n : Int} {ps : List (Int × Int)} {T0 : List Int} {ws : List (Int × Int)} {U : List Int} (g : GoodW n ps) (hT : IsTree n ps T0) (h : Wk n ps T0 ws U) : ∀ p ∈ ws, 0 ≤ p.1 ∧ p.1 < (ps.length : Int) ∧ 0 ≤ p.2 ∧ p.2 < (ps.length : Int) := fun p hp => by
  obtain ⟨i, hi⟩ := List.getElem?_of_mem hp
  obtain ⟨T, h1, h2⟩ := h.at i p.1 p.2 hi
  have hT1 := h1.tree g hT
  obtain ⟨a, _, c, d, _⟩ := (exg_iff g hT1).mp h2
  have := hT1.1.all p.1 a
  exact ⟨this.1, this.2, c, d⟩
end My

namespace My
open PySem L2
def top (i : Nat) : Stmt := PySem.Challenge.pw_spanrow_k51_whole_walks_of_great_webs.main.body.getD i (.Pass ⟨0, 0, 0, 0⟩)
abbrev s_is_tie : Stmt := top 11
abbrev s_refuse_bad_web : Stmt := top 10
abbrev s_Web___init : Stmt := inClass (top 9) 0
abbrev s_ties_beside : Stmt := top 12
abbrev s_is_set : Stmt := top 14
abbrev s_made_set : Stmt := top 15
abbrev s_merged_marks : Stmt := top 16
abbrev s_piece_marks : Stmt := top 17
abbrev s_pieces_of : Stmt := top 18
abbrev s_is_joined : Stmt := top 19
abbrev s_is_tree : Stmt := top 21
abbrev s_refuse_no_tree : Stmt := top 22
abbrev s_grown_tree : Stmt := top 23
abbrev s_ties_without : Stmt := top 13
abbrev s_tree_cut : Stmt := top 24
abbrev s_ring_of : Stmt := top 25
abbrev s_exchanged : Stmt := top 26
abbrev s_differ : Stmt := top 28
abbrev s_walk_between : Stmt := top 29
abbrev s_walked : Stmt := top 30
abbrev s_partner_of : Stmt := top 31
abbrev s_far_tree : Stmt := top 32
abbrev s_law_at : Stmt := top 34
abbrev s_law_mix : Stmt := top 35
abbrev s_law_web : Stmt := top 36
abbrev s_law_great : Stmt := top 38
abbrev s_law_grown : Stmt := top 39
abbrev s_law_order : Stmt := top 40
abbrev s_law_partners_good : Stmt := top 41
abbrev s_law : Stmt := top 42
structure Adr where
  a_is_tie : Addr
  d_is_tie : FuncData
  a_refuse_bad_web : Addr
  d_refuse_bad_web : FuncData
  a_Web___init : Addr
  d_Web___init : FuncData
  a_ties_beside : Addr
  d_ties_beside : FuncData
  a_is_set : Addr
  d_is_set : FuncData
  a_made_set : Addr
  d_made_set : FuncData
  a_merged_marks : Addr
  d_merged_marks : FuncData
  a_piece_marks : Addr
  d_piece_marks : FuncData
  a_pieces_of : Addr
  d_pieces_of : FuncData
  a_is_joined : Addr
  d_is_joined : FuncData
  a_is_tree : Addr
  d_is_tree : FuncData
  a_refuse_no_tree : Addr
  d_refuse_no_tree : FuncData
  a_grown_tree : Addr
  d_grown_tree : FuncData
  a_ties_without : Addr
  d_ties_without : FuncData
  a_tree_cut : Addr
  d_tree_cut : FuncData
  a_ring_of : Addr
  d_ring_of : FuncData
  a_exchanged : Addr
  d_exchanged : FuncData
  a_differ : Addr
  d_differ : FuncData
  a_walk_between : Addr
  d_walk_between : FuncData
  a_walked : Addr
  d_walked : FuncData
  a_partner_of : Addr
  d_partner_of : FuncData
  a_far_tree : Addr
  d_far_tree : FuncData
  a_law_at : Addr
  d_law_at : FuncData
  a_law_mix : Addr
  d_law_mix : FuncData
  a_law_web : Addr
  d_law_web : FuncData
  a_law_great : Addr
  d_law_great : FuncData
  a_law_grown : Addr
  d_law_grown : FuncData
  a_law_order : Addr
  d_law_order : FuncData
  a_law_partners_good : Addr
  d_law_partners_good : FuncData
  a_law : Addr
  d_law : FuncData
  A_Web : Addr
  A_WebError : Addr
  A_NoTree : Addr
  A_NoTie : Addr
structure Txt (K : PySem.W.Frag) (mg : Str → Option Value) (t : Adr) : Prop where
  f_is_tie : Fun K "is_tie" "is_tie" s_is_tie t.a_is_tie t.d_is_tie
  b_is_tie : Binds K t.d_is_tie ["web", "number"] []
  m_is_tie : mg "is_tie" = some (.ref t.a_is_tie)
  f_refuse_bad_web : Fun K "refuse_bad_web" "refuse_bad_web" s_refuse_bad_web t.a_refuse_bad_web t.d_refuse_bad_web
  b_refuse_bad_web : Binds K t.d_refuse_bad_web ["places", "ties"] []
  m_refuse_bad_web : mg "refuse_bad_web" = some (.ref t.a_refuse_bad_web)
  f_Web___init : Fun K "__init__" "Web.__init__" s_Web___init t.a_Web___init t.d_Web___init
  b_Web___init : Binds K t.d_Web___init ["self", "places", "ties"] []
  f_ties_beside : Fun K "ties_beside" "ties_beside" s_ties_beside t.a_ties_beside t.d_ties_beside
  b_ties_beside : Binds K t.d_ties_beside ["web", "ties"] []
  m_ties_beside : mg "ties_beside" = some (.ref t.a_ties_beside)
  f_is_set : Fun K "is_set" "is_set" s_is_set t.a_is_set t.d_is_set
  b_is_set : Binds K t.d_is_set ["web", "ties"] []
  m_is_set : mg "is_set" = some (.ref t.a_is_set)
  f_made_set : Fun K "made_set" "made_set" s_made_set t.a_made_set t.d_made_set
  b_made_set : Binds K t.d_made_set ["web", "ties"] []
  m_made_set : mg "made_set" = some (.ref t.a_made_set)
  f_merged_marks : Fun K "merged_marks" "merged_marks" s_merged_marks t.a_merged_marks t.d_merged_marks
  b_merged_marks : Binds K t.d_merged_marks ["web", "marks", "ties"] []
  m_merged_marks : mg "merged_marks" = some (.ref t.a_merged_marks)
  f_piece_marks : Fun K "piece_marks" "piece_marks" s_piece_marks t.a_piece_marks t.d_piece_marks
  b_piece_marks : Binds K t.d_piece_marks ["web", "ties"] []
  m_piece_marks : mg "piece_marks" = some (.ref t.a_piece_marks)
  f_pieces_of : Fun K "pieces_of" "pieces_of" s_pieces_of t.a_pieces_of t.d_pieces_of
  b_pieces_of : Binds K t.d_pieces_of ["web", "ties"] []
  m_pieces_of : mg "pieces_of" = some (.ref t.a_pieces_of)
  f_is_joined : Fun K "is_joined" "is_joined" s_is_joined t.a_is_joined t.d_is_joined
  b_is_joined : Binds K t.d_is_joined ["web", "ties"] []
  m_is_joined : mg "is_joined" = some (.ref t.a_is_joined)
  f_is_tree : Fun K "is_tree" "is_tree" s_is_tree t.a_is_tree t.d_is_tree
  b_is_tree : Binds K t.d_is_tree ["web", "ties"] []
  m_is_tree : mg "is_tree" = some (.ref t.a_is_tree)
  f_refuse_no_tree : Fun K "refuse_no_tree" "refuse_no_tree" s_refuse_no_tree t.a_refuse_no_tree t.d_refuse_no_tree
  b_refuse_no_tree : Binds K t.d_refuse_no_tree ["web", "tree"] []
  m_refuse_no_tree : mg "refuse_no_tree" = some (.ref t.a_refuse_no_tree)
  f_grown_tree : Fun K "grown_tree" "grown_tree" s_grown_tree t.a_grown_tree t.d_grown_tree
  b_grown_tree : Binds K t.d_grown_tree ["web", "inside", "order"] []
  m_grown_tree : mg "grown_tree" = some (.ref t.a_grown_tree)
  f_ties_without : Fun K "ties_without" "ties_without" s_ties_without t.a_ties_without t.d_ties_without
  b_ties_without : Binds K t.d_ties_without ["ties", "left_out"] []
  m_ties_without : mg "ties_without" = some (.ref t.a_ties_without)
  f_tree_cut : Fun K "tree_cut" "tree_cut" s_tree_cut t.a_tree_cut t.d_tree_cut
  b_tree_cut : Binds K t.d_tree_cut ["web", "tree", "tie"] []
  m_tree_cut : mg "tree_cut" = some (.ref t.a_tree_cut)
  f_ring_of : Fun K "ring_of" "ring_of" s_ring_of t.a_ring_of t.d_ring_of
  b_ring_of : Binds K t.d_ring_of ["web", "tree", "tie"] []
  m_ring_of : mg "ring_of" = some (.ref t.a_ring_of)
  f_exchanged : Fun K "exchanged" "exchanged" s_exchanged t.a_exchanged t.d_exchanged
  b_exchanged : Binds K t.d_exchanged ["web", "tree", "out", "into"] []
  m_exchanged : mg "exchanged" = some (.ref t.a_exchanged)
  f_differ : Fun K "differ" "differ" s_differ t.a_differ t.d_differ
  b_differ : Binds K t.d_differ ["web", "one", "other"] []
  m_differ : mg "differ" = some (.ref t.a_differ)
  f_walk_between : Fun K "walk_between" "walk_between" s_walk_between t.a_walk_between t.d_walk_between
  b_walk_between : Binds K t.d_walk_between ["web", "one", "other"] []
  m_walk_between : mg "walk_between" = some (.ref t.a_walk_between)
  f_walked : Fun K "walked" "walked" s_walked t.a_walked t.d_walked
  b_walked : Binds K t.d_walked ["web", "tree", "walk"] []
  m_walked : mg "walked" = some (.ref t.a_walked)
  f_partner_of : Fun K "partner_of" "partner_of" s_partner_of t.a_partner_of t.d_partner_of
  b_partner_of : Binds K t.d_partner_of ["web", "one", "other", "tie"] []
  m_partner_of : mg "partner_of" = some (.ref t.a_partner_of)
  f_far_tree : Fun K "far_tree" "far_tree" s_far_tree t.a_far_tree t.d_far_tree
  b_far_tree : Binds K t.d_far_tree ["web", "tree"] []
  m_far_tree : mg "far_tree" = some (.ref t.a_far_tree)
  f_law_at : Fun K "_law_at" "_law_at" s_law_at t.a_law_at t.d_law_at
  b_law_at : Binds K t.d_law_at ["script", "k"] []
  m_law_at : mg "_law_at" = some (.ref t.a_law_at)
  f_law_mix : Fun K "_law_mix" "_law_mix" s_law_mix t.a_law_mix t.d_law_mix
  b_law_mix : Binds K t.d_law_mix ["cell", "k", "size"] []
  m_law_mix : mg "_law_mix" = some (.ref t.a_law_mix)
  f_law_web : Fun K "_law_web" "_law_web" s_law_web t.a_law_web t.d_law_web
  b_law_web : Binds K t.d_law_web ["head", "cell", "most", "ties_most"] []
  m_law_web : mg "_law_web" = some (.ref t.a_law_web)
  f_law_great : Fun K "_law_great" "_law_great" s_law_great t.a_law_great t.d_law_great
  b_law_great : Binds K t.d_law_great ["script"] []
  m_law_great : mg "_law_great" = some (.ref t.a_law_great)
  f_law_grown : Fun K "_law_grown" "_law_grown" s_law_grown t.a_law_grown t.d_law_grown
  b_law_grown : Binds K t.d_law_grown ["places", "ties", "order"] []
  m_law_grown : mg "_law_grown" = some (.ref t.a_law_grown)
  f_law_order : Fun K "_law_order" "_law_order" s_law_order t.a_law_order t.d_law_order
  b_law_order : Binds K t.d_law_order ["cell", "count"] []
  m_law_order : mg "_law_order" = some (.ref t.a_law_order)
  f_law_partners_good : Fun K "_law_partners_good" "_law_partners_good" s_law_partners_good t.a_law_partners_good t.d_law_partners_good
  b_law_partners_good : Binds K t.d_law_partners_good ["web", "one", "other"] []
  m_law_partners_good : mg "_law_partners_good" = some (.ref t.a_law_partners_good)
  f_law : Fun K "law" "law" s_law t.a_law t.d_law
  b_law : Binds K t.d_law ["script"] []
  m_law : mg "law" = some (.ref t.a_law)
  c_Web : mg "Web" = some (.ref t.A_Web)
  cl_Web : Cls K t.A_Web
  k_Web : Mk K t.A_Web t.a_Web___init
  n_Web_places : NoAttr K t.A_Web "places"
  n_Web_ties : NoAttr K t.A_Web "ties"
  c_WebError : mg "WebError" = some (.ref t.A_WebError)
  c_NoTree : mg "NoTree" = some (.ref t.A_NoTree)
  c_NoTie : mg "NoTie" = some (.ref t.A_NoTie)
  x_NoTree : XCls K (t.A_NoTree)
  x_NoTie : XCls K (t.A_NoTie)
  em_NoTree : PySem.W.exmOne K (.ref (t.A_NoTree)) (.ref (t.A_WebError)) = some true
  em_NoTie : PySem.W.exmOne K (.ref (t.A_NoTie)) (.ref (t.A_WebError)) = some true
  g_MOST_PLACES : ∃ tk, mg "MOST_PLACES" = some (.int 14 tk)
  g_MOST_TIES : ∃ tk, mg "MOST_TIES" = some (.int 30 tk)
  n_enumerate : mg "enumerate" = none
  n_int : mg "int" = none
  n_len : mg "len" = none
  n_list : mg "list" = none
  n_max : mg "max" = none
  n_min : mg "min" = none
  n_range : mg "range" = none
  n_reversed : mg "reversed" = none
  n_sorted : mg "sorted" = none
  n_sum : mg "sum" = none
  n_tuple : mg "tuple" = none
end My
namespace My
open PySem L2 PyProof.Rows
set_option maxHeartbeats 4000000
def sp_is_tie (C : Addr) : Sp := fun vs H Q _ => ∃ (w : Addr) (n : Int) (ps : List (Int × Int)) (k : Int), vs = [.ref w, .int k] ∧ WebAt C H w n ps ∧ Q (.bl (decide (0 ≤ k ∧ k < (ps.length : Int)))) H
section
variable {P : Program} {w : World} {K : PySem.W.Frag} {mg : Str → Option Value} {base : Heap} {t : Adr}
theorem sc_is_tie : FnScope ["web", "number"] ["web", "number"] (defScope s_is_tie) := ⟨rfl, rfl, rfl, by decide +kernel, rfl, by decide +kernel, by decide +kernel⟩
theorem ok_is_tie (T : Txt K mg t) : FnOk P w K mg base CX0 1 t.a_is_tie t.d_is_tie ["web", "number"] (sp_is_tie t.A_Web) := by
  refine T.f_is_tie.ok sc_is_tie (fun vs H Q E h => ?_) (fun cdv A outer s H vs Q E hr h => ?_)
  · obtain ⟨w, n, ps, k, rfl, _⟩ := h
    rfl
  · obtain ⟨w, n, ps, k, rfl, ⟨dx, tl, xs, h1, h2, h3⟩, q⟩ := h
    refine ⟨_, (pss_one (ps_ret (pe_chain op_le op_lt pe_int (pv 1) (pe_callB (call_lenK K) (by rfl) T.n_len Boot.«len» (pa_cons (pe_fldK K (pv 0) rfl) pa_nil))))), ?_⟩
    refine ⟨_, rfl, _, _, rfl, rfl, _, rfl, ?_⟩
    refine ite2 (fun hc => ?_) (fun hc => ?_)
    · refine ⟨_, rfl, w, _, dx, _, _, rfl, h1, T.cl_Web, T.n_Web_ties, wf_ties _ _, tl, xs, rfl, .inl (SqL.of h2), _, _, rfl, rfl, ?_⟩
      have hc := of_decide_eq_true hc
      show Q (.bl (decide (k < (xs.length : Int)))) H
      rw [h3.1, show decide (k < (ps.length : Int)) = decide (0 ≤ k ∧ k < (ps.length : Int)) from by simp [hc]]
      exact q
    · have hc : ¬ (0 ≤ k) := fun z => hc (decide_eq_true z)
      show Q (.bl false) H
      rw [show (false : Bool) = decide (0 ≤ k ∧ k < (ps.length : Int)) from by simp; omega]
      exact q
end
end My
namespace My
open PySem L2 PyProof.Rows
set_option maxHeartbeats 4000000
/-- a good web is not refused; the ties may stand in a list or a tuple -/
def sp_refuse_bad_web (K : PySem.W.Frag) : Sp := fun vs H Q _ => ∃ (n : Int) (a : Addr) (kd : Bool) (xs : List V) (ps : List (Int × Int)), vs = [.int n, .ref a] ∧ SqK kd K H a xs ∧ PairsV H xs ps ∧ GoodW n ps ∧ Q .non H
section
variable {P : Program} {w : World} {K : PySem.W.Frag} {mg : Str → Option Value} {base : Heap} {t : Adr}
theorem sc_refuse_bad_web : FnScope ["places", "ties", "ends", "end"] ["places", "ties"] (defScope s_refuse_bad_web) := ⟨rfl, rfl, rfl, by decide +kernel, rfl, by decide +kernel, by decide +kernel⟩
theorem ok_refuse_bad_web (T : Txt K mg t) : FnOk P w K mg base CX0 1 t.a_refuse_bad_web t.d_refuse_bad_web ["places", "ties"] (sp_refuse_bad_web K) := by
  refine T.f_refuse_bad_web.ok sc_refuse_bad_web (fun vs H Q E h => ?_) (fun cdv A outer s H vs Q E hr h => ?_)
  · obtain ⟨n, a, kd, xs, ps, rfl, _⟩ := h
    rfl
  · obtain ⟨n, a, kd, xs, ps, rfl, hS, hp, ⟨g1, g2, g3, g4⟩, q⟩ := h
    refine ⟨_, (pss_cons (ps_if (pt_not (pt_chain op_le op_le pe_int (pv 0) (pe_glob (v := V.int 14) rfl T.g_MOST_PLACES.choose_spec ⟨_, rfl⟩)))
      (pss_one ps_never)
      pss_nil)
      (pss_cons (ps_if (pt_cmpR op_gt (pe_callB (call_lenK K) (by rfl) T.n_len Boot.«len» (pa_cons (pv 1) pa_nil)) (pe_glob (v := V.int 30) rfl T.g_MOST_TIES.choose_spec ⟨_, rfl⟩) (nomark _))
      (pss_one ps_never)
      pss_nil)
      (pss_one (ps_for PassesOwn.never rfl (pi_seqK K (pv 1)) (pg_name (i := 2) sc_refuse_bad_web.nd rfl (Or.inl rfl))
      (pss_one (ps_for PassesOwn.never rfl (pi_tupK K (pv 2)) (pg_name (i := 3) sc_refuse_bad_web.nd rfl (Or.inl rfl))
      (pss_one (ps_if (pt_not (pt_chain op_le op_lt pe_int (pv 3) (pv 0)))
      (pss_one ps_never)
      pss_nil)))))))), ?_⟩
    refine ⟨_, rfl, _, _, rfl, rfl, _, rfl, ?_⟩
    refine itd g1 ?_
    refine ⟨_, _, rfl, rfl, _, rfl, ?_⟩
    refine itn g2 ?_
    refine ⟨_, rfl, a, xs, rfl, hS.or, _, _, rfl, rfl, _, rfl, ?_⟩
    refine itdn (by rw [hp.1]; omega) ?_
    refine ⟨_, rfl, a, rfl, for_seq (k := kd) (K := K) (xs := xs) (fun i σ H2 => ∃ v v2, σ = [some (.int n), some (.ref a), v, v2] ∧ H2 = H) ⟨none, none, rfl, rfl⟩ (fun i σ H2 _ ⟨_, _, _, e⟩ => e ▸ hS) ?_ ?_⟩
    · rintro i x σ H2 hi ⟨v, v2, rfl, rfl⟩
      obtain ⟨p, hpi, tt, rfl, ht⟩ := hp.at hi
      obtain ⟨e1, e2, e3, e4⟩ := g4 p (List.mem_of_getElem? hpi)
      refine ⟨_, rfl, tt, rfl, ⟨_, SqT.of ht⟩, for_tup (K := K) (a := tt) (xs := [.int p.1, .int p.2]) (fun j σ H3 => ∃ v v2, σ = [some (.int n), some (.ref a), v, v2] ∧ H3 = H2) ⟨_, _, rfl, rfl⟩ (fun j σ H3 _ ⟨_, _, _, e⟩ => e ▸ SqT.of ht) ?_ ?_⟩
      · rintro j y σ H3 hj ⟨v, v2, rfl, rfl⟩
        have hy : ∃ z : Int, y = .int z ∧ 0 ≤ z ∧ z < n := by
          match j, hj with
          | 0, hj => exact ⟨p.1, (Option.some.inj hj).symm, e1, e2⟩
          | 1, hj => exact ⟨p.2, (Option.some.inj hj).symm, e3, e4⟩
        obtain ⟨z, rfl, z1, z2⟩ := hy
        refine ⟨_, rfl, _, _, rfl, rfl, _, rfl, ?_⟩
        refine itd z1 ?_
        refine ⟨_, rfl, _, _, rfl, rfl, _, rfl, ?_⟩
        refine itn z2 ?_
        exact ⟨_, _, rfl, rfl⟩
      · rintro σ H3 ⟨v, v2, rfl, rfl⟩
        exact ⟨_, _, rfl, rfl⟩
    · rintro σ H2 ⟨v, v2, rfl, rfl⟩
      exact q
end
end My
namespace My
open PySem L2 PyProof.Rows
set_option maxHeartbeats 4000000
/-- a Web is made of good ties; its list and its pairs are its own -/
def sp_Web_init (K : PySem.W.Frag) (C : Addr) : Sp := fun vs H Q _ => ∃ (w dx : Addr) (n : Int) (a : Addr) (kd : Bool) (xs : List V) (ps : List (Int × Int)), vs = [.ref w, .int n, .ref a] ∧ H w = some (.ins C dx []) ∧ (∀ o, SqK kd K (upd H w o) a xs) ∧ PairsV H xs ps ∧ GoodW n ps ∧
  ∀ H' : Hp, WebAt C H' w n ps → (∀ b o, H b = some o → b ≠ w → H' b = some o) → Q .non H'
section
variable {P : Program} {w : World} {K : PySem.W.Frag} {mg : Str → Option Value} {base : Heap} {t : Adr}
theorem sc_Web___init : FnScope ["self", "places", "ties"] ["self", "places", "ties"] (defScope s_Web___init) := ⟨rfl, rfl, rfl, by decide +kernel, rfl, by decide +kernel, by decide +kernel⟩
theorem ok_Web___init (T : Txt K mg t) : FnOk P w K mg base CX0 2 t.a_Web___init t.d_Web___init ["self", "places", "ties"] (sp_Web_init K t.A_Web) := by
  refine T.f_Web___init.ok sc_Web___init (fun vs H Q E h => ?_) (fun cdv A outer s H vs Q E hr h => ?_)
  · obtain ⟨w, dx, n, a, kd, xs, ps, rfl, _⟩ := h
    rfl
  · obtain ⟨w, dx, n, a, kd, xs, ps, rfl, hw, hS, hp, g, q⟩ := h
    have eH : upd H w (.ins t.A_Web dx []) = H := by
      funext b
      by_cases hb : b = w
      · subst hb; rw [upd_same, hw]
      · rw [upd_ne hb]
    have hS0 : SqK kd K H a xs := by have z := hS (.ins t.A_Web dx []); rw [eH] at z; exact z
    refine ⟨_, (pss_cons (ps_expr (pe_call (ok_refuse_bad_web T) (hr.mono (by decide)) rfl T.m_refuse_bad_web T.f_refuse_bad_web.kp T.b_refuse_bad_web .nil pass0 (pa_cons (pv 1) (pa_cons (pv 2) pa_nil))))
      (pss_cons (ps_fld (pv 0) (pv 1) rfl)
      (pss_one (ps_fld (pv 0) (pe_lc rfl (sc0 := defScope s_Web___init) (N0 := ["self", "places", "ties"]) (N' := ["ends"]) (o := 1) (fr := []) ⟨rfl, by decide +kernel, by decide +kernel, by decide +kernel, rfl, by decide +kernel⟩ (pi_seqK K (pv 2)) (own_name (by decide)) (fun _ _ _ _ => (pg_name (i := 0) (show List.Nodup (["ends"] : List Str) by decide +kernel) rfl (Or.inl rfl))) (fun _ _ _ _ => pts_nil) (fun _ _ _ _ => (pe_tup (pa_cons (pe_ix (ix_tupK K) (pv 0) pe_int (fun _ _ => rfl)) (pa_cons (pe_ix (ix_tupK K) (pv 0) pe_int (fun _ _ => rfl)) pa_nil))))) rfl)))), ?_⟩
    refine ⟨_, rfl, _, rfl, n, a, kd, xs, ps, rfl, hS0, hp, g, ?_⟩
    refine ⟨_, rfl, _, rfl, w, _, dx, [], rfl, hw, T.cl_Web, T.n_Web_places, (by show 0 < 1000; decide), ?_⟩
    -- self.ties = [(ends[0], ends[1]) for ends in ties]
    have hp1 : PairsV (upd H w (.ins t.A_Web dx (putF "places" (.int n) []))) xs ps := ⟨hp.1, fun i p e => by
      obtain ⟨v, e1, tt, e2, e3⟩ := hp.2 i p e
      exact ⟨v, e1, tt, e2, by rw [upd_ne (ne_of e3 hw (fun z => nomatch z))]; exact e3⟩⟩
    have sx : xs.length < sizeLine := small60' (by rw [hp.1]; have := g.2.2.1; omega)
    refine ⟨_, rfl, a, rfl, lc_seq (k := kd) (K := K) (xs := xs) (fun i ys H2 => i ≤ xs.length ∧ ys.length = i ∧ Same (upd H w (.ins t.A_Web dx (putF "places" (.int n) []))) H2 ∧ PairsV H2 ys (ps.take i)) ⟨Nat.zero_le _, rfl, Same.refl _, PairsV.nil⟩ sx
      (fun i ys H2 _ ⟨_, hl, s2, _⟩ => ⟨(hS _).same s2, Nat.le_of_eq hl⟩) ?_ ?_⟩
    · rintro i x ys H2 hi ⟨h1, hl, s2, hy⟩ S hSS
      obtain ⟨p, hpi, tt, rfl, ht⟩ := hp1.at hi
      have ht2 := s2 _ _ ht
      refine nmY ?_
      refine ⟨_, rfl, tt, _, 0, .int p.1, rfl, rfl, SqT.of ht2, rfl, _, rfl, tt, _, 1, .int p.2, rfl, rfl, SqT.of ht2, rfl, (by show 2 ≤ sizeLine; decide), fun q hq => ?_⟩
      have hil : i < xs.length := (List.getElem?_eq_some_iff.mp hi).1
      refine hSS _ _ ⟨hil, by rw [List.length_append, hl]; rfl, same_new s2 hq, ?_⟩
      rw [List.take_succ, hpi]
      exact (hy.same (same_at hq)).snoc ⟨q, rfl, upd_same⟩
    · rintro ys H2 ⟨_, hl, s2, hy⟩ tl htl
      have hw2 := s2 w _ upd_same
      have nwt : w ≠ tl := ne_of_none hw2 htl
      refine ⟨_, rfl, w, _, dx, _, rfl, (by rw [upd_ne nwt]; exact hw2), T.cl_Web, T.n_Web_ties, (by show 1 < 1000; decide), ?_⟩
      refine q _ ⟨dx, tl, ys, upd_same, by rw [upd_ne (Ne.symm nwt), upd_same], ?_⟩ fun b ob e hb => ?_
      · have e1 : ps.take xs.length = ps := List.take_of_length_le (by rw [hp.1]; exact Nat.le_refl _)
        rw [e1] at hy
        refine ⟨hy.1, fun i p e => ?_⟩
        obtain ⟨v, e2, tt, e3, e4⟩ := hy.2 i p e
        exact ⟨v, e2, tt, e3, by rw [upd_ne (ne_of e4 hw2 (fun z => nomatch z)), upd_ne (ne_of_none e4 htl)]; exact e4⟩
      · have e2 := s2 b ob (by rw [upd_ne hb]; exact e)
        rw [upd_ne hb, upd_ne (ne_of_none e2 htl)]
        exact e2
end
end My
namespace My
open PySem L2 PyProof.Rows
set_option maxHeartbeats 4000000
/-- the ties that are not among some -/
def sp_ties_beside (K : PySem.W.Frag) (C : Addr) : Sp := fun vs H Q _ => ∃ (w a : Addr) (n : Int) (ps : List (Int × Int)) (kd : Bool) (T : List Int), vs = [.ref w, .ref a] ∧ WebAt C H w n ps ∧ ps.length ≤ 1000 ∧ SqK kd K H a (IL T) ∧
  ∀ (D : List Int), D.Pairwise (· < ·) → (∀ z, z ∈ D ↔ (0 ≤ z ∧ z < (ps.length : Int)) ∧ z ∉ T) → ∀ (r : Addr) (H' : Hp), Same H H' → H' r = some (.tup (IL D)) → Q (.ref r) H'
section
variable {P : Program} {w : World} {K : PySem.W.Frag} {mg : Str → Option Value} {base : Heap} {t : Adr}
theorem sc_ties_beside : FnScope ["web", "ties"] ["web", "ties"] (defScope s_ties_beside) := ⟨rfl, rfl, rfl, by decide +kernel, rfl, by decide +kernel, by decide +kernel⟩
theorem ok_ties_beside (T : Txt K mg t) : FnOk P w K mg base CX0 1 t.a_ties_beside t.d_ties_beside ["web", "ties"] (sp_ties_beside K t.A_Web) := by
  refine T.f_ties_beside.ok sc_ties_beside (fun vs H Q E h => ?_) (fun cdv A outer s H vs Q E hr h => ?_)
  · obtain ⟨w, a, n, ps, kd, T, rfl, _⟩ := h
    rfl
  · obtain ⟨w, a, n, ps, kd, T', rfl, hW, hl, hA, q⟩ := h
    refine ⟨_, (pss_one (ps_ret (pe_callTy (call_tupleK K) (by rfl) T.n_tuple Boot.«tuple» (pa_cons (pe_lc rfl (sc0 := defScope s_ties_beside) (N0 := ["web", "ties"]) (N' := ["tie", "ties"]) (o := 1) (fr := [1]) ⟨rfl, by decide +kernel, by decide +kernel, by decide +kernel, rfl, by decide +kernel⟩ (pi_range1 rfl T.n_range (pa_cons (pe_callB (call_lenK K) (by rfl) T.n_len Boot.«len» (pa_cons (pe_fldK K (pv 0) rfl) pa_nil)) pa_nil)) (own_name (by decide)) (fun _ _ _ _ => (pg_name (i := 0) (show List.Nodup (["tie", "ties"] : List Str) by decide +kernel) rfl (Or.inl rfl))) (fun _ _ _ _ => (pts_one (pt_cmpR (op_notInK K) (pv 0) (pv 1) rfl))) (fun _ _ _ _ => (pv 0))) pa_nil)))), ?_⟩
    obtain ⟨dx, tl, xs, h1, h2, h3⟩ := hW
    have hlx := h3.1
    refine ⟨_, rfl, w, _, dx, _, _, rfl, h1, T.cl_Web, T.n_Web_ties, wf_ties _ _, tl, xs, rfl, .inl (SqL.of h2), _, rfl, by omega, by omega, lc_range (lo := 0) (n := (xs.length : Int).toNat) (fun j ys H3 => H3 = H ∧ ∃ D : List Int, ys = IL D ∧ D.length ≤ j ∧ D.Pairwise (· < ·) ∧ ∀ z, z ∈ D ↔ (0 ≤ z ∧ z < (j : Int)) ∧ z ∉ T') ⟨rfl, [], rfl, Nat.le_refl _, .nil, fun z => ⟨fun h => (by cases h), fun h => (by omega)⟩⟩ (small60' (by omega)) (fun j ys H3 _ ⟨_, D, e, hl, _⟩ => by rw [e, il_length]; exact hl) ?_ ?_⟩
    · rintro j ys H3 hj ⟨rfl, D, rfl, hDl, hp, hm⟩ S hSS
      have lt : ∀ z ∈ D, z < (j : Int) := fun z hz => ((hm z).mp hz).1.2
      refine nm ?_
      refine ⟨_, rfl, _, rfl, a, _, rfl, hA.or, rfl, flat_ints _, _, rfl, ?_⟩
      rw [inV_ints, Int.zero_add]
      refine itn2 (fun hin => ?_) (fun hin => ?_)
      · refine hSS _ _ ⟨rfl, D, rfl, by omega, hp, fun z => ?_⟩
        rw [hm z]
        refine ⟨fun h => ⟨by omega, h.2⟩, fun h => ⟨⟨h.1.1, ?_⟩, h.2⟩⟩
        by_cases e : z = (j : Int)
        · exact absurd (e ▸ hin) h.2
        · omega
      · refine ⟨_, rfl, hSS _ _ ⟨rfl, D ++ [(j : Int)], ?_, by rw [List.length_append]; exact Nat.succ_le_succ hDl, ?_, fun z => ?_⟩⟩
        · rw [il_snoc]
        · exact List.pairwise_append.mpr ⟨hp, List.pairwise_singleton _ _, fun a ha b hb => by rw [List.mem_singleton.mp hb]; exact lt a ha⟩
        · rw [List.mem_append, List.mem_singleton, hm z]
          constructor
          · rintro (⟨f1, f2⟩ | h)
            · exact ⟨by omega, f2⟩
            · rw [h]
              exact ⟨by omega, hin⟩
          · rintro ⟨f1, f2⟩
            by_cases e : z = (j : Int)
            · exact .inr e
            · exact .inl ⟨by omega, f2⟩
    rintro ys H3 ⟨rfl, D, rfl, hDl, hp, hm⟩ la hla
    rw [show (((xs.length : Int).toNat : Nat) : Int) = (ps.length : Int) by omega] at hm
    refine ⟨la, _, rfl, .inl ⟨SqL.of upd_same, fun tp htp => ?_⟩⟩
    exact q D hp hm tp _ ((same_at hla).trans (same_at htp)) upd_same
end
end My
namespace My
open PySem L2 PyProof.Rows
set_option maxHeartbeats 4000000
def sp_is_set (K : PySem.W.Frag) (C : Addr) : Sp := fun vs H Q _ => ∃ (w a : Addr) (n : Int) (ps : List (Int × Int)) (kd : Bool) (ns : List Int), vs = [.ref w, .ref a] ∧ WebAt C H w n ps ∧ SqK kd K H a (IL ns) ∧ ∀ b : Bool, (b = true ↔ IsSet ps.length ns) → Q (.bl b) H
section
variable {P : Program} {w : World} {K : PySem.W.Frag} {mg : Str → Option Value} {base : Heap} {t : Adr}
theorem sc_is_set : FnScope ["web", "ties", "last", "tie"] ["web", "ties"] (defScope s_is_set) := ⟨rfl, rfl, rfl, by decide +kernel, rfl, by decide +kernel, by decide +kernel⟩
theorem ok_is_set (T : Txt K mg t) : FnOk P w K mg base CX0 2 t.a_is_set t.d_is_set ["web", "ties"] (sp_is_set K t.A_Web) := by
  refine T.f_is_set.ok sc_is_set (fun vs H Q E h => ?_) (fun cdv A outer s H vs Q E hr h => ?_)
  · obtain ⟨w, a, n, ps, kd, ns, rfl, _⟩ := h
    rfl
  · obtain ⟨w, a, n, ps, kd, ns, rfl, hW, hS, q⟩ := h
    refine ⟨_, (pss_cons (ps_set (i := 2) sc_is_set.nd rfl (Or.inl rfl) (pe_un un_neg pe_int))
      (pss_cons (ps_for PassesOwn.never rfl (pi_seqK K (pv 1)) (pg_name (i := 3) sc_is_set.nd rfl (Or.inl rfl))
      (pss_cons (ps_if (PW.pt (pw_or (pt_cmpR op_le (pv 3) (pv 2) (nomark _)) (pw_or1 (pt_not (pt_val (pe_call (ok_is_tie T) (hr.mono (by decide)) rfl T.m_is_tie T.f_is_tie.kp T.b_is_tie .nil pass0 (pa_cons (pv 0) (pa_cons (pv 3) pa_nil))))))))
      (pss_one (ps_ret pe_bl))
      pss_nil)
      (pss_one (ps_set (i := 2) sc_is_set.nd rfl (Or.inl rfl) (pv 3)))))
      (pss_one (ps_ret pe_bl)))), ?_⟩
    refine ⟨_, rfl, ?_⟩
    refine ⟨_, rfl, a, rfl, for_seq (k := kd) (K := K) (xs := IL ns) (fun i σ H2 => ∃ (l : Int) (v : Option V), σ = [some (.ref w), some (.ref a), some (.int l), v] ∧ H2 = H ∧ (i = 0 → l = -1) ∧ (i ≠ 0 → ns[i - 1]? = some l) ∧ ∀ j z, j < i → ns[j]? = some z → 0 ≤ z ∧ z < (ps.length : Int) ∧ ∀ y, j ≠ 0 → ns[j - 1]? = some y → y < z)
      ⟨-1, none, rfl, rfl, fun _ => rfl, fun z => absurd rfl z, fun j z hj => absurd hj (Nat.not_lt_zero j)⟩ (fun i σ H2 _ ⟨_, _, _, e, _⟩ => e ▸ hS) ?_ ?_⟩
    · rintro i x σ H2 hi ⟨l, v, rfl, rfl, hl0, hl1, hp⟩
      obtain ⟨z, rfl, hz⟩ := il_get hi
      refine ⟨_, rfl, _, rfl, _, _, rfl, rfl, _, rfl, ?_⟩
      refine itd2 (fun hc => ?_) (fun hc => ?_)
      · -- tie <= last
        refine iteT ?_
        refine q false ⟨fun z => (nomatch z), fun hs => ?_⟩
        obtain ⟨b1, b2, b3⟩ := hs i z hz
        by_cases h0 : i = 0
        · have := hl0 h0; omega
        · have := b3 l h0 (hl1 h0); omega
      · refine ⟨_, rfl, _, rfl, w, n, ps, z, rfl, hW, _, rfl, ?_⟩
        refine itn2 (fun hc2 => ?_) (fun hc2 => ?_)
        · refine ⟨_, rfl, ?_⟩
          refine ⟨z, _, rfl, rfl, fun e => (nomatch e), fun _ => by simpa using hz, fun j y hj ey => ?_⟩
          by_cases hji : j < i
          · exact hp j y hji ey
          · have e : j = i := by omega
            subst e
            rw [hz] at ey
            cases ey
            refine ⟨hc2.1, hc2.2, fun y h0 ey => ?_⟩
            rw [hl1 h0] at ey
            cases ey
            omega
        · refine q false ⟨fun z => (nomatch z), fun hs => ?_⟩
          obtain ⟨b1, b2, b3⟩ := hs i z hz
          exact absurd ⟨b1, b2⟩ hc2
    · rintro σ H2 ⟨l, v, rfl, rfl, hl0, hl1, hp⟩
      refine q true ⟨fun _ i z hz => ?_, fun _ => rfl⟩
      have hi : i < (IL ns).length := by rw [il_length]; exact (List.getElem?_eq_some_iff.mp hz).1
      exact hp i z hi hz
end
end My
namespace My
open PySem L2 PyProof.Rows
set_option maxHeartbeats 4000000
/-- the tuple of a set of ties -/
def sp_made_set (K : PySem.W.Frag) (C : Addr) : Sp := fun vs H Q _ => ∃ (w a : Addr) (n : Int) (ps : List (Int × Int)) (kd : Bool) (ns : List Int), vs = [.ref w, .ref a] ∧ WebAt C H w n ps ∧ SqK kd K H a (IL ns) ∧ IsSet ps.length ns ∧
  ∀ (r : Addr) (H' : Hp), Same H H' → SqT K H' r (IL ns) → Q (.ref r) H'
section
variable {P : Program} {w : World} {K : PySem.W.Frag} {mg : Str → Option Value} {base : Heap} {t : Adr}
theorem sc_made_set : FnScope ["web", "ties"] ["web", "ties"] (defScope s_made_set) := ⟨rfl, rfl, rfl, by decide +kernel, rfl, by decide +kernel, by decide +kernel⟩
theorem ok_made_set (T : Txt K mg t) : FnOk P w K mg base CX0 3 t.a_made_set t.d_made_set ["web", "ties"] (sp_made_set K t.A_Web) := by
  refine T.f_made_set.ok sc_made_set (fun vs H Q E h => ?_) (fun cdv A outer s H vs Q E hr h => ?_)
  · obtain ⟨w, a, n, ps, kd, ns, rfl, _⟩ := h
    rfl
  · obtain ⟨w, a, n, ps, kd, ns, rfl, hW, hS, hI, q⟩ := h
    refine ⟨_, (pss_cons (ps_if (pt_not (pt_val (pe_call (ok_is_set T) (hr.mono (by decide)) rfl T.m_is_set T.f_is_set.kp T.b_is_set .nil pass0 (pa_cons (pv 0) (pa_cons (pv 1) pa_nil)))))
      (pss_one ps_never)
      pss_nil)
      (pss_one (ps_ret (pe_callTy (call_tupleK K) (by rfl) T.n_tuple Boot.«tuple» (pa_cons (pv 1) pa_nil))))), ?_⟩
    refine ⟨_, rfl, _, rfl, w, a, n, ps, kd, ns, rfl, hW, hS, fun b hb => ⟨_, rfl, ?_⟩⟩
    refine itnb (fun _ => ?_) (fun z => ?_)
    · refine ⟨_, rfl, a, IL ns, rfl, ?_⟩
      cases kd with
      | false => exact .inl ⟨hS, fun l hl => q l _ (same_at hl) (SqT.of upd_same)⟩
      | true => exact .inr ⟨hS, q a H (Same.refl H) hS⟩
    · rw [hb.mpr hI] at z
      cases z
end
end My
namespace My
open PySem L2 PyProof.Rows
set_option maxHeartbeats 4000000
/-- the marks with these ties taken besides -/
def sp_merged_marks (K : PySem.W.Frag) (C : Addr) : Sp := fun vs H Q _ => ∃ (w m a : Addr) (n : Int) (ps : List (Int × Int)) (M : List Int) (kd : Bool) (ns : List Int), vs = [.ref w, .ref m, .ref a] ∧ WebAt C H w n ps ∧ GoodW n ps ∧ H m = some (.lst (IL M)) ∧ M.length = n.toNat ∧ SqK kd K H a (IL ns) ∧ (∀ z ∈ ns, 0 ≤ z ∧ z < (ps.length : Int)) ∧
  ∀ (m' : Addr) (H' : Hp), Same H H' → (m' = m ∨ H m' = none) → H' m' = some (.lst (IL (pmf M (endsOf ps ns)))) → Q (.ref m') H'
section
variable {P : Program} {w : World} {K : PySem.W.Frag} {mg : Str → Option Value} {base : Heap} {t : Adr}
theorem sc_merged_marks : FnScope ["web", "marks", "ties", "tie", "ends", "low", "high"] ["web", "marks", "ties"] (defScope s_merged_marks) := ⟨rfl, rfl, rfl, by decide +kernel, rfl, by decide +kernel, by decide +kernel⟩
theorem ok_merged_marks (T : Txt K mg t) : FnOk P w K mg base CX0 1 t.a_merged_marks t.d_merged_marks ["web", "marks", "ties"] (sp_merged_marks K t.A_Web) := by
  refine T.f_merged_marks.ok sc_merged_marks (fun vs H Q E h => ?_) (fun cdv A outer s H vs Q E hr h => ?_)
  · obtain ⟨w, m, a, n, ps, M, kd, ns, rfl, _⟩ := h
    rfl
  · obtain ⟨w, m0, a, n, ps, M0, kd, ns, rfl, ⟨dx, tl, xs, h1, h2, h3⟩, ⟨g1, g2, g3, g4⟩, hm, hlM, hS, hI, q⟩ := h
    refine ⟨_, (pss_cons (ps_for PassesOwn.never rfl (pi_seqK K (pv 2)) (pg_name (i := 3) sc_merged_marks.nd rfl (Or.inl rfl))
      (pss_cons (ps_set (i := 4) sc_merged_marks.nd rfl (Or.inl rfl) (pe_ix (ix_listK K) (pe_fldK K (pv 0) rfl) (pv 3) (fun _ _ => rfl)))
      (pss_cons (ps_set (i := 5) sc_merged_marks.nd rfl (Or.inr rfl) (pe_callB (call_min2 rfl) (by rfl) T.n_min Boot.«min» (pa_cons (pe_ix (ix_listK K) (pv 1) (pe_ix (ix_tupK K) (pv 4) pe_int (fun _ _ => rfl)) (fun _ _ => rfl)) (pa_cons (pe_ix (ix_listK K) (pv 1) (pe_ix (ix_tupK K) (pv 4) pe_int (fun _ _ => rfl)) (fun _ _ => rfl)) pa_nil))))
      (pss_cons (ps_set (i := 6) sc_merged_marks.nd rfl (Or.inr rfl) (pe_callB (call_max2 rfl) (by rfl) T.n_max Boot.«max» (pa_cons (pe_ix (ix_listK K) (pv 1) (pe_ix (ix_tupK K) (pv 4) pe_int (fun _ _ => rfl)) (fun _ _ => rfl)) (pa_cons (pe_ix (ix_listK K) (pv 1) (pe_ix (ix_tupK K) (pv 4) pe_int (fun _ _ => rfl)) (fun _ _ => rfl)) pa_nil))))
      (pss_one (ps_if (pt_cmpR op_lt (pv 5) (pv 6) (nomark _))
      (pss_one (ps_lc (i := 1) rfl sc_merged_marks.nd rfl rfl (sc0 := defScope s_merged_marks) (N0 := ["web", "marks", "ties", "tie", "ends", "low", "high"]) (N' := ["mark", "high", "low"]) (o := 1) (fr := [6, 5]) ⟨rfl, by decide +kernel, by decide +kernel, by decide +kernel, rfl, by decide +kernel⟩ (pi_listK K (pv 1)) (own_name (by decide)) (fun _ _ _ _ => (pg_name (i := 0) (show List.Nodup (["mark", "high", "low"] : List Str) by decide +kernel) rfl (Or.inl rfl))) (fun _ _ _ _ => pts_nil) (fun _ _ _ _ => (pe_ifExp (pt_cmpR op_eq (pv 0) (pv 1) (nomark _)) (pv 2) (pv 0)))))
      pss_nil))))))
      (pss_one (ps_ret (pv 1)))), ?_⟩
    refine ⟨_, rfl, a, rfl, for_seq (k := kd) (K := K) (a := a) (xs := IL ns) (fun i σ H2 => ∃ (m : Addr) (v3 v4 v5 v6 : Option V), σ = [some (.ref w), some (.ref m), some (.ref a), v3, v4, v5, v6] ∧ Same H H2 ∧ (m = m0 ∨ H m = none) ∧ H2 m = some (.lst (IL (pmf M0 (endsOf ps (ns.take i))))))
      ⟨m0, none, none, none, none, rfl, Same.refl _, .inl rfl, hm⟩ (fun i σ H2 _ ⟨_, _, _, _, _, _, s2, _⟩ => hS.same s2) ?_ ?_⟩
    · rintro i x σ H2 hi ⟨m, v3, v4, v5, v6, rfl, s2, hm0, hm2⟩
      obtain ⟨z, rfl, hz⟩ := il_get hi
      obtain ⟨z0, z1⟩ := hI z (List.mem_of_getElem? hz)
      obtain ⟨p, hp⟩ : ∃ p, ps[z.toNat]? = some p := ⟨_, List.getElem?_eq_getElem (by omega)⟩
      obtain ⟨v, hv, tt, rfl, htt⟩ := h3.2 z.toNat p hp
      obtain ⟨e1, e2, e3, e4⟩ := g4 p (List.mem_of_getElem? hp)
      have ed : ps.getD z.toNat (0, 0) = p := getD_of hp
      -- ends = web.ties[tie]
      refine ⟨_, rfl, w, _, dx, _, _, rfl, s2 _ _ h1, T.cl_Web, T.n_Web_ties, wf_ties _ _, _, rfl, tl, xs, z, .ref tt, rfl, rfl, SqL.of (s2 _ _ h2), atI_of (n := z.toNat) (by omega) hv, ?_⟩
      have ht2 := s2 _ _ htt
      have hl : (pmf M0 (endsOf ps (ns.take i))).length = n.toNat := (pmf_length _ _).trans hlM
      generalize hM : pmf M0 (endsOf ps (ns.take i)) = M at *
      have ha : M[p.1.toNat]? = some (mk M p.1.toNat) := mk_some (by omega)
      have hb : M[p.2.toNat]? = some (mk M p.2.toNat) := mk_some (by omega)
      have iA : atI (IL M) p.1 = some (.int (mk M p.1.toNat)) := atI_of (n := p.1.toNat) (by omega) (by rw [List.getElem?_map, ha]; rfl)
      have iB : atI (IL M) p.2 = some (.int (mk M p.2.toNat)) := atI_of (n := p.2.toNat) (by omega) (by rw [List.getElem?_map, hb]; rfl)
      have t0 : atI ([.int p.1, .int p.2] : List V) 0 = some (.int p.1) := rfl
      have t1 : atI ([.int p.1, .int p.2] : List V) 1 = some (.int p.2) := rfl
      -- low, high
      refine ⟨_, rfl, _, rfl, tt, _, 0, _, rfl, rfl, SqT.of ht2, t0, m, _, p.1, _, rfl, rfl, SqL.of hm2, iA, _, rfl, _, rfl, tt, _, 1, _, rfl, rfl, SqT.of ht2, t1, m, _, p.2, _, rfl, rfl, SqL.of hm2, iB, _, _, rfl, ?_⟩
      refine ⟨_, rfl, _, rfl, tt, _, 0, _, rfl, rfl, SqT.of ht2, t0, m, _, p.1, _, rfl, rfl, SqL.of hm2, iA, _, rfl, _, rfl, tt, _, 1, _, rfl, rfl, SqT.of ht2, t1, m, _, p.2, _, rfl, rfl, SqL.of hm2, iB, _, _, rfl, ?_⟩
      have eL : (if mk M p.2.toNat < mk M p.1.toNat then mk M p.2.toNat else mk M p.1.toNat) = min (mk M p.1.toNat) (mk M p.2.toNat) := by
        rw [Int.min_def]; split <;> split <;> omega
      have eH : (if mk M p.2.toNat > mk M p.1.toNat then mk M p.2.toNat else mk M p.1.toNat) = max (mk M p.1.toNat) (mk M p.2.toNat) := by
        rw [Int.max_def]; split <;> split <;> omega
      refine ⟨_, rfl, _, rfl, _, _, rfl, rfl, _, rfl, ?_⟩
      rw [eL, eH]
      have step : pmf M0 (endsOf ps (ns.take (i + 1))) = pm M p.1.toNat p.2.toNat := by rw [endsOf_snoc hz, pmf_snoc, hM, ed]
      refine itd2 (fun hc => ?_) (fun hc => ?_)
      · refine ⟨_, rfl, m, rfl, ⟨_, SqL.of hm2⟩, lc_list (K := K) (a := m) (xs := IL M) (fun j ys H3 => H3 = H2 ∧ j ≤ M.length ∧ ys = IL ((M.take j).map fun k => if k = max (mk M p.1.toNat) (mk M p.2.toNat) then min (mk M p.1.toNat) (mk M p.2.toNat) else k)) ⟨rfl, Nat.zero_le _, rfl⟩ (small60' (by rw [il_length]; omega))
          (fun j ys H3 hj ⟨e, hjl, ey⟩ => ⟨e ▸ SqL.of hm2, by rw [ey, il_length, List.length_map, List.length_take]; omega⟩) ?_ ?_⟩
        · rintro j y ys H3 hj ⟨rfl, hjl, rfl⟩ S hSS
          obtain ⟨k, rfl, hk⟩ := il_get hj
          refine nmY ?_
          refine ⟨_, rfl, _, rfl, rfl, _, rfl, ?_⟩
          have hjl' : j < M.length := (List.getElem?_eq_some_iff.mp hk).1
          have app : ∀ r : Int, r = (if k = max (mk M p.1.toNat) (mk M p.2.toNat) then min (mk M p.1.toNat) (mk M p.2.toNat) else k) →
              IL ((M.take j).map fun k => if k = max (mk M p.1.toNat) (mk M p.2.toNat) then min (mk M p.1.toNat) (mk M p.2.toNat) else k) ++ [.int r] = IL ((M.take (j + 1)).map fun k => if k = max (mk M p.1.toNat) (mk M p.2.toNat) then min (mk M p.1.toNat) (mk M p.2.toNat) else k) := by
            intro r er
            rw [List.take_succ, hk, er]
            simp
          refine itd2 (fun he => ?_) (fun he => ?_)
          · refine ⟨_, rfl, hSS _ _ ⟨rfl, hjl', app _ ?_⟩⟩
            rw [if_pos (V.int.inj he)]
          · refine ⟨_, rfl, hSS _ _ ⟨rfl, hjl', app _ ?_⟩⟩
            rw [if_neg fun z => he (congrArg V.int z)]
        · rintro ys H3 ⟨rfl, _, rfl⟩ p' hp'
          refine ⟨p', _, _, _, _, rfl, same_new s2 hp', .inr (s2.free hp'), ?_⟩
          rw [upd_same, step, il_length, List.take_length]
          unfold pm
          rw [if_pos hc]
      · refine ⟨m, _, _, _, _, rfl, s2, hm0, ?_⟩
        rw [hm2, step]
        unfold pm
        rw [if_neg hc]
    · rintro σ H2 ⟨m, v3, v4, v5, v6, rfl, s2, hm0, hm2⟩
      rw [il_length, List.take_length] at hm2
      exact ⟨_, rfl, q m H2 s2 hm0 hm2⟩
end
end My
namespace My
open PySem L2 PyProof.Rows
set_option maxHeartbeats 4000000
/-- each place's mark, by the program's own steps -/
def sp_piece_marks (K : PySem.W.Frag) (C : Addr) : Sp := fun vs H Q _ => ∃ (w a : Addr) (n : Int) (ps : List (Int × Int)) (ns : List Int), vs = [.ref w, .ref a] ∧ WebAt C H w n ps ∧ GoodW n ps ∧ SqT K H a (IL ns) ∧ (∀ z ∈ ns, 0 ≤ z ∧ z < (ps.length : Int)) ∧
  ∀ (m : Addr) (H' : Hp), Same H H' → H m = none → H' m = some (.lst (IL (pms n.toNat (endsOf ps ns)))) → Q (.ref m) H'
section
variable {P : Program} {w : World} {K : PySem.W.Frag} {mg : Str → Option Value} {base : Heap} {t : Adr}
theorem sc_piece_marks : FnScope ["web", "ties"] ["web", "ties"] (defScope s_piece_marks) := ⟨rfl, rfl, rfl, by decide +kernel, rfl, by decide +kernel, by decide +kernel⟩
theorem ok_piece_marks (T : Txt K mg t) : FnOk P w K mg base CX0 2 t.a_piece_marks t.d_piece_marks ["web", "ties"] (sp_piece_marks K t.A_Web) := by
  refine T.f_piece_marks.ok sc_piece_marks (fun vs H Q E h => ?_) (fun cdv A outer s H vs Q E hr h => ?_)
  · obtain ⟨w, a, n, ps, ns, rfl, _⟩ := h
    rfl
  · obtain ⟨w, a, n, ps, ns, rfl, hW, hG, hS, hI, q⟩ := h
    refine ⟨_, (pss_one (ps_ret (pe_call (ok_merged_marks T) (hr.mono (by decide)) rfl T.m_merged_marks T.f_merged_marks.kp T.b_merged_marks .nil pass0 (pa_cons (pv 0) (pa_cons (pe_callTy (call_list_rng rfl) (by rfl) T.n_list Boot.«list» (pa_cons (pe_callTy call_rng1 (by rfl) T.n_range Boot.«range» (pa_cons (pe_fldK K (pv 0) rfl) pa_nil)) pa_nil)) (pa_cons (pv 1) pa_nil)))))), ?_⟩
    obtain ⟨dx, tl, xs, h1, h2, h3⟩ := id hW
    obtain ⟨g1, g2, g3, g4⟩ := id hG
    refine ⟨_, rfl, _, rfl, w, _, dx, _, _, rfl, h1, T.cl_Web, T.n_Web_places, wf_places _ _, n, rfl, fun r hr0 => ⟨r, 0, n, rfl, upd_same, ⟨by decide, by decide, by omega, by omega⟩, by omega, fun m hm => ?_⟩⟩
    have sm : Same H (upd (upd H r (.rng 0 n)) m (.lst ((rngI 0 n).map V.int))) := same_new (same_at hr0) hm
    refine ⟨_, rfl, w, m, a, n, ps, (List.range n.toNat).map (fun (i : Nat) => (i : Int)), true, ns, rfl, hW.same sm, hG, ?_, by simp, sqT_same sm hS, hI, fun m' H' s' hf hm' => ?_⟩
    · rw [upd_same, rngI_zero]
    · refine q m' H' (sm.trans s') ?_ hm'
      rcases hf with rfl | hf
      · exact (same_at hr0).free hm
      · exact sm.free hf
end
end My
namespace My
open PySem L2 PyProof.Rows
set_option maxHeartbeats 4000000
/-- the pieces over a set, by their marks -/
def sp_pieces_of (K : PySem.W.Frag) (C : Addr) : Sp := fun vs H Q _ => ∃ (w a : Addr) (n : Int) (ps : List (Int × Int)) (kd : Bool) (ns : List Int), vs = [.ref w, .ref a] ∧ WebAt C H w n ps ∧ GoodW n ps ∧ SqK kd K H a (IL ns) ∧ IsSet ps.length ns ∧
  ∀ (r : Addr) (as : List Addr) (H' : Hp), Same H H' → H r = none → H' r = some (.lst (as.map V.ref)) → r ∉ as → GrpAt H H' (grp (pms n.toNat (endsOf ps ns))) as → Q (.ref r) H'
section
variable {P : Program} {w : World} {K : PySem.W.Frag} {mg : Str → Option Value} {base : Heap} {t : Adr}
theorem sc_pieces_of : FnScope ["web", "ties", "pieces", "place", "mark"] ["web", "ties"] (defScope s_pieces_of) := ⟨rfl, rfl, rfl, by decide +kernel, rfl, by decide +kernel, by decide +kernel⟩
theorem ok_pieces_of (T : Txt K mg t) : FnOk P w K mg base CX0 4 t.a_pieces_of t.d_pieces_of ["web", "ties"] (sp_pieces_of K t.A_Web) := by
  refine T.f_pieces_of.ok sc_pieces_of (fun vs H Q E h => ?_) (fun cdv A outer s H vs Q E hr h => ?_)
  · obtain ⟨w, a, n, ps, kd, ns, rfl, _⟩ := h
    rfl
  · obtain ⟨w, a, n, ps, kd, ns, rfl, hW, hG, hS, hI, q⟩ := h
    refine ⟨_, (pss_cons (ps_set (i := 2) sc_pieces_of.nd rfl (Or.inl rfl) pe_dnewK)
      (pss_cons (ps_for PassesOwn.never rfl (pi_enumK K rfl T.n_enumerate (pa_cons (pe_call (ok_piece_marks T) (hr.mono (by decide)) rfl T.m_piece_marks T.f_piece_marks.kp T.b_piece_marks .nil pass0 (pa_cons (pv 0) (pa_cons (pe_call (ok_made_set T) (hr.mono (by decide)) rfl T.m_made_set T.f_made_set.kp T.b_made_set .nil pass0 (pa_cons (pv 0) (pa_cons (pv 1) pa_nil))) pa_nil))) pa_nil)) (pg_tupK (n := 2) K rfl (pgs_cons (pg_name (i := 3) sc_pieces_of.nd rfl (Or.inl rfl)) (pgs_cons (pg_name (i := 4) sc_pieces_of.nd rfl (Or.inl rfl)) pgs_nil)))
      (pss_one (ps_expr (pe_bmK K PySem.F.plainAttrs_list PySem.F.slot_list_append PySem.F.type_list_append mt_append (pe_bmK K PySem.F.plainAttrs_dict PySem.F.slot_dict_setdefault PySem.F.type_dict_setdefault mt_setdefault (pv 2) (pa_cons (pv 4) (pa_cons (pe_lst pa_nil) pa_nil))) (pa_cons (pv 3) pa_nil)))))
      (pss_one (ps_ret (pe_callTy (call_list_view rfl) (by rfl) T.n_list Boot.«list» (pa_cons (pe_bm0K K PySem.F.plainAttrs_dict PySem.F.slot_dict_values PySem.F.type_dict_values mt_values (pv 2)) pa_nil)))))), ?_⟩
    intro d hd
    have s0 : Same H (upd H d (.dK [])) := same_at hd
    refine ⟨_, rfl, _, rfl, _, rfl, w, a, n, ps, kd, ns, rfl, hW.same s0, hS.same s0, hI, fun r H1 s1 hr1 => ?_⟩
    refine ⟨w, r, n, ps, ns, rfl, (hW.same s0).same s1, hG, hr1, hI.all, fun m H2 s2 hm1 hm2 => ?_⟩
    have s02 : Same H H2 := (s0.trans s1).trans s2
    have hd2 : H2 d = some (.dK []) := s2 _ _ (s1 _ _ upd_same)
    have hl : (pms n.toNat (endsOf ps ns)).length = n.toNat := pms_length _ _
    generalize hM : pms n.toNat (endsOf ps ns) = M at *
    have hm0 : H m = none := (s0.trans s1).free hm1
    have n14 : M.length ≤ 14 := by have := hG.2.1; omega
    refine ⟨m, rfl, ⟨_, SqL.of hm2⟩, ?_⟩
    refine for_enum (K := K) (a := m) (xs := IL M) (fun i σ H3 => ∃ (as : List Addr) (v3 v4 : Option V), σ = [some (.ref w), some (.ref a), some (.ref d), v3, v4] ∧ i ≤ M.length ∧ Same H H3 ∧ H3 m = some (.lst (IL M)) ∧ H3 d = some (.dK (gkv (grpA M i) as)) ∧ d ∉ as ∧ m ∉ as ∧ GrpAt H H3 (grpA M i) as ∧ as.length ≤ i)
      ⟨[], none, none, rfl, Nat.zero_le _, s02, hm2, hd2, by simp, by simp, ⟨rfl, List.nodup_nil, fun i kv a e => by simp [grpA] at e, fun a ha => by simp at ha⟩, Nat.le_refl _⟩ (fun i σ H3 _ ⟨_, _, _, _, _, _, h, _⟩ => SqL.of h) ?_ ?_
    · rintro i x σ H3 pt hpt hi ⟨as, v3, v4, rfl, hil, s3, hm3, hd3, nda, nma, gA, hal⟩
      obtain ⟨k, rfl, hk⟩ := il_get hi
      have hk' : mk M i = k := getD_of hk
      have hil' : i < M.length := (List.getElem?_eq_some_iff.mp hk).1
      have s4 : Same H3 (upd H3 pt (.tup [.int i, .int k])) := same_at hpt
      refine ⟨pt, _, rfl, SqT.of upd_same, rfl, _, _, rfl, _, _, rfl, rfl, ?_⟩
      refine ⟨_, rfl, .inr (.inr (.inl ⟨rfl, .inl ⟨_, s4 _ _ hd3⟩⟩)), _, rfl, (by show 0 ≤ sizeLine; exact Nat.zero_le _), fun l hl0 => ?_⟩
      have s5 : Same H3 (upd (upd H3 pt (.tup [.int i, .int k])) l (.lst [])) := same_new s4 hl0
      have hd5 := s5 _ _ hd3
      have hl3 : H3 l = none := s4.free hl0
      have ndl : d ≠ l := ne_of_none hd3 hl3
      have gl := gA.len
      refine ⟨d, gkv (grpA M i) as, Sum.inl k, .ref l, rfl, rfl, hd5, ?_, fun v hv => ?_, fun hv => ?_⟩
      · rw [gkv_length gl]
        exact small60' (by omega)
      · -- the mark has its list
        rcases gkv_val (g := grpA M i) (as := as) (k := k) gl with ⟨h1, _⟩ | ⟨j, kv, b, e1, e2, e3, e4⟩
        · rw [h1] at hv; cases hv
        · rw [e4] at hv
          cases hv
          have hb5 := s5 _ _ (gA.at_ j kv b e1 e2)
          have hkm : k ∈ (grpA M i).map (·.1) := List.mem_map.mpr ⟨kv, List.mem_of_getElem? e1, e3⟩
          have hlen : kv.2.length ≤ i := grpA_len (List.mem_of_getElem? e1)
          refine ⟨.inl ⟨rfl, _, SqL.of hb5⟩, _, rfl, b, _, .int i, rfl, rfl, hb5, ?_, ?_⟩
          · rw [il_length]
            exact small60' (by omega)
          · have hbas : b ∈ as := List.mem_of_getElem? e2
            have hdb : d ≠ b := fun z => nda (z ▸ hbas)
            have hmb : m ≠ b := fun z => nma (z ▸ hbas)
            have hb0 := gA.new b hbas
            have ekeys : (grpA M (i + 1)).map (·.1) = (grpA M i).map (·.1) := by
              show (gstep (grpA M i) (i : Int) (mk M i)).map (·.1) = _
              rw [gstep_keys, hk', if_pos hkm]
            refine ⟨as, _, _, rfl, hil', same_upd hb0 (s3.trans s5), by rw [upd_ne hmb]; exact s5 _ _ hm3, by rw [upd_ne hdb, hd5, gkv_keys ekeys], nda, nma, ⟨?_, gA.nd, ?_, gA.new⟩, by omega⟩
            · have := congrArg List.length ekeys
              rw [List.length_map, List.length_map] at this
              omega
            · intro i2 kv2 a2 f1 f2
              have f1 : (gstep (grpA M i) (i : Int) (mk M i))[i2]? = some kv2 := f1
              unfold gstep at f1
              rw [hk', if_pos hkm, List.getElem?_map] at f1
              cases f3 : (grpA M i)[i2]? with
              | none => rw [f3] at f1; cases f1
              | some kv3 =>
                rw [f3] at f1
                have f1 : (if kv3.1 = k then (kv3.1, kv3.2 ++ [(i : Int)]) else kv3) = kv2 := Option.some.inj f1
                by_cases hj : i2 = j
                · subst hj
                  rw [e1] at f3
                  cases f3
                  rw [e2] at f2
                  cases f2
                  rw [if_pos e3] at f1
                  subst f1
                  rw [upd_same]
                  simp
                · have hab : a2 ≠ b := fun z => by
                    subst z
                    exact hj (nodup_get gA.nd f2 e2)
                  have hkk : ¬ kv3.1 = k := fun z => hj (nodup_get (grpA_nodup M i) (by rw [List.getElem?_map, f3]; exact congrArg some z) (by rw [List.getElem?_map, e1]; exact congrArg some e3))
                  rw [if_neg hkk] at f1
                  subst f1
                  rw [upd_ne hab]
                  exact s5 _ _ (gA.at_ i2 kv3 a2 f3 f2)
      · -- a new list
        rcases gkv_val (g := grpA M i) (as := as) (k := k) gl with ⟨h1, hkn⟩ | ⟨j, kv, b, e1, e2, e3, e4⟩
        · have hl6 : (upd (upd (upd H3 pt (.tup [.int i, .int k])) l (.lst [])) d (.dK (gkv (grpA M i) as ++ [(Sum.inl k, .ref l)]))) l = some (.lst []) := by rw [upd_ne (Ne.symm ndl), upd_same]
          refine ⟨.inl ⟨rfl, _, SqL.of hl6⟩, _, rfl, l, [], .int i, rfl, rfl, hl6, (by show 0 < sizeLine; decide), ?_⟩
          have hl0' : H l = none := s3.free hl3
          have hlas : l ∉ as := fun z => by
            obtain ⟨_, e⟩ := gA.mem z
            rw [hl3] at e
            cases e
          have hml : m ≠ l := ne_of_none hm3 hl3
          have hmd : m ≠ d := ne_of hm3 hd3 (fun z => nomatch z)
          have egr : grpA M (i + 1) = grpA M i ++ [(k, [(i : Int)])] := by
            show gstep (grpA M i) (i : Int) (mk M i) = _
            unfold gstep
            rw [hk', if_neg hkn]
          have hdH : H d = none := hd
          refine ⟨as ++ [l], _, _, rfl, hil', same_upd hl0' (same_upd hdH (s3.trans s5)), by rw [upd_ne hml, upd_ne hmd]; exact s5 _ _ hm3, ?_, ?_, ?_, ⟨?_, ?_, ?_, ?_⟩, ?_⟩
          · rw [upd_ne ndl, upd_same, egr, gkv_snoc gl]
          · rw [List.mem_append, List.mem_singleton]
            rintro (z | z)
            · exact nda z
            · exact ndl z
          · rw [List.mem_append, List.mem_singleton]
            rintro (z | z)
            · exact nma z
            · exact hml z
          · rw [egr, List.length_append, List.length_append, gl]
            rfl
          · exact nd_snoc gA.nd hlas
          · intro i2 kv2 a2 f1 f2
            rw [egr] at f1
            by_cases hi2 : i2 < (grpA M i).length
            · rw [List.getElem?_append_left hi2] at f1
              rw [List.getElem?_append_left (by omega)] at f2
              have e := gA.at_ i2 kv2 a2 f1 f2
              have n1 : a2 ≠ l := ne_of_none e hl3
              have n2 : a2 ≠ d := ne_of e hd3 (fun z => nomatch z)
              rw [upd_ne n1, upd_ne n2]
              exact s5 _ _ e
            · have h2 : i2 = (grpA M i).length := by
                have := (List.getElem?_eq_some_iff.mp f1).1
                rw [List.length_append, List.length_singleton] at this
                omega
              subst h2
              rw [List.getElem?_append_right (Nat.le_refl _), Nat.sub_self] at f1
              rw [List.getElem?_append_right (by omega), gl, Nat.sub_self] at f2
              cases f1
              cases f2
              rw [upd_same]
              rfl
          · intro a2 ha2
            rcases List.mem_append.mp ha2 with z | z
            · exact gA.new a2 z
            · rw [List.mem_singleton.mp z]; exact hl0'
          · rw [List.length_append, List.length_singleton]
            omega
        · rw [e4] at hv; cases hv
    · rintro σ H3 ⟨as, v3, v4, rfl, hil, s3, hm3, hd3, nda, nma, gA, hal⟩
      rw [il_length] at hd3 gA
      refine ⟨_, rfl, .inr (.inr (.inl ⟨rfl, .inl ⟨_, hd3⟩⟩)), d, _, rfl, rfl, hd3, fun p hp => ?_⟩
      have s6 : Same H3 (upd H3 p (viewO p d)) := same_at hp
      refine ⟨p, d, _, rfl, upd_same, s6 _ _ hd3, fun r hr0 => ?_⟩
      have s7 : Same H3 (upd (upd H3 p (viewO p d)) r (.lst ((gkv (grpA M M.length) as).map (·.2)))) := same_new s6 hr0
      refine q r as _ (s3.trans s7) ((s3.trans s6).free hr0) (by rw [upd_same, gkv_snd gA.len]) (fun z => ?_) (gA.same s7)
      obtain ⟨_, e⟩ := gA.mem z
      rw [s6.free hr0] at e
      cases e
end
end My
namespace My
open PySem L2 PyProof.Rows
set_option maxHeartbeats 4000000
def sp_is_joined (K : PySem.W.Frag) (C : Addr) : Sp := fun vs H Q _ => ∃ (w a : Addr) (n : Int) (ps : List (Int × Int)) (kd : Bool) (ns : List Int), vs = [.ref w, .ref a] ∧ WebAt C H w n ps ∧ GoodW n ps ∧ SqK kd K H a (IL ns) ∧ IsSet ps.length ns ∧
  ∀ (b : Bool) (H' : Hp), Same H H' → (b = true ↔ (grp (pms n.toNat (endsOf ps ns))).length = 1) → Q (.bl b) H'
section
variable {P : Program} {w : World} {K : PySem.W.Frag} {mg : Str → Option Value} {base : Heap} {t : Adr}
theorem sc_is_joined : FnScope ["web", "ties"] ["web", "ties"] (defScope s_is_joined) := ⟨rfl, rfl, rfl, by decide +kernel, rfl, by decide +kernel, by decide +kernel⟩
theorem ok_is_joined (T : Txt K mg t) : FnOk P w K mg base CX0 5 t.a_is_joined t.d_is_joined ["web", "ties"] (sp_is_joined K t.A_Web) := by
  refine T.f_is_joined.ok sc_is_joined (fun vs H Q E h => ?_) (fun cdv A outer s H vs Q E hr h => ?_)
  · obtain ⟨w, a, n, ps, kd, ns, rfl, _⟩ := h
    rfl
  · obtain ⟨w, a, n, ps, kd, ns, rfl, hW, hG, hS, hI, q⟩ := h
    refine ⟨_, (pss_one (ps_ret (pe_cmpR op_eq (pe_callB (call_lenK K) (by rfl) T.n_len Boot.«len» (pa_cons (pe_call (ok_pieces_of T) (hr.mono (by decide)) rfl T.m_pieces_of T.f_pieces_of.kp T.b_pieces_of .nil pass0 (pa_cons (pv 0) (pa_cons (pv 1) pa_nil))) pa_nil)) pe_int (nomark _)))), ?_⟩
    refine ⟨_, rfl, _, rfl, w, a, n, ps, kd, ns, rfl, hW, hG, hS, hI, fun r as H' s1 hr0 hr1 hnr gA => ?_⟩
    refine ⟨r, _, rfl, .inl (SqL.of hr1), rfl, ?_⟩
    rw [List.length_map, gA.len, dec_int]
    refine q _ H' s1 ?_
    rw [decide_eq_true_iff]
    omega
end
end My
namespace My
open PySem L2 PyProof.Rows
set_option maxHeartbeats 4000000
def sp_is_tree (K : PySem.W.Frag) (C : Addr) : Sp := fun vs H Q _ => ∃ (w a : Addr) (n : Int) (ps : List (Int × Int)) (kd : Bool) (ns : List Int), vs = [.ref w, .ref a] ∧ WebAt C H w n ps ∧ GoodW n ps ∧ SqK kd K H a (IL ns) ∧
  ∀ (b : Bool) (H' : Hp), Same H H' → (b = true ↔ IsTree n ps ns) → Q (.bl b) H'
section
variable {P : Program} {w : World} {K : PySem.W.Frag} {mg : Str → Option Value} {base : Heap} {t : Adr}
theorem sc_is_tree : FnScope ["web", "ties"] ["web", "ties"] (defScope s_is_tree) := ⟨rfl, rfl, rfl, by decide +kernel, rfl, by decide +kernel, by decide +kernel⟩
theorem ok_is_tree (T : Txt K mg t) : FnOk P w K mg base CX0 6 t.a_is_tree t.d_is_tree ["web", "ties"] (sp_is_tree K t.A_Web) := by
  refine T.f_is_tree.ok sc_is_tree (fun vs H Q E h => ?_) (fun cdv A outer s H vs Q E hr h => ?_)
  · obtain ⟨w, a, n, ps, kd, ns, rfl, _⟩ := h
    rfl
  · obtain ⟨w, a, n, ps, kd, ns, rfl, hW, hG, hS, q⟩ := h
    refine ⟨_, (pss_one (ps_ret (pe_and (pe_call (ok_is_set T) (hr.mono (by decide)) rfl T.m_is_set T.f_is_set.kp T.b_is_set .nil pass0 (pa_cons (pv 0) (pa_cons (pv 1) pa_nil))) (pe_and (pe_cmpR op_eq (pe_callB (call_lenK K) (by rfl) T.n_len Boot.«len» (pa_cons (pv 1) pa_nil)) (pe_op op_sub (pe_fldK K (pv 0) rfl) pe_int) (nomark _)) (pe_one (pe_call (ok_is_joined T) (hr.mono (by decide)) rfl T.m_is_joined T.f_is_joined.kp T.b_is_joined .nil pass0 (pa_cons (pv 0) (pa_cons (pv 1) pa_nil)))))))), ?_⟩
    refine ⟨_, rfl, _, rfl, w, a, n, ps, kd, ns, rfl, hW, hS, fun b hb => ⟨b, rfl, ?_⟩⟩
    refine itb (fun e => ?_) (fun e => ?_)
    · have hI := hb.mp e
      obtain ⟨dx, tl, xs, h1, h2, h3⟩ := id hW
      refine ⟨_, rfl, a, _, rfl, hS.or, _, rfl, w, _, dx, _, _, rfl, h1, T.cl_Web, T.n_Web_places, wf_places _ _, _, _, rfl, rfl, rfl, _, rfl, ?_⟩
      rw [il_length, dec_int]
      refine itd2 (fun hl => ?_) (fun hl => ?_)
      · refine ⟨_, rfl, _, rfl, w, a, n, ps, kd, ns, rfl, hW, hG, hS, hI, fun b2 H' s hb2 => q b2 H' s ?_⟩
        rw [hb2, grp_conn (by have := hG.1; omega) (ends_in hG hI.all)]
        exact ⟨fun z => ⟨hI, hl, z⟩, fun z => z.2.2⟩
      · exact q false H (Same.refl H) ⟨fun z => (nomatch z), fun z => absurd z.2.1 hl⟩
    · exact q false H (Same.refl H) ⟨fun z => (nomatch z), fun z => by rw [hb.mpr z.1] at e; cases e⟩
end
end My
namespace My
open PySem L2 PyProof.Rows
set_option maxHeartbeats 4000000
def sp_refuse_no_tree (K : PySem.W.Frag) (C B : Addr) : Sp := fun vs H Q E => ∃ (w a : Addr) (n : Int) (ps : List (Int × Int)) (kd : Bool) (ns : List Int), vs = [.ref w, .ref a] ∧ WebAt C H w n ps ∧ GoodW n ps ∧ SqK kd K H a (IL ns) ∧
  (IsTree n ps ns → ∀ H' : Hp, Same H H' → Q .non H') ∧ (¬ IsTree n ps ns → ∀ H' : Hp, Same H H' → E (.ref B) none H')
section
variable {P : Program} {w : World} {K : PySem.W.Frag} {mg : Str → Option Value} {base : Heap} {t : Adr}
theorem sc_refuse_no_tree : FnScope ["web", "tree"] ["web", "tree"] (defScope s_refuse_no_tree) := ⟨rfl, rfl, rfl, by decide +kernel, rfl, by decide +kernel, by decide +kernel⟩
theorem ok_refuse_no_tree (T : Txt K mg t) : FnOk P w K mg base (CXW P w) 7 t.a_refuse_no_tree t.d_refuse_no_tree ["web", "tree"] (sp_refuse_no_tree K t.A_Web t.A_NoTree) := by
  refine T.f_refuse_no_tree.okX sc_refuse_no_tree (fun vs H Q E h => ?_) (fun cdv A outer s H vs Q E hr h => ?_)
  · obtain ⟨w, a, n, ps, kd, ns, rfl, _⟩ := h
    rfl
  · obtain ⟨w, a, n, ps, kd, ns, rfl, hW, hG, hS, q, qe⟩ := h
    refine ⟨_, (pss_one (ps_if (pt_not (pt_val (pe_call (ok_is_tree T) (hr.mono (by decide)) rfl T.m_is_tree T.f_is_tree.kp T.b_is_tree .nil pass0 (pa_cons (pv 0) (pa_cons (pv 1) pa_nil)))))
      (pss_one (ps_raise T.x_NoTree T.c_NoTree (pa_cons pe_str pa_nil)))
      pss_nil)), ?_⟩
    refine ⟨_, rfl, _, rfl, w, a, n, ps, kd, ns, rfl, hW, hG, hS, fun b H' s hb => ⟨_, rfl, ?_⟩⟩
    refine itnb (fun z => ?_) (fun z => ?_)
    · exact q (hb.mp z) H' s
    · exact ⟨by show 1 ≤ sizeLine; decide, qe (fun g => by rw [hb.mpr g] at z; cases z) H' s⟩
end
end My
namespace My
open PySem L2 PyProof.Rows
set_option maxHeartbeats 4000000
/-- the ties inside first, then those of the order: each that closes no ring -/
def sp_grown_tree (K : PySem.W.Frag) (C : Addr) : Sp := fun vs H Q _ => ∃ (w a b : Addr) (n : Int) (ps : List (Int × Int)) (ka kb : Bool) (ns os : List Int), vs = [.ref w, .ref a, .ref b] ∧ WebAt C H w n ps ∧ GoodW n ps ∧ SqK ka K H a (IL ns) ∧ SqK kb K H b (IL os) ∧ ns.length ≤ 1000 ∧ os.length ≤ 1000 ∧ (∀ z ∈ ns ++ os, 0 ≤ z ∧ z < (ps.length : Int)) ∧
  (((grw n.toNat ps (ns ++ os)).take ns.length ≠ ns ∨ ((grw n.toNat ps (ns ++ os)).length : Int) < n - 1) → ∀ H' : Hp, Same H H' → Q .non H') ∧
  ((grw n.toNat ps (ns ++ os)).take ns.length = ns → ¬ ((grw n.toNat ps (ns ++ os)).length : Int) < n - 1 → ∀ (r : Addr) (ms : List Int) (H' : Hp), ms.Perm (grw n.toNat ps (ns ++ os)) → ms.Pairwise (· ≤ ·) → Same H H' → H r = none → H' r = some (.tup (IL ms)) → Q (.ref r) H')
section
variable {P : Program} {w : World} {K : PySem.W.Frag} {mg : Str → Option Value} {base : Heap} {t : Adr}
theorem sc_grown_tree : FnScope ["web", "inside", "order", "marks", "grown", "tie", "ends"] ["web", "inside", "order"] (defScope s_grown_tree) := ⟨rfl, rfl, rfl, by decide +kernel, rfl, by decide +kernel, by decide +kernel⟩
theorem ok_grown_tree (T : Txt K mg t) : FnOk P w K mg base CX0 3 t.a_grown_tree t.d_grown_tree ["web", "inside", "order"] (sp_grown_tree K t.A_Web) := by
  refine T.f_grown_tree.ok sc_grown_tree (fun vs H Q E h => ?_) (fun cdv A outer s H vs Q E hr h => ?_)
  · obtain ⟨w, a, b, n, ps, ka, kb, ns, os, rfl, _⟩ := h
    rfl
  · obtain ⟨w, a, b, n, ps, ka, kb, ns, os, rfl, hW, hG, hS, hS2, hnl, hol, hI, q0, q1⟩ := h
    refine ⟨_, (pss_cons (ps_set (i := 3) sc_grown_tree.nd rfl (Or.inl rfl) (pe_call (ok_piece_marks T) (hr.mono (by decide)) rfl T.m_piece_marks T.f_piece_marks.kp T.b_piece_marks .nil pass0 (pa_cons (pv 0) (pa_cons (pe_tup pa_nil) pa_nil))))
      (pss_cons (ps_set (i := 4) sc_grown_tree.nd rfl (Or.inl rfl) (pe_lst pa_nil))
      (pss_cons (ps_for PassesOwn.never rfl (pi_listK K (pe_op op_cat (pe_callTy (call_listK K) (by rfl) T.n_list Boot.«list» (pa_cons (pv 1) pa_nil)) (pe_callTy (call_listK K) (by rfl) T.n_list Boot.«list» (pa_cons (pv 2) pa_nil)))) (pg_name (i := 5) sc_grown_tree.nd rfl (Or.inl rfl))
      (pss_cons (ps_set (i := 6) sc_grown_tree.nd rfl (Or.inl rfl) (pe_ix (ix_listK K) (pe_fldK K (pv 0) rfl) (pv 5) (fun _ _ => rfl)))
      (pss_one (ps_if (pt_cmpR op_ne (pe_ix (ix_listK K) (pv 3) (pe_ix (ix_tupK K) (pv 6) pe_int (fun _ _ => rfl)) (fun _ _ => rfl)) (pe_ix (ix_listK K) (pv 3) (pe_ix (ix_tupK K) (pv 6) pe_int (fun _ _ => rfl)) (fun _ _ => rfl)) (nomark _))
      (pss_cons (ps_set (i := 3) sc_grown_tree.nd rfl (Or.inl rfl) (pe_call (ok_merged_marks T) (hr.mono (by decide)) rfl T.m_merged_marks T.f_merged_marks.kp T.b_merged_marks .nil pass0 (pa_cons (pv 0) (pa_cons (pv 3) (pa_cons (pe_tup (pa_cons (pv 5) pa_nil)) pa_nil)))))
      (pss_one (ps_expr (pe_bmK K PySem.F.plainAttrs_list PySem.F.slot_list_append PySem.F.type_list_append mt_append (pv 4) (pa_cons (pv 5) pa_nil)))))
      pss_nil))))
      (pss_cons (ps_if (PW.pt (pw_or (pt_cmpR (op_neDK K (hu8 hr)) (pe_slice (sl_listK K) (pv 4) po_none (po_some (pe_callB (call_lenK K) (by rfl) T.n_len Boot.«len» (pa_cons (pv 1) pa_nil)))) (pe_callTy (call_listK K) (by rfl) T.n_list Boot.«list» (pa_cons (pv 1) pa_nil)) (nomark _)) (pw_or1 (pt_cmpR op_lt (pe_callB (call_lenK K) (by rfl) T.n_len Boot.«len» (pa_cons (pv 4) pa_nil)) (pe_op op_sub (pe_fldK K (pv 0) rfl) pe_int) (nomark _)))))
      (pss_one (ps_ret pe_non))
      pss_nil)
      (pss_one (ps_ret (pe_callTy (call_tupleK K) (by rfl) T.n_tuple Boot.«tuple» (pa_cons (pe_callB (call_sortedK K) (by rfl) T.n_sorted Boot.«sorted» (pa_cons (pv 4) pa_nil)) pa_nil)))))))), ?_⟩
    obtain ⟨g1, g2, g3, g4⟩ := id hG
    have one : 1 ≤ sizeLine := by decide
    -- marks = piece_marks(web, ())
    refine ⟨_, rfl, Nat.zero_le _, fun r0 hr0 => ?_⟩
    have s0 := same_at (o := .tup []) hr0
    refine ⟨w, r0, n, ps, [], rfl, hW.same s0, hG, SqT.of upd_same, fun _ e => (nomatch e), fun m H1 s1 hm0 hm1 => ?_⟩
    have s01 := s0.trans s1
    have hmf := s0.free hm0
    -- grown = []
    refine ⟨Nat.zero_le _, fun gl hgl => ?_⟩
    have s2 := same_at (o := .lst []) hgl
    have s02 := s01.trans s2
    have hgf := s01.free hgl
    -- list(inside) + list(order)
    refine ⟨_, rfl, a, _, rfl, (hS.same s02).or, fun l1 hl1 => ?_⟩
    have s3 := same_at (o := .lst (IL ns)) hl1
    have s03 := s02.trans s3
    refine ⟨_, rfl, b, _, rfl, (hS2.same s03).or, fun l2 hl2 => ?_⟩
    have s4 := same_at (o := .lst (IL os)) hl2
    have s04 := s03.trans s4
    refine ⟨l1, l2, _, _, rfl, rfl, s4 _ _ upd_same, upd_same, small60 (by rw [il_length, il_length]; omega), fun cl hcl => ?_⟩
    have s5 := same_at (o := .lst (IL ns ++ IL os)) hcl
    have s05 := s04.trans s5
    have eI : IL ns ++ IL os = IL (ns ++ os) := (il_append _ _).symm
    have hgl5 := s5 _ _ (s4 _ _ (s3 _ _ (upd_same (H := H1) (a := gl) (o := .lst []))))
    have hm5 := s5 _ _ (s4 _ _ (s3 _ _ (s2 _ _ hm1)))
    have hcl5 := upd_same (H := upd (upd (upd H1 gl (.lst [])) l1 (.lst (IL ns))) l2 (.lst (IL os))) (a := cl) (o := .lst (IL ns ++ IL os))
    have ncg : cl ≠ gl := fun e => by rw [e] at hcl; exact absurd ((s4 _ _ (s3 _ _ (upd_same (H := H1) (a := gl) (o := .lst [])))).symm.trans hcl) (by simp)
    have nmg : m ≠ gl := fun e => by rw [e] at hm1; exact absurd (hm1.symm.trans hgl) (by simp)
    rw [eI] at s5 s05 hgl5 hm5 hcl5 ⊢
    generalize upd (upd (upd (upd H1 gl (.lst [])) l1 (.lst (IL ns))) l2 (.lst (IL os))) cl (.lst (IL (ns ++ os))) = H5 at *
    refine ⟨cl, rfl, ⟨_, SqL.of hcl5⟩, for_list (K := K) (a := cl) (xs := IL (ns ++ os)) (fun i σ H2 => ∃ (mc : Addr) (v5 v6 : Option V), σ = [some (.ref w), some (.ref a), some (.ref b), some (.ref mc), some (.ref gl), v5, v6] ∧ Same H H2 ∧ mc ≠ gl ∧
        H2 cl = some (.lst (IL (ns ++ os))) ∧ H2 mc = some (.lst (IL (pms n.toNat (endsOf ps (grw n.toNat ps ((ns ++ os).take i)))))) ∧ H2 gl = some (.lst (IL (grw n.toNat ps ((ns ++ os).take i)))))
      ⟨m, none, none, rfl, s05, nmg, hcl5, hm5, hgl5⟩ (fun i σ H2 _ ⟨_, _, _, _, _, _, e, _⟩ => SqL.of e) ?_ ?_⟩
    · rintro i x σ H2 hi ⟨mc, v5, v6, rfl, s2, hne, hc2, hm2, hg2⟩
      obtain ⟨z, rfl, hz⟩ := il_get hi
      obtain ⟨z0, z1⟩ := hI z (List.mem_of_getElem? hz)
      have hIt : ∀ y ∈ (ns ++ os).take i, 0 ≤ y ∧ y < (ps.length : Int) := fun y hy => hI y (List.mem_of_mem_take hy)
      have est : (ns ++ os).take (i + 1) = (ns ++ os).take i ++ [z] := by rw [List.take_succ, hz]; rfl
      have eG : grw n.toNat ps ((ns ++ os).take (i + 1)) = gst n.toNat ps (grw n.toNat ps ((ns ++ os).take i)) z := by rw [est, grw_snoc]
      have hin := grw_in hG hIt
      have hgl14 := grw_len hG hIt
      generalize grw n.toNat ps ((ns ++ os).take i) = G at *
      obtain ⟨dx, tl, xs, h1, h2, h3⟩ := hW.same s2
      obtain ⟨p, hp⟩ : ∃ p, ps[z.toNat]? = some p := ⟨_, List.getElem?_eq_getElem (by omega)⟩
      obtain ⟨v, hv, tt, rfl, htt⟩ := h3.2 z.toNat p hp
      obtain ⟨e1, e2, e3, e4⟩ := g4 p (List.mem_of_getElem? hp)
      have ed : endOf ps z = (p.1.toNat, p.2.toNat) := by unfold endOf; rw [getD_of hp]
      have hl : (pms n.toNat (endsOf ps G)).length = n.toNat := pms_length _ _
      have iA : atI (IL (pms n.toNat (endsOf ps G))) p.1 = some (.int (mk (pms n.toNat (endsOf ps G)) p.1.toNat)) := atI_of (n := p.1.toNat) (by omega) (il_at (mk_some (by omega)))
      have iB : atI (IL (pms n.toNat (endsOf ps G))) p.2 = some (.int (mk (pms n.toNat (endsOf ps G)) p.2.toNat)) := atI_of (n := p.2.toNat) (by omega) (il_at (mk_some (by omega)))
      have t0 : atI ([.int p.1, .int p.2] : List V) 0 = some (.int p.1) := rfl
      have t1 : atI ([.int p.1, .int p.2] : List V) 1 = some (.int p.2) := rfl
      have key : mk (pms n.toNat (endsOf ps G)) p.1.toNat = mk (pms n.toNat (endsOf ps G)) p.2.toNat ↔ mk (lms n.toNat (endsOf ps G)) (endOf ps z).1 = mk (lms n.toNat (endsOf ps G)) (endOf ps z).2 := by
        rw [ed, pms_iff hin (by omega) (by omega), lms_iff hin (by omega) (by omega)]
      -- ends = web.ties[tie]
      refine ⟨_, rfl, w, _, dx, _, _, rfl, h1, T.cl_Web, T.n_Web_ties, wf_ties _ _, _, rfl, tl, xs, z, .ref tt, rfl, rfl, SqL.of h2, atI_of (n := z.toNat) (by omega) hv, ?_⟩
      refine ⟨_, rfl, _, rfl, tt, _, 0, _, rfl, rfl, SqT.of htt, t0, mc, _, p.1, _, rfl, rfl, SqL.of hm2, iA, _, rfl, _, rfl, tt, _, 1, _, rfl, rfl, SqT.of htt, t1, mc, _, p.2, _, rfl, rfl, SqL.of hm2, iB, rfl, _, rfl, ?_⟩
      rw [dec_int]
      refine itn2 (fun he => ?_) (fun he => ?_)
      · refine ⟨mc, _, _, rfl, s2, hne, hc2, ?_, ?_⟩
        · rw [eG]; unfold gst; rw [if_pos (key.mp he)]; exact hm2
        · rw [eG]; unfold gst; rw [if_pos (key.mp he)]; exact hg2
      · have eG2 : grw n.toNat ps ((ns ++ os).take (i + 1)) = G ++ [z] := by rw [eG]; unfold gst; rw [if_neg (fun e => he (key.mpr e))]
        refine ⟨_, rfl, _, rfl, _, rfl, one, fun p2 hp2 => ?_⟩
        have s6 := same_at (o := .tup [.int z]) hp2
        refine ⟨w, mc, p2, n, ps, _, true, [z], rfl, (hW.same s2).same s6, hG, s6 _ _ hm2, hl, SqT.of upd_same, fun y hy => by rw [List.mem_singleton.mp hy]; exact ⟨z0, z1⟩, fun m' H7 s7 hf hm7 => ?_⟩
        have s67 := s6.trans s7
        have hg7 := s67 _ _ hg2
        have hc7 := s67 _ _ hc2
        have nm' : m' ≠ gl := by
          rcases hf with rfl | hf
          · exact hne
          · exact fun e => absurd ((s6 _ _ hg2).symm.trans (e ▸ hf)) (by simp)
        refine ⟨_, rfl, .inl ⟨rfl, _, SqL.of hg7⟩, _, rfl, gl, _, _, rfl, rfl, hg7, small60' (by rw [il_length]; omega), ?_⟩
        refine ⟨m', _, _, rfl, same_upd hgf (s2.trans s67), nm', ?_, ?_, ?_⟩
        · rw [upd_ne ncg]; exact hc7
        · rw [upd_ne nm', hm7, eG2, ends_snoc, pms_snoc]
          rfl
        · rw [upd_same, eG2, il_snoc]
    · rintro σ H2 ⟨mc, v5, v6, rfl, s2, hne, hc2, hm2, hg2⟩
      rw [il_length, List.take_length] at hg2
      have hgl14 := grw_len hG hI
      generalize grw n.toNat ps (ns ++ os) = G at *
      -- grown[:len(inside)] != list(inside)
      refine ⟨_, rfl, _, rfl, a, _, rfl, (hS.same s2).or, _, rfl, gl, _, rfl, SqL.of hg2, fun r1 hr1 => ?_⟩
      have ec : cutV (IL G) none (some ((IL ns).length : Int)) = IL (G.take ns.length) := by rw [cut_upto (by omega), Int.toNat_natCast, il_length, il_take]
      rw [ec]
      have s3 := same_at (o := .lst (IL (G.take ns.length))) hr1
      refine ⟨_, rfl, a, _, rfl, (hS.same (s2.trans s3)).or, fun r2 hr2 => ?_⟩
      have s4 := same_at (o := .lst (IL ns)) hr2
      refine ⟨1, _, r1, r2, rfl, rfl, by decide, eqd_ints (SqL.of (s4 _ _ upd_same)) (SqL.of upd_same), _, rfl, ?_⟩
      have s24 := s2.trans (s3.trans s4)
      refine itn2 (fun he => ?_) (fun he => ?_)
      · obtain ⟨dx, tl, xs, h1, h2, h3⟩ := hW.same s24
        have hg4 := s4 _ _ (s3 _ _ hg2)
        refine ⟨_, rfl, gl, _, rfl, .inl (SqL.of hg4), _, rfl, w, _, dx, _, _, rfl, h1, T.cl_Web, T.n_Web_places, wf_places _ _, _, _, rfl, rfl, _, _, rfl, rfl, _, rfl, ?_⟩
        rw [il_length]
        refine itd2 (fun hc => ?_) (fun hc => ?_)
        · exact q0 (.inr hc) _ s24
        · refine ⟨_, rfl, gl, G, rfl, SqL.of hg4, by omega, fun ms hp1 hp2 l hl => ?_⟩
          have s5 := same_at (o := .lst (IL ms)) hl
          refine ⟨l, _, rfl, .inl ⟨SqL.of upd_same, fun r hr => ?_⟩⟩
          exact q1 he hc r ms _ hp1 hp2 ((s24.trans s5).trans (same_at hr)) ((s24.trans s5).free hr) upd_same
      · refine iteT ?_
        exact q0 (.inl he) _ s24
end
end My
namespace My
open PySem L2 PyProof.Rows
set_option maxHeartbeats 4000000
def sp_ties_without (K : PySem.W.Frag) : Sp := fun vs H Q _ => ∃ (a : Addr) (kd : Bool) (ns : List Int) (z : Int), vs = [.ref a, .int z] ∧ SqK kd K H a (IL ns) ∧ ns.length ≤ 1000 ∧
  ∀ (r : Addr) (H' : Hp), Same H H' → H r = none → H' r = some (.tup (IL (wo ns z))) → Q (.ref r) H'
section
variable {P : Program} {w : World} {K : PySem.W.Frag} {mg : Str → Option Value} {base : Heap} {t : Adr}
theorem sc_ties_without : FnScope ["ties", "left_out"] ["ties", "left_out"] (defScope s_ties_without) := ⟨rfl, rfl, rfl, by decide +kernel, rfl, by decide +kernel, by decide +kernel⟩
theorem ok_ties_without (T : Txt K mg t) : FnOk P w K mg base CX0 1 t.a_ties_without t.d_ties_without ["ties", "left_out"] (sp_ties_without K) := by
  refine T.f_ties_without.ok sc_ties_without (fun vs H Q E h => ?_) (fun cdv A outer s H vs Q E hr h => ?_)
  · obtain ⟨a, kd, ns, z, rfl, _⟩ := h
    rfl
  · obtain ⟨a, kd, ns, z, rfl, hS, hn, q⟩ := h
    refine ⟨_, (pss_one (ps_ret (pe_callTy (call_tupleK K) (by rfl) T.n_tuple Boot.«tuple» (pa_cons (pe_lc rfl (sc0 := defScope s_ties_without) (N0 := ["ties", "left_out"]) (N' := ["tie", "left_out"]) (o := 1) (fr := [1]) ⟨rfl, by decide +kernel, by decide +kernel, by decide +kernel, rfl, by decide +kernel⟩ (pi_seqK K (pv 0)) (own_name (by decide)) (fun _ _ _ _ => (pg_name (i := 0) (show List.Nodup (["tie", "left_out"] : List Str) by decide +kernel) rfl (Or.inl rfl))) (fun _ _ _ _ => (pts_one (pt_cmpR op_ne (pv 0) (pv 1) (nomark _)))) (fun _ _ _ _ => (pv 0))) pa_nil)))), ?_⟩
    refine ⟨_, rfl, a, rfl, lc_seq (k := kd) (K := K) (xs := IL ns) (fun i ys H2 => H2 = H ∧ i ≤ ns.length ∧ ys = IL (wo (ns.take i) z)) ⟨rfl, Nat.zero_le _, rfl⟩ (small60' (by rw [il_length]; omega))
      (fun i ys H2 hi ⟨e, hi2, ey⟩ => ⟨e ▸ hS, by rw [ey, il_length]; exact Nat.le_trans (wo_len _ _) (by rw [List.length_take]; omega)⟩) ?_ ?_⟩
    · rintro i x ys H2 hi ⟨rfl, hil, rfl⟩ S hSS
      obtain ⟨y, rfl, hy⟩ := il_get hi
      have hil' : i < ns.length := (List.getElem?_eq_some_iff.mp hy).1
      refine nm ?_
      refine ⟨_, rfl, _, rfl, rfl, _, rfl, ?_⟩
      rw [dec_int]
      refine itn2 (fun he => ?_) (fun he => ?_)
      · refine hSS _ _ ⟨rfl, hil', ?_⟩
        rw [wo_take_succ hy, if_neg (by simpa using he), List.append_nil]
      · refine ⟨_, rfl, hSS _ _ ⟨rfl, hil', ?_⟩⟩
        rw [wo_take_succ hy, if_pos he, il_snoc]
    · rintro ys H2 ⟨rfl, _, rfl⟩ p hp
      rw [il_length, List.take_length]
      refine ⟨p, _, rfl, .inl ⟨SqL.of upd_same, fun r hr => ?_⟩⟩
      exact q r _ (same_new (same_at hp) hr) ((same_at hp).free hr) upd_same
end
end My
namespace My
open PySem L2 PyProof.Rows
set_option maxHeartbeats 4000000
/-- the ties whose ends are in two pieces over the tree without the tie -/
def sp_tree_cut (K : PySem.W.Frag) (C : Addr) : Sp := fun vs H Q _ => ∃ (w a : Addr) (n : Int) (ps : List (Int × Int)) (kd : Bool) (ns : List Int) (z : Int), vs = [.ref w, .ref a, .int z] ∧ WebAt C H w n ps ∧ GoodW n ps ∧ SqK kd K H a (IL ns) ∧ IsSet ps.length ns ∧
  ∀ (r : Addr) (H' : Hp), Same H H' → H r = none → H' r = some (.tup (IL (unlike (lms n.toNat (endsOf ps (wo ns z))) ps ps.length))) → Q (.ref r) H'
section
variable {P : Program} {w : World} {K : PySem.W.Frag} {mg : Str → Option Value} {base : Heap} {t : Adr}
theorem sc_tree_cut : FnScope ["web", "tree", "tie", "marks"] ["web", "tree", "tie"] (defScope s_tree_cut) := ⟨rfl, rfl, rfl, by decide +kernel, rfl, by decide +kernel, by decide +kernel⟩
theorem ok_tree_cut (T : Txt K mg t) : FnOk P w K mg base CX0 3 t.a_tree_cut t.d_tree_cut ["web", "tree", "tie"] (sp_tree_cut K t.A_Web) := by
  refine T.f_tree_cut.ok sc_tree_cut (fun vs H Q E h => ?_) (fun cdv A outer s H vs Q E hr h => ?_)
  · obtain ⟨w, a, n, ps, kd, ns, z, rfl, _⟩ := h
    rfl
  · obtain ⟨w, a, n, ps, kd, ns, z, rfl, hW, hG, hS, hI, q⟩ := h
    refine ⟨_, (pss_cons (ps_set (i := 3) sc_tree_cut.nd rfl (Or.inr rfl) (pe_call (ok_piece_marks T) (hr.mono (by decide)) rfl T.m_piece_marks T.f_piece_marks.kp T.b_piece_marks .nil pass0 (pa_cons (pv 0) (pa_cons (pe_call (ok_ties_without T) (hr.mono (by decide)) rfl T.m_ties_without T.f_ties_without.kp T.b_ties_without .nil pass0 (pa_cons (pv 1) (pa_cons (pv 2) pa_nil))) pa_nil))))
      (pss_one (ps_ret (pe_callTy (call_tupleK K) (by rfl) T.n_tuple Boot.«tuple» (pa_cons (pe_lc rfl (sc0 := defScope s_tree_cut) (N0 := ["web", "tree", "tie", "marks"]) (N' := ["number", "ends", "marks"]) (o := 2) (fr := [3]) ⟨rfl, by decide +kernel, by decide +kernel, by decide +kernel, rfl, by decide +kernel⟩ (pi_enumK K rfl T.n_enumerate (pa_cons (pe_fldK K (pv 0) rfl) pa_nil)) (own_tup (own_cons (by decide) (own_cons (by decide) own_nil))) (fun _ _ _ _ => (pg_tupK (n := 2) K rfl (pgs_cons (pg_name (i := 0) (show List.Nodup (["number", "ends", "marks"] : List Str) by decide +kernel) rfl (Or.inl rfl)) (pgs_cons (pg_name (i := 1) (show List.Nodup (["number", "ends", "marks"] : List Str) by decide +kernel) rfl (Or.inl rfl)) pgs_nil)))) (fun _ _ _ _ => (pts_one (pt_cmpR op_ne (pe_ix (ix_listK K) (pv 2) (pe_ix (ix_tupK K) (pv 1) pe_int (fun _ _ => rfl)) (fun _ _ => rfl)) (pe_ix (ix_listK K) (pv 2) (pe_ix (ix_tupK K) (pv 1) pe_int (fun _ _ => rfl)) (fun _ _ => rfl)) (nomark _)))) (fun _ _ _ _ => (pv 0))) pa_nil))))), ?_⟩
    obtain ⟨g1, g2, g3, g4⟩ := id hG
    have hln := hI.len
    have hb : ∀ y ∈ wo ns z, 0 ≤ y ∧ y < (ps.length : Int) := fun y hy => hI.all y (wo_mem.mp hy).1
    refine ⟨_, rfl, _, rfl, _, rfl, a, kd, ns, z, rfl, hS, by omega, fun r1 H1 s1 hr0 hr1 => ?_⟩
    refine ⟨w, r1, n, ps, wo ns z, rfl, hW.same s1, hG, SqT.of hr1, hb, fun m H2 s2 hm0 hm2 => ?_⟩
    have hin := ends_in hG hb
    have e0 := unlike_same (M := pms n.toNat (endsOf ps (wo ns z))) hG (pms_length _ _) (same_pms hin)
    have hl : (pms n.toNat (endsOf ps (wo ns z))).length = n.toNat := pms_length _ _
    rw [← e0] at q
    generalize pms n.toNat (endsOf ps (wo ns z)) = M at *
    have s12 := s1.trans s2
    obtain ⟨dx, tl, xs, h1, h2, h3⟩ := hW.same s12
    have hlx := h3.1
    refine ⟨_, rfl, w, _, dx, _, _, rfl, h1, T.cl_Web, T.n_Web_ties, wf_ties _ _, tl, rfl, ⟨_, SqL.of h2⟩, lc_enum (K := K) (a := tl) (xs := xs) (fun i ys H3 => Same H2 H3 ∧ i ≤ xs.length ∧ ys = IL (unlike M ps i)) ⟨Same.refl _, Nat.zero_le _, rfl⟩ (small60' (by omega))
      (fun i ys H3 _ ⟨e, _, ey⟩ => ⟨SqL.of (e _ _ h2), by rw [ey, il_length]; exact unlike_len _ _ _⟩) ?_ ?_⟩
    · rintro i x ys H3 pt hpt hi ⟨s3, hil, rfl⟩ S hSS
      obtain ⟨p, hpi, tt, rfl, htt⟩ := h3.at hi
      obtain ⟨e1, e2, e3, e4⟩ := g4 p (List.mem_of_getElem? hpi)
      have hil' : i < xs.length := (List.getElem?_eq_some_iff.mp hi).1
      have s4 : Same H3 (upd H3 pt (.tup [.int i, .ref tt])) := same_at hpt
      have s34 := s3.trans s4
      have htt4 := s34 _ _ htt
      have hm4 := s34 _ _ hm2
      have ed : ps.getD i (0, 0) = p := getD_of hpi
      have t0 : atI ([.int p.1, .int p.2] : List V) 0 = some (.int p.1) := rfl
      have t1 : atI ([.int p.1, .int p.2] : List V) 1 = some (.int p.2) := rfl
      have iA : atI (IL M) p.1 = some (.int (mk M p.1.toNat)) := atI_of (n := p.1.toNat) (by omega) (il_at (mk_some (by omega)))
      have iB : atI (IL M) p.2 = some (.int (mk M p.2.toNat)) := atI_of (n := p.2.toNat) (by omega) (il_at (mk_some (by omega)))
      refine ⟨pt, _, rfl, SqT.of upd_same, rfl, _, _, rfl, _, _, rfl, rfl, ?_⟩
      refine ⟨_, rfl, _, rfl, tt, _, 0, _, rfl, rfl, SqT.of htt4, t0, m, _, p.1, _, rfl, rfl, SqL.of hm4, iA, _, rfl, _, rfl, tt, _, 1, _, rfl, rfl, SqT.of htt4, t1, m, _, p.2, _, rfl, rfl, SqL.of hm4, iB, rfl, _, rfl, ?_⟩
      rw [dec_int]
      refine itn2 (fun he => ?_) (fun he => ?_)
      · refine hSS _ _ ⟨s34, hil', ?_⟩
        rw [unlike_succ, ed, if_neg (by simpa using he), List.append_nil]
      · refine ⟨_, rfl, hSS _ _ ⟨s34, hil', ?_⟩⟩
        rw [unlike_succ, ed, if_pos he, il_snoc]
    · rintro ys H3 ⟨s3, _, rfl⟩ p hp
      rw [hlx]
      refine ⟨p, _, rfl, .inl ⟨SqL.of upd_same, fun r hr => ?_⟩⟩
      exact q r _ (s12.trans (s3.trans (same_new (same_at hp) hr))) ((s12.trans (s3.trans (same_at hp))).free hr) upd_same
end
end My
namespace My
open PySem L2 PyProof.Rows
set_option maxHeartbeats 4000000
def sp_ring_of (K : PySem.W.Frag) (C B N : Addr) : Sp := fun vs H Q E => ∃ (w a : Addr) (n : Int) (ps : List (Int × Int)) (kd : Bool) (ns : List Int) (z : Int), vs = [.ref w, .ref a, .int z] ∧ WebAt C H w n ps ∧ GoodW n ps ∧ SqK kd K H a (IL ns) ∧ -(10 ^ 70) < z ∧ z < 10 ^ 70 ∧
  (IsTree n ps ns → z ∉ ns → 0 ≤ z → z < (ps.length : Int) → ∀ (ms : List Int), ms.Perm (ringA n ps ns z ns ++ [z]) → ms.Pairwise (· ≤ ·) → ∀ (r : Addr) (H' : Hp), Same H H' → H r = none → H' r = some (.tup (IL ms)) → Q (.ref r) H') ∧
  (IsTree n ps ns → (z ∈ ns ∨ ¬ (0 ≤ z ∧ z < (ps.length : Int))) → ∀ H' : Hp, Same H H' → E (.ref N) none H') ∧ (¬ IsTree n ps ns → ∀ H' : Hp, Same H H' → E (.ref B) none H')
section
variable {P : Program} {w : World} {K : PySem.W.Frag} {mg : Str → Option Value} {base : Heap} {t : Adr}
theorem sc_ring_of : FnScope ["web", "tree", "tie"] ["web", "tree", "tie"] (defScope s_ring_of) := ⟨rfl, rfl, rfl, by decide +kernel, rfl, by decide +kernel, by decide +kernel⟩
theorem ok_ring_of (T : Txt K mg t) : FnOk P w K mg base (CXW P w) 8 t.a_ring_of t.d_ring_of ["web", "tree", "tie"] (sp_ring_of K t.A_Web t.A_NoTree t.A_NoTie) := by
  refine T.f_ring_of.okX sc_ring_of (fun vs H Q E h => ?_) (fun cdv A outer s H vs Q E hr h => ?_)
  · obtain ⟨w, a, n, ps, kd, ns, z, rfl, _⟩ := h
    rfl
  · obtain ⟨w, a, n, ps, kd, ns, z, rfl, hW, hG, hS, z0, z1, q, q1, q2⟩ := h
    refine ⟨_, (pss_cons (ps_expr (pe_call (ok_refuse_no_tree T) (hr.mono (by decide)) rfl T.m_refuse_no_tree T.f_refuse_no_tree.kp T.b_refuse_no_tree .nil pxs (pa_cons (pv 0) (pa_cons (pv 1) pa_nil))))
      (pss_cons (ps_if (PW.pt (pw_or (pt_cmpR (op_inK K) (pv 2) (pv 1) rfl) (pw_or1 (pt_not (pt_val (pe_call (ok_is_tie T) (hr.mono (by decide)) rfl T.m_is_tie T.f_is_tie.kp T.b_is_tie .nil pass0 (pa_cons (pv 0) (pa_cons (pv 2) pa_nil))))))))
      (pss_one (ps_raise T.x_NoTie T.c_NoTie (pa_cons (pe_fstr (pj_int (pv 2) (pj_str pj_nil))) pa_nil)))
      pss_nil)
      (pss_one (ps_ret (pe_callTy (call_tupleK K) (by rfl) T.n_tuple Boot.«tuple» (pa_cons (pe_callB (call_sortedK K) (by rfl) T.n_sorted Boot.«sorted» (pa_cons (pe_op op_cat (pe_lc rfl (sc0 := defScope s_ring_of) (N0 := ["web", "tree", "tie"]) (N' := ["out", "tie", "web", "tree"]) (o := 1) (fr := [2, 0, 1]) ⟨rfl, by decide +kernel, by decide +kernel, by decide +kernel, rfl, by decide +kernel⟩ (pi_seqK K (pv 1)) (own_name (by decide)) (fun _ _ _ _ => (pg_name (i := 0) (show List.Nodup (["out", "tie", "web", "tree"] : List Str) by decide +kernel) rfl (Or.inl rfl))) (fun _ _ _ _ => (pts_one (pt_cmpR (op_inK K) (pv 1) (pe_call (ok_tree_cut T) (hr.mono (by decide)) rfl T.m_tree_cut T.f_tree_cut.kp T.b_tree_cut .nil pass0 (pa_cons (pv 2) (pa_cons (pv 3) (pa_cons (pv 0) pa_nil)))) rfl))) (fun _ _ _ _ => (pv 0))) (pe_lst (pa_cons (pv 2) pa_nil))) pa_nil)) pa_nil)))))), ?_⟩
    refine ⟨_, rfl, _, rfl, w, a, n, ps, kd, ns, rfl, hW, hG, hS, fun hT H1 s1 => ?_, q2⟩
    have one : 1 ≤ sizeLine := by decide
    have tl : ns.length ≤ 20 := by have := hT.2.1; have := hG.2.1; omega
    refine ⟨_, rfl, _, rfl, a, _, rfl, (hS.same s1).or, rfl, flat_ints _, _, rfl, ?_⟩
    rw [inV_ints]
    refine itd2 (fun hc => ?_) (fun hc => ?_)
    · exact iteT ⟨_, rfl, z, rfl, z0, z1, fun x => ⟨one, q1 hT (.inl hc) H1 s1⟩⟩
    · refine ⟨_, rfl, _, rfl, w, n, ps, z, rfl, hW.same s1, _, rfl, ?_⟩
      refine itn2 (fun ht => ?_) (fun ht => ?_)
      · refine ⟨_, rfl, a, rfl, lc_seq (k := kd) (K := K) (xs := IL ns) (fun i ys H2 => Same H1 H2 ∧ i ≤ ns.length ∧ ys = IL (ringA n ps ns z (ns.take i))) ⟨Same.refl _, Nat.zero_le _, rfl⟩ (small60' (by rw [il_length]; omega))
          (fun i ys H2 hi ⟨e, hi2, ey⟩ => ⟨(hS.same s1).same e, by rw [ey, il_length]; exact Nat.le_trans (ringA_len ..) (by rw [List.length_take]; omega)⟩) ?_ ?_⟩
        · rintro i x ys H2 hi ⟨s2, hil, rfl⟩ S hSS
          obtain ⟨y, rfl, hy⟩ := il_get hi
          have hil' : i < ns.length := (List.getElem?_eq_some_iff.mp hy).1
          have s12 := s1.trans s2
          refine nm ?_
          refine ⟨_, rfl, _, rfl, _, rfl, _, rfl, w, a, n, ps, kd, ns, y, rfl, hW.same s12, hG, hS.same s12, hT.1, fun r H3 s3 hr0 hr3 => ?_⟩
          refine ⟨r, _, rfl, .inr (SqT.of hr3), rfl, flat_ints _, _, rfl, ?_⟩
          rw [inV_ints]
          refine itd2 (fun he => ?_) (fun he => ?_)
          · refine ⟨_, rfl, hSS _ _ ⟨s2.trans s3, hil', ?_⟩⟩
            rw [ringA_succ hy, if_pos he, il_snoc]
          · refine hSS _ _ ⟨s2.trans s3, hil', ?_⟩
            rw [ringA_succ hy, if_neg he, List.append_nil]
        · rintro ys H2 ⟨s2, _, rfl⟩ p hp
          rw [il_length, List.take_length]
          have rl := ringA_len n ps ns z ns
          refine ⟨_, rfl, one, fun p2 hp2 => ?_⟩
          refine cat_ok (l2 := [z]) (by rw [upd_ne (ne_of_none upd_same hp2)]; exact upd_same) upd_same (by simp only [List.length_cons, List.length_nil]; omega) fun p3 hp3 => ?_
          refine ⟨p3, _, rfl, SqL.of upd_same, by simp only [List.length_append, List.length_cons, List.length_nil]; omega, fun ms hpm hpw p4 hp4 => ?_⟩
          refine ⟨p4, IL ms, rfl, .inl ⟨SqL.of upd_same, fun r hr => ?_⟩⟩
          have s6 := (s1.trans s2).trans (same_new (same_new (same_at (o := .lst (IL (ringA n ps ns z ns))) hp) (o := .lst (IL [z])) hp2) (o := .lst (IL (ringA n ps ns z ns ++ [z]))) hp3)
          exact q hT hc ht.1 ht.2 ms hpm hpw r _ (s6.trans (same_new (same_at hp4) hr)) ((s6.trans (same_at hp4)).free hr) upd_same
      · exact ⟨_, rfl, z, rfl, z0, z1, fun x => ⟨one, q1 hT (.inr ht) H1 s1⟩⟩
end
end My
namespace My
open PySem L2 PyProof.Rows
set_option maxHeartbeats 4000000
def sp_exchanged (K : PySem.W.Frag) (C B N : Addr) : Sp := fun vs H Q E => ∃ (w a : Addr) (n : Int) (ps : List (Int × Int)) (kd : Bool) (ns : List Int) (o z : Int), vs = [.ref w, .ref a, .int o, .int z] ∧ WebAt C H w n ps ∧ GoodW n ps ∧ SqK kd K H a (IL ns) ∧ -(10 ^ 70) < o ∧ o < 10 ^ 70 ∧ -(10 ^ 70) < z ∧ z < 10 ^ 70 ∧
  (IsTree n ps ns → exg n ps ns o z → ∀ (ms : List Int), ms.Perm (wo ns o ++ [z]) → ms.Pairwise (· ≤ ·) → ∀ (r : Addr) (H' : Hp), Same H H' → H r = none → H' r = some (.tup (IL ms)) → Q (.ref r) H') ∧
  (IsTree n ps ns → ¬ exg n ps ns o z → ∀ H' : Hp, Same H H' → E (.ref N) none H') ∧ (¬ IsTree n ps ns → ∀ H' : Hp, Same H H' → E (.ref B) none H')
section
variable {P : Program} {w : World} {K : PySem.W.Frag} {mg : Str → Option Value} {base : Heap} {t : Adr}
theorem sc_exchanged : FnScope ["web", "tree", "out", "into"] ["web", "tree", "out", "into"] (defScope s_exchanged) := ⟨rfl, rfl, rfl, by decide +kernel, rfl, by decide +kernel, by decide +kernel⟩
theorem ok_exchanged (T : Txt K mg t) : FnOk P w K mg base (CXW P w) 8 t.a_exchanged t.d_exchanged ["web", "tree", "out", "into"] (sp_exchanged K t.A_Web t.A_NoTree t.A_NoTie) := by
  refine T.f_exchanged.okX sc_exchanged (fun vs H Q E h => ?_) (fun cdv A outer s H vs Q E hr h => ?_)
  · obtain ⟨w, a, n, ps, kd, ns, o, z, rfl, _⟩ := h
    rfl
  · obtain ⟨w, a, n, ps, kd, ns, o, z, rfl, hW, hG, hS, o0, o1, z0, z1, q, q1, q2⟩ := h
    refine ⟨_, (pss_cons (ps_expr (pe_call (ok_refuse_no_tree T) (hr.mono (by decide)) rfl T.m_refuse_no_tree T.f_refuse_no_tree.kp T.b_refuse_no_tree .nil pxs (pa_cons (pv 0) (pa_cons (pv 1) pa_nil))))
      (pss_cons (ps_if (PW.pt (pw_or (pt_cmpR (op_notInK K) (pv 2) (pv 1) rfl) (pw_or (pt_cmpR op_eq (pv 3) (pv 2) (nomark _)) (pw_or1 (pt_cmpR (op_notInK K) (pv 3) (pe_call (ok_tree_cut T) (hr.mono (by decide)) rfl T.m_tree_cut T.f_tree_cut.kp T.b_tree_cut .nil pass0 (pa_cons (pv 0) (pa_cons (pv 1) (pa_cons (pv 2) pa_nil)))) rfl)))))
      (pss_one (ps_raise T.x_NoTie T.c_NoTie (pa_cons (pe_fstr (pj_int (pv 2) (pj_str (pj_int (pv 3) (pj_str pj_nil))))) pa_nil)))
      pss_nil)
      (pss_one (ps_ret (pe_callTy (call_tupleK K) (by rfl) T.n_tuple Boot.«tuple» (pa_cons (pe_callB (call_sortedT K) (by rfl) T.n_sorted Boot.«sorted» (pa_cons (pe_op (op_catU K) (pe_call (ok_ties_without T) (hr.mono (by decide)) rfl T.m_ties_without T.f_ties_without.kp T.b_ties_without .nil pass0 (pa_cons (pv 1) (pa_cons (pv 2) pa_nil))) (pe_tup (pa_cons (pv 3) pa_nil))) pa_nil)) pa_nil)))))), ?_⟩
    refine ⟨_, rfl, _, rfl, w, a, n, ps, kd, ns, rfl, hW, hG, hS, fun hT H1 s1 => ?_, q2⟩
    have one : 1 ≤ sizeLine := by decide
    have tl : ns.length ≤ 20 := by have := hT.2.1; have := hG.2.1; omega
    refine ⟨_, rfl, _, rfl, a, _, rfl, (hS.same s1).or, rfl, flat_ints _, _, rfl, ?_⟩
    rw [inV_ints]
    refine itn2 (fun ho => ?_) (fun ho => ?_)
    rotate_left
    · exact iteT ⟨_, rfl, o, rfl, o0, o1, _, rfl, z, rfl, z0, z1, fun x => ⟨one, q1 hT (fun h => ho h.1) H1 s1⟩⟩
    refine ⟨_, rfl, _, rfl, rfl, _, rfl, ?_⟩
    rw [dec_int]
    refine itd2 (fun he => ?_) (fun he => ?_)
    · exact iteT ⟨_, rfl, o, rfl, o0, o1, _, rfl, z, rfl, z0, z1, fun x => ⟨one, q1 hT (fun h => h.2.1 he) H1 s1⟩⟩
    refine ⟨_, rfl, _, rfl, _, rfl, _, rfl, w, a, n, ps, kd, ns, o, rfl, hW.same s1, hG, hS.same s1, hT.1, fun r H2 s2 hr0 hr2 => ?_⟩
    have s12 := s1.trans s2
    refine ⟨r, _, rfl, .inr (SqT.of hr2), rfl, flat_ints _, _, rfl, ?_⟩
    rw [inV_ints]
    refine itn2 (fun hc => ?_) (fun hc => ?_)
    · have hx : exg n ps ns o z := ⟨ho, he, hc⟩
      refine ⟨_, rfl, _, rfl, a, kd, ns, o, rfl, hS.same s12, by omega, fun r1 H3 s3 hr10 hr13 => ?_⟩
      have wl := wo_len ns o
      refine ⟨_, rfl, one, fun p2 hp2 => ?_⟩
      have s4 := same_at (o := .tup (IL [z])) hp2
      have s14 := (s12.trans s3).trans s4
      refine ⟨r1, p2, IL (wo ns o), IL [z], rfl, rfl, SqT.of (s4 _ _ hr13), SqT.of upd_same, small60 (by rw [il_length, il_length, List.length_cons, List.length_nil]; omega), fun e => ?_, fun _ e => (nomatch e), fun _ _ p3 hp3 => ?_⟩
      · have e0 : wo ns o = [] := by cases h : wo ns o with | nil => rfl | cons x l => rw [h] at e; cases e
        refine ⟨p2, [z], rfl, SqT.of upd_same, by simp, fun ms hpm hpw p4 hp4 => ?_⟩
        refine ⟨p4, IL ms, rfl, .inl ⟨SqL.of upd_same, fun r9 hr => ?_⟩⟩
        exact q hT hx ms (by rw [e0]; exact hpm) hpw r9 _ (s14.trans (same_new (same_at hp4) hr)) ((s14.trans (same_at hp4)).free hr) upd_same
      · have s15 := s14.trans (same_at (o := .tup (IL (wo ns o) ++ IL [z])) hp3)
        refine ⟨p3, wo ns o ++ [z], rfl, SqT.of (by rw [upd_same]; congr 2; exact (List.map_append ..).symm), by simp only [List.length_append, List.length_cons, List.length_nil]; omega, fun ms hpm hpw p4 hp4 => ?_⟩
        refine ⟨p4, IL ms, rfl, .inl ⟨SqL.of upd_same, fun r9 hr => ?_⟩⟩
        exact q hT hx ms hpm hpw r9 _ (s15.trans (same_new (same_at hp4) hr)) ((s15.trans (same_at hp4)).free hr) upd_same
    · exact ⟨_, rfl, o, rfl, o0, o1, _, rfl, z, rfl, z0, z1, fun x => ⟨one, q1 hT (fun h => hc h.2.2) H2 s12⟩⟩
end
end My
namespace My
open PySem L2 PyProof.Rows
set_option maxHeartbeats 4000000
def sp_differ (K : PySem.W.Frag) (C B : Addr) : Sp := fun vs H Q E => ∃ (w a b : Addr) (n : Int) (ps : List (Int × Int)) (kd ke : Bool) (T W : List Int), vs = [.ref w, .ref a, .ref b] ∧ WebAt C H w n ps ∧ GoodW n ps ∧ SqK kd K H a (IL T) ∧ SqK ke K H b (IL W) ∧
  (IsTree n ps T → IsTree n ps W → ∀ H' : Hp, Same H H' → Q (.int ((T.filter fun y => decide (y ∉ W)).length : Int)) H') ∧ (¬ (IsTree n ps T ∧ IsTree n ps W) → ∀ H' : Hp, Same H H' → E (.ref B) none H')
section
variable {P : Program} {w : World} {K : PySem.W.Frag} {mg : Str → Option Value} {base : Heap} {t : Adr}
theorem sc_differ : FnScope ["web", "one", "other"] ["web", "one", "other"] (defScope s_differ) := ⟨rfl, rfl, rfl, by decide +kernel, rfl, by decide +kernel, by decide +kernel⟩
theorem ok_differ (T : Txt K mg t) : FnOk P w K mg base (CXW P w) 8 t.a_differ t.d_differ ["web", "one", "other"] (sp_differ K t.A_Web t.A_NoTree) := by
  refine T.f_differ.okX sc_differ (fun vs H Q E h => ?_) (fun cdv A outer s H vs Q E hr h => ?_)
  · obtain ⟨w, a, b, n, ps, kd, ke, T, W, rfl, _⟩ := h
    rfl
  · obtain ⟨w, a, b, n, ps, kd, ke, T', W, rfl, hW, hG, hA, hB, q, qe⟩ := h
    refine ⟨_, (pss_cons (ps_expr (pe_call (ok_refuse_no_tree T) (hr.mono (by decide)) rfl T.m_refuse_no_tree T.f_refuse_no_tree.kp T.b_refuse_no_tree .nil pxs (pa_cons (pv 0) (pa_cons (pv 1) pa_nil))))
      (pss_cons (ps_expr (pe_call (ok_refuse_no_tree T) (hr.mono (by decide)) rfl T.m_refuse_no_tree T.f_refuse_no_tree.kp T.b_refuse_no_tree .nil pxs (pa_cons (pv 0) (pa_cons (pv 2) pa_nil))))
      (pss_one (ps_ret (pe_callB (call_lenK K) (by rfl) T.n_len Boot.«len» (pa_cons (pe_lc rfl (sc0 := defScope s_differ) (N0 := ["web", "one", "other"]) (N' := ["tie", "other"]) (o := 1) (fr := [2]) ⟨rfl, by decide +kernel, by decide +kernel, by decide +kernel, rfl, by decide +kernel⟩ (pi_seqK K (pv 1)) (own_name (by decide)) (fun _ _ _ _ => (pg_name (i := 0) (show List.Nodup (["tie", "other"] : List Str) by decide +kernel) rfl (Or.inl rfl))) (fun _ _ _ _ => (pts_one (pt_cmpR (op_notInK K) (pv 0) (pv 1) rfl))) (fun _ _ _ _ => (pv 0))) pa_nil)))))), ?_⟩
    refine ⟨_, rfl, _, rfl, w, a, n, ps, kd, T', rfl, hW, hG, hA, fun hT H1 s1 => ?_, fun h => qe fun hh => h hh.1⟩
    refine ⟨_, rfl, _, rfl, w, b, n, ps, ke, W, rfl, hW.same s1, hG, hB.same s1, fun hO H2 s2 => ?_, fun h H2 s2 => qe (fun hh => h hh.2) H2 (s1.trans s2)⟩
    have s02 := s1.trans s2
    have tl : T'.length ≤ 20 := by have := hT.2.1; have := hG.2.1; omega
    refine ⟨_, rfl, a, rfl, lc_seq (k := kd) (K := K) (xs := IL T') (fun j zs H8 => H8 = H2 ∧ j ≤ T'.length ∧ zs = IL ((T'.take j).filter fun y => decide (y ∉ W))) ⟨rfl, Nat.zero_le _, rfl⟩ (small60' (by rw [il_length]; omega))
        (fun j zs H8 hj ⟨e, hj2, ey⟩ => ⟨e ▸ hA.same s02, by rw [ey, il_length]; exact Nat.le_trans (List.length_filter_le ..) (by rw [List.length_take]; omega)⟩) ?_ ?_⟩
    · rintro j x zs H8 hj ⟨rfl, hjl, rfl⟩ S hSS
      obtain ⟨y, rfl, hy⟩ := il_get hj
      have hjl' : j < T'.length := (List.getElem?_eq_some_iff.mp hy).1
      refine nm ?_
      refine ⟨_, rfl, _, rfl, b, _, rfl, (hB.same s02).or, rfl, flat_ints _, _, rfl, ?_⟩
      rw [inV_ints]
      refine itn2 (fun he => ?_) (fun he => ?_)
      · refine hSS _ _ ⟨rfl, hjl', ?_⟩
        rw [filt_take hy, if_neg (by simpa using he), List.append_nil]
      · refine ⟨_, rfl, hSS _ _ ⟨rfl, hjl', ?_⟩⟩
        rw [filt_take hy, if_pos (decide_eq_true he), il_snoc]
    rintro zs H8 ⟨rfl, _, rfl⟩ fA hfA
    rw [il_length, List.take_length]
    refine ⟨fA, _, rfl, .inl (SqL.of upd_same), ?_⟩
    rw [il_length]
    exact q hT hO _ (s02.trans (same_at hfA))
end
end My
namespace My
open PySem L2 PyProof.Rows
set_option maxHeartbeats 4000000
/-- the steps from a tree to another -/
def sp_walk_between (K : PySem.W.Frag) (C B : Addr) : Sp := fun vs H Q E => ∃ (w a b : Addr) (n : Int) (ps : List (Int × Int)) (kd ke : Bool) (T W : List Int), vs = [.ref w, .ref a, .ref b] ∧ WebAt C H w n ps ∧ GoodW n ps ∧ SqK kd K H a (IL T) ∧ SqK ke K H b (IL W) ∧
  (IsTree n ps T → IsTree n ps W → ∀ (ws : List (Int × Int)) (U : List Int) (r : Addr) (xs : List V) (H' : Hp), WP n ps W T W ws U → Same H H' → H r = none → H' r = some (.lst xs) → PairsV H' xs ws → Q (.ref r) H') ∧ (¬ (IsTree n ps T ∧ IsTree n ps W) → ∀ H' : Hp, Same H H' → E (.ref B) none H')
section
variable {P : Program} {w : World} {K : PySem.W.Frag} {mg : Str → Option Value} {base : Heap} {t : Adr}
theorem sc_walk_between : FnScope ["web", "one", "other", "walk", "tree", "into", "out"] ["web", "one", "other"] (defScope s_walk_between) := ⟨rfl, rfl, rfl, by decide +kernel, rfl, by decide +kernel, by decide +kernel⟩
theorem ok_walk_between (T : Txt K mg t) : FnOk P w K mg base (CXW P w) 9 t.a_walk_between t.d_walk_between ["web", "one", "other"] (sp_walk_between K t.A_Web t.A_NoTree) := by
  refine T.f_walk_between.okX sc_walk_between (fun vs H Q E h => ?_) (fun cdv A outer s H vs Q E hr h => ?_)
  · obtain ⟨w, a, b, n, ps, kd, ke, T, W, rfl, _⟩ := h
    rfl
  · obtain ⟨w, a, b, n, ps, kd, ke, T', W, rfl, hW, hG, hA, hB, q, qe⟩ := h
    refine ⟨_, (pss_cons (ps_expr (pe_call (ok_refuse_no_tree T) (hr.mono (by decide)) rfl T.m_refuse_no_tree T.f_refuse_no_tree.kp T.b_refuse_no_tree .nil pxs (pa_cons (pv 0) (pa_cons (pv 1) pa_nil))))
      (pss_cons (ps_expr (pe_call (ok_refuse_no_tree T) (hr.mono (by decide)) rfl T.m_refuse_no_tree T.f_refuse_no_tree.kp T.b_refuse_no_tree .nil pxs (pa_cons (pv 0) (pa_cons (pv 2) pa_nil))))
      (pss_cons (ps_set (i := 3) sc_walk_between.nd rfl (Or.inl rfl) (pe_lst pa_nil))
      (pss_cons (ps_set (i := 4) sc_walk_between.nd rfl (Or.inl rfl) (pe_callTy (call_tupleQ K) (by rfl) T.n_tuple Boot.«tuple» (pa_cons (pv 1) pa_nil)))
      (pss_cons (ps_for PassesOwn.leaving rfl (pi_seqK K (pv 2)) (pg_name (i := 5) sc_walk_between.nd rfl (Or.inl rfl))
      (pss_one (ps_if (pt_cmpR (op_notInK K) (pv 5) (pv 4) rfl)
      (pss_cons (ps_set (i := 6) sc_walk_between.nd rfl (Or.inl rfl) (pe_callB (call_minIK K rfl) (by rfl) T.n_min Boot.«min» (pa_cons (pe_lc rfl (sc0 := defScope s_walk_between) (N0 := ["web", "one", "other", "walk", "tree", "into", "out"]) (N' := ["tie", "other"]) (o := 1) (fr := [2]) ⟨rfl, by decide +kernel, by decide +kernel, by decide +kernel, rfl, by decide +kernel⟩ (pi_tupK K (pe_call (ok_ring_of T) (hr.mono (by decide)) rfl T.m_ring_of T.f_ring_of.kp T.b_ring_of .nil pxs (pa_cons (pv 0) (pa_cons (pv 4) (pa_cons (pv 5) pa_nil))))) (own_name (by decide)) (fun _ _ _ _ => (pg_name (i := 0) (show List.Nodup (["tie", "other"] : List Str) by decide +kernel) rfl (Or.inl rfl))) (fun _ _ _ _ => (pts_one (pt_cmpR (op_notInK K) (pv 0) (pv 1) rfl))) (fun _ _ _ _ => (pv 0))) pa_nil)))
      (pss_cons (ps_expr (pe_bmK K PySem.F.plainAttrs_list PySem.F.slot_list_append PySem.F.type_list_append mt_append (pv 3) (pa_cons (pe_tup (pa_cons (pv 6) (pa_cons (pv 5) pa_nil))) pa_nil)))
      (pss_one (ps_set (i := 4) sc_walk_between.nd rfl (Or.inl rfl) (pe_call (ok_exchanged T) (hr.mono (by decide)) rfl T.m_exchanged T.f_exchanged.kp T.b_exchanged .nil pxs (pa_cons (pv 0) (pa_cons (pv 4) (pa_cons (pv 6) (pa_cons (pv 5) pa_nil)))))))))
      pss_nil)))
      (pss_one (ps_ret (pv 3)))))))), ?_⟩
    obtain ⟨g1, g2, g3, g4⟩ := id hG
    have two : 2 ≤ sizeLine := by decide
    refine ⟨_, rfl, _, rfl, w, a, n, ps, kd, T', rfl, hW, hG, hA, fun hT H1 s1 => ?_, fun h => qe fun hh => h hh.1⟩
    refine ⟨_, rfl, _, rfl, w, b, n, ps, ke, W, rfl, hW.same s1, hG, hB.same s1, fun hO H2 s2 => ?_, fun h H2 s2 => qe (fun hh => h hh.2) H2 (s1.trans s2)⟩
    have wl13 : W.length ≤ 13 := by have := hO.2.1; omega
    have s02 := s1.trans s2
    refine ⟨Nat.zero_le _, fun wA hwA => ?_⟩
    have hwA0 : H wA = none := s02.free hwA
    have s3 := s02.trans (same_at (o := .lst []) hwA)
    refine ⟨_, rfl, a, IL T', kd, rfl, hA.same s3, fun tA H4 s4 htA => ?_⟩
    have s04 := s3.trans s4
    have hw4 := s4 _ _ (upd_same (H := H2) (a := wA) (o := .lst []))
    refine ⟨_, rfl, b, rfl, for_seq (k := ke) (K := K) (xs := IL W) (fun i σ H5 => ∃ (tA : Addr) (U : List Int) (ws : List (Int × Int)) (xs : List V) (v5 v6 : Option V), σ = [some (.ref w), some (.ref a), some (.ref b), some (.ref wA), some (.ref tA), v5, v6] ∧ Same H H5 ∧ H5 wA = some (.lst xs) ∧ PairsV H5 xs ws ∧ ws.length ≤ i ∧ SqK true K H5 tA (IL U) ∧ WP n ps W T' (W.take i) ws U ∧ i ≤ W.length)
      ⟨tA, T', [], [], none, none, rfl, s04, hw4, PairsV.nil, Nat.le_refl _, htA, WP.nil, Nat.zero_le _⟩ (fun i σ H5 _ ⟨_, _, _, _, _, _, _, s5, _⟩ => hB.same s5) ?_ ?_⟩
    · rintro i x σ H5 hi ⟨tA, U, ws, xs, v5, v6, rfl, s5, hw5, hP5, hwl, htA, hWP, hil⟩
      obtain ⟨z, rfl, hz⟩ := il_get hi
      have hil' : i < W.length := (List.getElem?_eq_some_iff.mp hz).1
      have hzW := List.mem_of_getElem? hz
      have hzb := hO.1.all z hzW
      have tk : W.take (i + 1) = W.take i ++ [z] := by rw [List.take_succ, hz]; rfl
      obtain ⟨hU, _, _, _⟩ := hWP.facts hG hT (fun y hy => List.mem_of_mem_take hy) hO
      have ul : U.length ≤ 13 := by have := hU.2.1; omega
      have bz : -(10 ^ 70) < z ∧ z < 10 ^ 70 := ⟨by omega, by omega⟩
      refine ⟨_, rfl, _, rfl, tA, _, rfl, .inr htA, rfl, flat_ints _, _, rfl, ?_⟩
      rw [inV_ints]
      refine itn2 (fun hin => ?_) (fun hin => ?_)
      · exact ⟨tA, U, ws, xs, _, _, rfl, s5, hw5, hP5, by omega, htA, by rw [tk]; exact .skip hWP hin, hil'⟩
      refine ⟨_, rfl, _, rfl, _, rfl, w, tA, n, ps, true, U, z, rfl, hW.same s5, hG, htA, bz.1, bz.2, fun _ _ _ _ ms hpm hpw rA H6 s6 hrA0 hrA => ?_, fun _ h => (h.elim hin fun h => h hzb).elim, fun h => absurd hU h⟩
      have ml : ms.length ≤ 14 := by
        have := ringA_len n ps U z U
        rw [hpm.length_eq, List.length_append, List.length_singleton]
        omega
      have s06 := s5.trans s6
      refine ⟨rA, rfl, ⟨_, SqT.of hrA⟩, lc_tup (K := K) (a := rA) (xs := IL ms) (fun j ys H7 => H7 = H6 ∧ j ≤ ms.length ∧ ys = IL ((ms.take j).filter fun y => decide (y ∉ W))) ⟨rfl, Nat.zero_le _, rfl⟩ (small60' (by rw [il_length]; omega))
        (fun j ys H7 hj ⟨e, hj2, ey⟩ => ⟨e ▸ SqT.of hrA, by rw [ey, il_length]; exact Nat.le_trans (List.length_filter_le ..) (by rw [List.length_take]; omega)⟩) ?_ ?_⟩
      · rintro j x ys H7 hj ⟨rfl, hjl, rfl⟩ S hSS
        obtain ⟨y, rfl, hy⟩ := il_get hj
        have hjl' : j < ms.length := (List.getElem?_eq_some_iff.mp hy).1
        refine nm ?_
        refine ⟨_, rfl, _, rfl, b, _, rfl, (hB.same s06).or, rfl, flat_ints _, _, rfl, ?_⟩
        rw [inV_ints]
        refine itn2 (fun he => ?_) (fun he => ?_)
        · refine hSS _ _ ⟨rfl, hjl', ?_⟩
          rw [filt_take hy, if_neg (by simpa using he), List.append_nil]
        · refine ⟨_, rfl, hSS _ _ ⟨rfl, hjl', ?_⟩⟩
          rw [filt_take hy, if_pos (decide_eq_true he), il_snoc]
      rintro ys H7 ⟨rfl, _, rfl⟩ p hp
      rw [il_length, List.take_length]
      have s7 := same_at (o := .lst (IL (ms.filter fun y => decide (y ∉ W)))) hp
      have memF : ∀ y, y ∈ ms.filter (fun y => decide (y ∉ W)) ↔ y ∈ ringA n ps U z U ∧ y ∉ W := fun y => by
        rw [List.mem_filter, decide_eq_true_iff, hpm.mem_iff, List.mem_append, List.mem_singleton]
        constructor
        · rintro ⟨h | h, h2⟩
          · exact ⟨h, h2⟩
          · exact absurd (h ▸ hzW) h2
        · rintro ⟨h, h2⟩
          exact ⟨.inl h, h2⟩
      obtain ⟨o0, ho0, ho0W⟩ := ring_out hG hU hO hzW hin
      refine ⟨p, _, rfl, SqL.of upd_same, List.length_pos_of_mem ((memF o0).mpr ⟨ho0, ho0W⟩), fun o ho hmin => ?_⟩
      obtain ⟨hoR, hoW⟩ := (memF o).mp ho
      have hoU := (ringA_mem.mp hoR).1
      have hx : exg n ps U o z := ⟨hoU, fun e => hin (e ▸ hoU), (ringA_mem.mp hoR).2⟩
      have ob := hU.1.all o hoU
      have bo : -(10 ^ 70) < o ∧ o < 10 ^ 70 := ⟨by omega, by omega⟩
      have s57 := s6.trans s7
      have hw7 := s57 _ _ hw5
      refine ⟨_, rfl, .inl ⟨rfl, _, SqL.of hw7⟩, _, rfl, _, rfl, two, fun tp htp => ?_⟩
      have s8 := same_at (o := .tup [.int o, .int z]) htp
      have hw8 := s8 _ _ hw7
      refine ⟨wA, xs, _, rfl, rfl, hw8, small60' (by rw [hP5.1]; omega), ?_⟩
      have s09 : Same H (upd (upd (upd H7 p (.lst (IL (ms.filter fun y => decide (y ∉ W))))) tp (.tup [.int o, .int z])) wA (.lst (xs ++ [.ref tp]))) := same_upd hwA0 ((s5.trans s57).trans s8)
      have hP9 := (((hP5.same s57).same s8).snoc (p := (o, z)) ⟨tp, rfl, upd_same⟩).mut (zs := xs ++ [.ref tp]) hw8
      have hw9 : (upd (upd (upd H7 p (.lst (IL (ms.filter fun y => decide (y ∉ W))))) tp (.tup [.int o, .int z])) wA (.lst (xs ++ [.ref tp]))) wA = some (.lst (xs ++ [.ref tp])) := upd_same
      have htA9 : SqK true K (upd (upd (upd H7 p (.lst (IL (ms.filter fun y => decide (y ∉ W))))) tp (.tup [.int o, .int z])) wA (.lst (xs ++ [.ref tp]))) tA (IL U) := ((htA.same s57).same s8).mutL hw8
      generalize upd (upd (upd H7 p (.lst (IL (ms.filter fun y => decide (y ∉ W))))) tp (.tup [.int o, .int z])) wA (.lst (xs ++ [.ref tp])) = H9 at *
      refine ⟨_, rfl, _, rfl, _, rfl, _, rfl, w, tA, n, ps, true, U, o, z, rfl, hW.same s09, hG, htA9, bo.1, bo.2, bz.1, bz.2, fun _ _ ms2 hpm2 hpw2 r2 H10 s10 hr20 hr2 => ?_, fun _ h => absurd hx h, fun h => absurd hU h⟩
      refine ⟨r2, ms2, ws ++ [(o, z)], xs ++ [.ref tp], _, _, rfl, s09.trans s10, s10 _ _ hw9, hP9.same s10, by rw [List.length_append]; exact Nat.succ_le_succ hwl, SqT.of hr2, ?_, hil'⟩
      rw [tk]
      exact .step hWP hin hoR hoW (fun y hy hyW => hmin y ((memF y).mpr ⟨hy, hyW⟩)) hpm2 hpw2
    rintro σ H5 ⟨tA, U, ws, xs, v5, v6, rfl, s5, hw5, hP5, _, _, hWP, _⟩
    rw [il_length, List.take_length] at hWP
    exact ⟨_, rfl, q hT hO ws U wA xs H5 hWP s5 hwA0 hw5 hP5⟩
end
end My
namespace My
open PySem L2 PyProof.Rows
set_option maxHeartbeats 4000000
/-- the tree behind a walk -/
def sp_walked (K : PySem.W.Frag) (C B N : Addr) : Sp := fun vs H Q E => ∃ (w a b : Addr) (n : Int) (ps : List (Int × Int)) (ke : Bool) (T : List Int) (xs : List V) (ws : List (Int × Int)), vs = [.ref w, .ref a, .ref b] ∧ WebAt C H w n ps ∧ GoodW n ps ∧ (H a = some (.tup (IL T)) ∨ SqL K H a (IL T)) ∧ SqK ke K H b xs ∧ PairsV H xs ws ∧ (∀ p ∈ ws, -(10 ^ 70) < p.1 ∧ p.1 < 10 ^ 70 ∧ -(10 ^ 70) < p.2 ∧ p.2 < 10 ^ 70) ∧
  (IsTree n ps T → ∀ U, Wk n ps T ws U → ∀ (r : Addr) (H' : Hp), Same H H' → H' r = some (.tup (IL U)) → Q (.ref r) H') ∧ (IsTree n ps T → Brk n ps T ws → ∀ H' : Hp, Same H H' → E (.ref N) none H') ∧ (¬ IsTree n ps T → ∀ H' : Hp, Same H H' → E (.ref B) none H')
section
variable {P : Program} {w : World} {K : PySem.W.Frag} {mg : Str → Option Value} {base : Heap} {t : Adr}
theorem sc_walked : FnScope ["web", "tree", "walk", "pair"] ["web", "tree", "walk"] (defScope s_walked) := ⟨rfl, rfl, rfl, by decide +kernel, rfl, by decide +kernel, by decide +kernel⟩
theorem ok_walked (T : Txt K mg t) : FnOk P w K mg base (CXW P w) 9 t.a_walked t.d_walked ["web", "tree", "walk"] (sp_walked K t.A_Web t.A_NoTree t.A_NoTie) := by
  refine T.f_walked.okX sc_walked (fun vs H Q E h => ?_) (fun cdv A outer s H vs Q E hr h => ?_)
  · obtain ⟨w, a, b, n, ps, ke, T, xs, ws, rfl, _⟩ := h
    rfl
  · obtain ⟨w, a, b, n, ps, ke, T', xs, ws, rfl, hW, hG, hA, hB, hP, hbd, q, q1, q2⟩ := h
    refine ⟨_, (pss_cons (ps_expr (pe_call (ok_refuse_no_tree T) (hr.mono (by decide)) rfl T.m_refuse_no_tree T.f_refuse_no_tree.kp T.b_refuse_no_tree .nil pxs (pa_cons (pv 0) (pa_cons (pv 1) pa_nil))))
      (pss_cons (ps_set (i := 1) sc_walked.nd rfl (Or.inl rfl) (pe_callTy (call_tupleH K) (by rfl) T.n_tuple Boot.«tuple» (pa_cons (pv 1) pa_nil)))
      (pss_cons (ps_for PassesOwn.leaving rfl (pi_seqK K (pv 2)) (pg_name (i := 3) sc_walked.nd rfl (Or.inl rfl))
      (pss_one (ps_set (i := 1) sc_walked.nd rfl (Or.inl rfl) (pe_call (ok_exchanged T) (hr.mono (by decide)) rfl T.m_exchanged T.f_exchanged.kp T.b_exchanged .nil pxs (pa_cons (pv 0) (pa_cons (pv 1) (pa_cons (pe_ix (ix_tupK K) (pv 3) pe_int (fun _ _ => rfl)) (pa_cons (pe_ix (ix_tupK K) (pv 3) pe_int (fun _ _ => rfl)) pa_nil))))))))
      (pss_one (ps_ret (pv 1)))))), ?_⟩
    have hAk : ∃ kd, SqK kd K H a (IL T') := hA.elim (fun h => ⟨true, SqT.of h⟩) fun h => ⟨false, h⟩
    obtain ⟨kd, hAk⟩ := hAk
    have hlx := hP.1
    refine ⟨_, rfl, _, rfl, w, a, n, ps, kd, T', rfl, hW, hG, hAk, fun hT H1 s1 => ?_, q2⟩
    have hA1 : H1 a = some (.tup (IL T')) ∨ SqL K H1 a (IL T') := hA.elim (fun h => .inl (s1 _ _ h)) fun h => .inr (s1.seq h)
    refine ⟨_, rfl, a, _, rfl, hA1, fun tA H2 s2 htA => ?_⟩
    have s02 := s1.trans s2
    refine ⟨_, rfl, b, rfl, for_seq (k := ke) (K := K) (xs := xs) (fun i σ H5 => ∃ (tA : Addr) (U : List Int) (v3 : Option V), σ = [some (.ref w), some (.ref tA), some (.ref b), v3] ∧ Same H H5 ∧ H5 tA = some (.tup (IL U)) ∧ Wk n ps T' (ws.take i) U)
      ⟨tA, T', none, rfl, s02, htA, Wk.nil⟩ (fun i σ H5 _ ⟨_, _, _, _, s5, _⟩ => hB.same s5) ?_ ?_⟩
    · rintro i x σ H5 hi ⟨tA, U, v3, rfl, s5, htA, hWk⟩
      obtain ⟨p, hp, tt, rfl, htt⟩ := hP.at hi
      have htt5 := s5 _ _ htt
      obtain ⟨b1, b2, b3, b4⟩ := hbd p (List.mem_of_getElem? hp)
      have hU := hWk.tree hG hT
      refine nm ?_
      refine ⟨_, rfl, _, rfl, _, rfl, tt, _, 0, .int p.1, rfl, rfl, SqT.of htt5, rfl, _, rfl, tt, _, 1, .int p.2, rfl, rfl, SqT.of htt5, rfl, w, tA, n, ps, true, U, p.1, p.2, rfl, hW.same s5, hG, SqT.of htA, b1, b2, b3, b4, fun _ hx ms hpm hpw r H6 s6 hr0 hr => ?_, fun _ hx H6 s6 => ?_, fun h => absurd hU h⟩
      · refine ⟨r, ms, _, rfl, s5.trans s6, hr, ?_⟩
        rw [List.take_succ, hp]
        exact .step hWk hx hpm hpw
      · exact q1 hT ⟨i, p.1, p.2, U, hp, hWk, hx⟩ H6 (s5.trans s6)
    rintro σ H5 ⟨tA, U, v3, rfl, s5, htA, hWk⟩
    rw [hlx, List.take_length] at hWk
    exact ⟨_, rfl, q hT U hWk tA H5 s5 htA⟩
end
end My
namespace My
open PySem L2 PyProof.Rows
set_option maxHeartbeats 4000000
def sp_partner_of (K : PySem.W.Frag) (C B N : Addr) : Sp := fun vs H Q E => ∃ (w a b : Addr) (n : Int) (ps : List (Int × Int)) (kd ke : Bool) (T W : List Int) (z : Int), vs = [.ref w, .ref a, .ref b, .int z] ∧ WebAt C H w n ps ∧ GoodW n ps ∧ SqK kd K H a (IL T) ∧ SqK ke K H b (IL W) ∧ -(10 ^ 70) < z ∧ z < 10 ^ 70 ∧
  (IsTree n ps T → IsTree n ps W → z ∈ T → z ∉ W → ∀ y : Int, exg n ps T z y → exg n ps W y z → (∀ v, exg n ps T z v → exg n ps W v z → y ≤ v) → ∀ H' : Hp, Same H H' → Q (.int y) H') ∧
  (IsTree n ps T → IsTree n ps W → ¬ (z ∈ T ∧ z ∉ W) → ∀ H' : Hp, Same H H' → E (.ref N) none H') ∧ (¬ (IsTree n ps T ∧ IsTree n ps W) → ∀ H' : Hp, Same H H' → E (.ref B) none H')
section
variable {P : Program} {w : World} {K : PySem.W.Frag} {mg : Str → Option Value} {base : Heap} {t : Adr}
theorem sc_partner_of : FnScope ["web", "one", "other", "tie", "cut"] ["web", "one", "other", "tie"] (defScope s_partner_of) := ⟨rfl, rfl, rfl, by decide +kernel, rfl, by decide +kernel, by decide +kernel⟩
theorem ok_partner_of (T : Txt K mg t) : FnOk P w K mg base (CXW P w) 9 t.a_partner_of t.d_partner_of ["web", "one", "other", "tie"] (sp_partner_of K t.A_Web t.A_NoTree t.A_NoTie) := by
  refine T.f_partner_of.okX sc_partner_of (fun vs H Q E h => ?_) (fun cdv A outer s H vs Q E hr h => ?_)
  · obtain ⟨w, a, b, n, ps, kd, ke, T, W, z, rfl, _⟩ := h
    rfl
  · obtain ⟨w, a, b, n, ps, kd, ke, T', W, z, rfl, hW, hG, hA, hB, z0, z1, q, q1, q2⟩ := h
    refine ⟨_, (pss_cons (ps_expr (pe_call (ok_refuse_no_tree T) (hr.mono (by decide)) rfl T.m_refuse_no_tree T.f_refuse_no_tree.kp T.b_refuse_no_tree .nil pxs (pa_cons (pv 0) (pa_cons (pv 1) pa_nil))))
      (pss_cons (ps_expr (pe_call (ok_refuse_no_tree T) (hr.mono (by decide)) rfl T.m_refuse_no_tree T.f_refuse_no_tree.kp T.b_refuse_no_tree .nil pxs (pa_cons (pv 0) (pa_cons (pv 2) pa_nil))))
      (pss_cons (ps_if (PW.pt (pw_or (pt_cmpR (op_notInK K) (pv 3) (pv 1) rfl) (pw_or1 (pt_cmpR (op_inK K) (pv 3) (pv 2) rfl))))
      (pss_one (ps_raise T.x_NoTie T.c_NoTie (pa_cons (pe_fstr (pj_int (pv 3) (pj_str pj_nil))) pa_nil)))
      pss_nil)
      (pss_cons (ps_set (i := 4) sc_partner_of.nd rfl (Or.inr rfl) (pe_call (ok_tree_cut T) (hr.mono (by decide)) rfl T.m_tree_cut T.f_tree_cut.kp T.b_tree_cut .nil pass0 (pa_cons (pv 0) (pa_cons (pv 1) (pa_cons (pv 3) pa_nil)))))
      (pss_one (ps_ret (pe_callB (call_minIK K rfl) (by rfl) T.n_min Boot.«min» (pa_cons (pe_lc rfl (sc0 := defScope s_partner_of) (N0 := ["web", "one", "other", "tie", "cut"]) (N' := ["into", "cut", "tie"]) (o := 1) (fr := [4, 3]) ⟨rfl, by decide +kernel, by decide +kernel, by decide +kernel, rfl, by decide +kernel⟩ (pi_tupK K (pe_call (ok_ring_of T) (hr.mono (by decide)) rfl T.m_ring_of T.f_ring_of.kp T.b_ring_of .nil pxs (pa_cons (pv 0) (pa_cons (pv 2) (pa_cons (pv 3) pa_nil))))) (own_name (by decide)) (fun _ _ _ _ => (pg_name (i := 0) (show List.Nodup (["into", "cut", "tie"] : List Str) by decide +kernel) rfl (Or.inl rfl))) (fun _ _ _ _ => (pts_one (PW.pt (pw_and (pt_cmpR (op_inK K) (pv 0) (pv 1) rfl) (pw_and1 (pt_cmpR op_ne (pv 0) (pv 2) (nomark _))))))) (fun _ _ _ _ => (pv 0))) pa_nil)))))))), ?_⟩
    have one : 1 ≤ sizeLine := by decide
    refine ⟨_, rfl, _, rfl, w, a, n, ps, kd, T', rfl, hW, hG, hA, fun hT H1 s1 => ?_, fun h => q2 fun hh => h hh.1⟩
    refine ⟨_, rfl, _, rfl, w, b, n, ps, ke, W, rfl, hW.same s1, hG, hB.same s1, fun hO H2 s2 => ?_, fun h H2 s2 => q2 (fun hh => h hh.2) H2 (s1.trans s2)⟩
    have s02 := s1.trans s2
    refine ⟨_, rfl, _, rfl, a, _, rfl, (hA.same s02).or, rfl, flat_ints _, _, rfl, ?_⟩
    rw [inV_ints]
    refine itn2 (fun hz => ?_) (fun hz => ?_)
    rotate_left
    · exact iteT ⟨_, rfl, z, rfl, z0, z1, fun x => ⟨one, q1 hT hO (fun h => hz h.1) H2 s02⟩⟩
    refine ⟨_, rfl, _, rfl, b, _, rfl, (hB.same s02).or, rfl, flat_ints _, _, rfl, ?_⟩
    rw [inV_ints]
    refine itd2 (fun hzW => ?_) (fun hzW => ?_)
    · exact ⟨_, rfl, z, rfl, z0, z1, fun x => ⟨one, q1 hT hO (fun h => h.2 hzW) H2 s02⟩⟩
    have hzb := hT.1.all z hz
    refine ⟨_, rfl, _, rfl, _, rfl, w, a, n, ps, kd, T', z, rfl, hW.same s02, hG, hA.same s02, hT.1, fun cA H3 s3 hcA0 hcA => ?_⟩
    have s03 := s02.trans s3
    refine ⟨_, rfl, _, rfl, _, rfl, w, b, n, ps, ke, W, z, rfl, hW.same s03, hG, hB.same s03, z0, z1, fun _ _ _ _ ms hpm hpw rA H4 s4 hrA0 hrA => ?_, fun _ h => (h.elim hzW fun h => h hzb).elim, fun h => absurd hO h⟩
    have s04 := s03.trans s4
    have hcA4 := s4 _ _ hcA
    have ml : ms.length ≤ 20 := by
      have := ringA_len n ps W z W
      have := hO.2.1
      have := hG.2.1
      rw [hpm.length_eq, List.length_append, List.length_singleton]
      omega
    refine ⟨rA, rfl, ⟨_, SqT.of hrA⟩, lc_tup (K := K) (a := rA) (xs := IL ms) (fun j ys H7 => H7 = H4 ∧ j ≤ ms.length ∧ ys = IL ((ms.take j).filter fun y => decide (y ∈ cutT n ps T' z ∧ y ≠ z))) ⟨rfl, Nat.zero_le _, rfl⟩ (small60' (by rw [il_length]; omega))
        (fun j ys H7 hj ⟨e, hj2, ey⟩ => ⟨e ▸ SqT.of hrA, by rw [ey, il_length]; exact Nat.le_trans (List.length_filter_le ..) (by rw [List.length_take]; omega)⟩) ?_ ?_⟩
    · rintro j x ys H7 hj ⟨rfl, hjl, rfl⟩ S hSS
      obtain ⟨y, rfl, hy⟩ := il_get hj
      have hjl' : j < ms.length := (List.getElem?_eq_some_iff.mp hy).1
      refine nm ?_
      refine ⟨_, rfl, _, rfl, cA, _, rfl, .inr (SqT.of hcA4), rfl, flat_ints _, _, rfl, ?_⟩
      rw [inV_ints]
      refine itd2 (fun h1 => ?_) (fun h1 => ?_)
      · refine ⟨_, rfl, _, rfl, rfl, _, rfl, ?_⟩
        rw [dec_int]
        refine itn2 (fun h2 => ?_) (fun h2 => ?_)
        · refine hSS _ _ ⟨rfl, hjl', ?_⟩
          rw [filt_take hy, if_neg (fun h => (of_decide_eq_true h).2 h2), List.append_nil]
        · refine ⟨_, rfl, hSS _ _ ⟨rfl, hjl', ?_⟩⟩
          rw [filt_take hy, if_pos (decide_eq_true ⟨h1, h2⟩), il_snoc]
      · refine hSS _ _ ⟨rfl, hjl', ?_⟩
        rw [filt_take hy, if_neg (fun h => h1 (of_decide_eq_true h).1), List.append_nil]
    rintro ys H7 ⟨rfl, _, rfl⟩ p hp
    rw [il_length, List.take_length]
    have memF : ∀ y, y ∈ ms.filter (fun y => decide (y ∈ cutT n ps T' z ∧ y ≠ z)) ↔ exg n ps T' z y ∧ exg n ps W y z := fun y => by
      rw [List.mem_filter, decide_eq_true_iff, hpm.mem_iff, List.mem_append, List.mem_singleton, ringA_mem]
      constructor
      · rintro ⟨h | h, h2, h3⟩
        · exact ⟨⟨hz, h3, h2⟩, ⟨h.1, Ne.symm h3, h.2⟩⟩
        · exact absurd h h3
      · rintro ⟨⟨_, h2, h3⟩, ⟨h4, _, h6⟩⟩
        exact ⟨.inl ⟨h4, h6⟩, h3, h2⟩
    obtain ⟨y0, hy0⟩ := partner_ex hG hT hO hz hzW
    refine ⟨p, _, rfl, SqL.of upd_same, List.length_pos_of_mem ((memF y0).mpr hy0), fun y hy hmin => ?_⟩
    obtain ⟨e1, e2⟩ := (memF y).mp hy
    exact q hT hO hz hzW y e1 e2 (fun v v1 v2 => hmin v ((memF v).mpr ⟨v1, v2⟩)) _ (s04.trans (same_at hp))
end
end My
namespace My
open PySem L2 PyProof.Rows
set_option maxHeartbeats 4000000
theorem sorted_strict {m : List Int} (h : m.Pairwise (· ≤ ·)) (nd : m.Nodup) : m.Pairwise (· < ·) := (h.and nd).imp fun z => by
  have := z.1
  have := z.2
  omega
/-- the tree that has fewest ties in common -/
def sp_far_tree (K : PySem.W.Frag) (C B : Addr) : Sp := fun vs H Q E => ∃ (w a : Addr) (n : Int) (ps : List (Int × Int)) (T : List Int), vs = [.ref w, .ref a] ∧ WebAt C H w n ps ∧ GoodW n ps ∧ (H a = some (.tup (IL T)) ∨ SqL K H a (IL T)) ∧
  (IsTree n ps T → ∀ (fs D : List Int), IsTree n ps fs → D.Pairwise (· < ·) → (∀ z, z ∈ D ↔ (0 ≤ z ∧ z < (ps.length : Int)) ∧ z ∉ T) → fs.Perm (grw n.toNat ps (D ++ T)) → ∀ (r : Addr) (H' : Hp), Same H H' → H' r = some (.tup (IL fs)) → Q (.ref r) H') ∧ (¬ IsTree n ps T → ∀ H' : Hp, Same H H' → E (.ref B) none H')
section
variable {P : Program} {w : World} {K : PySem.W.Frag} {mg : Str → Option Value} {base : Heap} {t : Adr}
theorem sc_far_tree : FnScope ["web", "tree"] ["web", "tree"] (defScope s_far_tree) := ⟨rfl, rfl, rfl, by decide +kernel, rfl, by decide +kernel, by decide +kernel⟩
theorem ok_far_tree (T : Txt K mg t) : FnOk P w K mg base (CXW P w) 8 t.a_far_tree t.d_far_tree ["web", "tree"] (sp_far_tree K t.A_Web t.A_NoTree) := by
  refine T.f_far_tree.okX sc_far_tree (fun vs H Q E h => ?_) (fun cdv A outer s H vs Q E hr h => ?_)
  · obtain ⟨w, a, n, ps, T, rfl, _⟩ := h
    rfl
  · obtain ⟨w, a, n, ps, T', rfl, hW, hG, hA, q, qe⟩ := h
    refine ⟨_, (pss_cons (ps_expr (pe_call (ok_refuse_no_tree T) (hr.mono (by decide)) rfl T.m_refuse_no_tree T.f_refuse_no_tree.kp T.b_refuse_no_tree .nil pxs (pa_cons (pv 0) (pa_cons (pv 1) pa_nil))))
      (pss_one (ps_ret (pe_call (ok_grown_tree T) (hr.mono (by decide)) rfl T.m_grown_tree T.f_grown_tree.kp T.b_grown_tree .nil pass0 (pa_cons (pv 0) (pa_cons (pe_tup pa_nil) (pa_cons (pe_op (op_catQ K) (pe_call (ok_ties_beside T) (hr.mono (by decide)) rfl T.m_ties_beside T.f_ties_beside.kp T.b_ties_beside .nil pass0 (pa_cons (pv 0) (pa_cons (pv 1) pa_nil))) (pe_callTy (call_tupleH K) (by rfl) T.n_tuple Boot.«tuple» (pa_cons (pv 1) pa_nil))) pa_nil))))))), ?_⟩
    obtain ⟨g1, g2, g3, g4⟩ := id hG
    have hAk : ∃ kd, SqK kd K H a (IL T') := hA.elim (fun h => ⟨true, SqT.of h⟩) fun h => ⟨false, h⟩
    obtain ⟨kd, hAk⟩ := hAk
    refine ⟨_, rfl, _, rfl, w, a, n, ps, kd, T', rfl, hW, hG, hAk, fun hT H1 s1 => ?_, qe⟩
    have tl : T'.length ≤ 13 := by have := hT.2.1; omega
    refine ⟨_, rfl, Nat.zero_le _, fun e0 he0 => ?_⟩
    have s2 := s1.trans (same_at (o := .tup []) he0)
    refine ⟨_, rfl, _, rfl, w, a, n, ps, kd, T', rfl, hW.same s2, by omega, hAk.same s2, fun D hDa hD dA H3 s3 hdA => ?_⟩
    have s03 := s2.trans s3
    have hA3 : H3 a = some (.tup (IL T')) ∨ SqL K H3 a (IL T') := hA.elim (fun h => .inl (s03 _ _ h)) fun h => .inr (s03.seq h)
    refine ⟨_, rfl, a, _, rfl, hA3, fun tA H4 s4 htA => ?_⟩
    have hDs : IsSet ps.length D := isSet_iff.mpr ⟨fun z hz => ((hD z).mp hz).1, hDa⟩
    have dl : D.length ≤ 30 := Nat.le_trans hDs.len g3
    refine ⟨dA, tA, _, _, rfl, rfl, s4 _ _ hdA, htA, small60 (by rw [il_length, il_length]; omega), fun oA H5 s5 hoA => ?_⟩
    have s05 := s03.trans (s4.trans s5)
    have hoA : H5 oA = some (.tup (IL (D ++ T'))) := by rw [hoA]; exact congrArg (fun l => some (HO.tup l)) (List.map_append ..).symm
    have he5 := (s3.trans (s4.trans s5)) _ _ (upd_same (H := H1) (a := e0) (o := .tup []))
    have hb : ∀ z ∈ D ++ T', 0 ≤ z ∧ z < (ps.length : Int) := fun z hz => (List.mem_append.mp hz).elim (fun h => ((hD z).mp h).1) (hT.1.all z)
    have hcov : ∀ i j, i < n.toNat → j < n.toNat → Conn (endsOf ps (grw n.toNat ps (D ++ T'))) i j := fun i j hi hj => grw_conn hG _ hb ((hT.2.2 i j hi hj).mono (ends_sub fun z hz => List.mem_append_right _ hz))
    have h1 := (cnt_conn (by omega) (grw_in hG hb)).mpr hcov
    have h2 := grw_cnt hG (D ++ T') hb
    have nd : (grw n.toNat ps (D ++ T')).Nodup := List.Nodup.sublist (grw_sub _ _ _) (List.nodup_append.mpr ⟨hDs.nodup, hT.1.nodup, fun a ha b hb' e => ((hD a).mp ha).2 (e ▸ hb')⟩)
    refine ⟨w, e0, oA, n, ps, true, true, [], D ++ T', rfl, hW.same s05, hG, SqT.of he5, SqT.of hoA, Nat.zero_le _, by rw [List.length_append]; omega, hb, fun h => ?_, fun _ _ r ms H6 hpm hpw s6 hr0 hr => ?_⟩
    · rcases h with h | h
      · exact absurd rfl h
      · have h : ((grw n.toNat ps (D ++ T')).length : Int) < n - 1 := h
        omega
    · have hpm : ms.Perm (grw n.toNat ps (D ++ T')) := hpm
      have hM : IsTree n ps ms := by
        refine ⟨isSet_iff.mpr ⟨fun z hz => hb z ((grw_sub _ _ _).subset (hpm.mem_iff.mp hz)), sorted_strict hpw (hpm.nodup_iff.mpr nd)⟩, by rw [hpm.length_eq]; omega, fun i j hi hj => ?_⟩
        exact (conn_perm fun y => hpm.mem_iff).mpr (hcov i j hi hj)
      exact q hT ms D hM hDa hD hpm r H6 (s05.trans s6) hr
end
end My
namespace My
open PySem L2 PyProof.Rows
set_option maxHeartbeats 4000000
/-- a cell of the script -/
def sp_law_at (K : PySem.W.Frag) : Sp := fun vs H Q _ => ∃ (a : Addr) (ns : List Int) (k : Int), vs = [.ref a, .int k] ∧ SqL K H a (IL ns) ∧ 0 ≤ k ∧ ∀ r : Int, Q (.int r) H
section
variable {P : Program} {w : World} {K : PySem.W.Frag} {mg : Str → Option Value} {base : Heap} {t : Adr}
theorem sc_law_at : FnScope ["script", "k"] ["script", "k"] (defScope s_law_at) := ⟨rfl, rfl, rfl, by decide +kernel, rfl, by decide +kernel, by decide +kernel⟩
theorem ok_law_at (T : Txt K mg t) : FnOk P w K mg base CX0 1 t.a_law_at t.d_law_at ["script", "k"] (sp_law_at K) := by
  refine T.f_law_at.ok sc_law_at (fun vs H Q E h => ?_) (fun cdv A outer s H vs Q E hr h => ?_)
  · obtain ⟨a, ns, k, rfl, _⟩ := h
    rfl
  · obtain ⟨a, ns, k, rfl, hS, hk, q⟩ := h
    refine ⟨_, (pss_cons (ps_if (pt_cmpR op_lt (pv 1) (pe_callB (call_lenK K) (by rfl) T.n_len Boot.«len» (pa_cons (pv 0) pa_nil)) (nomark _))
      (pss_one (ps_ret (pe_ix (ix_listK K) (pv 0) (pv 1) (fun _ _ => rfl))))
      pss_nil)
      (pss_one (ps_ret pe_int))), ?_⟩
    refine ⟨_, rfl, _, rfl, a, _, rfl, .inl hS, _, _, rfl, rfl, _, rfl, ?_⟩
    refine ite2 (fun hc => ?_) (fun _ => ?_)
    · have hc := of_decide_eq_true hc
      rw [il_length] at hc
      obtain ⟨z, hz⟩ : ∃ z, ns[k.toNat]? = some z := ⟨_, List.getElem?_eq_getElem (by omega)⟩
      exact ⟨_, rfl, _, rfl, a, _, k, .int z, rfl, rfl, hS, atI_of (n := k.toNat) (by omega) (by rw [List.getElem?_map, hz]; rfl), q z⟩
    · exact q 0
end
end My
namespace My
open PySem L2 PyProof.Rows
set_option maxHeartbeats 4000000
/-- a number below a size, stirred out of two -/
def sp_law_mix : Sp := fun vs H Q _ => ∃ (c k m : Int), vs = [.int c, .int k, .int m] ∧ 0 ≤ k ∧ k ≤ 1000 ∧ 0 < m ∧ ∀ r : Int, 0 ≤ r → r < m → Q (.int r) H
section
variable {P : Program} {w : World} {K : PySem.W.Frag} {mg : Str → Option Value} {base : Heap} {t : Adr}
theorem sc_law_mix : FnScope ["cell", "k", "size", "prime", "base", "mixed"] ["cell", "k", "size"] (defScope s_law_mix) := ⟨rfl, rfl, rfl, by decide +kernel, rfl, by decide +kernel, by decide +kernel⟩
theorem ok_law_mix (T : Txt K mg t) : FnOk P w K mg base CX0 1 t.a_law_mix t.d_law_mix ["cell", "k", "size"] sp_law_mix := by
  refine T.f_law_mix.ok sc_law_mix (fun vs H Q E h => ?_) (fun cdv A outer s H vs Q E hr h => ?_)
  · obtain ⟨c, k, m, rfl, _⟩ := h
    rfl
  · obtain ⟨c, k, m, rfl, k0, k1, hm, q⟩ := h
    refine ⟨_, (pss_cons (ps_set (i := 3) sc_law_mix.nd rfl (Or.inl rfl) pe_int)
      (pss_cons (ps_set (i := 4) sc_law_mix.nd rfl (Or.inl rfl) (pe_op op_mulC (pe_op op_add (pe_op op_add (pe_op op_mod (pv 0) (pe_op op_pow pe_int pe_int)) (pe_op op_mulC pe_int (pv 1))) pe_int) pe_int))
      (pss_cons (ps_set (i := 5) sc_law_mix.nd rfl (Or.inl rfl) (pe_op op_mod (pe_op op_mulC (pv 4) (pv 4)) (pv 3)))
      (pss_cons (ps_set (i := 5) sc_law_mix.nd rfl (Or.inl rfl) (pe_op op_mod (pe_op op_mulC (pe_op op_add (pv 5) (pe_op op_mulC pe_int (pe_op op_add (pv 1) pe_int))) (pv 5)) (pv 3)))
      (pss_one (ps_ret (pe_op op_mod (pe_op op_fdiv (pv 5) pe_int) (pv 2)))))))), ?_⟩
    have f0 : 0 ≤ c % 10 ^ 60 := Int.emod_nonneg _ (by decide)
    have f1 : c % 10 ^ 60 < 10 ^ 60 := Int.emod_lt_of_pos _ (by decide)
    refine ⟨_, rfl, _, _, rfl, rfl, ⟨by decide, by decide, by decide⟩, _, _, rfl, rfl, (by show (0 : Int) < 10 ^ 60; decide), _, rfl, _, _, rfl, rfl, ⟨⟨by decide, by decide⟩, ⟨by omega, by omega⟩⟩, _, _, rfl, rfl, _, _, rfl, rfl, _, _, rfl, rfl, ⟨⟨?_, ?_⟩, ⟨by decide, by decide⟩⟩, ?_⟩
    · show -(10 ^ 200) < c % 10 ^ 60 + 7907 * k + 1
      omega
    · show c % 10 ^ 60 + 7907 * k + 1 < 10 ^ 200
      omega
    obtain ⟨B, hB⟩ : ∃ B, B = (c % 10 ^ 60 + 7907 * k + 1) * 271828182845904523536028747135266249775 := ⟨_, rfl⟩
    have g0 : -(10 ^ 200) < (c % 10 ^ 60 + 7907 * k + 1) * 271828182845904523536028747135266249775 := by omega
    have g1 : (c % 10 ^ 60 + 7907 * k + 1) * 271828182845904523536028747135266249775 < 10 ^ 200 := by omega
    refine ⟨_, rfl, _, rfl, _, _, rfl, rfl, ⟨⟨g0, g1⟩, ⟨g0, g1⟩⟩, _, rfl, _, _, rfl, rfl, (by show (0 : Int) < 618970019642690137449562111; decide), ?_⟩
    have m0 : 0 ≤ B * B % 618970019642690137449562111 := Int.emod_nonneg _ (by decide)
    have m1 : B * B % 618970019642690137449562111 < 618970019642690137449562111 := Int.emod_lt_of_pos _ (by decide)
    obtain ⟨U, hU⟩ : ∃ U, U = B * B % 618970019642690137449562111 := ⟨_, rfl⟩
    rw [← hU] at m0 m1
    have u0 : -(10 ^ 200) < U + 104729 * (k + 1) := by omega
    have u1 : U + 104729 * (k + 1) < 10 ^ 200 := by omega
    have v0 : -(10 ^ 200) < U := by omega
    have v1 : U < 10 ^ 200 := by omega
    rw [hU, hB] at u0 u1 v0 v1
    refine ⟨_, rfl, _, rfl, _, _, rfl, rfl, _, _, rfl, rfl, ⟨⟨by decide, by decide⟩, ⟨by show -(10 ^ 200) < k + 1; omega, by show k + 1 < 10 ^ 200; omega⟩⟩, _, _, rfl, rfl, _, rfl, _, _, rfl, rfl, ⟨⟨u0, u1⟩, ⟨v0, v1⟩⟩, _, rfl, _, _, rfl, rfl, (by show (0 : Int) < 618970019642690137449562111; decide), ?_⟩
    refine ⟨_, rfl, _, _, rfl, rfl, ⟨by decide, by decide⟩, _, rfl, _, _, rfl, rfl, hm, ?_⟩
    exact q _ (Int.emod_nonneg _ (by omega)) (Int.emod_lt_of_pos _ hm)
end
end My
namespace My
open PySem L2 PyProof.Rows
set_option maxHeartbeats 4000000
/-- a web's places and ties -/
def sp_law_web (K : PySem.W.Frag) : Sp := fun vs H Q _ => ∃ (hd c most count : Int), vs = [.int hd, .int c, .int most, .int count] ∧ 1 ≤ most ∧ most ≤ 14 ∧ 0 ≤ count ∧ count ≤ 30 ∧
  ∀ (r l : Addr) (n : Int) (xs : List V) (ps : List (Int × Int)) (H' : Hp), Same H H' → H' r = some (.tup [.int n, .ref l]) → H l = none → H' l = some (.lst xs) → PairsV H' xs ps → GoodW n ps → n ≤ most → (ps.length : Int) ≤ count → Q (.ref r) H'
section
variable {P : Program} {w : World} {K : PySem.W.Frag} {mg : Str → Option Value} {base : Heap} {t : Adr}
theorem sc_law_web : FnScope ["head", "cell", "most", "ties_most", "places", "count", "ties", "whole", "k"] ["head", "cell", "most", "ties_most"] (defScope s_law_web) := ⟨rfl, rfl, rfl, by decide +kernel, rfl, by decide +kernel, by decide +kernel⟩
theorem ok_law_web (T : Txt K mg t) : FnOk P w K mg base CX0 2 t.a_law_web t.d_law_web ["head", "cell", "most", "ties_most"] (sp_law_web K) := by
  refine T.f_law_web.ok sc_law_web (fun vs H Q E h => ?_) (fun cdv A outer s H vs Q E hr h => ?_)
  · obtain ⟨hd, c, most, count, rfl, _⟩ := h
    rfl
  · obtain ⟨hd, c, most, count, rfl, m1, m2, c1, c2, q⟩ := h
    refine ⟨_, (pss_cons (ps_set (i := 4) sc_law_web.nd rfl (Or.inl rfl) (pe_op op_add pe_int (pe_op op_mod (pv 0) (pv 2))))
      (pss_cons (ps_set (i := 5) sc_law_web.nd rfl (Or.inl rfl) (pe_op op_mod (pe_op op_fdiv (pv 0) (pv 2)) (pe_op op_add (pv 3) pe_int)))
      (pss_cons (ps_set (i := 6) sc_law_web.nd rfl (Or.inl rfl) (pe_lst pa_nil))
      (pss_cons (ps_set (i := 7) sc_law_web.nd rfl (Or.inl rfl) (pv 1))
      (pss_cons (ps_for PassesOwn.never rfl (pi_range1 rfl T.n_range (pa_cons (pv 5) pa_nil)) (pg_name (i := 8) sc_law_web.nd rfl (Or.inl rfl))
      (pss_one (ps_if (PW.pt (pw_and (pt_cmpR op_eq (pe_op op_mod (pe_op op_fdiv (pe_op op_fdiv (pv 0) (pv 2)) (pe_op op_add (pv 3) pe_int)) pe_int) pe_int (nomark _)) (pw_and1 (pt_cmpR (op_notInK K) (pv 1) (pe_lst (pa_cons pe_int (pa_cons (pe_un un_neg pe_int) pa_nil))) rfl))))
      (pss_cons (ps_expr (pe_bmK K PySem.F.plainAttrs_list PySem.F.slot_list_append PySem.F.type_list_append mt_append (pv 6) (pa_cons (pe_tup (pa_cons (pe_op op_mod (pv 1) (pv 4)) (pa_cons (pe_op op_mod (pe_op op_fdiv (pv 1) (pv 4)) (pv 4)) pa_nil))) pa_nil)))
      (pss_one (ps_set (i := 1) sc_law_web.nd rfl (Or.inl rfl) (pe_op op_fdiv (pe_op op_fdiv (pv 1) (pv 4)) (pv 4)))))
      (pss_one (ps_expr (pe_bmK K PySem.F.plainAttrs_list PySem.F.slot_list_append PySem.F.type_list_append mt_append (pv 6) (pa_cons (pe_tup (pa_cons (pe_call (ok_law_mix T) (hr.mono (by decide)) rfl T.m_law_mix T.f_law_mix.kp T.b_law_mix .nil pass0 (pa_cons (pv 7) (pa_cons (pe_op op_mul pe_int (pv 8)) (pa_cons (pv 4) pa_nil)))) (pa_cons (pe_call (ok_law_mix T) (hr.mono (by decide)) rfl T.m_law_mix T.f_law_mix.kp T.b_law_mix .nil pass0 (pa_cons (pv 7) (pa_cons (pe_op op_add (pe_op op_mul pe_int (pv 8)) pe_int) (pa_cons (pv 4) pa_nil)))) pa_nil))) pa_nil)))))))
      (pss_one (ps_ret (pe_tup (pa_cons (pv 4) (pa_cons (pv 6) pa_nil)))))))))), ?_⟩
    have n0 : 0 ≤ hd % most := Int.emod_nonneg _ (by omega)
    have n1 : hd % most < most := Int.emod_lt_of_pos _ (by omega)
    refine ⟨_, rfl, _, rfl, _, _, rfl, rfl, (by show 0 < most; omega), _, _, rfl, rfl, ?_⟩
    have e0 : 0 ≤ hd / most % (count + 1) := Int.emod_nonneg _ (by omega)
    have e1 : hd / most % (count + 1) < count + 1 := Int.emod_lt_of_pos _ (by omega)
    refine ⟨_, rfl, _, rfl, _, _, rfl, rfl, ⟨by show 0 < most; omega, by show most < 1073741824; omega⟩, _, rfl, _, _, rfl, rfl, _, _, rfl, rfl, (by show 0 < count + 1; omega), ?_⟩
    have hn0 : 1 ≤ 1 + hd % most := by omega
    have hn1 : 1 + hd % most ≤ most := by omega
    obtain ⟨n, hn⟩ : ∃ n, n = 1 + hd % most := ⟨_, rfl⟩
    obtain ⟨C, hC⟩ : ∃ C, C = hd / most % (count + 1) := ⟨_, rfl⟩
    rw [← hn] at hn0 hn1
    rw [← hC] at e0 e1
    refine ⟨Nat.zero_le _, fun l hl => ?_⟩
    refine ⟨_, rfl, ?_⟩
    refine ⟨_, rfl, C, by rw [hC], by omega, by omega, for_range (lo := 0) (n := C.toNat) (fun i σ H2 => ∃ (c2 : Int) (xs : List V) (ps : List (Int × Int)) (v : Option V), σ = [some (.int hd), some (.int c2), some (.int most), some (.int count), some (.int n), some (.int C), some (.ref l), some (.int c), v] ∧ Same H H2 ∧ H2 l = some (.lst xs) ∧ PairsV H2 xs ps ∧ ps.length = i ∧ ∀ p ∈ ps, 0 ≤ p.1 ∧ p.1 < n ∧ 0 ≤ p.2 ∧ p.2 < n)
      ⟨c, [], [], none, by rw [hn, hC]; rfl, same_at hl, upd_same, PairsV.nil, rfl, fun _ h => (by cases h)⟩ ?_ ?_⟩
    · rintro i σ H2 hi ⟨c3, xs, ps, v, rfl, s2, h2, hP, hlp, hb⟩
      have xl : xs.length < sizeLine := small60' (by rw [hP.1]; omega)
      have put : ∀ (a b : Int) (cx : Int) (H3 : Hp) (tp : Addr) (vv : Option V), Same H2 H3 → H3 tp = none → 0 ≤ a → a < n → 0 ≤ b → b < n → ∃ (c2 : Int) (xs2 : List V) (ps : List (Int × Int)) (v : Option V), [some (.int hd), some (.int cx), some (.int most), some (.int count), some (.int n), some (.int C), some (.ref l), some (.int c), vv] = [some (.int hd), some (.int c2), some (.int most), some (.int count), some (.int n), some (.int C), some (.ref l), some (.int c), v] ∧ Same H (upd (upd H3 tp (.tup [.int a, .int b])) l (.lst (xs ++ [.ref tp]))) ∧ (upd (upd H3 tp (.tup [.int a, .int b])) l (.lst (xs ++ [.ref tp]))) l = some (.lst xs2) ∧ PairsV (upd (upd H3 tp (.tup [.int a, .int b])) l (.lst (xs ++ [.ref tp]))) xs2 ps ∧ ps.length = i + 1 ∧ ∀ p ∈ ps, 0 ≤ p.1 ∧ p.1 < n ∧ 0 ≤ p.2 ∧ p.2 < n := by
        intro a b cx H3 tp vv s3 htp a0 a1 b0 b1
        have s4 := same_at (o := .tup [.int a, .int b]) htp
        have hl4 := s4 _ _ (s3 _ _ h2)
        refine ⟨cx, xs ++ [.ref tp], ps ++ [(a, b)], vv, rfl, same_upd hl ((s2.trans s3).trans s4), upd_same, ?_, by rw [List.length_append, hlp]; rfl, fun p hp => ?_⟩
        · exact (((hP.same s3).same s4).snoc ⟨tp, rfl, upd_same⟩).mut hl4
        · rcases List.mem_append.mp hp with h | h
          · exact hb p h
          · rw [List.mem_singleton.mp h]; exact ⟨a0, a1, b0, b1⟩
      have md : ∀ z : Int, 0 ≤ z % n ∧ z % n < n := fun z => ⟨Int.emod_nonneg _ (by omega), Int.emod_lt_of_pos _ (by omega)⟩
      have els : ∀ (H3 : Hp), Same H2 H3 → (_ : Prop) → True := fun _ _ _ => trivial
      refine ⟨_, rfl, _, rfl, _, _, rfl, rfl, ⟨by show 0 < most; omega, by show most < 1073741824; omega⟩, _, rfl, _, _, rfl, rfl, _, _, rfl, rfl, ⟨by show 0 < count + 1; omega, by show count + 1 < 1073741824; omega⟩, _, _, rfl, rfl, (by show (0 : Int) < 2; decide), rfl, _, rfl, ?_⟩
      have two : 2 ≤ sizeLine := by decide
      refine itd2 (fun _ => ?_) (fun _ => ?_)
      · refine ⟨_, rfl, _, rfl, two, fun lp hlp => ?_⟩
        have s3 := same_at (o := .lst [.int 0, .int (-1)]) hlp
        refine ⟨lp, _, rfl, .inl (SqL.of upd_same), rfl, rfl, _, rfl, ?_⟩
        have h3 := s3 _ _ h2
        refine itnb (fun _ => ?_) (fun _ => ?_)
        · refine ⟨_, rfl, .inl ⟨rfl, _, SqL.of h3⟩, ?_⟩
          refine ⟨_, rfl, _, rfl, _, _, rfl, rfl, .inl ⟨by decide, by decide⟩, _, rfl, c, _, n, rfl, by omega, by omega, by omega, fun z1 a0 a1 => ?_⟩
          refine ⟨_, rfl, _, rfl, _, _, rfl, rfl, .inl ⟨by decide, by decide⟩, _, _, rfl, rfl, _, rfl, c, _, n, rfl, by omega, by omega, by omega, fun z2 b0 b1 => ?_⟩
          refine ⟨two, fun tp htp => ?_⟩
          exact ⟨l, xs, _, rfl, rfl, (same_at htp) _ _ h3, xl, put z1 z2 c3 _ tp _ s3 htp a0 a1 b0 b1⟩
        · refine ⟨_, rfl, .inl ⟨rfl, _, SqL.of h3⟩, ?_⟩
          refine ⟨_, rfl, _, rfl, _, _, rfl, rfl, (by show 0 < n; omega), _, rfl, _, rfl, _, _, rfl, rfl, ⟨by show 0 < n; omega, by show n < 1073741824; omega⟩, _, rfl, _, _, rfl, rfl, (by show 0 < n; omega), two, fun tp htp => ?_⟩
          refine ⟨l, xs, _, rfl, rfl, (same_at htp) _ _ h3, xl, ?_⟩
          refine ⟨_, rfl, _, rfl, _, _, rfl, rfl, ⟨by show 0 < n; omega, by show n < 1073741824; omega⟩, _, rfl, _, _, rfl, rfl, ⟨by show 0 < n; omega, by show n < 1073741824; omega⟩, ?_⟩
          exact put _ _ _ _ tp _ s3 htp (md _).1 (md _).2 (md _).1 (md _).2
      · refine ⟨_, rfl, .inl ⟨rfl, _, SqL.of h2⟩, ?_⟩
        refine ⟨_, rfl, _, rfl, _, _, rfl, rfl, .inl ⟨by decide, by decide⟩, _, rfl, c, _, n, rfl, by omega, by omega, by omega, fun z1 a0 a1 => ?_⟩
        refine ⟨_, rfl, _, rfl, _, _, rfl, rfl, .inl ⟨by decide, by decide⟩, _, _, rfl, rfl, _, rfl, c, _, n, rfl, by omega, by omega, by omega, fun z2 b0 b1 => ?_⟩
        refine ⟨two, fun tp htp => ?_⟩
        exact ⟨l, xs, _, rfl, rfl, (same_at htp) _ _ h2, xl, put z1 z2 c3 _ tp _ (Same.refl _) htp a0 a1 b0 b1⟩
    · rintro σ H2 ⟨c3, xs, ps, v, rfl, s2, h2, hP, hlp, hb⟩
      refine ⟨_, rfl, _, rfl, (by show 2 ≤ sizeLine; decide), fun r hr => ?_⟩
      have s3 := same_at (o := .tup [.int n, .ref l]) hr
      exact q r l n xs ps _ (s2.trans s3) upd_same hl (s3 _ _ h2) (hP.same s3) ⟨by omega, by omega, by omega, hb⟩ (by omega) (by omega)
end
end My
namespace My
open PySem L2 PyProof.Rows
set_option maxHeartbeats 4000000
/-- a web that hangs together -/
def sp_law_great (K : PySem.W.Frag) : Sp := fun vs H Q _ => ∃ (a : Addr) (ns : List Int), vs = [.ref a] ∧ SqL K H a (IL ns) ∧ ns.length ≤ 63 ∧
  ∀ (r l : Addr) (n : Int) (xs : List V) (ps : List (Int × Int)) (H' : Hp), Same H H' → H' r = some (.tup [.int n, .ref l]) → H l = none → H' l = some (.lst xs) → PairsV H' xs ps → GoodW n ps → Joined n ps → Q (.ref r) H'
section
variable {P : Program} {w : World} {K : PySem.W.Frag} {mg : Str → Option Value} {base : Heap} {t : Adr}
theorem sc_law_great : FnScope ["script", "head", "places", "ties", "row", "k"] ["script"] (defScope s_law_great) := ⟨rfl, rfl, rfl, by decide +kernel, rfl, by decide +kernel, by decide +kernel⟩
theorem ok_law_great (T : Txt K mg t) : FnOk P w K mg base CX0 3 t.a_law_great t.d_law_great ["script"] (sp_law_great K) := by
  refine T.f_law_great.ok sc_law_great (fun vs H Q E h => ?_) (fun cdv A outer s H vs Q E hr h => ?_)
  · obtain ⟨a, ns, rfl, _⟩ := h
    rfl
  · obtain ⟨a, ns, rfl, hS, hn63, q⟩ := h
    refine ⟨_, (pss_cons (ps_set (i := 1) sc_law_great.nd rfl (Or.inl rfl) (pe_call (ok_law_at T) (hr.mono (by decide)) rfl T.m_law_at T.f_law_at.kp T.b_law_at .nil pass0 (pa_cons (pv 0) (pa_cons pe_int pa_nil))))
      (pss_cons (ps_asg (pe_call (ok_law_web T) (hr.mono (by decide)) rfl T.m_law_web T.f_law_web.kp T.b_law_web .nil pass0 (pa_cons (pv 1) (pa_cons (pe_callB (call_sumK K rfl) (by rfl) T.n_sum Boot.«sum» (pa_cons (pe_slice (sl_listK K) (pv 0) (po_some pe_int) po_none) pa_nil)) (pa_cons pe_int (pa_cons pe_int pa_nil))))) (pg_tupK (n := 2) K rfl (pgs_cons (pg_name (i := 2) sc_law_great.nd rfl (Or.inl rfl)) (pgs_cons (pg_name (i := 3) sc_law_great.nd rfl (Or.inl rfl)) pgs_nil))))
      (pss_cons (ps_set (i := 4) sc_law_great.nd rfl (Or.inl rfl) (pe_lst pa_nil))
      (pss_cons (ps_for PassesOwn.never rfl (pi_range1 rfl T.n_range (pa_cons (pv 2) pa_nil)) (pg_name (i := 5) sc_law_great.nd rfl (Or.inl rfl))
      (pss_one (ps_expr (pe_bmK K PySem.F.plainAttrs_list PySem.F.slot_list_insert PySem.F.type_list_insert mt_insert (pv 4) (pa_cons (pe_call (ok_law_mix T) (hr.mono (by decide)) rfl T.m_law_mix T.f_law_mix.kp T.b_law_mix .nil pass0 (pa_cons (pv 1) (pa_cons (pe_op op_add pe_int (pv 5)) (pa_cons (pe_op op_add (pv 5) pe_int) pa_nil)))) (pa_cons (pv 5) pa_nil))))))
      (pss_cons (ps_for PassesOwn.never rfl (pi_range2 rfl T.n_range (pa_cons pe_int (pa_cons (pv 2) pa_nil))) (pg_name (i := 5) sc_law_great.nd rfl (Or.inl rfl))
      (pss_one (ps_expr (pe_bmK K PySem.F.plainAttrs_list PySem.F.slot_list_insert PySem.F.type_list_insert mt_insert (pv 3) (pa_cons (pe_call (ok_law_mix T) (hr.mono (by decide)) rfl T.m_law_mix T.f_law_mix.kp T.b_law_mix .nil pass0 (pa_cons (pv 1) (pa_cons (pe_op op_add pe_int (pv 5)) (pa_cons (pe_op op_add (pe_callB (call_lenK K) (by rfl) T.n_len Boot.«len» (pa_cons (pv 3) pa_nil)) pe_int) pa_nil)))) (pa_cons (pe_tup (pa_cons (pe_ix (ix_listK K) (pv 4) (pe_call (ok_law_mix T) (hr.mono (by decide)) rfl T.m_law_mix T.f_law_mix.kp T.b_law_mix .nil pass0 (pa_cons (pv 1) (pa_cons (pe_op op_add pe_int (pv 5)) (pa_cons (pv 5) pa_nil)))) (fun _ _ => rfl)) (pa_cons (pe_ix (ix_listK K) (pv 4) (pv 5) (fun _ _ => rfl)) pa_nil))) pa_nil))))))
      (pss_one (ps_ret (pe_tup (pa_cons (pv 2) (pa_cons (pv 3) pa_nil)))))))))), ?_⟩
    have two : 2 ≤ sizeLine := by decide
    refine ⟨_, rfl, a, ns, 0, rfl, hS, by decide, fun hd => ?_⟩
    refine nm ?_
    dsimp only
    refine ⟨_, rfl, _, rfl, _, rfl, a, _, rfl, hS, fun p1 hp1 => ?_⟩
    rw [cutI_eq]
    refine ⟨p1, _, rfl, SqL.of upd_same, ?_⟩
    have s1 := same_at (o := .lst (IL (cutI ns (some 1) none))) hp1
    refine ⟨hd, _, 14, 17, rfl, by decide, by decide, by decide, by decide, fun r l n xs0 ps0 H2 s2 hr2 hl0 hl2 hP0 hG0 hnm hcc => ?_⟩
    refine ⟨r, _, rfl, SqT.of hr2, rfl, _, _, rfl, _, _, rfl, rfl, ?_⟩
    have s02 := s1.trans s2
    have hl00 : H l = none := s1.free hl0
    obtain ⟨g1, g2, g3, g4⟩ := id hG0
    have np : (0 : Int) < n := by omega
    -- row
    refine ⟨Nat.zero_le _, fun ra hra => ?_⟩
    have s3 := same_at (o := .lst []) hra
    have hra0 : H ra = none := s02.free hra
    have hl3 := s3 _ _ hl2
    have nrl : ra ≠ l := fun e => by rw [e, hl2] at hra; cases hra
    have hr3 := upd_same (H := H2) (a := ra) (o := .lst [])
    have hP3 := hP0.same s3
    have s03 := s02.trans s3
    generalize upd H2 ra (.lst []) = H3 at *
    refine ⟨_, rfl, _, rfl, by omega, by omega, for_range (lo := 0) (n := n.toNat) (fun i σ H4 => ∃ (row : List Int) (v7 : Option V), σ = [some (.ref a), some (.int hd), some (.int n), some (.ref l), some (.ref ra), v7] ∧ Same H H4 ∧ H4 l = some (.lst xs0) ∧ PairsV H4 xs0 ps0 ∧ H4 ra = some (.lst (IL row)) ∧ row.length = i ∧ ∀ z, z ∈ row ↔ 0 ≤ z ∧ z < (i : Int))
      ⟨[], none, rfl, s03, hl3, hP3, hr3, rfl, fun z => ⟨fun h => (by cases h), fun h => (by omega)⟩⟩ ?_ ?_⟩
    · rintro i σ H4 hi ⟨row, v7, rfl, s4, hl4, hP4, hr4, hrl, hrm⟩
      refine nm ?_
      refine ⟨_, rfl, .inl ⟨rfl, _, SqL.of hr4⟩, _, rfl, _, rfl, _, _, rfl, rfl, _, rfl, _, _, rfl, rfl, hd, _, _, rfl, by omega, by omega, by omega, fun j j0 j1 => ?_⟩
      refine ⟨_, rfl, ra, _, j, _, rfl, rfl, hr4, j0, by rw [il_length]; omega, small60' (by rw [il_length]; omega), ?_⟩
      rw [il_ins]
      refine ⟨_, _, rfl, same_upd hra0 s4, by rw [upd_ne nrl.symm]; exact hl4, hP4.mut hr4, upd_same, by rw [ins_len, hrl], fun z => ?_⟩
      rw [ins_mem, hrm z]
      omega
    rintro σ H4 ⟨row, v7, rfl, s4, hl4, hP4, hr4, hrl, hrm⟩
    have hrm' : ∀ z, z ∈ row ↔ 0 ≤ z ∧ z < n := fun z => by rw [hrm z]; omega
    -- the further ties
    refine ⟨_, rfl, 1, n, rfl, ⟨by decide, by decide, by omega, by omega⟩, for_range (lo := 1) (n := (n - 1).toNat) (fun i σ H5 => ∃ (xs : List V) (ps : List (Int × Int)) (v7 : Option V), σ = [some (.ref a), some (.int hd), some (.int n), some (.ref l), some (.ref ra), v7] ∧ Same H H5 ∧ H5 l = some (.lst xs) ∧ PairsV H5 xs ps ∧ H5 ra = some (.lst (IL row)) ∧ ps.length = ps0.length + i ∧ (∀ p ∈ ps, 0 ≤ p.1 ∧ p.1 < n ∧ 0 ≤ p.2 ∧ p.2 < n) ∧ ∀ (j : Nat) (z y : Int), j ≤ i → row[j]? = some z → row[0]? = some y → Conn (edN ps) z.toNat y.toNat)
      ⟨xs0, ps0, _, rfl, s4, hl4, hP4, hr4, rfl, g4, fun j z y hj h1 h2 => ?_⟩ ?_ ?_⟩
    · obtain rfl : j = 0 := by omega
      rw [h1] at h2
      obtain rfl := Option.some.inj h2
      exact Conn.refl _
    · rintro i σ H5 hi ⟨xs, ps, v7, rfl, s5, hl5, hP5, hr5, hpl, hpg, hcn⟩
      have hxl := hP5.1
      refine nm ?_
      refine ⟨_, rfl, .inl ⟨rfl, _, SqL.of hl5⟩, _, rfl, _, rfl, _, _, rfl, rfl, _, rfl, l, xs, rfl, .inl (SqL.of hl5), _, _, rfl, rfl, hd, _, _, rfl, by omega, by omega, by omega, fun j j0 j1 => ?_⟩
      refine ⟨_, rfl, _, rfl, _, rfl, _, _, rfl, rfl, _, rfl, hd, _, _, rfl, by omega, by omega, by omega, fun q' q0 q1 => ?_⟩
      obtain ⟨z1, hz1⟩ : ∃ z, row[q'.toNat]? = some z := ⟨_, List.getElem?_eq_getElem (by omega)⟩
      obtain ⟨z2, hz2⟩ : ∃ z, row[i + 1]? = some z := ⟨_, List.getElem?_eq_getElem (by omega)⟩
      have b1 := (hrm' z1).mp (List.mem_of_getElem? hz1)
      have b2 := (hrm' z2).mp (List.mem_of_getElem? hz2)
      refine ⟨ra, _, q', .int z1, rfl, rfl, SqL.of hr5, atI_of (n := q'.toNat) (by omega) (il_at hz1), _, rfl, _, rfl, ra, _, _, .int z2, rfl, rfl, SqL.of hr5, atI_of (n := i + 1) (by omega) (il_at hz2), two, fun pt hpt => ?_⟩
      have u1 := same_at (o := .tup [.int z1, .int z2]) hpt
      have hpt' := upd_same (H := H5) (a := pt) (o := .tup [.int z1, .int z2])
      have hl6 := u1 _ _ hl5
      have hr6 := u1 _ _ hr5
      have hP6 := hP5.same u1
      have s6 := s5.trans u1
      generalize upd H5 pt (.tup [.int z1, .int z2]) = H6 at *
      have npl : pt ≠ l := fun e => by rw [e, hl6] at hpt'; cases hpt'
      refine ⟨l, xs, j, .ref pt, rfl, rfl, hl6, j0, by omega, small60' (by omega), ?_⟩
      have hPV : PairV H6 (.ref pt) (z1, z2) := ⟨pt, rfl, hpt'⟩
      refine ⟨_, ps.take j.toNat ++ (z1, z2) :: ps.drop j.toNat, _, rfl, same_upd hl00 s6, upd_same, (hP6.ins hPV j.toNat (by omega)).mut hl6, by rw [upd_ne nrl]; exact hr6, by rw [ins_len, hpl]; omega, fun p hp => ?_, fun j' z y hj h1 h2 => ?_⟩
      · rcases ins_mem.mp hp with e | e
        · rw [e]; exact ⟨b1.1, b1.2, b2.1, b2.2⟩
        · exact hpg p e
      · have mono : ∀ e ∈ edN ps, e ∈ edN (ps.take j.toNat ++ (z1, z2) :: ps.drop j.toNat) := fun e he => by
          obtain ⟨p, hp, rfl⟩ := List.mem_map.mp he
          exact List.mem_map.mpr ⟨p, ins_mem.mpr (.inr hp), rfl⟩
        by_cases c : j' ≤ i
        · exact (hcn j' z y c h1 h2).mono mono
        · obtain rfl : j' = i + 1 := by omega
          rw [hz2] at h1
          obtain rfl := Option.some.inj h1
          have k1 := (hcn q'.toNat z1 y (by omega) hz1 h2).mono mono
          have k2 : Conn (edN (ps.take j.toNat ++ (z1, z2) :: ps.drop j.toNat)) z1.toNat z2.toNat := Conn.edge (List.mem_map.mpr ⟨(z1, z2), ins_mem.mpr (.inl rfl), rfl⟩)
          exact k2.symm.trans k1
    · rintro σ H5 ⟨xs, ps, v7, rfl, s5, hl5, hP5, hr5, hpl, hpg, hcn⟩
      have hJ : Joined n ps := joined_ed.mpr fun i j hi hj => by
        obtain ⟨y, hy⟩ : ∃ y, row[0]? = some y := ⟨_, List.getElem?_eq_getElem (by omega)⟩
        obtain ⟨i1, e1⟩ := List.getElem?_of_mem ((hrm' (i : Int)).mpr (by omega))
        obtain ⟨i2, e2⟩ := List.getElem?_of_mem ((hrm' (j : Int)).mpr (by omega))
        have l1 := (List.getElem?_eq_some_iff.mp e1).1
        have l2 := (List.getElem?_eq_some_iff.mp e2).1
        have k1 := hcn i1 _ y (by omega) e1 hy
        have k2 := hcn i2 _ y (by omega) e2 hy
        rw [Int.toNat_natCast] at k1 k2
        exact k1.trans k2.symm
      refine ⟨_, rfl, _, rfl, two, fun r6 hr6 => ?_⟩
      exact q r6 l n xs ps _ (s5.trans (same_at hr6)) upd_same hl00 (same_at hr6 _ _ hl5) (hP5.same (same_at hr6)) ⟨g1, g2, by omega, hpg⟩ hJ
end
end My
namespace My
open PySem L2 PyProof.Rows
set_option maxHeartbeats 4000000
/-- ties grown in an order -/
def sp_law_grown (K : PySem.W.Frag) : Sp := fun vs H Q _ => ∃ (n : Int) (a b : Addr) (xs : List V) (ps : List (Int × Int)) (zs : List Int), vs = [.int n, .ref a, .ref b] ∧ SqL K H a xs ∧ PairsV H xs ps ∧ GoodW n ps ∧ SqL K H b (IL zs) ∧ (∀ z ∈ zs, 0 ≤ z ∧ z < (ps.length : Int)) ∧
  ∀ (r : Addr) (ms : List Int) (H' : Hp), Same H H' → H' r = some (.tup (IL ms)) → ms.Perm (grw n.toNat ps zs) → ms.Pairwise (· ≤ ·) → Q (.ref r) H'
section
variable {P : Program} {w : World} {K : PySem.W.Frag} {mg : Str → Option Value} {base : Heap} {t : Adr}
theorem sc_law_grown : FnScope ["places", "ties", "order", "marks", "chosen", "tie", "one", "other"] ["places", "ties", "order"] (defScope s_law_grown) := ⟨rfl, rfl, rfl, by decide +kernel, rfl, by decide +kernel, by decide +kernel⟩
theorem ok_law_grown (T : Txt K mg t) : FnOk P w K mg base CX0 1 t.a_law_grown t.d_law_grown ["places", "ties", "order"] (sp_law_grown K) := by
  refine T.f_law_grown.ok sc_law_grown (fun vs H Q E h => ?_) (fun cdv A outer s H vs Q E hr h => ?_)
  · obtain ⟨n, a, b, xs, ps, zs, rfl, _⟩ := h
    rfl
  · obtain ⟨n, a, b, xs, ps, zs, rfl, hA, hP, hG, hB, hZ, q⟩ := h
    refine ⟨_, (pss_cons (ps_set (i := 3) sc_law_grown.nd rfl (Or.inl rfl) (pe_callTy (call_list_rng rfl) (by rfl) T.n_list Boot.«list» (pa_cons (pe_callTy call_rng1 (by rfl) T.n_range Boot.«range» (pa_cons (pv 0) pa_nil)) pa_nil)))
      (pss_cons (ps_set (i := 4) sc_law_grown.nd rfl (Or.inl rfl) (pe_lst pa_nil))
      (pss_cons (ps_for PassesOwn.never rfl (pi_listK K (pv 2)) (pg_name (i := 5) sc_law_grown.nd rfl (Or.inl rfl))
      (pss_cons (ps_set (i := 6) sc_law_grown.nd rfl (Or.inr rfl) (pe_ix (ix_listK K) (pv 3) (pe_ix (ix_tupK K) (pe_ix (ix_listK K) (pv 1) (pv 5) (fun _ _ => rfl)) pe_int (fun _ _ => rfl)) (fun _ _ => rfl)))
      (pss_cons (ps_set (i := 7) sc_law_grown.nd rfl (Or.inr rfl) (pe_ix (ix_listK K) (pv 3) (pe_ix (ix_tupK K) (pe_ix (ix_listK K) (pv 1) (pv 5) (fun _ _ => rfl)) pe_int (fun _ _ => rfl)) (fun _ _ => rfl)))
      (pss_one (ps_if (pt_cmpR op_ne (pv 6) (pv 7) (nomark _))
      (pss_cons (ps_expr (pe_bmK K PySem.F.plainAttrs_list PySem.F.slot_list_append PySem.F.type_list_append mt_append (pv 4) (pa_cons (pv 5) pa_nil)))
      (pss_one (ps_lc (i := 3) rfl sc_law_grown.nd rfl rfl (sc0 := defScope s_law_grown) (N0 := ["places", "ties", "order", "marks", "chosen", "tie", "one", "other"]) (N' := ["mark", "one", "other"]) (o := 1) (fr := [6, 7]) ⟨rfl, by decide +kernel, by decide +kernel, by decide +kernel, rfl, by decide +kernel⟩ (pi_listK K (pv 3)) (own_name (by decide)) (fun _ _ _ _ => (pg_name (i := 0) (show List.Nodup (["mark", "one", "other"] : List Str) by decide +kernel) rfl (Or.inl rfl))) (fun _ _ _ _ => pts_nil) (fun _ _ _ _ => (pe_ix (ix_listK K) (pe_lst (pa_cons (pv 0) (pa_cons (pv 1) pa_nil))) (pe_callTy call_int1 (by rfl) T.n_int Boot.«int» (pa_cons (pe_cmpR op_eq (pv 0) (pv 2) (nomark _)) pa_nil)) (fun _ _ => rfl))))))
      pss_nil)))))
      (pss_one (ps_ret (pe_callTy (call_tupleK K) (by rfl) T.n_tuple Boot.«tuple» (pa_cons (pe_callB (call_sortedK K) (by rfl) T.n_sorted Boot.«sorted» (pa_cons (pv 4) pa_nil)) pa_nil))))))), ?_⟩
    obtain ⟨g1, g2, g3, g4⟩ := id hG
    have hlx := hP.1
    have two : 2 ≤ sizeLine := by decide
    -- marks
    refine ⟨_, rfl, n, rfl, fun rg hrg => ⟨rg, 0, n, rfl, upd_same, ⟨by decide, by decide, by omega, by omega⟩, by omega, fun m hm => ?_⟩⟩
    have e0 : (rngI 0 n).map V.int = IL (lms n.toNat (endsOf ps [])) := by rw [rngI_zero]; rfl
    have s0 := same_new (o := .lst ((rngI 0 n).map V.int)) (same_at (o := .rng 0 n) hrg) hm
    have hm0 := upd_same (H := upd H rg (.rng 0 n)) (a := m) (o := .lst ((rngI 0 n).map V.int))
    rw [e0] at hm0 s0
    refine nm ?_
    rw [e0]
    generalize upd (upd H rg (.rng 0 n)) m (.lst (IL (lms n.toNat (endsOf ps [])))) = H0 at *
    dsimp only
    refine ⟨Nat.zero_le _, fun td htd => ?_⟩
    have t1 := same_at (o := .lst []) htd
    have htd1 := upd_same (H := H0) (a := td) (o := .lst [])
    have hm1 := t1 _ _ hm0
    have nmt : m ≠ td := ne_of_none hm0 htd
    have hft : H td = none := s0.free htd
    have s1 := s0.trans t1
    generalize upd H0 td (.lst []) = H1 at *
    refine nm ?_
    dsimp only
    refine ⟨_, rfl, b, rfl, ⟨_, s1.seq hB⟩, for_list (K := K) (a := b) (xs := IL zs) (fun i σ H2 => ∃ (mA : Addr) (v5 v6 v7 : Option V), σ = [some (.int n), some (.ref a), some (.ref b), some (.ref mA), some (.ref td), v5, v6, v7] ∧ Same H H2 ∧ mA ≠ td ∧ H2 td = some (.lst (IL (grw n.toNat ps (zs.take i)))) ∧ H2 mA = some (.lst (IL (lms n.toNat (endsOf ps (grw n.toNat ps (zs.take i)))))))
      ⟨m, none, none, none, rfl, s1, nmt, htd1, hm1⟩ (fun i σ H2 _ ⟨_, _, _, _, _, e, _⟩ => e.seq hB) ?_ ?_⟩
    · rintro i v σ H2 hi ⟨mA, v5, v6, v7, rfl, s2, hne, ht2, hm2⟩
      obtain ⟨z, rfl, hz⟩ := il_get hi
      obtain ⟨z0, z1⟩ := hZ z (List.mem_of_getElem? hz)
      obtain ⟨p, hp⟩ : ∃ p, ps[z.toNat]? = some p := ⟨_, List.getElem?_eq_getElem (by omega)⟩
      obtain ⟨vv, hvv, tz, rfl, htz⟩ := hP.2 _ p hp
      have htz2 := s2 _ _ htz
      obtain ⟨b1, b2, b3, b4⟩ := g4 p (List.mem_of_getElem? hp)
      have eo : endOf ps z = (p.1.toNat, p.2.toNat) := by unfold endOf; rw [getD_of hp]
      have tk : zs.take (i + 1) = zs.take i ++ [z] := by rw [List.take_succ, hz]; rfl
      have gz := grw_snoc n.toNat ps (zs.take i) z
      have hgl := grw_len hG (zs := zs.take i) fun y hy => hZ y (List.mem_of_mem_take hy)
      have lL : (lms n.toNat (endsOf ps (grw n.toNat ps (zs.take i)))).length = n.toNat := lms_length _ _
      have lsn : lms n.toNat (endsOf ps (grw n.toNat ps (zs.take i) ++ [z])) = lm (lms n.toNat (endsOf ps (grw n.toNat ps (zs.take i)))) p.1.toNat p.2.toNat := by rw [ends_snoc, eo, lms_snoc]
      rw [tk]
      unfold gst at gz
      rw [eo] at gz
      have hat : atI xs z = some (.ref tz) := atI_of (n := z.toNat) (by omega) hvv
      obtain ⟨G, hG'⟩ : ∃ G, G = grw n.toNat ps (zs.take i) := ⟨_, rfl⟩
      rw [← hG'] at ht2 hm2 gz hgl lL lsn
      obtain ⟨M, hM'⟩ : ∃ M, M = lms n.toNat (endsOf ps G) := ⟨_, rfl⟩
      rw [← hM'] at hm2 gz lL lsn
      have iA : atI (IL M) p.1 = some (.int (mk M p.1.toNat)) := atI_of (n := p.1.toNat) (by omega) (il_at (mk_some (by omega)))
      have iB : atI (IL M) p.2 = some (.int (mk M p.2.toNat)) := atI_of (n := p.2.toNat) (by omega) (il_at (mk_some (by omega)))
      refine nm ?_
      dsimp only
      refine ⟨_, rfl, _, rfl, _, rfl, a, xs, z, .ref tz, rfl, rfl, s2.seq hA, hat, tz, _, 0, .int p.1, rfl, rfl, SqT.of htz2, rfl, mA, _, p.1, _, rfl, rfl, SqL.of hm2, iA, ?_⟩
      refine ⟨_, rfl, _, rfl, _, rfl, a, xs, z, .ref tz, rfl, rfl, s2.seq hA, hat, tz, _, 1, .int p.2, rfl, rfl, SqT.of htz2, rfl, mA, _, p.2, _, rfl, rfl, SqL.of hm2, iB, ?_⟩
      refine nm ?_
      dsimp only
      refine ⟨_, rfl, _, rfl, rfl, _, rfl, ?_⟩
      rw [dec_int]
      refine itn2 (fun heq => ?_) (fun hne2 => ?_)
      · rw [if_pos heq] at gz
        exact ⟨mA, _, _, _, rfl, s2, hne, by rw [gz]; exact ht2, by rw [gz, ← hM']; exact hm2⟩
      rw [if_neg hne2] at gz
      refine ⟨_, rfl, .inl ⟨rfl, _, SqL.of ht2⟩, _, rfl, td, _, _, rfl, rfl, ht2, small60' (by rw [il_length]; omega), ?_⟩
      have s3 : Same H (upd H2 td (.lst (IL G ++ [.int z]))) := same_upd hft s2
      have hm3 : (upd H2 td (.lst (IL G ++ [.int z]))) mA = some (.lst (IL M)) := by rw [upd_ne hne]; exact hm2
      have ht3 : (upd H2 td (.lst (IL G ++ [.int z]))) td = some (.lst (IL (G ++ [z]))) := by rw [upd_same, il_snoc]
      generalize upd H2 td (.lst (IL G ++ [.int z])) = H3 at *
      refine ⟨_, rfl, mA, rfl, ⟨_, SqL.of hm3⟩, lc_list (K := K) (a := mA) (xs := IL M) (fun j ys H4 => Same H3 H4 ∧ j ≤ M.length ∧ ys = IL ((M.take j).map fun k => if k = mk M p.2.toNat then mk M p.1.toNat else k)) ⟨Same.refl _, Nat.zero_le _, rfl⟩ (small60' (by rw [il_length]; omega))
          (fun j ys H4 hj ⟨e, hjl, ey⟩ => ⟨SqL.of (e _ _ hm3), by rw [ey, il_length, List.length_map, List.length_take]; omega⟩) ?_ ?_⟩
      · rintro j y ys H4 hj ⟨s4, hjl, rfl⟩ S hSS
        obtain ⟨k, rfl, hk⟩ := il_get hj
        have hjl' : j < M.length := (List.getElem?_eq_some_iff.mp hk).1
        refine nm ?_
        refine ⟨_, rfl, _, rfl, two, fun lp hlp => ?_⟩
        have s5 := same_at (o := .lst [.int k, .int (mk M p.1.toNat)]) hlp
        refine ⟨_, rfl, _, rfl, rfl, .inr ⟨_, rfl, ?_⟩⟩
        rw [dec_int]
        have app : IL ((M.take j).map fun k => if k = mk M p.2.toNat then mk M p.1.toNat else k) ++ [.int (if k = mk M p.2.toNat then mk M p.1.toNat else k)] = IL ((M.take (j + 1)).map fun k => if k = mk M p.2.toNat then mk M p.1.toNat else k) := by
          rw [List.take_succ, hk]
          simp
        by_cases he : k = mk M p.2.toNat
        · rw [if_pos he] at app
          rw [decide_eq_true he]
          exact ⟨lp, _, 1, .int (mk M p.1.toNat), rfl, rfl, SqL.of upd_same, rfl, hSS _ _ ⟨s4.trans s5, hjl', app⟩⟩
        · rw [if_neg he] at app
          rw [decide_eq_false he]
          exact ⟨lp, _, 0, .int k, rfl, rfl, SqL.of upd_same, rfl, hSS _ _ ⟨s4.trans s5, hjl', app⟩⟩
      rintro us H4 ⟨s4, _, rfl⟩ la hla
      rw [il_length, List.take_length]
      have elm : (M.map fun k => if k = mk M p.2.toNat then mk M p.1.toNat else k) = lms n.toNat (endsOf ps (G ++ [z])) := by
        rw [lsn]
        unfold lm
        rw [if_pos hne2]
      rw [elm]
      have w1 := same_at (o := .lst (IL (lms n.toNat (endsOf ps (G ++ [z]))))) hla
      have ht4 := s4 _ _ ht3
      exact ⟨la, _, _, _, rfl, s3.trans (s4.trans w1), Ne.symm (ne_of_none ht4 hla), by rw [gz]; exact w1 _ _ ht4, by rw [gz]; exact upd_same⟩
    rintro σ H2 ⟨mA, v5, v6, v7, rfl, s2, hne, ht2, hm2⟩
    rw [il_length, List.take_length] at ht2
    have hgl := grw_len hG hZ
    refine ⟨_, rfl, td, _, rfl, SqL.of ht2, by omega, fun ms hpm hpw sA hsA => ?_⟩
    have w2 := same_at (o := .lst (IL ms)) hsA
    refine ⟨sA, _, rfl, .inl ⟨SqL.of upd_same, fun r hr => ?_⟩⟩
    exact q r ms _ (s2.trans (w2.trans (same_at hr))) upd_same hpm hpw
end
end My
namespace My
open PySem L2 PyProof.Rows
set_option maxHeartbeats 4000000
/-- all numbers in an order -/
def sp_law_order : Sp := fun vs H Q _ => ∃ (c : Int) (m : Nat), vs = [.int c, .int m] ∧ m ≤ 60 ∧ ∀ (r : Addr) (zs : List Int) (H' : Hp), Same H H' → H' r = some (.lst (IL zs)) → zs.Nodup → zs.length = m → (∀ z, z ∈ zs ↔ 0 ≤ z ∧ z < (m : Int)) → Q (.ref r) H'
theorem ins_nodup {l : List Int} {x : Int} {j : Nat} (h : l.Nodup) (hx : x ∉ l) : (l.take j ++ x :: l.drop j).Nodup := by
  have p : (l.take j ++ x :: l.drop j).Perm (x :: l) := by
    have := List.perm_middle (a := x) (l₁ := l.take j) (l₂ := l.drop j)
    rwa [List.take_append_drop] at this
  exact p.nodup_iff.mpr (List.nodup_cons.mpr ⟨hx, h⟩)
section
variable {P : Program} {w : World} {K : PySem.W.Frag} {mg : Str → Option Value} {base : Heap} {t : Adr}
theorem sc_law_order : FnScope ["cell", "count", "order", "k"] ["cell", "count"] (defScope s_law_order) := ⟨rfl, rfl, rfl, by decide +kernel, rfl, by decide +kernel, by decide +kernel⟩
theorem ok_law_order (T : Txt K mg t) : FnOk P w K mg base CX0 2 t.a_law_order t.d_law_order ["cell", "count"] sp_law_order := by
  refine T.f_law_order.ok sc_law_order (fun vs H Q E h => ?_) (fun cdv A outer s H vs Q E hr h => ?_)
  · obtain ⟨c, m, rfl, _⟩ := h
    rfl
  · obtain ⟨c, m, rfl, hm, q⟩ := h
    refine ⟨_, (pss_cons (ps_set (i := 2) sc_law_order.nd rfl (Or.inl rfl) (pe_lst pa_nil))
      (pss_cons (ps_for PassesOwn.never rfl (pi_range1 rfl T.n_range (pa_cons (pv 1) pa_nil)) (pg_name (i := 3) sc_law_order.nd rfl (Or.inl rfl))
      (pss_one (ps_expr (pe_bmK K PySem.F.plainAttrs_list PySem.F.slot_list_insert PySem.F.type_list_insert mt_insert (pv 2) (pa_cons (pe_call (ok_law_mix T) (hr.mono (by decide)) rfl T.m_law_mix T.f_law_mix.kp T.b_law_mix .nil pass0 (pa_cons (pv 0) (pa_cons (pe_op op_add pe_int (pv 3)) (pa_cons (pe_op op_add (pv 3) pe_int) pa_nil)))) (pa_cons (pv 3) pa_nil))))))
      (pss_one (ps_ret (pv 2))))), ?_⟩
    refine ⟨Nat.zero_le _, fun ra hra => ?_⟩
    have s3 := same_at (o := .lst []) hra
    refine ⟨_, rfl, m, rfl, by omega, by omega, for_range (lo := 0) (n := (m : Int).toNat) (fun i σ H4 => ∃ (row : List Int) (v : Option V), σ = [some (.int c), some (.int m), some (.ref ra), v] ∧ Same H H4 ∧ H4 ra = some (.lst (IL row)) ∧ row.Nodup ∧ row.length = i ∧ ∀ z, z ∈ row ↔ 0 ≤ z ∧ z < (i : Int)) ⟨[], none, rfl, s3, upd_same, .nil, rfl, fun z => ⟨fun h => (by cases h), fun h => (by omega)⟩⟩ ?_ ?_⟩
    · rintro i σ H4 hi ⟨row, v, rfl, s4, hr4, hnd, hrl, hrm⟩
      refine nm ?_
      refine ⟨_, rfl, .inl ⟨rfl, _, SqL.of hr4⟩, _, rfl, _, rfl, _, _, rfl, rfl, _, rfl, _, _, rfl, rfl, c, _, _, rfl, by omega, by omega, by omega, fun j j0 j1 => ?_⟩
      refine ⟨_, rfl, ra, _, j, _, rfl, rfl, hr4, j0, by rw [il_length]; omega, small60' (by rw [il_length]; omega), ?_⟩
      rw [il_ins]
      refine ⟨_, _, rfl, same_upd hra s4, upd_same, ins_nodup hnd (fun h => by have := (hrm _).mp h; omega), by rw [ins_len, hrl], fun z => ?_⟩
      rw [ins_mem, hrm z]
      omega
    · rintro σ H4 ⟨row, v, rfl, s4, hr4, hnd, hrl, hrm⟩
      rw [Int.toNat_natCast] at hrl hrm
      exact ⟨_, rfl, q ra row H4 s4 hr4 hnd hrl hrm⟩
end
end My
namespace My
open PySem L2 PyProof.Rows
set_option maxHeartbeats 4000000
/-- the partners of all ties -/
def sp_law_partners_good (K : PySem.W.Frag) (C : Addr) : Sp := fun vs H Q _ => ∃ (w a b : Addr) (n : Int) (ps : List (Int × Int)) (T W : List Int), vs = [.ref w, .ref a, .ref b] ∧ WebAt C H w n ps ∧ GoodW n ps ∧ H a = some (.tup (IL T)) ∧ H b = some (.tup (IL W)) ∧ IsTree n ps T ∧ IsTree n ps W ∧ ∀ H' : Hp, Same H H' → Q (.bl true) H'
section
variable {P : Program} {w : World} {K : PySem.W.Frag} {mg : Str → Option Value} {base : Heap} {t : Adr}
theorem sc_law_partners_good : FnScope ["web", "one", "other", "tie", "into", "first", "second"] ["web", "one", "other"] (defScope s_law_partners_good) := ⟨rfl, rfl, rfl, by decide +kernel, rfl, by decide +kernel, by decide +kernel⟩
theorem ok_law_partners_good (T : Txt K mg t) : FnOk P w K mg base CX0 10 t.a_law_partners_good t.d_law_partners_good ["web", "one", "other"] (sp_law_partners_good K t.A_Web) := by
  refine T.f_law_partners_good.ok sc_law_partners_good (fun vs H Q E h => ?_) (fun cdv A outer s H vs Q E hr h => ?_)
  · obtain ⟨w, a, b, n, ps, T, W, rfl, _⟩ := h
    rfl
  · obtain ⟨w, a, b, n, ps, T1, W, rfl, hW, hG, hA, hB, hT, hV, q⟩ := h
    refine ⟨_, (pss_cons (ps_for PassesOwn.never rfl (pi_tupK K (pv 1)) (pg_name (i := 3) sc_law_partners_good.nd rfl (Or.inr rfl))
      (pss_one (ps_if (pt_cmpR (op_notInK K) (pv 3) (pv 2) rfl)
      (pss_cons (ps_set (i := 4) sc_law_partners_good.nd rfl (Or.inr rfl) (pe_call (ok_partner_of T) (hr.mono (by decide)) rfl T.m_partner_of T.f_partner_of.kp T.b_partner_of .nil passN (pa_cons (pv 0) (pa_cons (pv 1) (pa_cons (pv 2) (pa_cons (pv 3) pa_nil))))))
      (pss_cons (ps_if (PW.pt (pw_or (pt_cmpR (op_notInK K) (pv 4) (pv 2) rfl) (pw_or1 (pt_cmpR (op_inK K) (pv 4) (pv 1) rfl))))
      (pss_one (ps_ret pe_bl))
      pss_nil)
      (pss_cons (ps_set (i := 5) sc_law_partners_good.nd rfl (Or.inl rfl) (pe_callB (call_sortedK K) (by rfl) T.n_sorted Boot.«sorted» (pa_cons (pe_op (op_catK K) (pe_lc rfl (sc0 := defScope s_law_partners_good) (N0 := ["web", "one", "other", "tie", "into", "first", "second"]) (N' := ["number", "tie"]) (o := 1) (fr := [3]) ⟨rfl, by decide +kernel, by decide +kernel, by decide +kernel, rfl, by decide +kernel⟩ (pi_tupK K (pv 1)) (own_name (by decide)) (fun _ _ _ _ => (pg_name (i := 0) (show List.Nodup (["number", "tie"] : List Str) by decide +kernel) rfl (Or.inl rfl))) (fun _ _ _ _ => (pts_one (pt_cmpR op_ne (pv 0) (pv 1) (nomark _)))) (fun _ _ _ _ => (pv 0))) (pe_lst (pa_cons (pv 4) pa_nil))) pa_nil)))
      (pss_cons (ps_set (i := 6) sc_law_partners_good.nd rfl (Or.inl rfl) (pe_callB (call_sortedK K) (by rfl) T.n_sorted Boot.«sorted» (pa_cons (pe_op (op_catK K) (pe_lc rfl (sc0 := defScope s_law_partners_good) (N0 := ["web", "one", "other", "tie", "into", "first", "second"]) (N' := ["number", "into"]) (o := 1) (fr := [4]) ⟨rfl, by decide +kernel, by decide +kernel, by decide +kernel, rfl, by decide +kernel⟩ (pi_tupK K (pv 2)) (own_name (by decide)) (fun _ _ _ _ => (pg_name (i := 0) (show List.Nodup (["number", "into"] : List Str) by decide +kernel) rfl (Or.inl rfl))) (fun _ _ _ _ => (pts_one (pt_cmpR op_ne (pv 0) (pv 1) (nomark _)))) (fun _ _ _ _ => (pv 0))) (pe_lst (pa_cons (pv 3) pa_nil))) pa_nil)))
      (pss_one (ps_if (PW.pt (pw_or (pt_not (pt_val (pe_call (ok_is_tree T) (hr.mono (by decide)) rfl T.m_is_tree T.f_is_tree.kp T.b_is_tree .nil pass0 (pa_cons (pv 0) (pa_cons (pv 5) pa_nil))))) (pw_or1 (pt_not (pt_val (pe_call (ok_is_tree T) (hr.mono (by decide)) rfl T.m_is_tree T.f_is_tree.kp T.b_is_tree .nil pass0 (pa_cons (pv 0) (pa_cons (pv 6) pa_nil))))))))
      (pss_one (ps_ret pe_bl))
      pss_nil))))))
      pss_nil)))
      (pss_one (ps_ret pe_bl))), ?_⟩
    have one : 1 ≤ sizeLine := by decide
    obtain ⟨g1, g2, g3, g4⟩ := id hG
    have lT : T1.length ≤ 13 := by have := hT.2.1; omega
    have lW : W.length ≤ 13 := by have := hV.2.1; omega
    have fil : ∀ (H2 : Hp) (c : Addr) (S : List Int) (o : Int) (i : Nat) (y : Int), S[i]? = some y → (if y ≠ o then IL (wo (S.take i) o) ++ [.int y] else IL (wo (S.take i) o)) = IL (wo (S.take (i + 1)) o) := fun H2 c S o i y hy => by
      have e : S.take (i + 1) = S.take i ++ [y] := by rw [List.take_succ, hy]; rfl
      unfold wo
      rw [e, List.filter_append]
      by_cases h : y = o
      · rw [if_neg (fun q => q h), List.filter_cons_of_neg (by simpa using h), List.filter_nil, List.append_nil]
      · rw [if_pos h, List.filter_cons_of_pos (by simpa using h)]
        exact (il_snoc ..).symm
    refine ⟨_, rfl, a, rfl, ⟨_, SqT.of hA⟩, for_tup (K := K) (a := a) (xs := IL T1) (fun i σ H2 => ∃ (v3 v4 v5 v6 : Option V), σ = [some (.ref w), some (.ref a), some (.ref b), v3, v4, v5, v6] ∧ Same H H2) ⟨none, none, none, none, rfl, Same.refl _⟩ (fun i σ H2 _ ⟨_, _, _, _, _, e⟩ => SqT.of (e _ _ hA)) ?_ ?_⟩
    · rintro i v σ H2 hi ⟨v3, v4, v5, v6, rfl, s2⟩
      obtain ⟨z, rfl, hz⟩ := il_get hi
      have hzT := List.mem_of_getElem? hz
      obtain ⟨z0, z1⟩ := hT.1.all z hzT
      refine nm ?_
      dsimp only
      refine ⟨_, rfl, _, rfl, b, _, rfl, .inr (SqT.of (s2 _ _ hB)), rfl, flat_ints _, _, rfl, ?_⟩
      rw [inV_ints]
      refine itn2 (fun hin => ?_) (fun hin => ?_)
      · exact ⟨_, _, _, _, rfl, s2⟩
      refine ⟨_, rfl, _, rfl, _, rfl, _, rfl, w, a, b, n, ps, true, true, T1, W, z, rfl, hW.same s2, hG, SqT.of (s2 _ _ hA), SqT.of (s2 _ _ hB), by omega, by omega, fun _ _ _ _ y e1 e2 _ H3 s3 => ?_, fun _ _ h => absurd ⟨hzT, hin⟩ h, fun h => absurd ⟨hT, hV⟩ h⟩
      have t3 := s2.trans s3
      have yT : y ∉ T1 := ((exg_iff hG hT).mp e1).2.1
      have yW : y ∈ W := e2.1
      refine nm ?_
      dsimp only
      refine ⟨_, rfl, _, rfl, b, _, rfl, .inr (SqT.of (t3 _ _ hB)), rfl, flat_ints _, _, rfl, ?_⟩
      rw [inV_ints]
      refine itn yW ?_
      refine ⟨_, rfl, _, rfl, a, _, rfl, .inr (SqT.of (t3 _ _ hA)), rfl, flat_ints _, _, rfl, ?_⟩
      rw [inV_ints]
      refine itdn yT ?_
      -- first
      refine ⟨_, rfl, a, rfl, ⟨_, SqT.of (t3 _ _ hA)⟩, lc_tup (K := K) (a := a) (xs := IL T1) (fun k zs H4 => H4 = H3 ∧ zs = IL (wo (T1.take k) z)) ⟨rfl, rfl⟩ (small60' (by rw [il_length]; omega)) (fun k zs H4 hk ⟨e, ez⟩ => ⟨e ▸ SqT.of (t3 _ _ hA), by rw [ez, il_length]; exact Nat.le_trans (wo_len _ _) (by rw [List.length_take]; exact Nat.min_le_left _ _)⟩) ?_ ?_⟩
      · rintro k v zs H4 hk ⟨rfl, rfl⟩ SS hSS
        obtain ⟨u, rfl, hu⟩ := il_get hk
        have f := fil H4 a T1 z k u hu
        refine nm ?_
        refine ⟨_, rfl, _, rfl, rfl, _, rfl, ?_⟩
        rw [dec_int]
        refine itn2 (fun h => ?_) (fun h => ?_)
        · rw [if_neg (fun q => q h)] at f
          exact hSS _ _ ⟨rfl, f⟩
        · rw [if_pos h] at f
          exact ⟨_, rfl, hSS _ _ ⟨rfl, f⟩⟩
      rintro zs H4 ⟨rfl, rfl⟩ p1 hp1
      rw [il_length, List.take_length]
      have u1 := same_at (o := .lst (IL (wo T1 z))) hp1
      have k1 := upd_same (H := H4) (a := p1) (o := .lst (IL (wo T1 z)))
      generalize upd H4 p1 (.lst (IL (wo T1 z))) = H5 at *
      refine ⟨_, rfl, one, fun p2 hp2 => ?_⟩
      have u2 := same_at (o := .lst [.int y]) hp2
      have k2 : (upd H5 p2 (.lst [.int y])) p2 = some (.lst (IL [y])) := upd_same
      generalize upd H5 p2 (.lst [.int y]) = H6 at *
      have wl := wo_len T1 z
      refine ⟨p1, p2, _, _, rfl, rfl, SqL.of (u2 _ _ k1), SqL.of k2, small60 (by rw [il_length, il_length]; show (wo T1 z).length + 1 ≤ _; omega), fun p3 hp3 => ?_⟩
      rw [show IL (wo T1 z) ++ IL [y] = IL (wo T1 z ++ [y]) from (List.map_append ..).symm]
      have u3 := same_at (o := .lst (IL (wo T1 z ++ [y]))) hp3
      have k3 := upd_same (H := H6) (a := p3) (o := .lst (IL (wo T1 z ++ [y])))
      generalize upd H6 p3 (.lst (IL (wo T1 z ++ [y]))) = H7 at *
      refine ⟨p3, _, rfl, SqL.of k3, by rw [List.length_append]; show _ + 1 < 64; omega, fun ms m1 m2 p4 hp4 => ?_⟩
      have u4 := same_at (o := .lst (IL ms)) hp4
      have k4 : (upd H7 p4 (.lst (ms.map V.int))) p4 = some (.lst (IL ms)) := upd_same
      have t7 := t3.trans (u1.trans (u2.trans (u3.trans u4)))
      have trM := exg_tree hG hT e1 m1 m2
      refine nm ?_
      dsimp only
      show tSeq _ _ _ _ (upd H7 p4 (.lst (IL ms)))
      generalize upd H7 p4 (.lst (IL ms)) = H8 at *
      -- second
      refine ⟨_, rfl, b, rfl, ⟨_, SqT.of (t7 _ _ hB)⟩, lc_tup (K := K) (a := b) (xs := IL W) (fun k zs H9 => H9 = H8 ∧ zs = IL (wo (W.take k) y)) ⟨rfl, rfl⟩ (small60' (by rw [il_length]; omega)) (fun k zs H9 hk ⟨e, ez⟩ => ⟨e ▸ SqT.of (t7 _ _ hB), by rw [ez, il_length]; exact Nat.le_trans (wo_len _ _) (by rw [List.length_take]; exact Nat.min_le_left _ _)⟩) ?_ ?_⟩
      · rintro k v zs H9 hk ⟨rfl, rfl⟩ SS hSS
        obtain ⟨u, rfl, hu⟩ := il_get hk
        have f := fil H9 b W y k u hu
        refine nm ?_
        refine ⟨_, rfl, _, rfl, rfl, _, rfl, ?_⟩
        rw [dec_int]
        refine itn2 (fun h => ?_) (fun h => ?_)
        · rw [if_neg (fun q => q h)] at f
          exact hSS _ _ ⟨rfl, f⟩
        · rw [if_pos h] at f
          exact ⟨_, rfl, hSS _ _ ⟨rfl, f⟩⟩
      rintro zs H9 ⟨rfl, rfl⟩ q1 hq1
      rw [il_length, List.take_length]
      have w1 := same_at (o := .lst (IL (wo W y))) hq1
      have j1 := upd_same (H := H9) (a := q1) (o := .lst (IL (wo W y)))
      generalize upd H9 q1 (.lst (IL (wo W y))) = H10 at *
      refine ⟨_, rfl, one, fun q2 hq2 => ?_⟩
      have w2 := same_at (o := .lst [.int z]) hq2
      have j2 : (upd H10 q2 (.lst [.int z])) q2 = some (.lst (IL [z])) := upd_same
      generalize upd H10 q2 (.lst [.int z]) = H11 at *
      have wl2 := wo_len W y
      refine ⟨q1, q2, _, _, rfl, rfl, SqL.of (w2 _ _ j1), SqL.of j2, small60 (by rw [il_length, il_length]; show (wo W y).length + 1 ≤ _; omega), fun q3 hq3 => ?_⟩
      rw [show IL (wo W y) ++ IL [z] = IL (wo W y ++ [z]) from (List.map_append ..).symm]
      have w3 := same_at (o := .lst (IL (wo W y ++ [z]))) hq3
      have j3 := upd_same (H := H11) (a := q3) (o := .lst (IL (wo W y ++ [z])))
      generalize upd H11 q3 (.lst (IL (wo W y ++ [z]))) = H12 at *
      refine ⟨q3, _, rfl, SqL.of j3, by rw [List.length_append]; show _ + 1 < 64; omega, fun ms2 m3 m4 q4 hq4 => ?_⟩
      have w4 := same_at (o := .lst (IL ms2)) hq4
      have j4 : (upd H12 q4 (.lst (ms2.map V.int))) q4 = some (.lst (IL ms2)) := upd_same
      have w14 := w1.trans (w2.trans (w3.trans w4))
      have t12 := t7.trans w14
      have trW := exg_tree hG hV e2 m3 m4
      have k412 := w14 _ _ k4
      refine nm ?_
      dsimp only
      show tIfS _ _ _ _ _ (upd H12 q4 (.lst (IL ms2)))
      generalize upd H12 q4 (.lst (IL ms2)) = H13 at *
      refine ⟨_, rfl, _, rfl, w, p4, n, ps, false, ms, rfl, hW.same t12, hG, SqL.of k412, fun b1 H14 s14 hb1 => ⟨_, rfl, ?_⟩⟩
      obtain rfl : b1 = true := hb1.mpr trM
      refine iteF ?_
      have t14 := t12.trans s14
      refine ⟨_, rfl, _, rfl, w, q4, n, ps, false, ms2, rfl, hW.same t14, hG, SqL.of (s14 _ _ j4), fun b2 H15 s15 hb2 => ⟨_, rfl, ?_⟩⟩
      obtain rfl : b2 = true := hb2.mpr trW
      refine iteF ?_
      exact ⟨_, _, _, _, rfl, t14.trans s15⟩
    rintro σ H2 ⟨v3, v4, v5, v6, rfl, s2⟩
    exact q H2 s2
end
end My
namespace My
open PySem L2 PyProof.Rows
set_option maxHeartbeats 4000000
def sp_law (K : PySem.W.Frag) : Sp := fun vs H Q _ => ∃ (a : Addr) (ns : List Int), vs = [.ref a] ∧ SqL K H a (IL ns) ∧ ns.length ≤ 63 ∧ ∀ H', Q (.bl true) H'
/-- the numbers below i that are not of S -/
def oth5 (S : List Int) (i : Nat) : List Int := (rgL i).filter fun z => decide (z ∉ S)
theorem oth5_set (S : List Int) (m : Nat) : IsSet m (oth5 S m) := isSet_iff.mpr ⟨fun z hz => rgL_mem.mp (List.mem_filter.mp hz).1, (rgL_asc m).filter _⟩
theorem oth5_succ (S : List Int) (i : Nat) : oth5 S (i + 1) = oth5 S i ++ (if (i : Int) ∉ S then [(i : Int)] else []) := by
  unfold oth5 rgL
  rw [List.range_succ, List.map_append, List.filter_append]
  congr 1
  by_cases c : (i : Int) ∈ S
  · rw [if_neg (fun h => h c)]
    exact List.filter_cons_of_neg (by simpa using c)
  · rw [if_pos c]
    exact List.filter_cons_of_pos (by simpa using c)
section
variable {P : Program} {w : World} {K : PySem.W.Frag} {mg : Str → Option Value} {base : Heap} {t : Adr}
theorem sc_law : FnScope ["script", "places", "ties", "web", "one", "other", "due", "walk", "back", "rest", "far"] ["script"] (defScope s_law) := ⟨rfl, rfl, rfl, by decide +kernel, rfl, by decide +kernel, by decide +kernel⟩
theorem ok_law (T : Txt K mg t) : FnOk P w K mg base CX0 12 t.a_law t.d_law ["script"] (sp_law K) := by
  refine T.f_law.ok sc_law (fun vs H Q E h => ?_) (fun cdv A outer s H vs Q E hr h => ?_)
  · obtain ⟨a, ns, rfl, _⟩ := h
    rfl
  · obtain ⟨a, ns, rfl, hS, hn63, k⟩ := h
    refine ⟨_, (pss_cons (ps_asg (pe_call (ok_law_great T) (hr.mono (by decide)) rfl T.m_law_great T.f_law_great.kp T.b_law_great .nil pass0 (pa_cons (pv 0) pa_nil)) (pg_tupK (n := 2) K rfl (pgs_cons (pg_name (i := 1) sc_law.nd rfl (Or.inl rfl)) (pgs_cons (pg_name (i := 2) sc_law.nd rfl (Or.inl rfl)) pgs_nil))))
      (pss_cons (ps_set (i := 3) sc_law.nd rfl (Or.inl rfl) (pe_make T.k_Web (ok_Web___init T) (hr.mono (by decide)) rfl T.c_Web T.b_Web___init .nil pass0 (pa_cons (pv 1) (pa_cons (pv 2) pa_nil))))
      (pss_cons (ps_set (i := 4) sc_law.nd rfl (Or.inr rfl) (pe_call (ok_law_grown T) (hr.mono (by decide)) rfl T.m_law_grown T.f_law_grown.kp T.b_law_grown .nil pass0 (pa_cons (pv 1) (pa_cons (pv 2) (pa_cons (pe_call (ok_law_order T) (hr.mono (by decide)) rfl T.m_law_order T.f_law_order.kp T.b_law_order .nil pass0 (pa_cons (pe_call (ok_law_at T) (hr.mono (by decide)) rfl T.m_law_at T.f_law_at.kp T.b_law_at .nil pass0 (pa_cons (pv 0) (pa_cons pe_int pa_nil))) (pa_cons (pe_callB (call_lenK K) (by rfl) T.n_len Boot.«len» (pa_cons (pv 2) pa_nil)) pa_nil))) pa_nil)))))
      (pss_cons (ps_set (i := 5) sc_law.nd rfl (Or.inr rfl) (pe_call (ok_law_grown T) (hr.mono (by decide)) rfl T.m_law_grown T.f_law_grown.kp T.b_law_grown .nil pass0 (pa_cons (pv 1) (pa_cons (pv 2) (pa_cons (pe_call (ok_law_order T) (hr.mono (by decide)) rfl T.m_law_order T.f_law_order.kp T.b_law_order .nil pass0 (pa_cons (pe_call (ok_law_at T) (hr.mono (by decide)) rfl T.m_law_at T.f_law_at.kp T.b_law_at .nil pass0 (pa_cons (pv 0) (pa_cons pe_int pa_nil))) (pa_cons (pe_callB (call_lenK K) (by rfl) T.n_len Boot.«len» (pa_cons (pv 2) pa_nil)) pa_nil))) pa_nil)))))
      (pss_cons (ps_set (i := 6) sc_law.nd rfl (Or.inl rfl) (pe_callB (call_lenK K) (by rfl) T.n_len Boot.«len» (pa_cons (pe_lc rfl (sc0 := defScope s_law) (N0 := ["script", "places", "ties", "web", "one", "other", "due", "walk", "back", "rest", "far"]) (N' := ["tie", "other"]) (o := 1) (fr := [5]) ⟨rfl, by decide +kernel, by decide +kernel, by decide +kernel, rfl, by decide +kernel⟩ (pi_tupK K (pv 4)) (own_name (by decide)) (fun _ _ _ _ => (pg_name (i := 0) (show List.Nodup (["tie", "other"] : List Str) by decide +kernel) rfl (Or.inl rfl))) (fun _ _ _ _ => (pts_one (pt_cmpR (op_notInK K) (pv 0) (pv 1) rfl))) (fun _ _ _ _ => (pv 0))) pa_nil)))
      (pss_cons (ps_if (PW.pt (pw_or (pt_cmpR op_ne (pe_call (ok_differ T) (hr.mono (by decide)) rfl T.m_differ T.f_differ.kp T.b_differ .nil passN (pa_cons (pv 3) (pa_cons (pv 4) (pa_cons (pv 5) pa_nil)))) (pv 6) (nomark _)) (pw_or1 (pt_cmpR op_ne (pe_call (ok_differ T) (hr.mono (by decide)) rfl T.m_differ T.f_differ.kp T.b_differ .nil passN (pa_cons (pv 3) (pa_cons (pv 5) (pa_cons (pv 4) pa_nil)))) (pv 6) (nomark _)))))
      (pss_one (ps_ret pe_bl))
      pss_nil)
      (pss_cons (ps_set (i := 7) sc_law.nd rfl (Or.inl rfl) (pe_call (ok_walk_between T) (hr.mono (by decide)) rfl T.m_walk_between T.f_walk_between.kp T.b_walk_between .nil passN (pa_cons (pv 3) (pa_cons (pv 4) (pa_cons (pv 5) pa_nil)))))
      (pss_cons (ps_if (PW.pt (pw_or (pt_cmpR op_ne (pe_callB (call_lenK K) (by rfl) T.n_len Boot.«len» (pa_cons (pv 7) pa_nil)) (pv 6) (nomark _)) (pw_or1 (pt_cmpR (op_neDK K (hu8 hr)) (pe_call (ok_walked T) (hr.mono (by decide)) rfl T.m_walked T.f_walked.kp T.b_walked .nil passN (pa_cons (pv 3) (pa_cons (pv 4) (pa_cons (pv 7) pa_nil)))) (pv 5) (nomark _)))))
      (pss_one (ps_ret pe_bl))
      pss_nil)
      (pss_cons (ps_lc (i := 8) rfl sc_law.nd rfl rfl (sc0 := defScope s_law) (N0 := ["script", "places", "ties", "web", "one", "other", "due", "walk", "back", "rest", "far"]) (N' := ["out", "into"]) (o := 2) (fr := []) ⟨rfl, by decide +kernel, by decide +kernel, by decide +kernel, rfl, by decide +kernel⟩ (pi_rev K rfl T.n_reversed (pa_cons (pv 7) pa_nil)) (own_tup (own_cons (by decide) (own_cons (by decide) own_nil))) (fun _ _ _ _ => (pg_tupK (n := 2) K rfl (pgs_cons (pg_name (i := 0) (show List.Nodup (["out", "into"] : List Str) by decide +kernel) rfl (Or.inl rfl)) (pgs_cons (pg_name (i := 1) (show List.Nodup (["out", "into"] : List Str) by decide +kernel) rfl (Or.inl rfl)) pgs_nil)))) (fun _ _ _ _ => pts_nil) (fun _ _ _ _ => (pe_tup (pa_cons (pv 1) (pa_cons (pv 0) pa_nil)))))
      (pss_cons (ps_if (PW.pt (pw_or (pt_cmpR (op_neDK K (hu8 hr)) (pe_call (ok_walked T) (hr.mono (by decide)) rfl T.m_walked T.f_walked.kp T.b_walked .nil passN (pa_cons (pv 3) (pa_cons (pv 5) (pa_cons (pv 8) pa_nil)))) (pv 4) (nomark _)) (pw_or1 (pt_not (pt_val (pe_call (ok_law_partners_good T) (hr.mono (by decide)) rfl T.m_law_partners_good T.f_law_partners_good.kp T.b_law_partners_good .nil pass0 (pa_cons (pv 3) (pa_cons (pv 4) (pa_cons (pv 5) pa_nil)))))))))
      (pss_one (ps_ret pe_bl))
      pss_nil)
      (pss_cons (ps_lc (i := 9) rfl sc_law.nd rfl rfl (sc0 := defScope s_law) (N0 := ["script", "places", "ties", "web", "one", "other", "due", "walk", "back", "rest", "far"]) (N' := ["tie", "one"]) (o := 1) (fr := [4]) ⟨rfl, by decide +kernel, by decide +kernel, by decide +kernel, rfl, by decide +kernel⟩ (pi_range1 rfl T.n_range (pa_cons (pe_callB (call_lenK K) (by rfl) T.n_len Boot.«len» (pa_cons (pv 2) pa_nil)) pa_nil)) (own_name (by decide)) (fun _ _ _ _ => (pg_name (i := 0) (show List.Nodup (["tie", "one"] : List Str) by decide +kernel) rfl (Or.inl rfl))) (fun _ _ _ _ => (pts_one (pt_cmpR (op_notInK K) (pv 0) (pv 1) rfl))) (fun _ _ _ _ => (pv 0)))
      (pss_cons (ps_set (i := 10) sc_law.nd rfl (Or.inl rfl) (pe_call (ok_far_tree T) (hr.mono (by decide)) rfl T.m_far_tree T.f_far_tree.kp T.b_far_tree .nil passN (pa_cons (pv 3) (pa_cons (pv 4) pa_nil))))
      (pss_one (ps_ret (pe_and (pe_call (ok_is_tree T) (hr.mono (by decide)) rfl T.m_is_tree T.f_is_tree.kp T.b_is_tree .nil pass0 (pa_cons (pv 3) (pa_cons (pv 10) pa_nil))) (pe_one (pe_cmpR (op_eqDK K (hu8 hr)) (pv 10) (pe_call (ok_law_grown T) (hr.mono (by decide)) rfl T.m_law_grown T.f_law_grown.kp T.b_law_grown .nil pass0 (pa_cons (pv 1) (pa_cons (pv 2) (pa_cons (pe_op (op_catK K) (pv 9) (pe_callTy (call_listK K) (by rfl) T.n_list Boot.«list» (pa_cons (pv 4) pa_nil))) pa_nil)))) (nomark _)))))))))))))))))), ?_⟩
    have one : 1 ≤ sizeLine := by decide
    have two : 2 ≤ sizeLine := by decide
    refine ⟨_, rfl, a, ns, rfl, hS, hn63, fun r l n xs ps H1 s1 hr1 hl0 hl1 hP hG hJ => ?_⟩
    refine ⟨r, _, rfl, SqT.of hr1, rfl, _, _, rfl, _, _, rfl, rfl, ?_⟩
    have hlx := hP.1
    obtain ⟨g1, g2, g3, g4⟩ := id hG
    -- web
    refine ⟨_, rfl, _, rfl, fun x dx nx ndx nex => ?_⟩
    have s2 : Same H1 (upd (upd H1 dx (.own x)) x (.ins t.A_Web dx [])) := same_new (same_at ndx) (by rw [upd_ne (Ne.symm nex)]; exact nx)
    refine ⟨x, dx, n, l, false, xs, ps, rfl, upd_same, fun o => ?_, hP.same s2, hG, fun H2 hW k2 => ⟨rfl, ?_⟩⟩
    · exact SqL.of (by rw [upd_ne (ne_of_none hl1 nx), upd_ne (ne_of_none hl1 nx), upd_ne (ne_of_none hl1 ndx)]; exact hl1)
    have s3 : Same H1 H2 := fun b o e => k2 b o (s2 b o e) (ne_of_none e nx)
    have hl2 := s3 _ _ hl1
    have hP2 := hP.same s3
    have hS2 := (s1.trans s3).seq hS
    -- one
    refine ⟨_, rfl, _, rfl, _, rfl, a, ns, 1, rfl, hS2, by decide, fun c1 => ?_⟩
    refine ⟨_, rfl, l, xs, rfl, .inl (SqL.of hl2), c1, xs.length, rfl, by omega, fun o1 zs1 H3 t3 ho1 nd1 zl1 zm1 => ?_⟩
    rw [hlx] at zm1
    refine ⟨n, l, o1, xs, ps, zs1, rfl, SqL.of (t3 _ _ hl2), hP2.same t3, hG, SqL.of ho1, fun z hz => (zm1 z).mp hz, fun oA T1 H4 t4 hoA p1 q1 => ?_⟩
    have hT := grw_tree hG hJ nd1 zm1 p1 q1
    have t24 := t3.trans t4
    have hl4 := t24 _ _ hl2
    have hP4 := hP2.same t24
    have hS4 := t24.seq hS2
    have hW4 := hW.same t24
    refine nm ?_
    dsimp only
    -- other
    refine ⟨_, rfl, _, rfl, _, rfl, a, ns, 2, rfl, hS4, by decide, fun c2 => ?_⟩
    refine ⟨_, rfl, l, xs, rfl, .inl (SqL.of hl4), c2, xs.length, rfl, by omega, fun o2 zs2 H5 t5 ho2 nd2 zl2 zm2 => ?_⟩
    rw [hlx] at zm2
    refine ⟨n, l, o2, xs, ps, zs2, rfl, SqL.of (t5 _ _ hl4), hP4.same t5, hG, SqL.of ho2, fun z hz => (zm2 z).mp hz, fun oB W H6 t6 hoB p2 q2 => ?_⟩
    have hV := grw_tree hG hJ nd2 zm2 p2 q2
    have t46 := t5.trans t6
    have hl6 := t46 _ _ hl4
    have hP6 := hP4.same t46
    have hW6 := hW4.same t46
    have hA6 := t46 _ _ hoA
    clear hl2 hP2 hS2 hl4 hP4 hS4 hW4 hW hoA t3 t4 t5 t6 t24 t46 ho1 ho2
    have lT : T1.length ≤ 13 := by have := hT.2.1; omega
    refine nm ?_
    dsimp only
    -- due
    refine ⟨_, rfl, oA, rfl, ⟨_, SqT.of hA6⟩, lc_tup (K := K) (a := oA) (xs := IL T1) (fun i zs H7 => H7 = H6 ∧ zs = IL ((T1.take i).filter fun z => decide (z ∉ W))) ⟨rfl, rfl⟩ (small60' (by rw [il_length]; omega)) (fun i zs H7 hi ⟨e, ez⟩ => ⟨e ▸ SqT.of hA6, by rw [ez, il_length]; exact Nat.le_trans (List.length_filter_le ..) (by rw [List.length_take]; exact Nat.min_le_left _ _)⟩) ?_ ?_⟩
    · rintro i v zs H7 hi ⟨rfl, rfl⟩ SS hSS
      obtain ⟨z, rfl, hz⟩ := il_get hi
      have e : T1.take (i + 1) = T1.take i ++ [z] := by rw [List.take_succ, hz]; rfl
      refine nm ?_
      refine ⟨_, rfl, _, rfl, oB, _, rfl, .inr (SqT.of hoB), rfl, flat_ints _, _, rfl, ?_⟩
      rw [inV_ints]
      refine itn2 (fun hin => ?_) (fun hin => ?_)
      · refine hSS _ _ ⟨rfl, ?_⟩
        rw [e, List.filter_append, List.filter_cons_of_neg (by simpa using hin), List.filter_nil, List.append_nil]
      · refine ⟨_, rfl, hSS _ _ ⟨rfl, ?_⟩⟩
        rw [e, List.filter_append, List.filter_cons_of_pos (by simpa using hin)]
        exact (il_snoc ..).symm
    rintro zs H7 ⟨rfl, rfl⟩ dA hdA
    rw [il_length, List.take_length]
    have u7 := same_at (o := .lst (IL (T1.filter fun z => decide (z ∉ W)))) hdA
    have hd8 := upd_same (H := H7) (a := dA) (o := .lst (IL (T1.filter fun z => decide (z ∉ W))))
    generalize upd H7 dA (.lst (IL (T1.filter fun z => decide (z ∉ W)))) = H8 at *
    refine ⟨dA, _, rfl, .inl (SqL.of hd8), ?_⟩
    rw [il_length]
    have hl8 := u7 _ _ hl6
    have hP8 := hP6.same u7
    have hW8 := hW6.same u7
    have hA8 := u7 _ _ hA6
    have hB8 := u7 _ _ hoB
    clear hl6 hP6 hW6 hA6 hoB
    refine nm ?_
    dsimp only
    -- differ
    refine ⟨_, rfl, _, rfl, _, rfl, x, oA, oB, n, ps, true, true, T1, W, rfl, hW8, hG, SqT.of hA8, SqT.of hB8, fun _ _ H9 s9 => ?_, fun h => absurd ⟨hT, hV⟩ h⟩
    refine ⟨_, rfl, rfl, _, rfl, ?_⟩
    rw [dec_int]
    refine itn rfl ?_
    refine ⟨_, rfl, _, rfl, _, rfl, x, oB, oA, n, ps, true, true, W, T1, rfl, hW8.same s9, hG, SqT.of (s9 _ _ hB8), SqT.of (s9 _ _ hA8), fun _ _ H10 s10 => ?_, fun h => absurd ⟨hV, hT⟩ h⟩
    refine ⟨_, rfl, rfl, _, rfl, ?_⟩
    rw [dec_int]
    refine itn (by rw [diff_same hT hV]) ?_
    have t10 := s9.trans s10
    -- walk
    refine ⟨_, rfl, _, rfl, _, rfl, x, oA, oB, n, ps, true, true, T1, W, rfl, hW8.same t10, hG, SqT.of (t10 _ _ hA8), SqT.of (t10 _ _ hB8), fun _ _ ws U wA ys H11 hwp s11 hw0 hw11 hY => ?_, fun h => absurd ⟨hT, hV⟩ h⟩
    obtain ⟨e1, e2, e3⟩ := hwp.end hG hT hV
    have hwk := hwp.wk hG hT
    rw [e1] at hwk
    have yl := hY.1
    have t11 := t10.trans s11
    have wl : ws.length ≤ 13 := by rw [e3]; exact Nat.le_trans (List.length_filter_le ..) lT
    have wb : ∀ p ∈ ws, -(10 ^ 70) < p.1 ∧ p.1 < 10 ^ 70 ∧ -(10 ^ 70) < p.2 ∧ p.2 < 10 ^ 70 := fun p hp => by
      have := hwk.bnd hG hT p hp
      omega
    refine nm ?_
    dsimp only
    refine ⟨_, rfl, wA, ys, rfl, .inl (SqL.of hw11), _, rfl, rfl, _, rfl, ?_⟩
    rw [dec_int]
    refine itn (by omega) ?_
    refine ⟨_, rfl, _, rfl, _, rfl, x, oA, wA, n, ps, false, T1, ys, ws, rfl, hW8.same t11, hG, .inl (t11 _ _ hA8), SqL.of hw11, hY, wb, fun _ U2 hU2 fA H12 s12 hf12 => ?_, fun _ h => absurd h hwk.whole, fun h => absurd hT h⟩
    obtain rfl : W = U2 := (hU2.uniq hwk).symm
    have t12 := t11.trans s12
    refine ⟨_, rfl, 1, _, fA, oB, rfl, rfl, by decide, eqd_tints (SqT.of hf12) (SqT.of (t12 _ _ hB8)), _, rfl, ?_⟩
    refine itn rfl ?_
    have hw12 := s12 _ _ hw11
    have hY12 := hY.same s12
    -- back
    have twl : (tur ws).length = ws.length := tur_len ws
    refine ⟨_, rfl, wA, rfl, .inl ⟨ys, SqL.of hw12, lc_revL (K := K) (a := wA) (xs := ys) (fun i zs H13 => Same H12 H13 ∧ i ≤ ws.length ∧ PairsV H13 zs ((tur ws).take i)) ⟨Same.refl _, Nat.zero_le _, PairsV.nil⟩ (small60' (by omega)) (fun i zs H13 _ ⟨e, hi, ez⟩ => ⟨SqL.of (e _ _ hw12), by rw [ez.1, List.length_take]; omega⟩) ?_ ?_⟩⟩
    · rintro i v zs H13 hi hv ⟨s13, hil, hZ⟩ S hSS
      obtain ⟨p, hp, tt, rfl, ht⟩ := hY12.at hv
      have ht13 := s13 _ _ ht
      refine ⟨tt, _, rfl, SqT.of ht13, rfl, _, _, rfl, _, _, rfl, rfl, ?_⟩
      refine ⟨_, rfl, _, rfl, two, fun pp hpp => ?_⟩
      refine hSS _ _ ⟨s13.trans (same_at hpp), by omega, ?_⟩
      have e : (tur ws)[i]? = some (p.2, p.1) := by
        unfold tur
        rw [List.getElem?_map, List.getElem?_reverse (by omega), show ws.length - 1 - i = ys.length - 1 - i by omega, hp]
        rfl
      rw [List.take_succ, e]
      exact (hZ.same (same_at hpp)).snoc ⟨pp, rfl, upd_same⟩
    rintro zs1 H13 ⟨s13, _, hZ1⟩ bA hbA
    rw [yl, List.take_of_length_le (by omega)] at hZ1
    have u13 := same_at (o := .lst zs1) hbA
    have hb14 := upd_same (H := H13) (a := bA) (o := .lst zs1)
    have hZ14 := hZ1.same u13
    have t14 := t12.trans (s13.trans u13)
    generalize upd H13 bA (.lst zs1) = H14 at *
    have hrv : Wk n ps W (tur ws) T1 := hwk.rev hG hT
    have wb2 : ∀ p ∈ tur ws, -(10 ^ 70) < p.1 ∧ p.1 < 10 ^ 70 ∧ -(10 ^ 70) < p.2 ∧ p.2 < 10 ^ 70 := fun p hp => by
      have := hrv.bnd hG hV p hp
      omega
    refine nm ?_
    dsimp only
    refine ⟨_, rfl, _, rfl, _, rfl, x, oB, bA, n, ps, false, W, zs1, tur ws, rfl, hW8.same t14, hG, .inl (t14 _ _ hB8), SqL.of hb14, hZ14, wb2, fun _ U3 hU3 gA H15 s15 hg15 => ?_, fun _ h => absurd h hrv.whole, fun h => absurd hV h⟩
    obtain rfl : T1 = U3 := (hU3.uniq hrv).symm
    have t15 := t14.trans s15
    refine ⟨_, rfl, 1, _, gA, oA, rfl, rfl, by decide, eqd_tints (SqT.of hg15) (SqT.of (t15 _ _ hA8)), _, rfl, ?_⟩
    refine itn rfl ?_
    refine ⟨_, rfl, _, rfl, _, rfl, x, oA, oB, n, ps, T1, W, rfl, hW8.same t15, hG, t15 _ _ hA8, t15 _ _ hB8, hT, hV, fun H16 s16 => ⟨_, rfl, ?_⟩⟩
    refine iteF ?_
    have t16 := t15.trans s16
    have hl16 := t16 _ _ hl8
    have hA16 := t16 _ _ hA8
    -- rest
    refine ⟨_, rfl, l, xs, rfl, .inl (SqL.of hl16), _, rfl, by omega, by omega, lc_range (lo := 0) (n := (xs.length : Int).toNat) (fun i zs H17 => H17 = H16 ∧ zs = IL (oth5 T1 i)) ⟨rfl, rfl⟩ (small60' (by omega)) (fun i zs H17 _ ⟨_, e⟩ => by rw [e, il_length]; exact (oth5_set T1 i).len) ?_ ?_⟩
    · rintro i zs H17 hi ⟨rfl, rfl⟩ SS hSS
      refine nm ?_
      refine ⟨_, rfl, _, rfl, oA, _, rfl, .inr (SqT.of hA16), rfl, flat_ints _, _, rfl, ?_⟩
      rw [inV_ints, Int.zero_add]
      refine itn2 (fun hin => ?_) (fun hin => ?_)
      · refine hSS _ _ ⟨rfl, ?_⟩
        rw [oth5_succ, if_neg (fun h => h hin), List.append_nil]
      · refine ⟨_, rfl, hSS _ _ ⟨rfl, ?_⟩⟩
        rw [oth5_succ, if_pos hin]
        exact (il_snoc ..).symm
    rintro zs H17 ⟨rfl, rfl⟩ rA hrA
    rw [Int.toNat_natCast, hlx]
    have u17 := same_at (o := .lst (IL (oth5 T1 ps.length))) hrA
    have hr18 := upd_same (H := H17) (a := rA) (o := .lst (IL (oth5 T1 ps.length)))
    generalize upd H17 rA (.lst (IL (oth5 T1 ps.length))) = H18 at *
    have t18 := t16.trans u17
    refine nm ?_
    dsimp only
    -- far
    refine ⟨_, rfl, _, rfl, x, oA, n, ps, T1, rfl, hW8.same t18, hG, .inl (t18 _ _ hA8), fun _ fs D hfs hDa hDm hfp qA H19 s19 hq19 => ?_, fun h => absurd hT h⟩
    have t19 := t18.trans s19
    refine nm ?_
    dsimp only
    refine ⟨_, rfl, _, rfl, x, qA, n, ps, true, fs, rfl, hW8.same t19, hG, SqT.of hq19, fun b1 H20 s20 hb1 => ⟨_, rfl, ?_⟩⟩
    obtain rfl : b1 = true := hb1.mpr hfs
    refine iteT ?_
    have t20 := t19.trans s20
    have hl20 := t20 _ _ hl8
    have ol := (oth5_set T1 ps.length).len
    refine ⟨_, rfl, _, rfl, _, rfl, _, rfl, _, rfl, oA, _, rfl, .inr (SqT.of (t20 _ _ hA8)), fun lA hlA => ?_⟩
    have u20 := same_at (o := .lst (IL T1)) hlA
    have k20 := upd_same (H := H20) (a := lA) (o := .lst (IL T1))
    have hr20 := u20 _ _ ((s19.trans s20) _ _ hr18)
    generalize upd H20 lA (.lst (IL T1)) = H21 at *
    refine ⟨rA, lA, _, _, rfl, rfl, SqL.of hr20, SqL.of k20, small60 (by rw [il_length, il_length]; omega), fun cA hcA => ?_⟩
    rw [show IL (oth5 T1 ps.length) ++ IL T1 = IL (oth5 T1 ps.length ++ T1) from (List.map_append ..).symm]
    have u21 := same_at (o := .lst (IL (oth5 T1 ps.length ++ T1))) hcA
    have k21 := upd_same (H := H21) (a := cA) (o := .lst (IL (oth5 T1 ps.length ++ T1)))
    generalize upd H21 cA (.lst (IL (oth5 T1 ps.length ++ T1))) = H22 at *
    have t22 := t20.trans (u20.trans u21)
    have eD : D = oth5 T1 ps.length := by
      refine sorted_uniq ((List.perm_ext_iff_of_nodup (lt_nodup hDa) (oth5_set T1 ps.length).nodup).mpr fun z => ?_) (hDa.imp fun h => by omega) ((isSet_iff.mp (oth5_set T1 ps.length)).2.imp fun h => by omega)
      rw [hDm]
      unfold oth5
      rw [List.mem_filter, rgL_mem, decide_eq_true_iff]
    refine ⟨n, l, cA, xs, ps, _, rfl, SqL.of (t22 _ _ hl8), hP8.same t22, hG, SqL.of k21, fun z hz => ?_, fun yA ms H23 t23 hy23 pm ps2 => ?_⟩
    · rcases List.mem_append.mp hz with e | e
      · exact (oth5_set T1 ps.length).all z e
      · exact hT.1.all z e
    rw [eD] at hfp
    have efm : fs = ms := sorted_uniq (hfp.trans pm.symm) ((isSet_iff.mp hfs.1).2.imp fun h => by omega) ps2
    refine ⟨1, _, qA, yA, rfl, rfl, by decide, eqd_tints (SqT.of (t23 _ _ (u21 _ _ (u20 _ _ (s20 _ _ hq19))))) (SqT.of hy23), ?_⟩
    rw [decide_eq_true efm]
    exact k _
end
end My
namespace My
open PySem L2
theorem law_binds {K : PySem.W.Frag} {f : Addr} {fd : FuncData} (F : Fun K "law" "law" s_law f fd) (s : Shared) (u : Value) : BindsTo s fd ⟨[u], []⟩ [("script", u)] := by
  obtain ⟨oc, od, kV, doc, pm, an, cdv, ct, osl, rfl, lk, hcd⟩ := F.ex
  exact .of_eq rfl
end My
open PySem PySem.W PyProof.Rows
set_option maxRecDepth 100000 in
set_option maxHeartbeats 0 in
theorem PySem.Challenge.cw_spanrow_k51_whole_walks_of_great_webs_holds : PySem.Challenge.rw_spanrow_k51_whole_walks_of_great_webs.Holds := by
  w_on; o_law; k_head; (case hw => w_witness2)
  k_fill
  refine L2.walk_ofK (l := PySem.Challenge.rw_spanrow_k51_whole_walks_of_great_webs) (n := 63) (k := 12) (x := "script") (CX := L2.CX0) (sp := My.sp_law) rfl (by decide) rfl ⟨rfl, by decide, by decide⟩ (fun w h Y => PySem.W.kIn_of Y) ?F (fun _ H a ns hl _ hS => ⟨a, ns, rfl, hS, hl, fun _ => rfl⟩) (fun _ _ _ _ z => z)
  case F =>
    intro w mg fa h KX G hmg
    have h_is_tie : My.FX (L2.KOf KX) mg "is_tie" "is_tie" My.s_is_tie := by
      dsimp only [L2.KOf]
      refine' My.fx_mk KX G ?a ?l ?c ?k
      (case a => k_is); (case l => k_is); (case c => k_is); (case k => k_is)
    have h_refuse_bad_web : My.FX (L2.KOf KX) mg "refuse_bad_web" "refuse_bad_web" My.s_refuse_bad_web := by
      dsimp only [L2.KOf]
      refine' My.fx_mk KX G ?a ?l ?c ?k
      (case a => k_is); (case l => k_is); (case c => k_is); (case k => k_is)
    have h_ties_beside : My.FX (L2.KOf KX) mg "ties_beside" "ties_beside" My.s_ties_beside := by
      dsimp only [L2.KOf]
      refine' My.fx_mk KX G ?a ?l ?c ?k
      (case a => k_is); (case l => k_is); (case c => k_is); (case k => k_is)
    have h_is_set : My.FX (L2.KOf KX) mg "is_set" "is_set" My.s_is_set := by
      dsimp only [L2.KOf]
      refine' My.fx_mk KX G ?a ?l ?c ?k
      (case a => k_is); (case l => k_is); (case c => k_is); (case k => k_is)
    have h_made_set : My.FX (L2.KOf KX) mg "made_set" "made_set" My.s_made_set := by
      dsimp only [L2.KOf]
      refine' My.fx_mk KX G ?a ?l ?c ?k
      (case a => k_is); (case l => k_is); (case c => k_is); (case k => k_is)
    have h_merged_marks : My.FX (L2.KOf KX) mg "merged_marks" "merged_marks" My.s_merged_marks := by
      dsimp only [L2.KOf]
      refine' My.fx_mk KX G ?a ?l ?c ?k
      (case a => k_is); (case l => k_is); (case c => k_is); (case k => k_is)
    have h_piece_marks : My.FX (L2.KOf KX) mg "piece_marks" "piece_marks" My.s_piece_marks := by
      dsimp only [L2.KOf]
      refine' My.fx_mk KX G ?a ?l ?c ?k
      (case a => k_is); (case l => k_is); (case c => k_is); (case k => k_is)
    have h_pieces_of : My.FX (L2.KOf KX) mg "pieces_of" "pieces_of" My.s_pieces_of := by
      dsimp only [L2.KOf]
      refine' My.fx_mk KX G ?a ?l ?c ?k
      (case a => k_is); (case l => k_is); (case c => k_is); (case k => k_is)
    have h_is_joined : My.FX (L2.KOf KX) mg "is_joined" "is_joined" My.s_is_joined := by
      dsimp only [L2.KOf]
      refine' My.fx_mk KX G ?a ?l ?c ?k
      (case a => k_is); (case l => k_is); (case c => k_is); (case k => k_is)
    have h_is_tree : My.FX (L2.KOf KX) mg "is_tree" "is_tree" My.s_is_tree := by
      dsimp only [L2.KOf]
      refine' My.fx_mk KX G ?a ?l ?c ?k
      (case a => k_is); (case l => k_is); (case c => k_is); (case k => k_is)
    have h_refuse_no_tree : My.FX (L2.KOf KX) mg "refuse_no_tree" "refuse_no_tree" My.s_refuse_no_tree := by
      dsimp only [L2.KOf]
      refine' My.fx_mk KX G ?a ?l ?c ?k
      (case a => k_is); (case l => k_is); (case c => k_is); (case k => k_is)
    have h_grown_tree : My.FX (L2.KOf KX) mg "grown_tree" "grown_tree" My.s_grown_tree := by
      dsimp only [L2.KOf]
      refine' My.fx_mk KX G ?a ?l ?c ?k
      (case a => k_is); (case l => k_is); (case c => k_is); (case k => k_is)
    have h_ties_without : My.FX (L2.KOf KX) mg "ties_without" "ties_without" My.s_ties_without := by
      dsimp only [L2.KOf]
      refine' My.fx_mk KX G ?a ?l ?c ?k
      (case a => k_is); (case l => k_is); (case c => k_is); (case k => k_is)
    have h_tree_cut : My.FX (L2.KOf KX) mg "tree_cut" "tree_cut" My.s_tree_cut := by
      dsimp only [L2.KOf]
      refine' My.fx_mk KX G ?a ?l ?c ?k
      (case a => k_is); (case l => k_is); (case c => k_is); (case k => k_is)
    have h_ring_of : My.FX (L2.KOf KX) mg "ring_of" "ring_of" My.s_ring_of := by
      dsimp only [L2.KOf]
      refine' My.fx_mk KX G ?a ?l ?c ?k
      (case a => k_is); (case l => k_is); (case c => k_is); (case k => k_is)
    have h_exchanged : My.FX (L2.KOf KX) mg "exchanged" "exchanged" My.s_exchanged := by
      dsimp only [L2.KOf]
      refine' My.fx_mk KX G ?a ?l ?c ?k
      (case a => k_is); (case l => k_is); (case c => k_is); (case k => k_is)
    have h_differ : My.FX (L2.KOf KX) mg "differ" "differ" My.s_differ := by
      dsimp only [L2.KOf]
      refine' My.fx_mk KX G ?a ?l ?c ?k
      (case a => k_is); (case l => k_is); (case c => k_is); (case k => k_is)
    have h_walk_between : My.FX (L2.KOf KX) mg "walk_between" "walk_between" My.s_walk_between := by
      dsimp only [L2.KOf]
      refine' My.fx_mk KX G ?a ?l ?c ?k
      (case a => k_is); (case l => k_is); (case c => k_is); (case k => k_is)
    have h_walked : My.FX (L2.KOf KX) mg "walked" "walked" My.s_walked := by
      dsimp only [L2.KOf]
      refine' My.fx_mk KX G ?a ?l ?c ?k
      (case a => k_is); (case l => k_is); (case c => k_is); (case k => k_is)
    have h_partner_of : My.FX (L2.KOf KX) mg "partner_of" "partner_of" My.s_partner_of := by
      dsimp only [L2.KOf]
      refine' My.fx_mk KX G ?a ?l ?c ?k
      (case a => k_is); (case l => k_is); (case c => k_is); (case k => k_is)
    have h_far_tree : My.FX (L2.KOf KX) mg "far_tree" "far_tree" My.s_far_tree := by
      dsimp only [L2.KOf]
      refine' My.fx_mk KX G ?a ?l ?c ?k
      (case a => k_is); (case l => k_is); (case c => k_is); (case k => k_is)
    have h_law_at : My.FX (L2.KOf KX) mg "_law_at" "_law_at" My.s_law_at := by
      dsimp only [L2.KOf]
      refine' My.fx_mk KX G ?a ?l ?c ?k
      (case a => k_is); (case l => k_is); (case c => k_is); (case k => k_is)
    have h_law_mix : My.FX (L2.KOf KX) mg "_law_mix" "_law_mix" My.s_law_mix := by
      dsimp only [L2.KOf]
      refine' My.fx_mk KX G ?a ?l ?c ?k
      (case a => k_is); (case l => k_is); (case c => k_is); (case k => k_is)
    have h_law_web : My.FX (L2.KOf KX) mg "_law_web" "_law_web" My.s_law_web := by
      dsimp only [L2.KOf]
      refine' My.fx_mk KX G ?a ?l ?c ?k
      (case a => k_is); (case l => k_is); (case c => k_is); (case k => k_is)
    have h_law_great : My.FX (L2.KOf KX) mg "_law_great" "_law_great" My.s_law_great := by
      dsimp only [L2.KOf]
      refine' My.fx_mk KX G ?a ?l ?c ?k
      (case a => k_is); (case l => k_is); (case c => k_is); (case k => k_is)
    have h_law_grown : My.FX (L2.KOf KX) mg "_law_grown" "_law_grown" My.s_law_grown := by
      dsimp only [L2.KOf]
      refine' My.fx_mk KX G ?a ?l ?c ?k
      (case a => k_is); (case l => k_is); (case c => k_is); (case k => k_is)
    have h_law_order : My.FX (L2.KOf KX) mg "_law_order" "_law_order" My.s_law_order := by
      dsimp only [L2.KOf]
      refine' My.fx_mk KX G ?a ?l ?c ?k
      (case a => k_is); (case l => k_is); (case c => k_is); (case k => k_is)
    have h_law_partners_good : My.FX (L2.KOf KX) mg "_law_partners_good" "_law_partners_good" My.s_law_partners_good := by
      dsimp only [L2.KOf]
      refine' My.fx_mk KX G ?a ?l ?c ?k
      (case a => k_is); (case l => k_is); (case c => k_is); (case k => k_is)
    have h_law : My.FX (L2.KOf KX) mg "law" "law" My.s_law := by
      dsimp only [L2.KOf]
      refine' My.fx_mk KX G ?a ?l ?c ?k
      (case a => k_is); (case l => k_is); (case c => k_is); (case k => k_is)
    have h_Web : My.CXF (L2.KOf KX) mg "Web" "Web.__init__" My.s_Web___init ["places", "ties"] := by
      dsimp only [L2.KOf]
      refine' My.cx_mk KX G ?aC ?a ?i ?l ?c ?k ?pg ?hd ?po ?sa ?mk ?kc ?na
      (case aC => k_is); (case a => k_is); (case i => k_is); (case l => k_is); (case c => k_is); (case k => k_is)
      (case pg => k_is); (case hd => k_is); (case po => k_is); (case sa => k_is); (case mk => k_is); (case kc => k_is)
      (case na => (intro f hf; simp only [List.mem_cons, List.not_mem_nil, or_false] at hf; rcases hf with rfl | rfl <;> k_is))
    have hX : ∃ A_WebError A_NoTree A_NoTie : Addr, mg "WebError" = some (.ref A_WebError) ∧ mg "NoTree" = some (.ref A_NoTree) ∧ mg "NoTie" = some (.ref A_NoTie) ∧ L2.XCls (L2.KOf KX) (A_NoTree) ∧ L2.XCls (L2.KOf KX) (A_NoTie) ∧ PySem.W.exmOne (L2.KOf KX) (.ref (A_NoTree)) (.ref (A_WebError)) = some true ∧ PySem.W.exmOne (L2.KOf KX) (.ref (A_NoTie)) (.ref (A_WebError)) = some true := by
      dsimp only [L2.KOf]
      refine' My.xI (My.xI (My.xI (⟨PySem.W.mg_of KX G ?m_WebError, PySem.W.mg_of KX G ?m_NoTree, PySem.W.mg_of KX G ?m_NoTie, ⟨?x_NoTree_ex, ?x_NoTree_ga, ?x_NoTree_gh, ?x_NoTree_cl, ?x_NoTree_ob, ?x_NoTree_bx⟩, ⟨?x_NoTie_ex, ?x_NoTie_ga, ?x_NoTie_gh, ?x_NoTie_cl, ?x_NoTie_ob, ?x_NoTie_bx⟩, ?em_NoTree, ?em_NoTie⟩)))
      (case m_WebError => k_is)
      (case m_NoTree => k_is)
      (case m_NoTie => k_is)
      (case x_NoTree_ex => k_exc); (case x_NoTree_ga => k_is); (case x_NoTree_gh => k_is); (case x_NoTree_cl => k_is); (case x_NoTree_ob => k_is); (case x_NoTree_bx => k_is)
      (case x_NoTie_ex => k_exc); (case x_NoTie_ga => k_is); (case x_NoTie_gh => k_is); (case x_NoTie_cl => k_is); (case x_NoTie_ob => k_is); (case x_NoTie_bx => k_is)
      (case em_NoTree => kts_exm)
      (case em_NoTie => kts_exm)
    have h_MOST_PLACES : ∃ tk, mg "MOST_PLACES" = some (.int 14 tk) := by
      refine' My.const_mk KX G ?a ?b
      (case a => k_is); (case b => exact ⟨_, rfl⟩)
    have h_MOST_TIES : ∃ tk, mg "MOST_TIES" = some (.int 30 tk) := by
      refine' My.const_mk KX G ?a ?b
      (case a => k_is); (case b => exact ⟨_, rfl⟩)
    have h_enumerate : mg "enumerate" = none := by
      refine' PySem.W.mg_none_of KX G ?a
      (case a => k_is)
    have h_int : mg "int" = none := by
      refine' PySem.W.mg_none_of KX G ?a
      (case a => k_is)
    have h_len : mg "len" = none := by
      refine' PySem.W.mg_none_of KX G ?a
      (case a => k_is)
    have h_list : mg "list" = none := by
      refine' PySem.W.mg_none_of KX G ?a
      (case a => k_is)
    have h_max : mg "max" = none := by
      refine' PySem.W.mg_none_of KX G ?a
      (case a => k_is)
    have h_min : mg "min" = none := by
      refine' PySem.W.mg_none_of KX G ?a
      (case a => k_is)
    have h_range : mg "range" = none := by
      refine' PySem.W.mg_none_of KX G ?a
      (case a => k_is)
    have h_reversed : mg "reversed" = none := by
      refine' PySem.W.mg_none_of KX G ?a
      (case a => k_is)
    have h_sorted : mg "sorted" = none := by
      refine' PySem.W.mg_none_of KX G ?a
      (case a => k_is)
    have h_sum : mg "sum" = none := by
      refine' PySem.W.mg_none_of KX G ?a
      (case a => k_is)
    have h_tuple : mg "tuple" = none := by
      refine' PySem.W.mg_none_of KX G ?a
      (case a => k_is)
    obtain ⟨a_is_tie, d_is_tie, m_is_tie, f_is_tie⟩ := h_is_tie
    obtain ⟨a_refuse_bad_web, d_refuse_bad_web, m_refuse_bad_web, f_refuse_bad_web⟩ := h_refuse_bad_web
    obtain ⟨a_ties_beside, d_ties_beside, m_ties_beside, f_ties_beside⟩ := h_ties_beside
    obtain ⟨a_is_set, d_is_set, m_is_set, f_is_set⟩ := h_is_set
    obtain ⟨a_made_set, d_made_set, m_made_set, f_made_set⟩ := h_made_set
    obtain ⟨a_merged_marks, d_merged_marks, m_merged_marks, f_merged_marks⟩ := h_merged_marks
    obtain ⟨a_piece_marks, d_piece_marks, m_piece_marks, f_piece_marks⟩ := h_piece_marks
    obtain ⟨a_pieces_of, d_pieces_of, m_pieces_of, f_pieces_of⟩ := h_pieces_of
    obtain ⟨a_is_joined, d_is_joined, m_is_joined, f_is_joined⟩ := h_is_joined
    obtain ⟨a_is_tree, d_is_tree, m_is_tree, f_is_tree⟩ := h_is_tree
    obtain ⟨a_refuse_no_tree, d_refuse_no_tree, m_refuse_no_tree, f_refuse_no_tree⟩ := h_refuse_no_tree
    obtain ⟨a_grown_tree, d_grown_tree, m_grown_tree, f_grown_tree⟩ := h_grown_tree
    obtain ⟨a_ties_without, d_ties_without, m_ties_without, f_ties_without⟩ := h_ties_without
    obtain ⟨a_tree_cut, d_tree_cut, m_tree_cut, f_tree_cut⟩ := h_tree_cut
    obtain ⟨a_ring_of, d_ring_of, m_ring_of, f_ring_of⟩ := h_ring_of
    obtain ⟨a_exchanged, d_exchanged, m_exchanged, f_exchanged⟩ := h_exchanged
    obtain ⟨a_differ, d_differ, m_differ, f_differ⟩ := h_differ
    obtain ⟨a_walk_between, d_walk_between, m_walk_between, f_walk_between⟩ := h_walk_between
    obtain ⟨a_walked, d_walked, m_walked, f_walked⟩ := h_walked
    obtain ⟨a_partner_of, d_partner_of, m_partner_of, f_partner_of⟩ := h_partner_of
    obtain ⟨a_far_tree, d_far_tree, m_far_tree, f_far_tree⟩ := h_far_tree
    obtain ⟨a_law_at, d_law_at, m_law_at, f_law_at⟩ := h_law_at
    obtain ⟨a_law_mix, d_law_mix, m_law_mix, f_law_mix⟩ := h_law_mix
    obtain ⟨a_law_web, d_law_web, m_law_web, f_law_web⟩ := h_law_web
    obtain ⟨a_law_great, d_law_great, m_law_great, f_law_great⟩ := h_law_great
    obtain ⟨a_law_grown, d_law_grown, m_law_grown, f_law_grown⟩ := h_law_grown
    obtain ⟨a_law_order, d_law_order, m_law_order, f_law_order⟩ := h_law_order
    obtain ⟨a_law_partners_good, d_law_partners_good, m_law_partners_good, f_law_partners_good⟩ := h_law_partners_good
    obtain ⟨a_law, d_law, m_law, f_law⟩ := h_law
    obtain ⟨A_Web, a_Web___init, d_Web___init, c_Web, f_Web___init, cl_Web, k_Web, na_Web⟩ := h_Web
    obtain ⟨A_WebError, A_NoTree, A_NoTie, c_WebError, c_NoTree, c_NoTie, x_NoTree, x_NoTie, em_NoTree, em_NoTie⟩ := hX
    have T : My.Txt (L2.KOf KX) mg ⟨a_is_tie, d_is_tie, a_refuse_bad_web, d_refuse_bad_web, a_Web___init, d_Web___init, a_ties_beside, d_ties_beside, a_is_set, d_is_set, a_made_set, d_made_set, a_merged_marks, d_merged_marks, a_piece_marks, d_piece_marks, a_pieces_of, d_pieces_of, a_is_joined, d_is_joined, a_is_tree, d_is_tree, a_refuse_no_tree, d_refuse_no_tree, a_grown_tree, d_grown_tree, a_ties_without, d_ties_without, a_tree_cut, d_tree_cut, a_ring_of, d_ring_of, a_exchanged, d_exchanged, a_differ, d_differ, a_walk_between, d_walk_between, a_walked, d_walked, a_partner_of, d_partner_of, a_far_tree, d_far_tree, a_law_at, d_law_at, a_law_mix, d_law_mix, a_law_web, d_law_web, a_law_great, d_law_great, a_law_grown, d_law_grown, a_law_order, d_law_order, a_law_partners_good, d_law_partners_good, a_law, d_law, A_Web, A_WebError, A_NoTree, A_NoTie⟩ := ⟨f_is_tie, f_is_tie.binds (fun _ _ _ _ _ _ us hl => by obtain ⟨_, _, rfl⟩ := My.len2 hl; rfl), m_is_tie, f_refuse_bad_web, f_refuse_bad_web.binds (fun _ _ _ _ _ _ us hl => by obtain ⟨_, _, rfl⟩ := My.len2 hl; rfl), m_refuse_bad_web, f_Web___init, f_Web___init.binds (fun _ _ _ _ _ _ us hl => by obtain ⟨_, _, _, rfl⟩ := My.len3 hl; rfl), f_ties_beside, f_ties_beside.binds (fun _ _ _ _ _ _ us hl => by obtain ⟨_, _, rfl⟩ := My.len2 hl; rfl), m_ties_beside, f_is_set, f_is_set.binds (fun _ _ _ _ _ _ us hl => by obtain ⟨_, _, rfl⟩ := My.len2 hl; rfl), m_is_set, f_made_set, f_made_set.binds (fun _ _ _ _ _ _ us hl => by obtain ⟨_, _, rfl⟩ := My.len2 hl; rfl), m_made_set, f_merged_marks, f_merged_marks.binds (fun _ _ _ _ _ _ us hl => by obtain ⟨_, _, _, rfl⟩ := My.len3 hl; rfl), m_merged_marks, f_piece_marks, f_piece_marks.binds (fun _ _ _ _ _ _ us hl => by obtain ⟨_, _, rfl⟩ := My.len2 hl; rfl), m_piece_marks, f_pieces_of, f_pieces_of.binds (fun _ _ _ _ _ _ us hl => by obtain ⟨_, _, rfl⟩ := My.len2 hl; rfl), m_pieces_of, f_is_joined, f_is_joined.binds (fun _ _ _ _ _ _ us hl => by obtain ⟨_, _, rfl⟩ := My.len2 hl; rfl), m_is_joined, f_is_tree, f_is_tree.binds (fun _ _ _ _ _ _ us hl => by obtain ⟨_, _, rfl⟩ := My.len2 hl; rfl), m_is_tree, f_refuse_no_tree, f_refuse_no_tree.binds (fun _ _ _ _ _ _ us hl => by obtain ⟨_, _, rfl⟩ := My.len2 hl; rfl), m_refuse_no_tree, f_grown_tree, f_grown_tree.binds (fun _ _ _ _ _ _ us hl => by obtain ⟨_, _, _, rfl⟩ := My.len3 hl; rfl), m_grown_tree, f_ties_without, f_ties_without.binds (fun _ _ _ _ _ _ us hl => by obtain ⟨_, _, rfl⟩ := My.len2 hl; rfl), m_ties_without, f_tree_cut, f_tree_cut.binds (fun _ _ _ _ _ _ us hl => by obtain ⟨_, _, _, rfl⟩ := My.len3 hl; rfl), m_tree_cut, f_ring_of, f_ring_of.binds (fun _ _ _ _ _ _ us hl => by obtain ⟨_, _, _, rfl⟩ := My.len3 hl; rfl), m_ring_of, f_exchanged, f_exchanged.binds (fun _ _ _ _ _ _ us hl => by obtain ⟨_, _, _, _, rfl⟩ := My.len4 hl; rfl), m_exchanged, f_differ, f_differ.binds (fun _ _ _ _ _ _ us hl => by obtain ⟨_, _, _, rfl⟩ := My.len3 hl; rfl), m_differ, f_walk_between, f_walk_between.binds (fun _ _ _ _ _ _ us hl => by obtain ⟨_, _, _, rfl⟩ := My.len3 hl; rfl), m_walk_between, f_walked, f_walked.binds (fun _ _ _ _ _ _ us hl => by obtain ⟨_, _, _, rfl⟩ := My.len3 hl; rfl), m_walked, f_partner_of, f_partner_of.binds (fun _ _ _ _ _ _ us hl => by obtain ⟨_, _, _, _, rfl⟩ := My.len4 hl; rfl), m_partner_of, f_far_tree, f_far_tree.binds (fun _ _ _ _ _ _ us hl => by obtain ⟨_, _, rfl⟩ := My.len2 hl; rfl), m_far_tree, f_law_at, f_law_at.binds (fun _ _ _ _ _ _ us hl => by obtain ⟨_, _, rfl⟩ := My.len2 hl; rfl), m_law_at, f_law_mix, f_law_mix.binds (fun _ _ _ _ _ _ us hl => by obtain ⟨_, _, _, rfl⟩ := My.len3 hl; rfl), m_law_mix, f_law_web, f_law_web.binds (fun _ _ _ _ _ _ us hl => by obtain ⟨_, _, _, _, rfl⟩ := My.len4 hl; rfl), m_law_web, f_law_great, f_law_great.binds (fun _ _ _ _ _ _ us hl => by obtain ⟨_, rfl⟩ := My.len1 hl; rfl), m_law_great, f_law_grown, f_law_grown.binds (fun _ _ _ _ _ _ us hl => by obtain ⟨_, _, _, rfl⟩ := My.len3 hl; rfl), m_law_grown, f_law_order, f_law_order.binds (fun _ _ _ _ _ _ us hl => by obtain ⟨_, _, rfl⟩ := My.len2 hl; rfl), m_law_order, f_law_partners_good, f_law_partners_good.binds (fun _ _ _ _ _ _ us hl => by obtain ⟨_, _, _, rfl⟩ := My.len3 hl; rfl), m_law_partners_good, f_law, f_law.binds (fun _ _ _ _ _ _ us hl => by obtain ⟨_, rfl⟩ := My.len1 hl; rfl), m_law, c_Web, cl_Web, k_Web, na_Web _ (by simp), na_Web _ (by simp), c_WebError, c_NoTree, c_NoTie, x_NoTree, x_NoTie, em_NoTree, em_NoTie, h_MOST_PLACES, h_MOST_TIES, h_enumerate, h_int, h_len, h_list, h_max, h_min, h_range, h_reversed, h_sorted, h_sum, h_tuple⟩
    have e0 := hmg.symm.trans m_law
    cases e0
    exact ⟨d_law, fun s u => My.law_binds f_law s u, fun base _ _ => My.ok_law T⟩
#print axioms PySem.Challenge.cw_spanrow_k51_whole_walks_of_great_webs_holds
