import PyProof.Rows.All
import Wide.All
import OpenK.AllK
import Wide.FinOn
import Lean
import PyProof.EqAt
import PyProof.EqKinds
import PyProof.TupleCall
import PySem.Challenge.RW_spanrow_k73_whole_sums_meet
set_option Elab.async false
set_option linter.all false
set_option maxRecDepth 100000
namespace PySem.W.Fast
def tw11339910002980903996:=0
def tw3900093372022945934:=0
def tw10861631904970580129:=0
def tw10783471769764704883:=0
def tw15377683493616067173:=0
def tw16815017128726148770:=0
def tw8674640242466455401:=0
def tw7348887189771049877:=0
def tw14269694952800801596:=0
def tw4968079891652870976:=0
def tw13804714563864513608:=0
def tw1106227492458752538:=0
def tw3091724079475502953:=0
def tw18110928392697278052:=0
def tw15050484255171655489:=0
def tw6557470024310456688:=0
def tw5426003923588152267:=0
def tw5626794145933934770:=0
def tw9545302053619799497:=0
def tw14241091433691007182:=0
def tw17125021696835801895:=0
def tw3820970225185308650:=0
def tw12117930717677581621:=0
def tw9960401282991630182:=0
def tw7017173623405171779:=0
def tw598249554069404373:=0
def tw24641471439389568:=0
def tw13115522065022913093:=0
def tw6112434125324937237:=0
def tw3729729064083689266:=0
def tw319125289857228630:=0
def tw18441011558283162202:=0
def tw1302945833204510353:=0
def tw9910439113233192899:=0
def tw5704633301058883759:=0
def tw2208194429762614395:=0
def tw10512695839426518415:=0
def tw17280374770595257205:=0
def tw4365806521459255298:=0
def tw13286842667797904303:=0
def tw11105796607243139855:=0
def tw2790824201945969896:=0
def tw3500540376085687138:=0
def tw14514244762355696003:=0
def tw6961837344020380562:=0
def tw15404756688856824145:=0
def tw8460506821106114703:=0
def tw1962847632945610020:=0
def tw6948213494957858537:=0
def tw14209352260629040002:=0
def tw11177303593397759854:=0
def tw3871490530688335179:=0
def tw4493662440906817443:=0
def tw6405938214689817784:=0
def tw13637441394695690261:=0
def tw8701655991608388260:=0
def tw14131584782003603546:=0
def tw9815369438871459406:=0
def tw3513794170111024335:=0
def tw11280479409469586052:=0
def tw14861714016396744579:=0
def tw1280028916859108501:=0
def tw4824773349882321955:=0
def tw17833567059249864212:=0
def tw12156798481601245022:=0
def tw16287594708505829226:=0
def tw14482314186408952670:=0
def tw3612448971218499869:=0
def tw671280007613832321:=0
def tw16302613619060850794:=0
def tw3524717347630707839:=0
def tw16194102693806460963:=0
def tw2528583526411045684:=0
def tw1103204829934153233:=0
def tw2577099526906911883:=0
def tw3936311079905184131:=0
def tw10157239721519509641:=0
def tw4824739686534931831:=0
def tw3656995891221034639:=0
def tw668211069589051857:=0
def tw6262914934998835634:=0
def tw10396774489732033589:=0
def tw13828805726103104273:=0
def tw6989013868568645540:=0
def tw14509519492409291152:=0
def tw3591218136366653241:=0
def tw15180504321469298425:=0
def tw18131295844839292660:=0
def tw8114632702716377869:=0
def tw10033297013759145066:=0
def tw1483719477789599497:=0
def tw1624753612735145989:=0
def tw17648097012987959151:=0
def tw12773925714073055578:=0
def tw3852176588065574411:=0
def tw10015451355920184714:=0
def tw365216678262867642:=0
def tw15311077097853188510:=0
def tw92479219615831888:=0
def tw3984234631827841654:=0
def tw17722458986037763624:=0
def tw9994878898634636336:=0
def tw3916432212703166044:=0
def tw18012535771887498974:=0
def tw12960358787668753186:=0
def tw12397961053663360610:=0
def tw12379634082393086741:=0
def tw1074222594925126613:=0
def tw16721548494956781077:=0
def tw10057227888493258032:=0
def tw10925911469909519043:=0
def tw9025553841595851255:=0
def tw14049274505070752999:=0
def tw8850959080723543486:=0
def tw7849478147676834175:=0
def tw1835899243661073698:=0
def tw15843725442783705299:=0
def tw15502023967025177219:=0
def tw11281726052012857957:=0
def tw9069031895051933588:=0
def tw14696849677246928079:=0
def tw5960367986437909937:=0
def tw16950656917427935631:=0
def tw5243379023452806315:=0
def tw11723743860120766843:=0
def tw1528485873552064539:=0
def tw15559035166003118457:=0
def tw11777063461906589736:=0
def tw9927900127096296609:=0
def tw8475815036623406625:=0
def tw15033817056109981242:=0
def tw3352743440629412138:=0
def tw10858800539590506787:=0
def tw16233537367915561767:=0
def tw15756267506637875567:=0
def tw5673210052692567751:=0
def tw6986025643617845542:=0
def tw1372274110809874429:=0
def tw11652768206514800177:=0
def tw13119754549706152110:=0
def tw5513889327977669301:=0
def tw4407062685400003080:=0
def tw13723335759149025492:=0
def tw9647597804939897763:=0
def tw8210432983245034270:=0
def tw724234387297483693:=0
def tw3568685360577995565:=0
def tw7906472397826535690:=0
def tw13163284195067096830:=0
def tw16688556863934116862:=0
def tw16486128009178032641:=0
def tw14740593728542576956:=0
def tw11919423871927281698:=0
def tw10467563036715114686:=0
def tw16238727489635301290:=0
def tw15098475795607190424:=0
def tw12395007718478573926:=0
def tw15413835210766117489:=0
def tw14907767529169743473:=0
def tw3013289691882345022:=0
def tw11245186203692773505:=0
def tw1453658746279389968:=0
def tw12664256719622205437:=0
def tw10157229437737694486:=0
def tw18090853024154666754:=0
def tw14647116115527540891:=0
def tw16281746977677469071:=0
def tw13674913154146940284:=0
def tw18103552996428202704:=0
def tw266490105738430523:=0
def tw17280679548917276838:=0
def tw15085821195238792715:=0
def tw17727951549249467789:=0
def tw5902028635068814951:=0
def tw16677962395752340254:=0
def tw8366755295053519184:=0
def tw8213860151917297957:=0
def tw1824157141204795971:=0
def tw2796843497040480436:=0
def tw5275073922102977733:=0
def tw10644419388127968425:=0
def tw793843497236018032:=0
def tw4113055493199898791:=0
def tw3476080079264512462:=0
def tw15972653264200233485:=0
def tw7538862578698623734:=0
def tw6054296289640896972:=0
def tw4672841351323899875:=0
def tw1969287123255878141:=0
def tw16038305527358433976:=0
def tw1173659454948388283:=0
def tw1012578677338836767:=0
def tw8672466046324004618:=0
def tw8787641469251601289:=0
def tw10181215030092767613:=0
def tw2289214331573567222:=0
def tw67292230277886606:=0
def tw4413850863044551748:=0
def tw8746244654447451606:=0
def tw602148049426211740:=0
def tw4422812840508638112:=0
def tw4315349035000899226:=0
def tw259676101920120403:=0
def tw16299930305137327645:=0
def tw12117534122069713004:=0
def tw10803905180421141816:=0
def tw10215438360915061818:=0
def tw790901187813919064:=0
def tw580995059996374030:=0
def tw17758432193515214085:=0
def tw17411078822402347996:=0
def tw16786884924428292809:=0
def tw1616415462809603482:=0
def tw15074691458627096148:=0
def tw14312769801733439555:=0
def tw14523223255807851990:=0
def tw9073212534340891275:=0
def tw2669672703388149901:=0
def tw2600949030827224645:=0
def tw16255197639662533146:=0
def tw15467571915377382971:=0
def tw9512083065296907822:=0
def tw6511129207475064048:=0
def tw6384160361338171040:=0
def tw4552577385937251792:=0
def tw1813737054553932123:=0
def tw16394828939944833970:=0
def tw14600883302786858860:=0
def tw9966557068468843443:=0
def tw9468851723799135769:=0
def tw946040786353309248:=0
def tw9354813948630263129:=0
def tw8895313239664648405:=0
def tw7911103279321231378:=0
def tw7806059725468107202:=0
def tw7746741167719373416:=0
def tw709492964353102686:=0
def tw7008479845932170325:=0
def tw7006018105112624015:=0
def tw6935744890780216242:=0
def tw5890944262387341931:=0
def tw5651478273220383065:=0
def tw5649605837160691349:=0
def tw5105048339926074529:=0
def tw4996697769579383491:=0
def tw4953764538446843152:=0
def tw4951043256999778830:=0
def tw4809150598856442995:=0
def tw4807224183965552463:=0
def tw467654560335874307:=0
def tw4634806486283801464:=0
def tw4503421599780309153:=0
def tw445489213827089900:=0
def tw4318266941893018972:=0
def tw4229096130270093916:=0
def tw3846675763563392987:=0
def tw3706058810784166860:=0
def tw3218268754921185686:=0
def tw3187532476172517228:=0
def tw3101221672035122958:=0
def tw2962543698501762175:=0
def tw2897474164478798155:=0
def tw2624694565608611883:=0
def tw2138107862233043704:=0
def tw18165147220858644572:=0
def tw17633253821826358984:=0
def tw17279058441564351487:=0
def tw17109104638657894360:=0
def tw16696653234696250269:=0
def tw16589856492848209789:=0
def tw16407102369595936756:=0
def tw15984235318529735195:=0
def tw15894756580648045141:=0
def tw15822006860216550831:=0
def tw15033760005018158405:=0
def tw14968178158929421724:=0
def tw14897283012186879603:=0
def tw14703995902733021978:=0
def tw14593216472140893929:=0
def tw14521509733696203164:=0
def tw14077659786074392335:=0
def tw1383921254530706608:=0
def tw13735768555723757794:=0
def tw12915992081399427917:=0
def tw12762995552517463569:=0
def tw12743247275812591849:=0
def tw12299976599261249941:=0
def tw1222191996684094243:=0
def tw12100067661895923968:=0
def tw12020520609578233153:=0
def tw11806227872665260882:=0
def tw11267432505690435638:=0
def tw1117217281050057952:=0
def tw10808250049341444026:=0
def tw10785044030549682898:=0
def tw10107902922391329750:=0
def tw10056155222819730782:=0
end PySem.W.Fast
/-! THE HAND LAYER, for ints, bools, texts, own classes, LISTS and tuples (index, slices, in, append, pop ..), calls, loops. Paste it whole ahead of your own text; what your proof does not reach may be deleted. -/
namespace L2
open PySem PySem.Spec PyProof.Rows

/-- a key: an int or a str -/
abbrev Key := Sum Int Str
def keyIs : Key → Value → Bool
  | .inl k, v => Value.isInt k v
  | .inr x, v => Value.isStrOf x v
def keyH (w : World) : Key → Int
  | .inl k => hashInt k
  | .inr x => hashStr w x
theorem keyIs_shape : ∀ {k : Key} {v : Value}, keyIs k v = true → (∃ i t, k = Sum.inl i ∧ v = Value.int i t) ∨ (∃ x t, k = Sum.inr x ∧ v = Value.str x t)
  | .inl i, v, h => by
    obtain ⟨t, e⟩ := Value.isInt_shape (k := i) (v := v) h
    exact .inl ⟨i, t, rfl, e⟩
  | .inr x, v, h => by
    obtain ⟨t, e⟩ := Value.isStrOf_shape (x := x) (v := v) h
    exact .inr ⟨x, t, rfl, e⟩
theorem key_ll (a b : Int) : decide ((Sum.inl a : Key) = Sum.inl b) = (a == b) := by
  by_cases e : a = b
  · subst e; simp
  · have h : ¬ (Sum.inl a : Key) = Sum.inl b := fun q => e (Sum.inl.inj q)
    rw [decide_eq_false h]
    exact (beq_eq_false_iff_ne.mpr e).symm
theorem key_rr (a b : Str) : decide ((Sum.inr a : Key) = Sum.inr b) = decide (a = b) := by
  by_cases e : a = b
  · subst e; simp
  · have h : ¬ (Sum.inr a : Key) = Sum.inr b := fun q => e (Sum.inr.inj q)
    rw [decide_eq_false h, decide_eq_false e]
theorem key_lr (a : Int) (b : Str) : decide ((Sum.inl a : Key) = Sum.inr b) = false := decide_eq_false (fun q => nomatch q)
theorem key_rl (a : Str) (b : Int) : decide ((Sum.inr a : Key) = Sum.inl b) = false := decide_eq_false (fun q => nomatch q)

def mixKind (prog : Program) (w : World) : PySem.KeyKind prog w Key where
  is := keyIs
  hash := keyH w
  inj := fun v a b ha hb => by
    rcases keyIs_shape ha with ⟨i, t, rfl, rfl⟩ | ⟨x, t, rfl, rfl⟩
    · rcases keyIs_shape hb with ⟨j, u, rfl, e⟩ | ⟨y, u, rfl, e⟩
      · injection e with e1 _; rw [e1]
      · exact nomatch e
    · rcases keyIs_shape hb with ⟨j, u, rfl, e⟩ | ⟨y, u, rfl, e⟩
      · exact nomatch e
      · injection e with e1 _; rw [e1]
  byValue := fun k v h => by
    rcases keyIs_shape h with ⟨i, t, rfl, rfl⟩ | ⟨x, t, rfl, rfl⟩ <;> rfl
  pyHash := fun hv h => by
    rcases keyIs_shape hv with ⟨i, t, rfl, rfl⟩ | ⟨x, t, rfl, rfl⟩
    · exact wpAny_pyHash_int h
    · exact wpAny_pyHash_str h
  eqBool := fun hu hv h => by
    rcases keyIs_shape hu with ⟨i, t, rfl, rfl⟩ | ⟨x, t, rfl, rfl⟩
    · rcases keyIs_shape hv with ⟨j, u, rfl, rfl⟩ | ⟨y, u, rfl, rfl⟩
      · rw [key_ll] at h; exact wpAny_eqBool_int h
      · rw [key_lr] at h; exact SeqAt.EqAt.int_str i t y u _ _ _ _ h
    · rcases keyIs_shape hv with ⟨j, u, rfl, rfl⟩ | ⟨y, u, rfl, rfl⟩
      · rw [key_rl] at h; exact SeqAt.EqAt.str_int x t j u _ _ _ _ h
      · rw [key_rr] at h; exact wpAny_eqBool_str h
  «strs» := fun k x t v h => by
    rcases keyIs_shape h with ⟨i, u, rfl, e⟩ | ⟨y, u, rfl, e⟩
    · exact nomatch e
    · injection e with e1 _
      subst e1
      cases v <;> rfl

end L2

namespace L2
open PySem PySem.Spec PyProof.Rows

/-- a value, without the heap -/
inductive V where
  | non | bl (b : Bool) | int (i : Int) | str (x : Str) | byt (b : Array UInt8) | flt (b : UInt64) | ref (a : Addr) | ty (n : String)
  deriving DecidableEq

def RelV : V → Value → Prop
  | .non, u => u = Value.none
  | .bl b, u => u = Value.bool b
  | .int i, u => ∃ t, u = Value.int i t
  | .str x, u => ∃ t, u = Value.str x t
  | .byt b, u => ∃ t, u = Value.bytes b t
  | .flt b, u => ∃ t, u = Value.float b t
  | .ref a, u => u = Value.ref a
  | .ty n, u => u = Value.type n

abbrev Vals : List V → List Value → Prop := Paired RelV
theorem Vals.length {xs : List V} {us : List Value} (r : Vals xs us) : xs.length = us.length := Paired.length r
theorem Vals.get : ∀ {xs : List V} {us : List Value} {i : Nat} {x : V}, Vals xs us → xs[i]? = some x → ∃ u, us[i]? = some u ∧ RelV x u
  | _, _, _, _, .nil, e => by simp at e
  | _, _, 0, _, .cons r _, e => by simp at e; subst e; exact ⟨_, rfl, r⟩
  | _, _, i + 1, x, .cons _ t, e => by
    obtain ⟨u, h1, h2⟩ := Vals.get (i := i) (x := x) t (by simpa using e)
    exact ⟨u, by simpa using h1, h2⟩
theorem Vals.set {x : V} {u : Value} (r : RelV x u) : ∀ {xs : List V} {us : List Value} (i : Nat), Vals xs us → Vals (xs.set i x) (us.set i u)
  | _, _, _, .nil => .nil
  | _, _, 0, .cons _ t => .cons r t
  | _, _, i + 1, .cons q t => .cons q (Vals.set r i t)
theorem Vals.append : ∀ {xs ys : List V} {us ws : List Value}, Vals xs us → Vals ys ws → Vals (xs ++ ys) (us ++ ws)
  | _, _, _, _, .nil, s => s
  | _, _, _, _, .cons r t, s => .cons r (Vals.append t s)
theorem Vals.take : ∀ {xs : List V} {us : List Value} (n : Nat), Vals xs us → Vals (xs.take n) (us.take n)
  | _, _, 0, _ => .nil
  | _, _, _ + 1, .nil => .nil
  | _, _, n + 1, .cons r t => .cons r (Vals.take n t)
theorem Vals.drop : ∀ {xs : List V} {us : List Value} (n : Nat), Vals xs us → Vals (xs.drop n) (us.drop n)
  | _, _, 0, r => r
  | _, _, _ + 1, .nil => .nil
  | _, _, n + 1, .cons _ t => Vals.drop n t
def RelO : Option V → Option Value → Prop
  | some v, some u => RelV v u
  | none, none => True
  | _, _ => False
def KV {κ : Type} : List (κ × V) → List (κ × Value) → Prop := Paired fun (p : κ × V) (q : κ × Value) => p.1 = q.1 ∧ RelV p.2 q.2

/-- a key of a dict (00_mix): an int or a text -/
def kV : Key → V
  | .inl i => .int i
  | .inr x => .str x

/-- what stands at a tracked address -/
inductive HO where
  /-- a list -/
  | lst (xs : List V)
  /-- a tuple (never changes) -/
  | tup (xs : List V)
  /-- a dict whose keys are ints and texts; one whose keys are tuples of ints and texts (the empty one is both) -/
  | dK (kvs : List (Key × V)) | dT (kvs : List (List Key × V))
  /-- a set of ints: its members, its size -/
  | set (S : Int → Bool) (n : Nat)
  /-- an instance of the class at C, its dict at dx, its attributes -/
  | ins (C dx : Addr) (fs : List (Str × V))
  /-- the dict of the instance at x -/
  | own (x : Addr)
  /-- the dict of an exception -/
  | xd (fs : List (Str × V))
  /-- a bound method, f of x -/
  | met (f x : Addr)
  /-- a range object lo, lo + 1, .. below hi -/
  | rng (lo hi : Int)
  /-- a thing that is known to the object (the script; a dict while a loop walks it): read, never written while it is so -/
  | frz (o : Obj) (u : HO)
  /-- a code object's table -/
  | tbl (ps : Array Value)
  /-- any other thing, by what is true of its one object (a def of one's own: SetO a S n := HO.ext fun h => ..) -/
  | ext (φ : Heap → Prop)

abbrev Hp := Addr → Option HO
def upd (H : Hp) (a : Addr) (o : HO) : Hp := fun b => if b = a then some o else H b
theorem upd_same {H : Hp} {a : Addr} {o : HO} : upd H a o a = some o := by unfold upd; rw [if_pos rfl]
theorem upd_ne {H : Hp} {a b : Addr} {o : HO} (h : b ≠ a) : upd H a o b = H b := by unfold upd; rw [if_neg h]
/-- two objects of different content stand apart -/
theorem ne_of {H : Hp} {a b : Addr} {o u : HO} (h : H a = some o) (h' : H b = some u) (d : o ≠ u) : a ≠ b := by
  intro e; subst e; rw [h] at h'; exact d (Option.some.inj h')
theorem ne_of_none {H : Hp} {a b : Addr} {o : HO} (h : H a = some o) (h' : H b = none) : a ≠ b := by
  intro e; subst e; rw [h] at h'; cases h'

section
variable (P : Program) (w : World)
def ObjOk (H : Hp) (h : Heap) (a : Addr) : HO → Prop
  | .lst xs => xs.length ≤ sizeLine ∧ ∃ (its : List Value) (n : Nat), Vals xs its ∧ h.get? a = some { cls := .type "list", data := .seq its.toArray n }
  | .tup xs => xs.length ≤ sizeLine ∧ ∃ its : List Value, Vals xs its ∧ IsTup h a its.toArray
  | .dK kvs => kvs.length ≤ sizeLine ∧ (a == sysModules) = false ∧ ∃ vs, KV kvs vs ∧ h.DictOf (mixKind P w) a vs
  | .dT kvs => kvs.length ≤ sizeLine ∧ (a == sysModules) = false ∧ ∃ xs : List (List Key × Addr × Value),
      Paired (fun (p : List Key × V) (q : List Key × Addr × Value) => p.1 = q.1 ∧ H q.2.1 = some (.tup (p.1.map kV)) ∧ RelV p.2 q.2.2) kvs xs ∧
      ∃ o es ep, h.get? a = some o ∧ o.ExactDict ∧ o.data = .dict es ep ∧ es.toList = xs.map (entryOfKey (tupleKind (mixKind P w))) ∧ (xs.map (·.1)).Nodup
  | .set S n => h.SetOf (intKind P w) a S n
  | .ins C dx fs => H dx = some (.own a) ∧ fs.length ≤ 1000 ∧ dx ≠ a ∧ h.get? a = some (PySem.W.instObj C dx) ∧
      ∃ mA, h.Ns1 dx mA ∧ (∀ f, RelO (fs.lookup f) (mA f)) ∧ PySem.Within mA (fs.map (·.1))
  | .own _ => ∃ o, h.get? a = some o
  | .xd fs => ∃ mA, h.Ns1 a mA ∧ ∀ f, RelO (fs.lookup f) (mA f)
  | .rng lo hi => ∃ t u v, h.get? a = some { cls := .type "range", data := .fields #[.int lo t, .int hi u, .int 1 v] }
  | .frz o u => h.get? a = some o ∧ ObjOk H h a u
  | .tbl ps => h.get? a = some { cls := .none, data := .fields ps }
  | .met f x => h.get? a = some (PySem.W.methodObj (.ref f) (.ref x))
  | .ext φ => φ h ∧ (∃ o, h.get? a = some o) ∧ ∀ h1 h2 : Heap, φ h1 → (∀ o, h1.get? a = some o → h2.get? a = some o) → φ h2
/-- the abstract heap is held -/
def HOk (H : Hp) (h : Heap) : Prop := ∀ a o, H a = some o → ObjOk P w H h a o
end

section
variable {P : Program} {w : World} {H H' : Hp} {h h' : Heap} {a : Addr} {o : HO}
theorem ObjOk.lt (x : ObjOk P w H h a o) : a < h.objs.size := by
  cases o with
  | lst xs => obtain ⟨_, _, _, _, e⟩ := x; exact Heap.lt_size e
  | tup xs => obtain ⟨_, _, _, p⟩ := x; exact p.lt
  | dK kvs => obtain ⟨_, _, _, _, o, _, _, e, _⟩ := x; exact Heap.lt_size e
  | dT kvs => obtain ⟨_, _, _, _, o, _, _, e, _⟩ := x; exact Heap.lt_size e
  | set S n => obtain ⟨o, _, _, _, e, _⟩ := x; exact Heap.lt_size e
  | ins C dx fs => obtain ⟨_, _, _, e, _⟩ := x; exact Heap.lt_size e
  | own y => obtain ⟨_, e⟩ := x; exact Heap.lt_size e
  | xd fs => obtain ⟨_, ⟨_, _, _, e, _⟩, _⟩ := x; exact Heap.lt_size e
  | rng lo hi => obtain ⟨_, _, _, e⟩ := x; exact Heap.lt_size e
  | frz ob u => obtain ⟨e, _⟩ := x; exact Heap.lt_size e
  | tbl ps => exact Heap.lt_size (show h.get? a = some _ from x)
  | met f y => exact Heap.lt_size (show h.get? a = some _ from x)
  | ext φ => obtain ⟨_, ⟨_, e⟩, _⟩ := x; exact Heap.lt_size e
theorem Paired.mapP {α β : Type} {F G : α → β → Prop} : ∀ {l₁ : List α} {l₂ : List β}, Paired F l₁ l₂ → (∀ a b, F a b → G a b) → Paired G l₁ l₂
  | _, _, .nil, _ => .nil
  | _, _, .cons r t, f => .cons (f _ _ r) (Paired.mapP t f)
/-- what an object's description leans on: its own object, its own dict, the tuples -/
theorem ObjOk.stay (x : ObjOk P w H h a o) (k : ∀ b u, (b = a ∨ H b = some (.own a)) → h.get? b = some u → h'.get? b = some u)
    (ho : ∀ b, H b = some (.own a) → H' b = some (.own a)) (ht : ∀ b xs, H b = some (.tup xs) → H' b = some (.tup xs)) : ObjOk P w H' h' a o := by
  induction o with
  | lst xs => obtain ⟨z, its, n, r, e⟩ := x; exact ⟨z, its, n, r, k _ _ (.inl rfl) e⟩
  | tup xs => obtain ⟨z, its, r, ob, e, c⟩ := x; exact ⟨z, its, r, ob, k _ _ (.inl rfl) e, c⟩
  | dK kvs => obtain ⟨z, y, vs, r, ob, es, ep, e, c⟩ := x; exact ⟨z, y, vs, r, ob, es, ep, k _ _ (.inl rfl) e, c⟩
  | dT kvs =>
    obtain ⟨z, y, xs, r, ob, es, ep, e, c⟩ := x
    exact ⟨z, y, xs, Paired.mapP r fun p q z => ⟨z.1, ht _ _ z.2.1, z.2.2⟩, ob, es, ep, k _ _ (.inl rfl) e, c⟩
  | set S n => obtain ⟨ob, es, ep, t, e, c⟩ := x; exact ⟨ob, es, ep, t, k _ _ (.inl rfl) e, c⟩
  | ins C dx fs =>
    obtain ⟨d, z, ne, e, mA, ⟨od, es, ep, e2, c⟩, r⟩ := x
    exact ⟨ho _ d, z, ne, k _ _ (.inl rfl) e, mA, ⟨od, es, ep, k _ _ (.inr d) e2, c⟩, r⟩
  | own y => obtain ⟨ob, e⟩ := x; exact ⟨ob, k _ _ (.inl rfl) e⟩
  | xd fs => obtain ⟨mA, ⟨od, es, ep, e, c⟩, r⟩ := x; exact ⟨mA, ⟨od, es, ep, k _ _ (.inl rfl) e, c⟩, r⟩
  | rng lo hi => obtain ⟨t, u, v, e⟩ := x; exact ⟨t, u, v, k _ _ (.inl rfl) e⟩
  | frz ob u ih => obtain ⟨e, q⟩ := x; exact ⟨k _ _ (.inl rfl) e, ih q⟩
  | tbl ps =>
    have e : h.get? a = some { cls := .none, data := .fields ps } := x
    show h'.get? a = some { cls := .none, data := .fields ps }
    exact k a _ (.inl rfl) e
  | met f y =>
    have e : h.get? a = some (PySem.W.methodObj (.ref f) (.ref y)) := x
    show h'.get? a = some (PySem.W.methodObj (.ref f) (.ref y))
    exact k a _ (.inl rfl) e
  | ext φ => obtain ⟨p, ⟨o, e⟩, st⟩ := x; exact ⟨st _ _ p fun o q => k _ _ (.inl rfl) q, ⟨o, k _ _ (.inl rfl) e⟩, st⟩
theorem HOk.lt (x : HOk P w H h) (e : H a = some o) : a < h.objs.size := (x a o e).lt
theorem HOk.fresh (x : HOk P w H h) (e : h.objs.size ≤ a) : H a = none := by
  cases q : H a with
  | none => rfl
  | some u => exact absurd (Nat.lt_of_lt_of_le (x.lt q) e) (Nat.lt_irrefl _)
/-- every object of the heap is kept -/
theorem HOk.kept (x : HOk P w H h) (k : ∀ b u, h.get? b = some u → h'.get? b = some u) : HOk P w H h' := fun a o e =>
  (x a o e).stay (fun b u _ q => k b u q) (fun _ q => q) fun _ _ q => q
/-- a new object is laid and tracked -/
theorem HOk.laid (x : HOk P w H h) (k : ∀ b u, h.get? b = some u → h'.get? b = some u) (hp : h.objs.size ≤ a) (new : ObjOk P w (upd H a o) h' a o) : HOk P w (upd H a o) h' := fun b u e => by
  have hn := x.fresh hp
  by_cases hb : b = a
  · subst hb; rw [upd_same] at e; cases e; exact new
  · rw [upd_ne hb] at e
    exact (x b u e).stay (fun c v _ q => k c v q) (fun c q => by rw [upd_ne (ne_of_none q hn)]; exact q) fun c xs q => by rw [upd_ne (ne_of_none q hn)]; exact q
end

/-- what may be read as u: it is u, or a known u -/
def Rd (H : Hp) (a : Addr) (u : HO) : Prop := H a = some u ∨ ∃ o, H a = some (.frz o u)
theorem Rd.ok {P : Program} {w : World} {H : Hp} {h : Heap} {a : Addr} {u : HO} (r : Rd H a u) (x : HOk P w H h) : ObjOk P w H h a u := by
  rcases r with r | ⟨o, r⟩
  · exact x a u r
  · obtain ⟨_, q⟩ := x a _ r
    exact q
/-- what may be written -/
def Mut : Option HO → Prop
  | some (.lst _) => True
  | some (.dK _) => True
  | some (.dT _) => True
  | some (.set _ _) => True
  | some (.ins _ _ _) => True
  | some (.ext _) => True
  | _ => False
section
variable {P : Program} {w : World} {H : Hp} {h h' : Heap} {x e : Addr} {o' : HO}
/-- the object at e is changed: x itself, or the dict of the instance x -/
theorem HOk.write (ok : HOk P w H h) (mu : Mut (H x)) (he : e = x ∨ H e = some (.own x)) (k : ∀ b u, b ≠ e → h.get? b = some u → h'.get? b = some u) (heo : ∃ u, h'.get? e = some u)
    (new : ObjOk P w (upd H x o') h' x o') : HOk P w (upd H x o') h' := fun b u q => by
  have nown : ∀ c y, H c = some (.own y) → c ≠ x := fun c y r z => by subst z; rw [r] at mu; exact mu
  have ntup : ∀ c xs, H c = some (.tup xs) → c ≠ x := fun c xs r z => by subst z; rw [r] at mu; exact mu
  by_cases hb : b = x
  · subst hb; rw [upd_same] at q; cases q; exact new
  · rw [upd_ne hb] at q
    by_cases hbe : b = e
    · have q' : H b = some (.own x) := by
        rcases he with z | z
        · exact absurd (hbe.trans z) hb
        · rw [hbe]; exact z
      rw [q] at q'; cases q'
      obtain ⟨v, hv⟩ := heo
      exact ⟨v, by rw [hbe]; exact hv⟩
    · refine (ok b u q).stay (fun c v hc r => k c v ?_ r) (fun c r => by rw [upd_ne (nown c b r)]; exact r) fun c xs r => by rw [upd_ne (ntup c xs r)]; exact r
      rcases hc with rfl | hc
      · exact hbe
      · rintro rfl
        rcases he with z | z
        · exact nown c b hc z
        · rw [hc] at z; cases z; exact hb rfl
end

/-! ### kept unless tracked; of the frames at fs (the callers') the slots may change (an exception that passes writes there); of the records at ex (iterators) nothing is said -/
structure Un (fs ex : List Addr) (H H' : Hp) (h h' : Heap) : Prop where
  keep : ∀ b o, h.get? b = some o → H b = none → b ∉ fs → b ∉ ex → h'.get? b = some o
  slot : ∀ b o, h.get? b = some o → H b = none → b ∈ fs → b ∉ ex → ∃ sl, h'.get? b = some { o with slots := sl }
  free : ∀ b o, h.get? b = some o → H b = none → b ∉ ex → H' b = none
  there : ∀ b o, h.get? b = some o → b ∉ ex → ∃ o', h'.get? b = some o'
  tups : ∀ b xs, H b = some (.tup xs) → H' b = some (.tup xs)
  frzs : ∀ b o u, H b = some (.frz o u) → H' b = some (.frz o u)
  tbls : ∀ b ps, H b = some (.tbl ps) → ∃ more, H' b = some (.tbl (ps ++ more))
section
variable {fs fs' ex ex' : List Addr} {H H1 H2 : Hp} {h h1 h2 h' : Heap} {a x e : Addr} {o : HO}
theorem Un.any (u : Un fs ex H H1 h h1) {b : Addr} {ob : Obj} (q : h.get? b = some ob) (n : H b = none) (hx : b ∉ ex) : ∃ sl, h1.get? b = some { ob with slots := sl } := by
  by_cases hb : b ∈ fs
  · exact u.slot b ob q n hb hx
  · exact ⟨ob.slots, u.keep b ob q n hb hx⟩
theorem Un.trans (a : Un fs ex H H1 h h1) (b : Un fs ex H1 H2 h1 h2) : Un fs ex H H2 h h2 where
  keep := fun c ob q n hc hx => b.keep c ob (a.keep c ob q n hc hx) (a.free c ob q n hx) hc hx
  slot := fun c ob q n hc hx => by
    obtain ⟨sl, e1⟩ := a.slot c ob q n hc hx
    obtain ⟨sl', e2⟩ := b.slot c _ e1 (a.free c ob q n hx) hc hx
    exact ⟨sl', e2⟩
  free := fun c ob q n hx => by
    obtain ⟨o', e1⟩ := a.there c ob q hx
    exact b.free c o' e1 (a.free c ob q n hx) hx
  there := fun c ob q hx => by
    obtain ⟨o', e1⟩ := a.there c ob q hx
    exact b.there c o' e1 hx
  tups := fun c xs q => b.tups c xs (a.tups c xs q)
  frzs := fun c ob xs q => b.frzs c ob xs (a.frzs c ob xs q)
  tbls := fun c ps q => by
    obtain ⟨m1, e1⟩ := a.tbls c ps q
    obtain ⟨m2, e2⟩ := b.tbls c _ e1
    exact ⟨m1 ++ m2, by rw [e2, Array.append_assoc]⟩
theorem Un.kept (k : ∀ b u, h.get? b = some u → h'.get? b = some u) : Un fs ex H H h h' :=
  ⟨fun b ob q _ _ _ => k b ob q, fun b ob q _ _ _ => ⟨ob.slots, k b ob q⟩, fun _ _ _ n _ => n, fun b ob q _ => ⟨ob, k b ob q⟩, fun _ _ q => q, fun _ _ _ q => q, fun _ ps q => ⟨#[], by rw [q]; simp⟩⟩
theorem Un.refl : Un fs ex H H h h := Un.kept fun _ _ q => q
theorem Un.laid (k : ∀ b u, h.get? b = some u → h'.get? b = some u) (hp : h.objs.size ≤ a) (hn : H a = none) : Un fs ex H (upd H a o) h h' where
  keep := fun b u q _ _ _ => k b u q
  slot := fun b u q _ _ _ => ⟨u.slots, k b u q⟩
  free := fun b u q n _ => by rw [upd_ne (Nat.ne_of_lt (Nat.lt_of_lt_of_le (Heap.lt_size q) hp))]; exact n
  there := fun b u q _ => ⟨u, k b u q⟩
  tups := fun b xs q => by rw [upd_ne (ne_of_none q hn)]; exact q
  frzs := fun b u xs q => by rw [upd_ne (ne_of_none q hn)]; exact q
  tbls := fun b ps q => ⟨#[], by rw [upd_ne (ne_of_none q hn), q]; simp⟩
theorem Un.write (mu : Mut (H x)) (he : e = x ∨ H e = some (.own x)) (k : ∀ b u, b ≠ e → h.get? b = some u → h'.get? b = some u) (heo : ∃ u, h'.get? e = some u) : Un fs ex H (upd H x o) h h' := by
  have hx : ∀ b, H b = none → b ≠ x := fun b n z => by subst z; rw [n] at mu; exact mu
  have hb : ∀ b, H b = none → b ≠ e := fun b n z => by
    subst z
    rcases he with r | r
    · exact hx b n r
    · rw [n] at r; cases r
  have hm : ∀ b u, H b = some u → ¬ Mut (some u) → b ≠ x := fun b u q nm z => by subst z; rw [q] at mu; exact nm mu
  refine ⟨fun b u q n _ _ => k b u (hb b n) q, fun b u q n _ _ => ⟨u.slots, k b u (hb b n) q⟩, fun b u q n _ => by rw [upd_ne (hx b n)]; exact n, fun b u q _ => ?_,
    fun b xs q => by rw [upd_ne (hm b _ q fun z => z)]; exact q, fun b u xs q => by rw [upd_ne (hm b _ q fun z => z)]; exact q, fun b ps q => ⟨#[], by rw [upd_ne (hm b _ q fun z => z), q]; simp⟩⟩
  by_cases hbe : b = e
  · subst hbe; exact heo
  · exact ⟨u, k b u hbe q⟩
theorem Un.mono (u : Un fs ex H H1 h h1) (hs : ∀ b ∈ fs, b ∈ fs') (hx : ∀ b ∈ ex, b ∈ ex') : Un fs' ex' H H1 h h1 :=
  ⟨fun b ob q n hb he => u.keep b ob q n (fun z => hb (hs b z)) fun z => he (hx b z), fun _ _ q n _ he => u.any q n fun z => he (hx _ z), fun b ob q n he => u.free b ob q n fun z => he (hx b z), fun b ob q he => u.there b ob q fun z => he (hx b z), u.tups, u.frzs, u.tbls⟩
end

/-! ### the heap without what is tracked -/
def trk (h : Heap) (H : Hp) : List Addr := (List.range h.objs.size).filter fun a => (H a).isSome
def hidT (h : Heap) (H : Hp) : Heap := PySem.W.hideAll h (trk h H)
theorem hidT_size (h : Heap) (H : Hp) : (hidT h H).objs.size = h.objs.size := PySem.W.hideAll_size _ _
theorem hidT_get {h : Heap} {H : Hp} {b : Addr} {o : Obj} (e : h.get? b = some o) (n : H b = none) : (hidT h H).get? b = some o :=
  PySem.W.hideAll_get _ e fun hm => by
    have q : (H b).isSome = true := (List.mem_filter.mp hm).2
    rw [n] at q; simp at q
theorem of_hidT {h : Heap} {H : Hp} {b : Addr} {o : Obj} (e : (hidT h H).get? b = some o) : h.get? b = some o ∧ H b = none := by
  have e' : h.get? b = some o := PySem.W.of_hideAll (trk h H) e
  refine ⟨e', ?_⟩
  cases q : H b with
  | none => rfl
  | some x =>
    have hm : b ∈ trk h H := List.mem_filter.mpr ⟨List.mem_range.mpr (Heap.lt_size e'), by simp [q]⟩
    have z : (hidT h H).get? b = none := PySem.W.hideAll_none (trk h H) hm
    rw [z] at e; cases e

/-! ### OpenK's ledger, filled with every new object but one -/
def allNews (g h : Heap) (L : Addr) : List (Addr × Obj) := (List.range h.objs.size).filterMap fun a => if a = L ∨ (g.get? a).isSome = true then none else (h.get? a).map fun o => (a, o)
def rest (g h : Heap) (L d : Addr) : List (Addr × Obj) := (allNews g h L).filter fun p => decide (p.1 ≠ d)
end L2

namespace L2
open PySem PySem.Spec PyProof.Rows

/-- the module's facts, over the base: the heap at the law's entry without what is tracked there -/
structure Mod (K : PySem.W.Frag) (mg : Str → Option Value) (base : Heap) : Prop where
  kin : K.In base
  glob : base.Ns mainGlobals mg
  blt : ∃ mb, base.Ns builtinsNs mb ∧ ∀ x : Str, x ≠ "__name__" → mb x = bootBuiltins x
  nolimit : base.NoLimit

/-- the context: a def's body (or a comprehension's block) running. base: fixed through the whole law; s₀, H₀: the entry; outer: the frames whose slots others may change (a def's callers); stack: all frames that run;
   ex: iterators that were made ahead of the entry and are walked here (a comprehension's); fn: the names whose cells were made at the entry (a def: all; a comprehension's block: its own); calm: not within an except suite; pn: pins that every state bears; xe: what is wanted of an exception that leaves the code -/
structure Cx where
  prog : Program
  w : World
  K : PySem.W.Frag
  mg : Str → Option Value
  base : Heap
  A : Around
  N : List Str
  s₀ : Shared
  H₀ : Hp
  env : Env
  outer : List Env
  stack : List Env
  ex : List Addr
  fn : Str → Bool
  calm : Bool
  pn : List (Addr × Obj)
  xe : Value → Shared → Prop
/-- the callers' frames -/
def frs (l : List Env) : List Addr := l.filterMap (·.frame)
abbrev Cx.fs (X : Cx) : List Addr := frs X.outer

def Vis (sc : Scope) (x : Str) : Prop := sc.names.lookup x = some .local ∨ sc.names.lookup x = some .cell ∨ sc.names.lookup x = some .free
def Loc (sc : Scope) (x : Str) : Prop := sc.names.lookup x = some .local ∨ sc.names.lookup x = some .cell
def Look (env : Env) (h : Heap) (m : Str → Option Value) (x : Str) (u : Value) : Prop :=
  (env.kindOf x = some .local ∧ m x = some u) ∨ ((env.kindOf x = some .cell ∨ env.kindOf x = some .free) ∧ ∃ c, env.cells.lookup x = some c ∧ h.IsCell c (some u))

structure Cx.Ok (X : Cx) : Prop where
  mod : Mod X.K X.mg X.base
  kind : X.env.scope.kind = .function
  glob : X.env.globals = mainGlobals
  blt : X.env.builtins = builtinsNs
  above : X.s₀.heap.objs.size ≤ X.env.locals
  inj : ∀ x y c, X.env.cells.lookup x = some c → X.env.cells.lookup y = some c → x = y
  has : ∀ x, (X.env.kindOf x = some .cell ∨ X.env.kindOf x = some .free) → ∃ c, X.env.cells.lookup x = some c
  cab : ∀ x c, X.fn x = true → X.env.cells.lookup x = some c → X.s₀.heap.objs.size ≤ c
  hd : X.calm = true → X.A.handled = none
  frames : X.A.frames = some X.stack
  stk : X.stack = X.outer ∨ (X.stack = X.env :: X.outer ∧ X.env.frame = some X.env.locals)
  exf : ∀ b ∈ X.ex, b ≠ X.env.locals ∧ ∀ x c, X.env.cells.lookup x = some c → c ≠ b
  bs : ∀ b o, X.base.get? b = some o → X.s₀.heap.get? b = some o ∧ X.H₀ b = none
  bsz : X.base.objs.size ≤ X.s₀.heap.objs.size
  noex : ∀ b o, X.base.get? b = some o → b ∉ X.ex
  exfs : ∀ b ∈ X.ex, b ∉ X.fs
  funs : X.s₀.heap.FunFrames X.base X.outer
  frf : ∀ b ∈ X.fs, X.H₀ b = none

structure Inv (X : Cx) (pins : List (Addr × Obj)) (σ : List (Option V)) (H : Hp) (s : Shared) : Prop where
  ok : X.Ok
  os : s.os = X.s₀.os
  bare : AllBare s.gens
  base : Un X.fs X.ex X.H₀ H X.s₀.heap s.heap
  loc : ∃ m, s.heap.Ns X.env.locals m ∧ ∀ (i : Nat) (x : Str) (v : V), X.N[i]? = some x → σ[i]? = some (some v) → Vis X.env.scope x → ∃ u, RelV v u ∧ Look X.env s.heap m x u
  cell : ∀ x c, X.env.cells.lookup x = some c → ∃ v, s.heap.IsCell c v
  free : H X.env.locals = none
  freeC : ∀ x c, X.env.cells.lookup x = some c → H c = none
  pin : ∀ p ∈ X.pn ++ pins, s.heap.get? p.1 = some p.2 ∧ H p.1 = none ∧ p.1 ≠ X.env.locals ∧ p.1 ∉ X.fs ∧ ∀ v, p.2.data ≠ .cell v
  hok : HOk X.prog X.w H s.heap
  len : σ.length = X.N.length

section
variable {X : Cx} {pins : List (Addr × Obj)} {σ : List (Option V)} {H H' : Hp} {s : Shared} {h' : Heap}

theorem Cx.Ok.nofr (ok : X.Ok) {b : Addr} {o : Obj} (e : X.base.get? b = some o) : b ∉ X.fs := fun hb => by
  have := (ok.funs.mem hb).1
  rw [e] at this; cases this
theorem Inv.bs (I : Inv X pins σ H s) : ∀ b o, X.base.get? b = some o → s.heap.get? b = some o ∧ H b = none := fun b o e =>
  ⟨I.base.keep b o (I.ok.bs b o e).1 (I.ok.bs b o e).2 (I.ok.nofr e) (I.ok.noex b o e), I.base.free b o (I.ok.bs b o e).1 (I.ok.bs b o e).2 (I.ok.noex b o e)⟩
theorem Inv.bk (I : Inv X pins σ H s) : ∀ b o, X.base.get? b = some o → s.heap.get? b = some o := fun b o e => (I.bs b o e).1
theorem Inv.mod (I : Inv X pins σ H s) : Mod X.K X.mg X.base := I.ok.mod
theorem Inv.kIn (I : Inv X pins σ H s) : X.K.In s.heap := I.ok.mod.kin.keeps I.bk
theorem Inv.lt (I : Inv X pins σ H s) : X.env.locals < s.heap.objs.size := let ⟨_, hn, _⟩ := I.loc; hn.lt
theorem Inv.sz (I : Inv X pins σ H s) : X.s₀.heap.objs.size ≤ s.heap.objs.size := Nat.le_trans I.ok.above (Nat.le_of_lt I.lt)
theorem Inv.nofs (I : Inv X pins σ H s) {a : Addr} (h : s.heap.objs.size ≤ a) : a ∉ X.fs := fun hb => by
  obtain ⟨_, o, ho, _⟩ := I.ok.funs.mem hb
  exact absurd (Nat.lt_of_lt_of_le (Heap.lt_size ho) (Nat.le_trans I.sz h)) (Nat.lt_irrefl _)
theorem Inv.cne (I : Inv X pins σ H s) : ∀ x c, X.env.cells.lookup x = some c → c ≠ X.env.locals := fun x c e z => by
  obtain ⟨v, o, ho, hd⟩ := I.cell x c e
  obtain ⟨m, ⟨o', es, ep, ho', hd', _⟩, _⟩ := I.loc
  rw [z, ho'] at ho; cases ho; rw [hd'] at hd; cases hd
theorem Inv.funs (I : Inv X pins σ H s) : s.heap.FunFrames X.base X.outer := by
  have all : ∀ (l : List Env), (∀ b ∈ frs l, b ∈ X.fs) → X.s₀.heap.FunFrames X.base l → s.heap.FunFrames X.base l := by
    intro l
    induction l with
    | nil => intro _ _; trivial
    | cons env r ih =>
      intro hs hl
      obtain ⟨hk, ⟨L, o, hf, hn, ho, hd⟩, hr⟩ := hl
      have hL : L ∈ X.fs := hs L (by unfold frs; rw [List.filterMap_cons, hf]; exact List.mem_cons_self)
      obtain ⟨sl, e⟩ := I.base.slot L o ho (I.ok.frf L hL) hL fun z => I.ok.exfs L z hL
      exact ⟨hk, ⟨L, _, hf, hn, e, hd⟩, ih (fun b hb => hs b (by unfold frs; rw [List.filterMap_cons, hf]; exact List.mem_cons_of_mem _ hb)) hr⟩
  exact all X.outer (fun _ hb => hb) I.ok.funs

/-- the frames that run, for a call -/
theorem Inv.stack (I : Inv X pins σ H s) : s.heap.FunFrames X.base X.stack := by
  rcases I.ok.stk with e | ⟨e, hf⟩
  · rw [e]; exact I.funs
  · rw [e]
    obtain ⟨m, hn, _⟩ := I.loc
    refine .cons (by rw [I.ok.kind]; decide) hf hn ?_ I.funs
    exact Heap.get?_none_of_le (Nat.le_trans I.ok.bsz I.ok.above)
theorem Inv.stkSub (I : Inv X pins σ H s) : ∀ b ∈ frs X.stack, b ∈ X.env.locals :: X.fs := fun b hb => by
  rcases I.ok.stk with e | ⟨e, hf⟩
  · rw [e] at hb; exact List.mem_cons_of_mem _ hb
  · rw [e] at hb
    unfold frs at hb
    rw [List.filterMap_cons, hf] at hb
    exact hb
theorem Inv.stkFree (I : Inv X pins σ H s) : ∀ b ∈ frs X.stack, H b = none := fun b hb => by
  rcases List.mem_cons.mp (I.stkSub b hb) with e | hb
  · rw [e]; exact I.free
  · obtain ⟨_, o, ho, _⟩ := I.ok.funs.mem hb
    exact I.base.free b o ho (I.ok.frf b hb) fun z => I.ok.exfs b z hb

/-- THE STEP: the untracked objects but the frame and the records at ch are kept (the callers' frames up to slots), the frame's map is kept, the new abstract heap is held -/
theorem Inv.step {g' : Array GenState} {t' : Nat} {d' : Drawn} {ch : List Addr} (I : Inv X pins σ H s)
    (hch : ∀ b ∈ ch, (b ∈ X.ex ∨ X.s₀.heap.objs.size ≤ b) ∧ b ≠ X.env.locals ∧ (∀ x c, X.env.cells.lookup x = some c → c ≠ b) ∧ ∀ p ∈ X.pn ++ pins, p.1 ≠ b)
    (keep : ∀ b o, b ≠ X.env.locals → b ∉ X.fs → b ∉ ch → s.heap.get? b = some o → H b = none → h'.get? b = some o)
    (slot : ∀ b o, b ≠ X.env.locals → b ∈ X.fs → b ∉ ch → s.heap.get? b = some o → H b = none → ∃ sl, h'.get? b = some { o with slots := sl }) (free : ∀ b o, b ∉ ch → s.heap.get? b = some o → H b = none → H' b = none)
    (there : ∀ b o, b ∉ ch → s.heap.get? b = some o → ∃ o', h'.get? b = some o')
    (tups : ∀ b xs, H b = some (.tup xs) → H' b = some (.tup xs)) (frzs : ∀ b o u, H b = some (.frz o u) → H' b = some (.frz o u)) (tbls : ∀ b ps, H b = some (.tbl ps) → ∃ more, H' b = some (.tbl (ps ++ more)))
    (ns : ∀ m, s.heap.Ns X.env.locals m → h'.Ns X.env.locals m) (hok : HOk X.prog X.w H' h') (hg : AllBare g') :
    Inv X pins σ H' { s with heap := h', gens := g', drawn := d', toks := t' } := by
  have neL : ∀ b o, X.s₀.heap.get? b = some o → b ≠ X.env.locals := fun b o e => Nat.ne_of_lt (Nat.lt_of_lt_of_le (Heap.lt_size e) I.ok.above)
  have neC : ∀ b o, X.s₀.heap.get? b = some o → b ∉ X.ex → b ∉ ch := fun b o e hx hb => by
    rcases (hch b hb).1 with z | z
    · exact hx z
    · exact absurd (Nat.lt_of_lt_of_le (Heap.lt_size e) z) (Nat.lt_irrefl _)
  have cellK : ∀ x c, X.env.cells.lookup x = some c → ∀ v, s.heap.IsCell c v → h'.IsCell c v := fun x c e v ⟨o, ho, hd⟩ => by
    have nch : c ∉ ch := fun z => (hch c z).2.2.1 x c e rfl
    by_cases hc : c ∈ X.fs
    · obtain ⟨sl, q⟩ := slot c o (I.cne x c e) hc nch ho (I.freeC x c e)
      exact ⟨_, q, hd⟩
    · exact ⟨o, keep c o (I.cne x c e) hc nch ho (I.freeC x c e), hd⟩
  refine ⟨I.ok, I.os, hg, ⟨fun b o e n hb hx => ?_, fun b o e n hb hx => ?_, fun b o e n hx => ?_, fun b o e hx => ?_, fun b xs e => tups b xs (I.base.tups b xs e), fun b o xs e => frzs b o xs (I.base.frzs b o xs e), fun b ps e => ?_⟩, ?_, fun x c e => ?_, ?_, fun x c e => ?_, fun p hp => ?_, hok, I.len⟩
  · exact keep b o (neL b o e) hb (neC b o e hx) (I.base.keep b o e n hb hx) (I.base.free b o e n hx)
  · obtain ⟨sl, e1⟩ := I.base.slot b o e n hb hx
    obtain ⟨sl', e2⟩ := slot b _ (neL b o e) hb (neC b o e hx) e1 (I.base.free b o e n hx)
    exact ⟨sl', e2⟩
  · obtain ⟨o', e1⟩ := I.base.there b o e hx
    exact free b o' (neC b o e hx) e1 (I.base.free b o e n hx)
  · obtain ⟨o', e1⟩ := I.base.there b o e hx
    exact there b o' (neC b o e hx) e1
  · obtain ⟨m1, e1⟩ := I.base.tbls b ps e
    obtain ⟨m2, e2⟩ := tbls b _ e1
    exact ⟨m1 ++ m2, by rw [e2, Array.append_assoc]⟩
  · obtain ⟨m, hn, hl⟩ := I.loc
    refine ⟨m, ns m hn, fun i x v e1 e2 e3 => ?_⟩
    obtain ⟨u, r, l⟩ := hl i x v e1 e2 e3
    refine ⟨u, r, ?_⟩
    rcases l with l | ⟨k, c, e, z⟩
    · exact .inl l
    · exact .inr ⟨k, c, e, cellK x c e _ z⟩
  · obtain ⟨v, z⟩ := I.cell x c e
    exact ⟨v, cellK x c e v z⟩
  · obtain ⟨m, ⟨o, _, _, ho, _⟩, _⟩ := I.loc
    exact free _ o (fun z => (hch _ z).2.1 rfl) ho I.free
  · obtain ⟨v, o, ho, hd⟩ := I.cell x c e
    exact free c o (fun z => (hch c z).2.2.1 x c e rfl) ho (I.freeC x c e)
  · obtain ⟨e, n, ne, nf, d⟩ := I.pin p hp
    have nch : p.1 ∉ ch := fun z => (hch p.1 z).2.2.2 p hp rfl
    exact ⟨keep p.1 p.2 ne nf nch e n, free p.1 p.2 nch e n, ne, nf, d⟩
/-- .. where the frame's own object is kept too -/
theorem Inv.un {t' : Nat} (I : Inv X pins σ H s) (u : Un X.fs [] H H' s.heap h') (hok : HOk X.prog X.w H' h') : Inv X pins σ H' { s with heap := h', toks := t' } := by
  obtain ⟨m, ⟨o, es, ep, ho, r⟩, _⟩ := id I.loc
  obtain ⟨sl, hL⟩ := u.any ho I.free (by simp)
  exact I.step (g' := s.gens) (d' := s.drawn) (ch := []) (fun _ z => nomatch z) (fun b o _ hb _ e n => u.keep b o e n hb (by simp)) (fun b o _ hb _ e n => u.slot b o e n hb (by simp)) (fun b o _ e n => u.free b o e n (by simp)) (fun b o _ e => u.there b o e (by simp)) u.tups u.frzs u.tbls (fun m' hm => by
    obtain ⟨o', es', ep', ho', r'⟩ := hm
    rw [ho] at ho'; cases ho'
    exact ⟨_, es', ep', hL, r'⟩) hok I.bare
/-- behind a call (or a comprehension's block): the slots of this frame may have changed too, the records at ch may have turned -/
theorem Inv.call {g' : Array GenState} {t' : Nat} {d' : Drawn} {ch : List Addr} (I : Inv X pins σ H s) (u : Un (frs X.stack) ch H H' s.heap h') (hok : HOk X.prog X.w H' h') (hg : AllBare g')
    (hch : ∀ b ∈ ch, (b ∈ X.ex ∨ X.s₀.heap.objs.size ≤ b) ∧ b ≠ X.env.locals ∧ (∀ x c, X.env.cells.lookup x = some c → c ≠ b) ∧ ∀ p ∈ X.pn ++ pins, p.1 ≠ b) :
    Inv X pins σ H' { s with heap := h', gens := g', drawn := d', toks := t' } := by
  obtain ⟨m, ⟨o, es, ep, ho, r⟩, _⟩ := id I.loc
  obtain ⟨sl, hL⟩ := u.any ho I.free fun z => (hch _ z).2.1 rfl
  exact I.step (ch := ch) hch (fun b o hL hb hc e n => u.keep b o e n (fun z => (List.mem_cons.mp (I.stkSub b z)).elim hL hb) hc) (fun b o _ _ hc e n => u.any e n hc) (fun b o hc e n => u.free b o e n hc) (fun b o hc e => u.there b o e hc) u.tups u.frzs u.tbls (fun m' hm => by
    obtain ⟨o', es', ep', ho', r'⟩ := hm
    rw [ho] at ho'; cases ho'
    exact ⟨_, es', ep', hL, r'⟩) hok hg
/-- an untracked record of ours (an iterator) has turned -/
theorem Inv.turned {t' : Nat} {it : Addr} (I : Inv X pins σ H s) (k : ∀ b o, b ≠ it → s.heap.get? b = some o → h'.get? b = some o) (hn : H it = none) (hL : it ≠ X.env.locals)
    (h1 : it ∈ X.ex ∨ X.s₀.heap.objs.size ≤ it) (h2 : ∀ x c, X.env.cells.lookup x = some c → c ≠ it) (h3 : ∀ p ∈ X.pn ++ pins, p.1 ≠ it) : Inv X pins σ H { s with heap := h', toks := t' } := by
  have nit : ∀ b u, H b = some u → b ≠ it := fun b u e z => by rw [z, hn] at e; cases e
  refine I.step (g' := s.gens) (d' := s.drawn) (ch := [it]) (fun b hb => ?_) (fun b o _ _ hc e _ => k b o (fun z => hc (by simp [z])) e) (fun b o _ _ hc e _ => ⟨o.slots, k b o (fun z => hc (by simp [z])) e⟩) (fun _ _ _ _ n => n)
    (fun b o hc e => ⟨o, k b o (fun z => hc (by simp [z])) e⟩) (fun _ _ e => e) (fun _ _ _ e => e) (fun b ps e => ⟨#[], by rw [e]; simp⟩) (fun m hm => ?_) (fun b u e => ?_) I.bare
  · have e : b = it := by simpa using hb
    subst e
    exact ⟨h1, hL, h2, h3⟩
  · obtain ⟨o, es, ep, ho, r⟩ := hm
    exact ⟨o, es, ep, k _ o (Ne.symm hL) ho, r⟩
  · refine (I.hok b u e).stay (fun c v hc q => k c v ?_ q) (fun _ q => q) fun _ _ q => q
    rcases hc with z | z
    · rw [z]; exact nit b u e
    · exact nit c _ z
theorem Inv.tok (I : Inv X pins σ H s) (t : Nat) : Inv X pins σ H { s with toks := t } := I.un (h' := s.heap) (t' := t) Un.refl I.hok
/-- all objects kept -/
theorem Inv.kept {t' : Nat} (I : Inv X pins σ H s) (k : ∀ b u, s.heap.get? b = some u → h'.get? b = some u) : Inv X pins σ H { s with heap := h', toks := t' } := I.un (Un.kept k) (I.hok.kept k)
/-- a new object laid and tracked -/
theorem Inv.laid {a : Addr} {o : HO} {t' : Nat} (I : Inv X pins σ H s) (k : ∀ b u, s.heap.get? b = some u → h'.get? b = some u) (hp : s.heap.objs.size ≤ a) (new : ObjOk X.prog X.w (upd H a o) h' a o) :
    Inv X pins σ (upd H a o) { s with heap := h', toks := t' } := I.un (Un.laid k hp (I.hok.fresh hp)) (I.hok.laid k hp new)
/-- an object written -/
theorem Inv.write {x e : Addr} {o : HO} {t' : Nat} (I : Inv X pins σ H s) (mu : Mut (H x)) (he : e = x ∨ H e = some (.own x)) (k : ∀ b u, b ≠ e → s.heap.get? b = some u → h'.get? b = some u) (heo : ∃ u, h'.get? e = some u)
    (new : ObjOk X.prog X.w (upd H x o) h' x o) : Inv X pins σ (upd H x o) { s with heap := h', toks := t' } := I.un (Un.write mu he k heo) (I.hok.write mu he k heo new)
/-- forgetting slots, pins -/
theorem Inv.weak {σ' : List (Option V)} (I : Inv X pins σ H s) (hl : σ'.length = σ.length) (w : ∀ (i : Nat) v, σ'[i]? = some (some v) → σ[i]? = some (some v)) : Inv X pins σ' H s :=
  ⟨I.ok, I.os, I.bare, I.base, let ⟨m, hn, hl'⟩ := I.loc; ⟨m, hn, fun i x v e1 e2 e3 => hl' i x v e1 (w i v e2) e3⟩, I.cell, I.free, I.freeC, I.pin, I.hok, hl.trans I.len⟩
theorem Inv.pins_of {pins' : List (Addr × Obj)} (I : Inv X pins σ H s) (h : ∀ p ∈ pins', s.heap.get? p.1 = some p.2 ∧ H p.1 = none ∧ p.1 ≠ X.env.locals ∧ p.1 ∉ X.fs ∧ ∀ v, p.2.data ≠ .cell v) : Inv X pins' σ H s :=
  ⟨I.ok, I.os, I.bare, I.base, I.loc, I.cell, I.free, I.freeC, fun p hp => (List.mem_append.mp hp).elim (fun z => I.pin p (List.mem_append_left _ z)) (h p), I.hok, I.len⟩

theorem nodup_ix {N : List Str} (hN : N.Nodup) {i j : Nat} {x : Str} (a : N[i]? = some x) (b : N[j]? = some x) : i = j := by
  obtain ⟨h1, e1⟩ := List.getElem?_eq_some_iff.mp a
  obtain ⟨h2, e2⟩ := List.getElem?_eq_some_iff.mp b
  exact (List.getElem_inj hN).mp (e1.trans e2.symm)

/-- a name is stored; what changed -/
theorem store_ok2 {M : Model} {A : Around} {E : Value → Shared → Prop} {i : Nat} {x : Str} {v : V} {u : Value} {Q : Unit → Shared → Prop} (I : Inv X pins σ H s) (hN : X.N.Nodup) (hi : X.N[i]? = some x) (hx : Loc X.env.scope x) (r : RelV v u)
    (h : ∀ s', Inv X pins (σ.set i (some v)) H s' → (∃ a, Heap.SameBut a s.heap s'.heap ∧ (a = X.env.locals ∨ X.env.cells.lookup x = some a)) → Q () s') (hf : X.fn x = true ∨ X.env.scope.names.lookup x = some .local := by first | exact .inl rfl | exact .inr rfl | assumption) : wpAny M A (storeName X.env x u) Q E s := by
  obtain ⟨m, hn, hl⟩ := id I.loc
  have hcls : (X.env.scope.kind == .class || (X.env.scope.kind == .module && X.env.locals != X.env.globals)) = false := by rw [I.ok.kind]; rfl
  have hiσ : i < σ.length := by rw [I.len]; exact (List.getElem?_eq_some_iff.mp hi).1
  have cne := I.cne
  have tracked : ∀ {a : Addr} {h' : Heap}, (∃ o, s.heap.get? a = some o ∧ H a = none) → Heap.SameBut a s.heap h' → HOk X.prog X.w H h' := fun {a h'} ha hs b ob e => by
    obtain ⟨_, _, hfree⟩ := ha
    refine (I.hok b ob e).stay (fun c w' hc q => (hs.2 c ?_).trans q) (fun _ q => q) fun _ _ q => q
    rintro rfl
    rcases hc with rfl | hc
    · rw [hfree] at e; cases e
    · rw [hfree] at hc; cases hc
  rcases hx with hk | hk
  · refine wpAny_storeName_local hk hn (fun h' hn' hs => ?_) hcls
    obtain ⟨oL, _, _, hoL, _⟩ := id hn
    refine h _ ⟨I.ok, I.os, I.bare, ⟨fun b o e n hb hx => ?_, fun b o e n hb hx => ?_, I.base.free, fun b o e hx => ?_, I.base.tups, I.base.frzs, I.base.tbls⟩, ⟨_, hn', fun j y v' e1 e2 e3 => ?_⟩, fun y c e => ?_, I.free, I.freeC, fun p hp => ?_, tracked ⟨oL, hoL, I.free⟩ hs, by simpa using I.len⟩ ⟨_, hs, .inl rfl⟩
    · exact (hs.2 b (Nat.ne_of_lt (Nat.lt_of_lt_of_le (Heap.lt_size e) I.ok.above))).trans (I.base.keep b o e n hb hx)
    · obtain ⟨sl, e1⟩ := I.base.slot b o e n hb hx
      exact ⟨sl, (hs.2 b (Nat.ne_of_lt (Nat.lt_of_lt_of_le (Heap.lt_size e) I.ok.above))).trans e1⟩
    · obtain ⟨o', e1⟩ := I.base.there b o e hx
      exact ⟨o', (hs.2 b (Nat.ne_of_lt (Nat.lt_of_lt_of_le (Heap.lt_size e) I.ok.above))).trans e1⟩
    · by_cases hj : j = i
      · subst hj
        rw [hi] at e1; cases e1
        rw [List.getElem?_set_self hiσ] at e2
        cases e2
        exact ⟨u, r, .inl ⟨hk, by simp⟩⟩
      · rw [List.getElem?_set_ne (Ne.symm hj)] at e2
        obtain ⟨u', r', q⟩ := hl j y v' e1 e2 e3
        refine ⟨u', r', ?_⟩
        rcases q with ⟨k, e⟩ | ⟨k, c, e, z⟩
        · refine .inl ⟨k, ?_⟩
          have : y ≠ x := fun e => hj (nodup_ix hN e1 (e ▸ hi))
          simp [this, e]
        · exact .inr ⟨k, c, e, z.sameBut hs (cne y c e)⟩
    · obtain ⟨w', z⟩ := I.cell y c e
      exact ⟨w', z.sameBut hs (cne y c e)⟩
    · obtain ⟨e, n, ne, nf, d⟩ := I.pin p hp
      exact ⟨(hs.2 p.1 ne).trans e, n, ne, nf, d⟩
  · have hfn : X.fn x = true := by
      rcases hf with z | z
      · exact z
      · rw [z] at hk; cases hk
    obtain ⟨c, hc⟩ := I.ok.has x (.inl hk)
    obtain ⟨w', z⟩ := I.cell x c hc
    refine wpAny_storeName_cell I.ok.kind hk hc z (fun h' hc' hs => ?_)
    obtain ⟨oc, hoc, hocd⟩ := id z
    refine h { s with heap := h' } ⟨I.ok, I.os, I.bare, ⟨fun b o e n hb hx => ?_, fun b o e n hb hx => ?_, I.base.free, fun b o e hx => ?_, I.base.tups, I.base.frzs, I.base.tbls⟩, ⟨m, hn.sameBut hs (Ne.symm (cne x c hc)), fun j y v' e1 e2 e3 => ?_⟩, fun y c' e => ?_, I.free, I.freeC, fun p hp => ?_, tracked ⟨oc, hoc, I.freeC x c hc⟩ hs, by simpa using I.len⟩ ⟨c, hs, .inr hc⟩
    · exact (hs.2 b (Nat.ne_of_lt (Nat.lt_of_lt_of_le (Heap.lt_size e) (I.ok.cab x c hfn hc)))).trans (I.base.keep b o e n hb hx)
    · obtain ⟨sl, e1⟩ := I.base.slot b o e n hb hx
      exact ⟨sl, (hs.2 b (Nat.ne_of_lt (Nat.lt_of_lt_of_le (Heap.lt_size e) (I.ok.cab x c hfn hc)))).trans e1⟩
    · obtain ⟨o', e1⟩ := I.base.there b o e hx
      exact ⟨o', (hs.2 b (Nat.ne_of_lt (Nat.lt_of_lt_of_le (Heap.lt_size e) (I.ok.cab x c hfn hc)))).trans e1⟩
    · by_cases hj : j = i
      · subst hj
        rw [hi] at e1; cases e1
        rw [List.getElem?_set_self hiσ] at e2
        cases e2
        exact ⟨u, r, .inr ⟨.inl hk, c, hc, hc'⟩⟩
      · rw [List.getElem?_set_ne (Ne.symm hj)] at e2
        obtain ⟨u', r', q⟩ := hl j y v' e1 e2 e3
        refine ⟨u', r', ?_⟩
        rcases q with q | ⟨k, c', e, z'⟩
        · exact .inl q
        · refine .inr ⟨k, c', e, z'.sameBut hs ?_⟩
          rintro rfl
          exact hj (nodup_ix hN e1 (I.ok.inj _ _ _ e hc ▸ hi))
    · by_cases hcc : c' = c
      · subst hcc; exact ⟨_, hc'⟩
      · obtain ⟨w2, z2⟩ := I.cell y c' e
        exact ⟨w2, z2.sameBut hs hcc⟩
    · obtain ⟨e, n, ne, nf, d⟩ := I.pin p hp
      refine ⟨(hs.2 p.1 ?_).trans e, n, ne, nf, d⟩
      intro q
      rw [q, hoc] at e
      have q' : oc = p.2 := Option.some.inj e
      exact d w' (by rw [← q']; exact hocd)
theorem store_ok {M : Model} {A : Around} {E : Value → Shared → Prop} {i : Nat} {x : Str} {v : V} {u : Value} {Q : Unit → Shared → Prop} (I : Inv X pins σ H s) (hN : X.N.Nodup) (hi : X.N[i]? = some x) (hx : Loc X.env.scope x) (r : RelV v u)
    (h : ∀ s', Inv X pins (σ.set i (some v)) H s' → Q () s') (hf : X.fn x = true ∨ X.env.scope.names.lookup x = some .local := by first | exact .inl rfl | exact .inr rfl | assumption) : wpAny M A (storeName X.env x u) Q E s :=
  store_ok2 I hN hi hx r (fun s' I' _ => h s' I') hf
/-- behind a call or a block, the state as it is -/
theorem Inv.call' {s' : Shared} {ch : List Addr} (I : Inv X pins σ H s) (ho : s'.os = s.os) (u : Un (frs X.stack) ch H H' s.heap s'.heap) (hok : HOk X.prog X.w H' s'.heap) (hg : AllBare s'.gens)
    (hch : ∀ b ∈ ch, (b ∈ X.ex ∨ X.s₀.heap.objs.size ≤ b) ∧ b ≠ X.env.locals ∧ (∀ x c, X.env.cells.lookup x = some c → c ≠ b) ∧ ∀ p ∈ X.pn ++ pins, p.1 ≠ b) : Inv X pins σ H' s' := by
  obtain ⟨h', g', d', t', o'⟩ := s'
  have e : o' = s.os := ho
  subst e
  exact I.call (g' := g') (t' := t') (d' := d') u hok hg hch
end

/-! ### the judgements -/
/-- an exception: its class, its own dict's address (where it has one), the abstract heap behind it -/
abbrev XK := Value → Option Addr → Hp → Prop
abbrev St := List (Option V)
abbrev VK := V → Hp → Prop
/-- an expression's reading; a test's; an argument list's -/
abbrev TE := St → Hp → VK → Prop
abbrev TT := St → Hp → (Bool → Hp → Prop) → Prop
abbrev TA := St → Hp → (List V → Hp → Prop) → Prop
/-- what is wanted behind a statement -/
structure Ends where
  nx : St → Hp → Prop
  rt : VK
  bk : St → Hp → Prop := fun _ _ => False
  ct : St → Hp → Prop := fun _ _ => False
abbrev TS := Ends → St → Hp → Prop

def EP (X : Cx) (pins : List (Addr × Obj)) (σ : St) (Q : VK) (u : Value) (s' : Shared) : Prop := ∃ v H', Inv X pins σ H' s' ∧ RelV v u ∧ Q v H'
def TP (X : Cx) (pins : List (Addr × Obj)) (σ : St) (Q : Bool → Hp → Prop) (b : Bool) (s' : Shared) : Prop := ∃ H', Inv X pins σ H' s' ∧ Q b H'
def AP (X : Cx) (pins : List (Addr × Obj)) (σ : St) (Q : List V → Hp → Prop) (us : List Value) (s' : Shared) : Prop := ∃ vs H', Inv X pins σ H' s' ∧ Vals vs us ∧ Q vs H'
def SP (X : Cx) (pins : List (Addr × Obj)) (D : Ends) (f : Flow) (s' : Shared) : Prop :=
  match f with
  | .next => ∃ σ' H', Inv X pins σ' H' s' ∧ D.nx σ' H'
  | .brk => ∃ σ' H', Inv X pins σ' H' s' ∧ D.bk σ' H'
  | .cont => ∃ σ' H', Inv X pins σ' H' s' ∧ D.ct σ' H'
  | .ret u => ∃ v σ' H', Inv X pins σ' H' s' ∧ RelV v u ∧ D.rt v H'

def PE (X : Cx) (e : Expr) (t : TE) : Prop :=
  ∀ (pins : List (Addr × Obj)) (s : Shared) (σ : St) (H : Hp) (Q : VK), Inv X pins σ H s → t σ H Q → wpAny (model X.prog X.w) X.A (eval e X.env) (EP X pins σ Q) X.xe s
def PT (X : Cx) (e : Expr) (t : TT) : Prop :=
  ∀ (pins : List (Addr × Obj)) (s : Shared) (σ : St) (H : Hp) (Q : Bool → Hp → Prop), Inv X pins σ H s → t σ H Q → wpAny (model X.prog X.w) X.A (isTrue e X.env (eval e X.env)) (TP X pins σ Q) X.xe s
/-- a test whatever its 'whole' is (and, or) -/
def PW (X : Cx) (e : Expr) (t : TT) : Prop :=
  ∀ (whole : Sem Value) (pins : List (Addr × Obj)) (s : Shared) (σ : St) (H : Hp) (Q : Bool → Hp → Prop), Inv X pins σ H s → t σ H Q → wpAny (model X.prog X.w) X.A (isTrue e X.env whole) (TP X pins σ Q) X.xe s
theorem PW.pt {X : Cx} {e : Expr} {t : TT} (h : PW X e t) : PT X e t := h _
/-- an argument list (no star), from the left -/
def PA (X : Cx) (es : List Expr) (t : TA) : Prop :=
  ∀ (pos : Pos) (pins : List (Addr × Obj)) (s : Shared) (σ : St) (H : Hp) (Q : List V → Hp → Prop), Inv X pins σ H s → t σ H Q → wpAny (model X.prog X.w) X.A (spliced (backTo pos (starEach es X.env))) (AP X pins σ Q) X.xe s
def PS (X : Cx) (st : Stmt) (t : TS) : Prop :=
  ∀ (pins : List (Addr × Obj)) (s : Shared) (σ : St) (H : Hp) (D : Ends), Inv X pins σ H s → t D σ H → wpAny (model X.prog X.w) X.A (exec st X.env) (SP X pins D) X.xe s
def PSs (X : Cx) (st : List Stmt) (t : TS) : Prop :=
  ∀ (pins : List (Addr × Obj)) (s : Shared) (σ : St) (H : Hp) (D : Ends), Inv X pins σ H s → t D σ H → wpAny (model X.prog X.w) X.A (execs st X.env) (SP X pins D) X.xe s
/-- weaken the end -/
theorem thn {α : Type} {t : Sem α} {Q Q' : α → Shared → Prop} {M : Model} {A : Around} {E : Value → Shared → Prop} {s : Shared} (h : wpAny M A t Q E s) (hQ : ∀ a s, Q a s → Q' a s) : wpAny M A t Q' E s := wpAny_mono h hQ fun _ _ x => x
end L2

namespace L2
open PySem PySem.Spec PyProof.Rows
section
variable {X : Cx}

/-! ### names and constants -/
def tVar (i : Nat) : TE := fun σ H Q => ∃ v, σ[i]? = some (some v) ∧ Q v H
def tC (v : V) : TE := fun _ H Q => Q v H
theorem pe_var {i : Nat} {x : Str} {pos : Pos} (hN : X.N[i]? = some x) (hv : Vis X.env.scope x) (hd : (x == ("__debug__" : Str)) = false := by decide) (hcd : (x == ("__classdict__" : Str)) = false := by decide) : PE X (.Name x pos) (tVar i) := by
  intro pins s σ H Q I h
  obtain ⟨v, e, h⟩ := h
  obtain ⟨m, hn, hl⟩ := I.loc
  obtain ⟨u, r, l⟩ := hl i x v hN e hv
  have fin : EP X pins σ Q u s := ⟨v, H, I, r, h⟩
  rcases l with ⟨hk, hm⟩ | ⟨hk, c, hc, hcell⟩
  · exact wpAny_Name (wpAny_loadName_local I.ok.kind hk hn hm fin) hd
  · rcases hk with hk | hk
    · exact wpAny_Name (wpAny_loadName_cell I.ok.kind hk hc hcell fin) hd
    · exact wpAny_Name (wpAny_loadName_free I.ok.kind hk hc hcell fin hcd) hd
theorem pe_int {i j pos} : PE X (.Constant (.int i) j pos) (tC (.int i)) := fun _ _ _ H _ I h => wpAny_Constant_int ⟨.int i, H, I.tok _, ⟨_, rfl⟩, h⟩
theorem pe_bl {b j pos} : PE X (.Constant (.bool b) j pos) (tC (.bl b)) := fun _ _ _ H _ I h => Constant_bool ⟨.bl b, H, I, rfl, h⟩
theorem pe_non {j pos} : PE X (.Constant .none j pos) (tC .non) := fun _ _ _ H _ I h => Constant_none ⟨.non, H, I, rfl, h⟩
theorem pe_str {x j pos} : PE X (.Constant (.str x) j pos) (tC (.str x)) := fun _ _ _ H _ I h => Calls.Constant_str ⟨.str x, H, I.tok _, ⟨_, rfl⟩, h⟩

/-- a global name of the def -/
def Gl (X : Cx) (x : Str) : Prop := X.env.kindOf x = some .globalImplicit
theorem ld_glob {E : Value → Shared → Prop} {pins : List (Addr × Obj)} {s : Shared} {σ : St} {H : Hp} {x : Str} {u : Value} {pos : Pos} {Q : Value → Shared → Prop} (I : Inv X pins σ H s) (hg : Gl X x) (hm : X.mg x = some u) (h : Q u s)
    (hd : (x == ("__debug__" : Str)) = false := by decide) : wpAny (model X.prog X.w) X.A (eval (.Name x pos) X.env) Q E s :=
  Calls.Name_function_global I.ok.kind hg (Calls.loadGlobal_global (by rw [I.ok.glob]; exact I.mod.glob.keeps I.bk) hm h) hd
theorem ld_blt {E : Value → Shared → Prop} {pins : List (Addr × Obj)} {s : Shared} {σ : St} {H : Hp} {x : Str} {u : Value} {pos : Pos} {Q : Value → Shared → Prop} (I : Inv X pins σ H s) (hg : Gl X x) (hm : X.mg x = none) (hv : bootBuiltins x = some u) (h : Q u s)
    (hn : x ≠ "__name__" := by decide) (hd : (x == ("__debug__" : Str)) = false := by decide) : wpAny (model X.prog X.w) X.A (eval (.Name x pos) X.env) Q E s := by
  obtain ⟨mb, h1, h2⟩ := I.mod.blt
  exact Calls.Name_function_global I.ok.kind hg (Calls.loadGlobal_builtin (by rw [I.ok.glob]; exact I.mod.glob.keeps I.bk) hm (by rw [I.ok.blt]; exact h1.keeps I.bk) ((h2 x hn).trans hv) h) hd
/-- a module's constant, a class, a function, as a value -/
theorem pe_glob {x : Str} {v : V} {u : Value} {pos : Pos} (hg : Gl X x) (hm : X.mg x = some u) (r : RelV v u) (hd : (x == ("__debug__" : Str)) = false := by decide) : PE X (.Name x pos) (tC v) :=
  fun _ _ _ H _ I h => ld_glob I hg hm ⟨v, H, I, r, h⟩ hd
/-! ### arithmetic -/
variable {a b : Expr} {ta tb : TE} {pos : Pos}
/-! ### comparisons -/
/-- a comparison as a value, as a test -/
def tB (t : TE) : TT := fun σ H Q => t σ H fun x H1 => ∃ c, x = .bl c ∧ Q c H1
/-- an expression whose value is a bool, as a test -/
theorem pt_val {e : Expr} {t : TE} (h : PE X e t) (he : ∀ whole, isTrue e X.env whole = (do let v ← whole; standAt e.pos; holding [v] (truthy v)) := by intro _; rfl) : PT X e (tB t) := by
  intro pins s σ H Q I hw
  refine isTrue_plain (thn (h pins s σ H _ I hw) fun v s1 ⟨x, H1, I1, r1, q1⟩ => ?_) (he _)
  obtain ⟨d, rfl, q⟩ := q1
  cases r1
  exact wpAny_truthy_bool ⟨H1, I1, q⟩

/-! ### and, or, not -/
variable {tA tB' : TT} {rest : List Expr}
def tAnd (t u : TT) : TT := fun σ H Q => t σ H fun c H1 => if c = true then u σ H1 Q else Q false H1
def tOr (t u : TT) : TT := fun σ H Q => t σ H fun c H1 => if c = true then Q true H1 else u σ H1 Q
def tNot (t : TT) : TT := fun σ H Q => t σ H fun c H1 => Q (!c) H1
theorem pw_and1 (ha : PT X a tA) : PW X (.BoolOp .And [a] pos) tA := by
  intro wh pins s σ H Q I h
  refine isTrue_and (thn (ha pins s σ H Q I h) fun c s1 e => ?_)
  cases c with
  | true => exact isTrue_and_nil e
  | false => exact e
theorem pw_or1 (ha : PT X a tA) : PW X (.BoolOp .Or [a] pos) tA := by
  intro wh pins s σ H Q I h
  refine isTrue_or (thn (ha pins s σ H Q I h) fun c s1 e => ?_)
  cases c with
  | false => exact isTrue_or_nil e
  | true => exact e
theorem pw_and (ha : PT X a tA) (hb : PW X (.BoolOp .And (b :: rest) pos) tB') : PW X (.BoolOp .And (a :: b :: rest) pos) (tAnd tA tB') := by
  intro wh pins s σ H Q I h
  refine isTrue_and (thn (ha pins s σ H _ I h) fun c s1 ⟨H1, I1, q1⟩ => ?_)
  cases c with
  | true => exact hb wh pins s1 σ H1 Q I1 q1
  | false => exact ⟨H1, I1, q1⟩
theorem pw_or (ha : PT X a tA) (hb : PW X (.BoolOp .Or (b :: rest) pos) tB') : PW X (.BoolOp .Or (a :: b :: rest) pos) (tOr tA tB') := by
  intro wh pins s σ H Q I h
  refine isTrue_or (thn (ha pins s σ H _ I h) fun c s1 ⟨H1, I1, q1⟩ => ?_)
  cases c with
  | true => exact ⟨H1, I1, q1⟩
  | false => exact hb wh pins s1 σ H1 Q I1 q1
theorem pt_not (ha : PT X a tA) : PT X (.UnaryOp .Not a pos) (tNot tA) := by
  intro pins s σ H Q I h
  exact isTrue_not (ha pins s σ H (fun c H1 => Q (!c) H1) I h)
/-- a if t else b -/
def tIf (t : TT) (ta tb : TE) : TE := fun σ H Q => t σ H fun c H1 => if c = true then ta σ H1 Q else tb σ H1 Q
theorem pe_ifExp {c : Expr} (hc : PT X c tA) (ha : PE X a ta) (hb : PE X b tb) : PE X (.IfExp c a b pos) (tIf tA ta tb) := by
  intro pins s σ H Q I h
  refine wpAny_IfExp (thn (hc pins s σ H _ I h) fun d s1 ⟨H1, I1, q1⟩ => ?_)
  cases d with
  | true => exact ha pins s1 σ H1 Q I1 q1
  | false => exact hb pins s1 σ H1 Q I1 q1
end
end L2

namespace L2
open PySem PySem.Spec PyProof.Rows

/-! ### a list, a tuple that is read: tracked, frozen, or an object of the module -/
def SqL (K : PySem.W.Frag) (H : Hp) (a : Addr) (xs : List V) : Prop :=
  Rd H a (.lst xs) ∨
    ∃ (o : Obj) (its : Array Value) (n : Nat), K.lookup a = some o ∧ o.cls = .type "list" ∧ o.dict = none ∧ o.data = .seq its n ∧ its.size ≤ sizeLine ∧ Vals xs its.toList
def SqT (K : PySem.W.Frag) (H : Hp) (a : Addr) (xs : List V) : Prop :=
  Rd H a (.tup xs) ∨
    ∃ (o : Obj) (its : Array Value) (n : Nat), K.lookup a = some o ∧ o.cls = .type "tuple" ∧ o.data = .seq its n ∧ its.size ≤ sizeLine ∧ Vals xs its.toList
def absV : Value → Option V
  | .none => some .non
  | .bool b => some (.bl b)
  | .int i _ => some (.int i)
  | .str x _ => some (.str x)
  | .bytes b _ => some (.byt b)
  | .float b _ => some (.flt b)
  | .ref a => some (.ref a)
  | .type n => some (.ty n)
  | _ => none
theorem RelV.abs {x : V} {u : Value} (r : RelV x u) : absV u = some x := by
  cases x with
  | non => cases r; rfl
  | bl _ => cases r; rfl
  | int _ => obtain ⟨t, rfl⟩ := r; rfl
  | str _ => obtain ⟨t, rfl⟩ := r; rfl
  | byt _ => obtain ⟨t, rfl⟩ := r; rfl
  | flt _ => obtain ⟨t, rfl⟩ := r; rfl
  | ref _ => cases r; rfl
  | ty _ => cases r; rfl
theorem RelV.inj {x y : V} {u : Value} (r : RelV x u) (q : RelV y u) : x = y := Option.some.inj (r.abs.symm.trans q.abs)
theorem Vals.inj : ∀ {xs ys : List V} {us : List Value}, Vals xs us → Vals ys us → xs = ys
  | _, _, _, .nil, .nil => rfl
  | _, _, _, .cons r t, .cons r' t' => by rw [r.inj r', Vals.inj t t']
section
variable {X : Cx} {pins : List (Addr × Obj)} {σ : St} {H : Hp} {s : Shared} {a : Addr} {xs ys : List V}
theorem SqL.of {K : PySem.W.Frag} (h : H a = some (.lst xs)) : SqL K H a xs := .inl (.inl h)
theorem SqT.of {K : PySem.W.Frag} (h : H a = some (.tup xs)) : SqT K H a xs := .inl (.inl h)
theorem Inv.list (I : Inv X pins σ H s) (h : SqL X.K H a xs) : ∃ its : List Value, Vals xs its ∧ PlainL s.heap a its.toArray ∧ xs.length ≤ sizeLine := by
  rcases h with h | ⟨o, its, n, hk, hc, hd, hs, hz, r⟩
  · obtain ⟨z, its, n, r, e⟩ := h.ok I.hok
    exact ⟨its, r, ⟨_, n, e, rfl, rfl, rfl⟩, z⟩
  · refine ⟨its.toList, r, ⟨o, n, I.kIn a o hk, hc, hd, by simpa using hs⟩, ?_⟩
    have e := r.length
    simp only [Array.length_toList] at e
    omega
theorem Inv.tuple (I : Inv X pins σ H s) (h : SqT X.K H a xs) : ∃ its : List Value, Vals xs its ∧ IsTup s.heap a its.toArray ∧ xs.length ≤ sizeLine := by
  rcases h with h | ⟨o, its, n, hk, hc, hs, hz, r⟩
  · obtain ⟨z, its, r, p⟩ := h.ok I.hok
    exact ⟨its, r, p, z⟩
  · refine ⟨its.toList, r, ⟨o, I.kIn a o hk, hc, n, by simpa using hs⟩, ?_⟩
    have e := r.length
    simp only [Array.length_toList] at e
    omega
theorem Inv.list_inj (I : Inv X pins σ H s) (h : SqL X.K H a xs) (h' : SqL X.K H a ys) : xs = ys := by
  obtain ⟨its, r, ⟨o, n, e, _, _, d⟩, _⟩ := I.list h
  obtain ⟨its', r', ⟨o', n', e', _, _, d'⟩, _⟩ := I.list h'
  rw [e] at e'; cases e'
  rw [d] at d'
  injection d' with d1 _
  have : its = its' := by simpa using congrArg Array.toList d1
  subst this
  exact r.inj r'
theorem Inv.tuple_inj (I : Inv X pins σ H s) (h : SqT X.K H a xs) (h' : SqT X.K H a ys) : xs = ys := by
  obtain ⟨its, r, ⟨o, e, _, n, d⟩, _⟩ := I.tuple h
  obtain ⟨its', r', ⟨o', e', _, n', d'⟩, _⟩ := I.tuple h'
  rw [e] at e'; cases e'
  rw [d] at d'
  injection d' with d1 _
  have : its = its' := by simpa using congrArg Array.toList d1
  subst this
  exact r.inj r'
end

/-! ### another wish about exceptions -/
abbrev Cx.wish (X : Cx) (E : Value → Shared → Prop) : Cx := { X with xe := E }
/-- no exception leaves -/
abbrev Cx.nox (X : Cx) : Cx := X.wish fun _ _ => False
theorem Cx.Ok.wish {X : Cx} (ok : X.Ok) (E : Value → Shared → Prop) : (X.wish E).Ok :=
  ⟨ok.mod, ok.kind, ok.glob, ok.blt, ok.above, ok.inj, ok.has, ok.cab, ok.hd, ok.frames, ok.stk, ok.exf, ok.bs, ok.bsz, ok.noex, ok.exfs, ok.funs, ok.frf⟩
theorem Cx.Ok.unwish {X : Cx} {E : Value → Shared → Prop} (ok : (X.wish E).Ok) : X.Ok :=
  ⟨ok.mod, ok.kind, ok.glob, ok.blt, ok.above, ok.inj, ok.has, ok.cab, ok.hd, ok.frames, ok.stk, ok.exf, ok.bs, ok.bsz, ok.noex, ok.exfs, ok.funs, ok.frf⟩
section
variable {X : Cx} {pins : List (Addr × Obj)} {σ : St} {H : Hp} {s : Shared} {E : Value → Shared → Prop}
theorem Inv.wish (I : Inv X pins σ H s) (E : Value → Shared → Prop) : Inv (X.wish E) pins σ H s := ⟨I.ok.wish E, I.os, I.bare, I.base, I.loc, I.cell, I.free, I.freeC, I.pin, I.hok, I.len⟩
theorem Inv.unwish (I : Inv (X.wish E) pins σ H s) : Inv X pins σ H s := ⟨I.ok.unwish, I.os, I.bare, I.base, I.loc, I.cell, I.free, I.freeC, I.pin, I.hok, I.len⟩
theorem SP.unwish {D : Ends} {f : Flow} {s' : Shared} (h : SP (X.wish E) pins D f s') : SP X pins D f s' := by
  cases f with
  | next => obtain ⟨σ', H', I, q⟩ := h; exact ⟨σ', H', I.unwish, q⟩
  | brk => obtain ⟨σ', H', I, q⟩ := h; exact ⟨σ', H', I.unwish, q⟩
  | cont => obtain ⟨σ', H', I, q⟩ := h; exact ⟨σ', H', I.unwish, q⟩
  | ret u => obtain ⟨v, σ', H', I, r, q⟩ := h; exact ⟨v, σ', H', I.unwish, r, q⟩
theorem PSs.nox {st : List Stmt} {t : TS} (h : PSs X.nox st t) : PSs X st t := fun pins s σ H D I hw =>
  wpAny_mono (h pins s σ H D (I.wish _) hw) (fun _ _ q => q.unwish) fun _ _ z => False.elim z
end

/-! ### blocks and small statements -/
section
variable {X : Cx} {st : Stmt} {rest : List Stmt} {t u : TS} {e : Expr} {te : TE} {pos : Pos}
def tNext : TS := fun D σ H => D.nx σ H
def tSeq (t u : TS) : TS := fun D σ H => t { D with nx := u D } σ H
theorem pss_nil : PSs X [] tNext := fun _ _ σ H _ I h => wpAny_execs_nil ⟨σ, H, I, h⟩
theorem pss_cons (h1 : PS X st t) (h2 : PSs X rest u) : PSs X (st :: rest) (tSeq t u) := by
  intro pins s σ H D I h
  refine wpAny_execs_cons (thn (h1 pins s σ H { D with nx := u D } I h) fun f s1 q => ?_)
  cases f with
  | next =>
    obtain ⟨σ', H', I', q⟩ := q
    exact h2 pins s1 σ' H' D I' q
  | ret v => exact q
  | brk => exact q
  | cont => exact q
theorem pss_one (h1 : PS X st t) : PSs X [st] t := by
  intro pins s σ H D I h
  refine wpAny_execs_cons (thn (h1 pins s σ H D I h) fun f s1 q => ?_)
  cases f with
  | next => exact wpAny_execs_nil q
  | ret v => exact q
  | brk => exact q
  | cont => exact q
/-- in a def's body nothing is shown -/
theorem Inv.quiet {pins : List (Addr × Obj)} {σ : St} {H : Hp} {s : Shared} (I : Inv X pins σ H s) : interactive X.env = false := by simp [interactive, I.ok.kind]
/-- an expression whose value is dropped -/
def tDrop (te : TE) : TS := fun D σ H => te σ H fun _ H1 => D.nx σ H1
theorem ps_expr (he : PE X e te) (hs : swapsWith e none pos.line X.env = pure false := by rfl) : PS X (.Expr e pos) (tDrop te) := by
  intro pins s σ H D I h
  exact wpAny_Expr_any (thn (he pins s σ H _ I h) fun v s1 ⟨x, H1, I1, r1, q1⟩ => ⟨σ, H1, I1, q1⟩) I.quiet hs
def tRet (te : TE) : TS := fun D σ H => te σ H D.rt
theorem ps_ret (he : PE X e te) : PS X (.Return (some e) pos) (tRet te) := by
  intro pins s σ H D I h
  exact wpAny_Return_some (thn (he pins s σ H _ I h) fun v s1 ⟨x, H1, I1, r1, q1⟩ => ⟨x, σ, H1, I1, r1, q1⟩)
def tIfS (c : TT) (t u : TS) : TS := fun D σ H => c σ H fun b H1 => if b = true then t D σ H1 else u D σ H1
theorem ps_if {c : Expr} {a b : List Stmt} {tc : TT} (hc : PT X c tc) (ha : PSs X a t) (hb : PSs X b u) : PS X (.If c a b pos) (tIfS tc t u) := by
  intro pins s σ H D I h
  refine wpAny_If (thn (hc pins s σ H _ I h) fun d s1 ⟨H1, I1, q1⟩ => ?_)
  cases d with
  | true => exact ha pins s1 σ H1 D I1 q1
  | false => exact hb pins s1 σ H1 D I1 q1
/-- code that the proof never comes to -/
def tNever : TS := fun _ _ _ => False
theorem ps_never : PS X st tNever := fun _ _ _ _ _ _ h => h.elim
end

/-! ### targets -/
abbrev TG := V → St → Hp → (St → Hp → Prop) → Prop
abbrev TGs := List V → St → Hp → (St → Hp → Prop) → Prop
def PG (X : Cx) (target : Expr) (t : TG) : Prop :=
  ∀ (pins : List (Addr × Obj)) (s : Shared) (σ : St) (H : Hp) (v : V) (u : Value) (Q : St → Hp → Prop), Inv X pins σ H s → RelV v u → t v σ H Q →
    wpAny (model X.prog X.w) X.A (assign target X.env u) (fun _ s' => ∃ σ' H', Inv X pins σ' H' s' ∧ Q σ' H') X.xe s
/-- several targets, one after another -/
def PGs (X : Cx) (ts : List Expr) (t : TGs) : Prop :=
  ∀ (pins : List (Addr × Obj)) (s : Shared) (σ : St) (H : Hp) (vs : List V) (us : List Value) (Q : St → Hp → Prop), Inv X pins σ H s → Vals vs us → t vs σ H Q →
    wpAny (model X.prog X.w) X.A (assignInOrder ((assignEach ts X.env).map (·.2)) us) (fun _ s' => ∃ σ' H', Inv X pins σ' H' s' ∧ Q σ' H') X.xe s
/-- o[i] = v, by values -/
abbrev TSet := V → V → V → Hp → (Hp → Prop) → Prop
def PSet (X : Cx) (t : TSet) : Prop :=
  ∀ (pins : List (Addr × Obj)) (s : Shared) (σ : St) (H : Hp) (o i v : V) (ov iv u : Value) (Q : Hp → Prop), Inv X pins σ H s → RelV o ov → RelV i iv → RelV v u → t o i v H Q →
    wpAny (model X.prog X.w) X.A (setItem ov iv u) (fun _ s' => ∃ H', Inv X pins σ H' s' ∧ Q H') X.xe s
/-- a op= b, by values -/
abbrev TIp := V → V → Hp → VK → Prop
def PIp (X : Cx) (op : Operator) (t : TIp) : Prop :=
  ∀ (pins : List (Addr × Obj)) (s : Shared) (σ : St) (H : Hp) (x y : V) (v u : Value) (Q : VK), Inv X pins σ H s → RelV x v → RelV y u → t x y H Q →
    wpAny (model X.prog X.w) X.A (inplaceOp op v u) (EP X pins σ Q) X.xe s
section
variable {X : Cx} {pos : Pos}
def gName (i : Nat) : TG := fun v σ H Q => Q (σ.set i (some v)) H
theorem pg_name {i : Nat} {x : Str} (hN : X.N.Nodup) (hi : X.N[i]? = some x) (hx : Loc X.env.scope x) (hf : X.fn x = true ∨ X.env.scope.names.lookup x = some .local := by first | exact .inl rfl | exact .inr rfl | assumption) : PG X (.Name x pos) (gName i) := by
  intro pins s σ H v u Q I r h
  exact wpAny_assign_Name (store_ok I hN hi hx r (fun s' I' => ⟨_, H, I', h⟩) hf)
def gNil : TGs := fun vs σ H Q => vs = [] ∧ Q σ H
def gCons (t : TG) (u : TGs) : TGs := fun vs σ H Q => ∃ v r, vs = v :: r ∧ t v σ H fun σ' H' => u r σ' H' Q
theorem pgs_nil : PGs X [] gNil := by
  intro pins s σ H vs us Q I r h
  obtain ⟨e, h⟩ := h
  subst e
  cases r
  exact assignInOrder_nil ⟨σ, H, I, h⟩
theorem pgs_cons {e : Expr} {es : List Expr} {t : TG} {u : TGs} (h1 : PG X e t) (h2 : PGs X es u)
    (hs : (assignEach (e :: es) X.env).map (·.2) = assign e X.env :: (assignEach es X.env).map (·.2) := by rfl) : PGs X (e :: es) (gCons t u) := by
  intro pins s σ H vs us Q I r h
  obtain ⟨v, vr, e1, h⟩ := h
  subst e1
  cases r with
  | cons r rr =>
    rw [hs]
    refine assignInOrder_cons (thn (h1 pins s σ H _ _ _ I r h) fun _ s1 ⟨σ1, H1, I1, q1⟩ => ?_)
    exact h2 pins s1 σ1 H1 _ _ Q I1 rr q1
/-- (a, b, ..) = a tuple of that length -/
def gTup (K : PySem.W.Frag) (n : Nat) (t : TGs) : TG := fun v σ H Q => ∃ a xs, v = .ref a ∧ SqT K H a xs ∧ xs.length = n ∧ t xs σ H Q
theorem pg_tup {es : List Expr} {k : Nat} {t : TGs} {n : Nat} (hc : X.calm = true) (h : PGs X es t)
    (hn : (assignEach es X.env).length = n := by rfl) (hst : (assignEach es X.env).findIdx? (·.1) = none := by rfl) : PG X (.Tuple es k pos) (gTup X.K n t) := by
  intro pins s σ H v u Q I r hw
  obtain ⟨a, xs, e1, hq, hl, hw⟩ := hw
  subst e1
  cases r
  obtain ⟨its, rv, ht, hz⟩ := I.tuple hq
  refine assign_Tuple_tuple (I.ok.hd hc) ht (by simp [hn, ← hl, rv.length]) hst fun h' hx => ?_
  have I1 : Inv X pins σ H { s with heap := h' } := I.kept (t' := s.toks) fun b o e => hx b o (Nat.ne_of_lt (Heap.lt_size e)) e
  exact h pins _ σ H xs _ Q I1 (by simpa using rv) hw
/-- o[i] = .. -/
def gSub (to ti : TE) (t : TSet) : TG := fun v σ H Q => to σ H fun o H1 => ti σ H1 fun i H2 => t o i v H2 fun H3 => Q σ H3
theorem pg_sub {o i : Expr} {to ti : TE} {t : TSet} (ho : PE X o to) (hi : PE X i ti) (hs : PSet X t)
    (ha : ∀ v, assign (.Subscript o i pos) X.env v = (do
      let ov ← holding [v] (eval o X.env)
      let iv ← holding [v, ov] (eval i X.env)
      standAt pos
      holding [v, ov, iv] (setItem ov iv v)
      release [v, ov, iv] []) := by intro _; rfl) : PG X (.Subscript o i pos) (gSub to ti t) := by
  intro pins s σ H v u Q I r h
  rw [ha]
  refine wpAny_bind (wpAny_holding (thn (ho pins s σ H _ I h) fun ov s1 ⟨x, H1, I1, r1, q1⟩ => ?_))
  refine wpAny_bind (wpAny_holding (thn (hi pins s1 σ H1 _ I1 q1) fun iv s2 ⟨y, H2, I2, r2, q2⟩ => ?_))
  refine wpAny_bind (wpAny_standAt (wpAny_bind (wpAny_holding (thn (hs pins s2 σ H2 x y v ov iv u _ I2 r1 r2 r q2) fun _ s3 ⟨H3, I3, q3⟩ => ?_))))
  exact wpAny_release ⟨σ, H3, I3, q3⟩
/-- target = value -/
def tAsg (te : TE) (g : TG) : TS := fun D σ H => te σ H fun x H1 => g x σ H1 D.nx
theorem ps_asg {tg e : Expr} {te : TE} {g : TG} (he : PE X e te) (hg : PG X tg g) (hs : swapsWithSole [tg] e pos.line X.env = pure false := by rfl) (hw : swappedStores [tg] e X.env = pure none := by rfl)
    (h1 : (assignEach [tg] X.env).map (·.2) = [assign tg X.env] := by rfl) : PS X (.Assign [tg] e pos) (tAsg te g) := by
  intro pins s σ H D I h
  refine wpAny_Assign_stores (thn (he pins s σ H _ I h) fun v s1 ⟨x, H1, I1, r1, q1⟩ => ?_) hs hw
  rw [h1]
  exact thn (hg pins s1 σ H1 x v _ I1 r1 q1) fun _ s2 q => q
/-- name = value -/
theorem ps_set {i : Nat} {x : Str} {e : Expr} {te : TE} {pos' : Pos} (hN : X.N.Nodup) (hi : X.N[i]? = some x) (hx : Loc X.env.scope x) (he : PE X e te) (hs : swapsWith e (some (.Name x pos')) pos.line X.env = pure false := by rfl) (hf : X.fn x = true ∨ X.env.scope.names.lookup x = some .local := by first | exact .inl rfl | exact .inr rfl | assumption) :
    PS X (.Assign [.Name x pos'] e pos) (tAsg te (gName i)) := by
  intro pins s σ H D I h
  refine wpAny_Assign_Name (thn (he pins s σ H _ I h) fun v s1 ⟨y, H1, I1, r1, q1⟩ => ?_) hs
  exact store_ok I1 hN hi hx r1 (fun s2 I2 => ⟨_, H1, I2, q1⟩) hf
/-- o[i] op= e -/
def tAugS (to ti te : TE) (tget : V → V → Hp → VK → Prop) (tip : TIp) (tset : TSet) : TS := fun D σ H => to σ H fun o H1 => ti σ H1 fun i H2 => tget o i H2 fun x H3 => te σ H3 fun y H4 => tip x y H4 fun z H5 => tset o i z H5 fun H6 => D.nx σ H6
/-- o[i], by values -/
def PGet (X : Cx) (t : V → V → Hp → VK → Prop) : Prop :=
  ∀ (pins : List (Addr × Obj)) (s : Shared) (σ : St) (H : Hp) (o i : V) (ov iv : Value) (Q : VK), Inv X pins σ H s → RelV o ov → RelV i iv → t o i H Q →
    wpAny (model X.prog X.w) X.A (getItem ov iv) (EP X pins σ Q) X.xe s
theorem ps_augS {o i e : Expr} {to ti te : TE} {tget : V → V → Hp → VK → Prop} {tip : TIp} {tset : TSet} {op : Operator} {tpos : Pos} (ho : PE X o to) (hi : PE X i ti) (hg : PGet X tget) (he : PE X e te) (hp : PIp X op tip) (hs : PSet X tset)
    (ha : ∀ ov iv new, augStore i ov iv new = (do holding [new, ov, iv] (setItem ov iv new); release [new, ov, iv] []; pure .next) := by intros; rfl) : PS X (.AugAssign (.Subscript o i tpos) op e pos) (tAugS to ti te tget tip tset) := by
  intro pins s σ H D I h
  refine wpAny_AugAssign_SubscriptAny (thn (ho pins s σ H _ I h) fun ov s1 ⟨x1, H1, I1, r1, q1⟩ => ?_) ha
  refine thn (hi pins s1 σ H1 _ I1 q1) fun iv s2 ⟨x2, H2, I2, r2, q2⟩ => ?_
  refine thn (hg pins s2 σ H2 x1 x2 ov iv _ I2 r1 r2 q2) fun old s3 ⟨x3, H3, I3, r3, q3⟩ => ?_
  refine thn (he pins s3 σ H3 _ I3 q3) fun v s4 ⟨x4, H4, I4, r4, q4⟩ => ?_
  refine thn (hp pins s4 σ H4 x3 x4 old v _ I4 r3 r4 q4) fun new s5 ⟨x5, H5, I5, r5, q5⟩ => ?_
  exact thn (hs pins s5 σ H5 x1 x2 x5 ov iv new _ I5 r1 r2 r5 q5) fun _ s6 ⟨H6, I6, q6⟩ => ⟨σ, H6, I6, q6⟩
/-- ints -/
def ipI (f : Int → Int → Int) : TIp := fun x y H Q => ∃ i j, x = .int i ∧ y = .int j ∧ Q (.int (f i j)) H
theorem ip_add : PIp X .Add (ipI fun i j => i + j) := by
  intro pins s σ H x y v u Q I r1 r2 h
  obtain ⟨i, j, e1, e2, q⟩ := h
  subst e1; subst e2
  obtain ⟨t, rfl⟩ := r1
  obtain ⟨t', rfl⟩ := r2
  exact iadd_int ⟨.int _, H, I.tok _, ⟨_, rfl⟩, q⟩
theorem ip_sub : PIp X .Sub (ipI fun i j => i - j) := by
  intro pins s σ H x y v u Q I r1 r2 h
  obtain ⟨i, j, e1, e2, q⟩ := h
  subst e1; subst e2
  obtain ⟨t, rfl⟩ := r1
  obtain ⟨t', rfl⟩ := r2
  exact isub_int ⟨.int _, H, I.tok _, ⟨_, rfl⟩, q⟩
end

/-! ### while -/
section
variable {X : Cx} {pos : Pos}
/-- the invariant W with its measure -/
def tWhile (c : TT) (tb : TS) : TS := fun D σ H => ∃ W : Nat → St → Hp → Prop, (∃ m, W m σ H) ∧ ∀ m σ H, W m σ H →
  c σ H fun b H1 => if b = true then ∃ N : St → Hp → Prop, (∀ σ' H', N σ' H' → ∃ m', m' < m ∧ W m' σ' H') ∧ tb { D with nx := N, ct := N, bk := D.nx } σ H1 else D.nx σ H1
theorem ps_while {c : Expr} {body : List Stmt} {tc : TT} {tb : TS} (hp : PassesOwn (model X.prog X.w) X.A X.env X.xe) (hc : PT X c tc) (hb : PSs X body tb) : PS X (.While c body [] pos) (tWhile tc tb) := by
  intro pins s σ H D I h
  obtain ⟨W, ⟨m0, w0⟩, turn⟩ := h
  refine wpAny_While (codeAny_whileLoop (fun n s' => ∃ σ' H', Inv X pins σ' H' s' ∧ W n σ' H') ?_ m0 ⟨σ, H, I, w0⟩)
  rintro n s1 ⟨σ1, H1, I1, w1⟩
  refine wpAny_passesOwn hp (thn (hc pins s1 σ1 H1 _ I1 (turn n σ1 H1 w1)) fun b s2 ⟨H2, I2, q2⟩ => ?_)
  cases b with
  | true =>
    obtain ⟨N, hN, q2⟩ := q2
    rw [if_pos rfl]
    refine wpAny_passesOwn hp (thn (hb pins s2 σ1 H2 _ I2 q2) fun f s3 q3 => ?_)
    cases f with
    | next =>
      obtain ⟨σ3, H3, I3, n3⟩ := q3
      obtain ⟨m', hm, w3⟩ := hN σ3 H3 n3
      exact ⟨m', hm, σ3, H3, I3, w3⟩
    | cont =>
      obtain ⟨σ3, H3, I3, n3⟩ := q3
      obtain ⟨m', hm, w3⟩ := hN σ3 H3 n3
      exact ⟨m', hm, σ3, H3, I3, w3⟩
    | brk => exact q3
    | ret v => exact q3
  | false =>
    rw [if_neg Bool.false_ne_true]
    exact wpAny_execs_nil ⟨σ1, H2, I2, q2⟩
end

/-! ### what a loop or a comprehension walks -/
/-- at turn i: it yields x (the heap may grow), or it stops -/
structure It where
  go : Nat → Hp → Prop
  yld : Nat → Hp → V → Hp → Prop
  stop : Nat → Hp → Prop
/-- the iterator's own objects may turn: they are not the frame's, not pinned, younger than the entry (or a comprehension's own) -/
def FpOk (X : Cx) (pins : List (Addr × Obj)) (H : Hp) (b : Addr) : Prop :=
  H b = none ∧ b ≠ X.env.locals ∧ b ∉ X.fs ∧ (b ∈ X.ex ∨ X.s₀.heap.objs.size ≤ b) ∧ (∀ x c, X.env.cells.lookup x = some c → c ≠ b) ∧ ∀ p ∈ X.pn ++ pins, p.1 ≠ b
theorem Inv.fpOk {X : Cx} {pins : List (Addr × Obj)} {σ : St} {H H' : Hp} {s : Shared} {b : Addr} (I : Inv X pins σ H s) (hb : s.heap.objs.size ≤ b) (hn : H' b = none) : FpOk X pins H' b := by
  refine ⟨hn, Nat.ne_of_gt (Nat.lt_of_lt_of_le I.lt hb), I.nofs hb, .inr (Nat.le_trans I.sz hb), fun x c e z => ?_, fun p hp z => ?_⟩
  · obtain ⟨v, q⟩ := I.cell x c e
    exact absurd (Nat.lt_of_lt_of_le q.lt (by rw [z]; exact hb)) (Nat.lt_irrefl _)
  · exact absurd (Nat.lt_of_lt_of_le (Heap.lt_size (I.pin p hp).1) (by rw [z]; exact hb)) (Nat.lt_irrefl _)
structure Turn (P : Program) (w : World) (K : PySem.W.Frag) (tg : Expr) (J : It) (fp : List Addr) (it : Addr) (tn : Nat → Heap → Prop) : Prop where
  mem : it ∈ fp
  obj : ∀ i h, tn i h → ∀ b ∈ fp, ∃ o, h.get? b = some o ∧ ∀ v, o.data ≠ .cell v
  keep : ∀ i h h', tn i h → (∀ b ∈ fp, ∀ o, h.get? b = some o → h'.get? b = some o) → tn i h'
  item : ∀ (X : Cx), X.prog = P → X.w = w → X.K = K → X.calm = true → ∀ (i : Nat) (pins : List (Addr × Obj)) (s : Shared) (σ : St) (H : Hp) (E : Value → Shared → Prop), Inv X pins σ H s → (∀ b ∈ fp, FpOk X pins H b) → tn i s.heap → J.go i H →
    wpAny (model P w) X.A (pyNext (.ref it)) (fun r s1 => ∃ u, r = some u ∧
      wpAny (model P w) X.A (letOwnedTupleGo tg (.ref it) u) (fun _ s2 => ∃ x H', Inv X pins σ H' s2 ∧ RelV x u ∧ J.yld i H x H' ∧ tn (i + 1) s2.heap ∧ ∀ b ∈ fp, H' b = none) E s1) E s
  done : ∀ (X : Cx), X.prog = P → X.w = w → X.K = K → X.calm = true → ∀ (i : Nat) (pins : List (Addr × Obj)) (s : Shared) (σ : St) (H : Hp) (E : Value → Shared → Prop), Inv X pins σ H s → (∀ b ∈ fp, FpOk X pins H b) → tn i s.heap → J.stop i H →
    wpAny (model P w) X.A (pyNext (.ref it)) (fun r s1 => r = none ∧ Inv X pins σ H s1) E s
  self : ∀ (A : Around) (i : Nat) (s : Shared) (Q : Value → Shared → Prop) (E : Value → Shared → Prop), tn i s.heap → Q (.ref it) s → wpAny (model P w) A (pyIter (.ref it)) Q E s
abbrev TI := St → Hp → (It → Hp → Prop) → Prop
/-- an iterator has come -/
def PIE (X : Cx) (pins : List (Addr × Obj)) (σ : St) (tg : Expr) (R : It → Hp → Prop) (itv : Value) (s2 : Shared) : Prop :=
  ∃ (it : Addr) (fp : List Addr) (tn : Nat → Heap → Prop) (J : It) (H' : Hp), itv = .ref it ∧ Inv X pins σ H' s2 ∧ Turn X.prog X.w X.K tg J fp it tn ∧ tn 0 s2.heap ∧ (∀ b ∈ fp, FpOk X pins H' b) ∧ R J H'
def PI (X : Cx) (tg iter : Expr) (wi : TI) : Prop :=
  ∀ (pins : List (Addr × Obj)) (s : Shared) (σ : St) (H : Hp) (R : It → Hp → Prop), Inv X pins σ H s → wi σ H R →
    wpAny (model X.prog X.w) X.A (eval iter X.env) (fun v s1 => wpAny (model X.prog X.w) X.A (pyIter v) (PIE X pins σ tg R) X.xe s1) X.xe s

/-- the step ahead of the store is nothing for an iterator that keeps no tuple -/
theorem go_of {M : Model} {A : Around} {E : Value → Shared → Prop} {s : Shared} {tg : Expr} {it : Addr} {u : Value} {o : Obj} {n : String} {vs : Array Value} {Q : Unit → Shared → Prop} (ho : s.heap.get? it = some o) (hc : o.cls = .type n) (hd : o.data = .fields vs)
    (hn : ["enumerate", "zip", "dict_itemiterator", "dict_reverseitemiterator", "odict_iterator", "itertools.zip_longest", "itertools.pairwise"].contains n = false) (hQ : Q () s) : wpAny M A (letOwnedTupleGo tg (.ref it) u) Q E s := by
  unfold letOwnedTupleGo
  cases tg <;> first
    | exact wpAny_pure hQ
    | (cases u <;> first
        | exact wpAny_pure hQ
        | (refine wpAny_bind (wpAny_load ho ?_)
           rw [hc, hd]
           show wpAny M A (if (["enumerate", "zip", "dict_itemiterator", "dict_reverseitemiterator", "odict_iterator", "itertools.zip_longest", "itertools.pairwise"].contains n && vs[0]? == some (rawInt _)) = true then _ else _) Q E s
           rw [if_neg (by intro h; rw [hn, Bool.false_and] at h; cases h)]
           exact wpAny_pure hQ))

/-- the list at a, as it stands at each turn (a loop may append to it) -/
def Itl (K : PySem.W.Frag) (a : Addr) : It :=
  ⟨fun i H => ∃ xs x, SqL K H a xs ∧ xs[i]? = some x, fun i H x H' => H' = H ∧ ∀ xs, SqL K H a xs → xs[i]? = some x, fun i H => ∃ xs, SqL K H a xs ∧ xs.length ≤ i⟩
def Itt (K : PySem.W.Frag) (a : Addr) : It :=
  ⟨fun i H => ∃ xs x, SqT K H a xs ∧ xs[i]? = some x, fun i H x H' => H' = H ∧ ∀ xs, SqT K H a xs → xs[i]? = some x, fun i H => ∃ xs, SqT K H a xs ∧ xs.length ≤ i⟩
/-- lo, lo + 1, .. (n of them) -/
def Itr (lo : Int) (n : Nat) : It := ⟨fun i _ => i < n, fun i H x H' => H' = H ∧ x = .int (lo + i), fun i _ => n ≤ i⟩
theorem turn_list {P : Program} {w : World} {K : PySem.W.Frag} {tg : Expr} (a it : Addr) : Turn P w K tg (Itl K a) [it] it (fun i h => h.IsListIter it a i) where
  mem := by simp
  obj := fun i h st b hb => by
    have e : b = it := by simpa using hb
    subst e
    obtain ⟨o, e, c, d⟩ := st
    exact ⟨o, e, fun v z => by rw [d] at z; cases z⟩
  keep := fun i h h' st k => st.at fun o e => k it (by simp) o e
  item := by
    intro X hP hw hK hc i pins s σ H E I hf st hg
    subst hP hw hK
    obtain ⟨xs, x, hq, hx⟩ := hg
    obtain ⟨its, rv, p, hz⟩ := I.list hq
    obtain ⟨u, hu, ru⟩ := rv.get hx
    obtain ⟨f0, f1, f2, f3, f4, f5⟩ := hf it (by simp)
    refine wpAny_pyNext_list_item st p.isList (x := u) (by simpa using hu) fun h' st' sb => ?_
    have I1 : Inv X pins σ H { s with heap := h' } := I.turned (t' := s.toks) (fun b o hb e => (sb.2 b hb).trans e) f0 f1 f3 f4 f5
    obtain ⟨o, e, c, d⟩ := id st'
    exact ⟨u, rfl, go_of (s := { s with heap := h' }) e c d (by decide) ⟨x, H, I1, ru, ⟨rfl, fun ys hy => by rw [I.list_inj hy hq]; exact hx⟩, st', fun b hb => (hf b hb).1⟩⟩
  done := by
    intro X hP hw hK hc i pins s σ H E I hf st hg
    subst hP hw hK
    obtain ⟨xs, hq, hx⟩ := hg
    obtain ⟨its, rv, p, hz⟩ := I.list hq
    obtain ⟨f0, f1, f2, f3, f4, f5⟩ := hf it (by simp)
    have hl := rv.length
    exact wpAny_pyNext_list_end (I.ok.hd hc) st p.isList (by simp; omega) fun h' eb => ⟨rfl, I.turned (t' := s.toks) (fun b o hb e => eb b o hb e) f0 f1 f3 f4 f5⟩
  self := fun _ _ _ _ _ st h => wpAny_pyIter_listiter st h
theorem turn_tuple {P : Program} {w : World} {K : PySem.W.Frag} {tg : Expr} (a it : Addr) : Turn P w K tg (Itt K a) [it] it (fun i h => h.IsTupleIter it a i) where
  mem := by simp
  obj := fun i h st b hb => by
    have e : b = it := by simpa using hb
    subst e
    obtain ⟨o, e, c, d⟩ := st
    exact ⟨o, e, fun v z => by rw [d] at z; cases z⟩
  keep := fun i h h' st k => st.at fun o e => k it (by simp) o e
  item := by
    intro X hP hw hK hc i pins s σ H E I hf st hg
    subst hP hw hK
    obtain ⟨xs, x, hq, hx⟩ := hg
    obtain ⟨its, rv, p, hz⟩ := I.tuple hq
    obtain ⟨u, hu, ru⟩ := rv.get hx
    obtain ⟨f0, f1, f2, f3, f4, f5⟩ := hf it (by simp)
    refine wpAny_pyNext_tuple_item st (show s.heap.IsTuple a its.toArray from p) (x := u) (by simpa using hu) fun h' st' sb => ?_
    have I1 : Inv X pins σ H { s with heap := h' } := I.turned (t' := s.toks) (fun b o hb e => (sb.2 b hb).trans e) f0 f1 f3 f4 f5
    obtain ⟨o, e, c, d⟩ := id st'
    exact ⟨u, rfl, go_of (s := { s with heap := h' }) e c d (by decide) ⟨x, H, I1, ru, ⟨rfl, fun ys hy => by rw [I.tuple_inj hy hq]; exact hx⟩, st', fun b hb => (hf b hb).1⟩⟩
  done := by
    intro X hP hw hK hc i pins s σ H E I hf st hg
    subst hP hw hK
    obtain ⟨xs, hq, hx⟩ := hg
    obtain ⟨its, rv, p, hz⟩ := I.tuple hq
    obtain ⟨f0, f1, f2, f3, f4, f5⟩ := hf it (by simp)
    have hl := rv.length
    exact wpAny_pyNext_tuple_end (I.ok.hd hc) st (show s.heap.IsTuple a its.toArray from p) (by simp; omega) fun h' eb => ⟨rfl, I.turned (t' := s.toks) (fun b o hb e => eb b o hb e) f0 f1 f3 f4 f5⟩
  self := fun _ _ _ _ _ st h => wpAny_pyIter_tupleiter st h
theorem turn_range {P : Program} {w : World} {K : PySem.W.Frag} {tg : Expr} (it : Addr) (lo : Int) (n : Nat) : Turn P w K tg (Itr lo n) [it] it (fun i h => IsRangeIter h it (lo + (i : Nat) * 1) ((n : Int) - (i : Nat)) 1) where
  mem := by simp
  obj := fun i h st b hb => by
    have e : b = it := by simpa using hb
    subst e
    exact ⟨_, st, fun v z => by
      have z' : Data.fields _ = Data.cell v := z
      cases z'⟩
  keep := fun i h h' st k => k it (by simp) _ st
  item := by
    intro X hP hw hK hc i pins s σ H E I hf st hg
    subst hP hw hK
    obtain ⟨f0, f1, f2, f3, f4, f5⟩ := hf it (by simp)
    have W := Walks.range (prog := X.prog) (w := X.w) (I.ok.hd hc) it lo 1 n
    refine W.item i s _ _ hg st fun v h' tk hv st' kk => ?_
    obtain ⟨t, rfl⟩ := hv
    have I1 : Inv X pins σ H { s with heap := h', toks := tk } := I.turned (fun b o hb e => kk b o (by simpa using hb) e) f0 f1 f3 f4 f5
    refine ⟨_, rfl, go_of (s := { s with heap := h', toks := tk }) (n := "range_iterator") st' rfl rfl (by decide) ⟨.int (lo + i), H, I1, ⟨t, ?_⟩, ⟨rfl, rfl⟩, st', fun b hb => (hf b hb).1⟩⟩
    rw [Int.mul_one]
  done := by
    intro X hP hw hK hc i pins s σ H E I hf st hg
    subst hP hw hK
    obtain ⟨f0, f1, f2, f3, f4, f5⟩ := hf it (by simp)
    exact wpAny_pyNext_range_end (I.ok.hd hc) st (by have : n ≤ i := hg; omega) fun h' eb => ⟨rfl, I.turned (t' := s.toks) (fun b o hb e => eb b o hb e) f0 f1 f3 f4 f5⟩
  self := fun _ _ _ _ _ st h => wpAny_pyIter_rangeiter st h
end L2

namespace L2
open PySem PySem.Spec PyProof.Rows
section
variable {X : Cx} {tg : Expr}
def iList (K : PySem.W.Frag) (tl : TE) : TI := fun σ H R => tl σ H fun x H1 => ∃ a, x = .ref a ∧ (∃ xs, SqL K H1 a xs) ∧ R (Itl K a) H1
def iTup (K : PySem.W.Frag) (tl : TE) : TI := fun σ H R => tl σ H fun x H1 => ∃ a, x = .ref a ∧ (∃ xs, SqT K H1 a xs) ∧ R (Itt K a) H1
theorem pi_list {l : Expr} {tl : TE} (hl : PE X l tl) : PI X tg l (iList X.K tl) := by
  intro pins s σ H R I h
  refine thn (hl pins s σ H _ I h) fun v s1 ⟨x, H1, I1, r1, q1⟩ => ?_
  obtain ⟨a, e, ⟨xs, hq⟩, q⟩ := q1
  subst e
  cases r1
  obtain ⟨its, rv, p, hz⟩ := I1.list hq
  refine wpAny_pyIter_list p.isList ?_
  refine ⟨s1.heap.objs.size, [s1.heap.objs.size], _, _, H1, rfl, I1.kept (t' := s1.toks) fun b o e => Heap.get?_push_of_some _ e, turn_list a _, ⟨_, Heap.get?_push_size _ rfl, rfl, rfl⟩, fun b hb => ?_, q⟩
  have e : b = s1.heap.objs.size := by simpa using hb
  subst e
  exact I1.fpOk (Nat.le_refl _) (I1.hok.fresh (Nat.le_refl _))
theorem pi_tup {l : Expr} {tl : TE} (hl : PE X l tl) : PI X tg l (iTup X.K tl) := by
  intro pins s σ H R I h
  refine thn (hl pins s σ H _ I h) fun v s1 ⟨x, H1, I1, r1, q1⟩ => ?_
  obtain ⟨a, e, ⟨xs, hq⟩, q⟩ := q1
  subst e
  cases r1
  obtain ⟨its, rv, p, hz⟩ := I1.tuple hq
  refine wpAny_pyIter_tuple (show s1.heap.IsTuple a its.toArray from p) ?_
  refine ⟨s1.heap.objs.size, [s1.heap.objs.size], _, _, H1, rfl, I1.kept (t' := s1.toks) fun b o e => Heap.get?_push_of_some _ e, turn_tuple a _, ⟨_, Heap.get?_push_size _ rfl, rfl, rfl⟩, fun b hb => ?_, q⟩
  have e : b = s1.heap.objs.size := by simpa using hb
  subst e
  exact I1.fpOk (Nat.le_refl _) (I1.hok.fresh (Nat.le_refl _))
/-- a range object just made, walked -/
theorem range_it {pins : List (Addr × Obj)} {σ : St} {H : Hp} {s : Shared} {R : It → Hp → Prop} {E : Value → Shared → Prop} {lo hi : Int} {t u v : Tok} {tk : Nat} (I : Inv X pins σ H s) (h1 : -(2 ^ 62) ≤ lo) (h2 : lo < 2 ^ 62) (h3 : -(2 ^ 62) ≤ hi) (h4 : hi < 2 ^ 62)
    (q : R (Itr lo (hi - lo).toNat) H) : wpAny (model X.prog X.w) X.A (pyIter (.ref s.heap.objs.size)) (PIE X pins σ tg R) E { s with heap := s.heap.push { cls := .type "range", data := .fields #[.int lo t, .int hi u, .int 1 v] }, toks := tk } := by
  refine wpAny_pyIter_range (IsRange.new ..) (small_one h1 h2 h3 h4) ?_
  have I1 : Inv X pins σ H { s with heap := s.heap.push { cls := .type "range", data := .fields #[.int lo t, .int hi u, .int 1 v] }, toks := tk } := I.kept fun b o e => Heap.get?_push_of_some _ e
  refine ⟨(s.heap.push { cls := .type "range", data := .fields #[.int lo t, .int hi u, .int 1 v] }).objs.size, [(s.heap.push { cls := .type "range", data := .fields #[.int lo t, .int hi u, .int 1 v] }).objs.size], _, _, H, rfl,
    I1.kept (t' := tk) fun b o e => Heap.get?_push_of_some _ e, turn_range _ lo (hi - lo).toNat, ?_, fun b hb => ?_, q⟩
  · have e1 : lo + ((0 : Nat) : Int) * 1 = lo := by simp
    have e2 : (((hi - lo).toNat : Nat) : Int) - ((0 : Nat) : Int) = Builtin.Range.rangeSize lo hi 1 := by rw [rangeSize_one]; split <;> omega
    show IsRangeIter _ _ (lo + ((0 : Nat) : Int) * 1) ((((hi - lo).toNat : Nat) : Int) - ((0 : Nat) : Int)) 1
    rw [e1, e2]
    exact Heap.get?_push_size _ rfl
  · have e : b = (s.heap.push { cls := .type "range", data := .fields #[.int lo t, .int hi u, .int 1 v] }).objs.size := by simpa using hb
    subst e
    exact I1.fpOk (Nat.le_refl _) (I1.hok.fresh (Nat.le_refl _))
def iRng1 (ta : TA) : TI := fun σ H R => ta σ H fun vs H1 => ∃ j : Int, vs = [.int j] ∧ -(2 ^ 62) ≤ j ∧ j < 2 ^ 62 ∧ R (Itr 0 j.toNat) H1
def iRng2 (ta : TA) : TI := fun σ H R => ta σ H fun vs H1 => ∃ i j : Int, vs = [.int i, .int j] ∧ (-(2 ^ 62) ≤ i ∧ i < 2 ^ 62 ∧ -(2 ^ 62) ≤ j ∧ j < 2 ^ 62) ∧ R (Itr i (j - i).toNat) H1
theorem pi_range1 {a : Expr} {ta : TA} {p pos : Pos} (hg : Gl X "range") (hm : X.mg "range" = none) (ha : PA X [a] ta) (hs : starEach [a] X.env = [(false, eval a X.env)] := by rfl) : PI X tg (.Call (.Name "range" p) [a] [] pos) (iRng1 ta) := by
  intro pins s σ H R I h
  refine Call_ (ld_blt I hg hm boot_range (PyProof.Rows.callWith_type1 (thn (ha pos pins s σ H _ I h) fun us s1 ⟨vs, H1, I1, r1, q1⟩ => ?_) hs rfl))
  obtain ⟨j, e, q1, q2, q⟩ := q1
  subst e
  cases r1 with
  | cons r rr =>
    cases rr
    obtain ⟨t, rfl⟩ := r
    exact call_range_1 (range_it I1 (by omega) (by omega) q1 q2 (by simpa using q))
theorem pi_range2 {a b : Expr} {ta : TA} {p pos : Pos} (hg : Gl X "range") (hm : X.mg "range" = none) (ha : PA X [a, b] ta) (hs : starEach [a, b] X.env = [(false, eval a X.env), (false, eval b X.env)] := by rfl) (hs2 : starEach [b] X.env = [(false, eval b X.env)] := by rfl) :
    PI X tg (.Call (.Name "range" p) [a, b] [] pos) (iRng2 ta) := by
  intro pins s σ H R I h
  refine Call_ (ld_blt I hg hm boot_range (PyProof.Rows.callWith_type1 (thn (ha pos pins s σ H _ I h) fun us s1 ⟨vs, H1, I1, r1, q1⟩ => ?_) (by rw [hs, hs2]) (by rw [hs2]; rfl)))
  obtain ⟨i, j, e, ⟨q1, q2, q3, q4⟩, q⟩ := q1
  subst e
  cases r1 with
  | cons r rr =>
    cases rr with
    | cons r' rr =>
      cases rr
      obtain ⟨t, rfl⟩ := r
      obtain ⟨t', rfl⟩ := r'
      exact call_range_2 (range_it I1 q1 q2 q3 q4 q)

/-! ### for -/
/-- W: the invariant by the turn and a measure; N: what the body is to reach -/
def tFor (wi : TI) (g : TG) (tb : TS) : TS := fun D σ H => wi σ H fun J H1 => ∃ W : Nat → Nat → St → Hp → Prop, (∃ m, W 0 m σ H1) ∧ ∀ i m σ H, W i m σ H →
  (J.stop i H ∧ D.nx σ H) ∨ (J.go i H ∧ ∃ N : St → Hp → Prop, (∀ σ' H', N σ' H' → ∃ m', m' < m ∧ W (i + 1) m' σ' H') ∧ ∀ x H', J.yld i H x H' → g x σ H' fun σ2 H2 => tb { D with nx := N, ct := N, bk := D.nx } σ2 H2)
/-- the records at fp as they stand -/
def pinsAt (fp : List Addr) (h : Heap) : List (Addr × Obj) := fp.filterMap fun b => (h.get? b).map fun o => (b, o)
theorem mem_pinsAt {fp : List Addr} {h : Heap} {b : Addr} {o : Obj} (hb : b ∈ fp) (e : h.get? b = some o) : (b, o) ∈ pinsAt fp h := List.mem_filterMap.mpr ⟨b, hb, by rw [e]; rfl⟩
theorem of_pinsAt {fp : List Addr} {h : Heap} {p : Addr × Obj} (hp : p ∈ pinsAt fp h) : p.1 ∈ fp ∧ h.get? p.1 = some p.2 := by
  obtain ⟨b, hb, e⟩ := List.mem_filterMap.mp hp
  cases q : h.get? b with
  | none => rw [q] at e; cases e
  | some o =>
    rw [q] at e
    have e' : (b, o) = p := Option.some.inj e
    subst e'
    exact ⟨hb, q⟩
theorem Inv.pinned {pins : List (Addr × Obj)} {σ : St} {H : Hp} {s : Shared} {fp : List Addr} (I : Inv X pins σ H s) (hf : ∀ b ∈ fp, FpOk X pins H b) (ho : ∀ b ∈ fp, ∃ o, s.heap.get? b = some o ∧ ∀ v, o.data ≠ .cell v) : Inv X (pins ++ pinsAt fp s.heap) σ H s :=
  I.pins_of fun p hp => (List.mem_append.mp hp).elim (fun z => I.pin p (List.mem_append_right _ z)) fun z => by
    obtain ⟨hb, e⟩ := of_pinsAt z
    obtain ⟨f0, f1, f2, _⟩ := hf p.1 hb
    obtain ⟨o, e', d⟩ := ho p.1 hb
    rw [e] at e'; cases e'
    exact ⟨e, f0, f1, f2, d⟩
theorem Inv.unpinned {pins pl : List (Addr × Obj)} {σ : St} {H : Hp} {s : Shared} (I : Inv X (pins ++ pl) σ H s) : Inv X pins σ H s := I.pins_of fun p hp => I.pin p (List.mem_append_right _ (List.mem_append_left _ hp))
theorem ps_for {iter : Expr} {body : List Stmt} {wi : TI} {g : TG} {tb : TS} {pos : Pos} (hp : PassesOwn (model X.prog X.w) X.A X.env X.xe) (hc : X.calm = true) (hi : PI X tg iter wi) (hg : PG X tg g) (hb : PSs X body tb)
    (hs : ∀ x, foldedSetIterable iter X.env x = pure x := by intro _; rfl) : PS X (.For tg iter body [] pos) (tFor wi g tb) := by
  intro pins s σ H D I h
  refine wpAny_For (thn (hi pins s σ H _ I h) fun v s1 h1 => thn h1 fun itv s2 h2 => ?_) hs
  obtain ⟨it, fp, tn, J, H2, e, I2, T, st2, f2, W, ⟨m0, w0⟩, turn⟩ := h2
  subst e
  -- what stays true of the iterator's objects through the loop
  have stat : ∀ {H' : Hp}, (∀ b ∈ fp, H' b = none) → ∀ b ∈ fp, FpOk X pins H' b := fun hn b hb => ⟨hn b hb, (f2 b hb).2⟩
  refine codeAny_forLoop_any (fun n s' => ∃ i σ' H', Inv X pins σ' H' s' ∧ tn i s'.heap ∧ (∀ b ∈ fp, H' b = none) ∧ W i n σ' H') ?_ m0 ⟨0, σ, H2, I2, st2, fun b hb => (f2 b hb).1, w0⟩
  rintro n s3 ⟨i, σ3, H3, I3, st3, fr3, w3⟩
  rcases turn i n σ3 H3 w3 with ⟨stop, qn⟩ | ⟨go, N, hN, step⟩
  · refine wpAny_passesOwn hp (thn (T.done X rfl rfl rfl hc i pins s3 σ3 H3 X.xe I3 (stat fr3) st3 stop) fun r s4 ⟨hr, I4⟩ => ?_)
    subst hr
    exact wpAny_execs_nil ⟨σ3, H3, I4, qn⟩
  · refine wpAny_passesOwn hp (thn (T.item X rfl rfl rfl hc i pins s3 σ3 H3 X.xe I3 (stat fr3) st3 go) fun r s4 ⟨u, hr, h4⟩ => ?_)
    subst hr
    refine wpAny_passesOwn hp (thn h4 fun _ s5 ⟨x, H5, I5, r5, y5, st5, fr5⟩ => ?_)
    have I5' := I5.pinned (stat fr5) (T.obj _ _ st5)
    refine wpAny_passesOwn hp (thn (hg _ s5 σ3 H5 x u _ I5' r5 (step x H5 y5)) fun _ s6 ⟨σ6, H6, I6, q6⟩ => ?_)
    refine wpAny_passesOwn hp (thn (hb _ s6 σ6 H6 _ I6 q6) fun f s7 q7 => ?_)
    have again : ∀ {σ7 : St} {H7 : Hp}, Inv X (pins ++ pinsAt fp s5.heap) σ7 H7 s7 → N σ7 H7 → ∃ m, m < n ∧ ∃ i σ' H', Inv X pins σ' H' s7 ∧ tn i s7.heap ∧ (∀ b ∈ fp, H' b = none) ∧ W i m σ' H' := fun {σ7 H7} I7 n7 => by
      obtain ⟨m', hm, w7⟩ := hN σ7 H7 n7
      refine ⟨m', hm, i + 1, σ7, H7, I7.unpinned, T.keep _ _ _ st5 fun b hb o e => (I7.pin (b, o) (List.mem_append_right _ (List.mem_append_right _ (mem_pinsAt hb e)))).1, fun b hb => ?_, w7⟩
      obtain ⟨o, e, d⟩ := T.obj _ _ st5 b hb
      exact (I7.pin (b, o) (List.mem_append_right _ (List.mem_append_right _ (mem_pinsAt hb e)))).2.1
    cases f with
    | next => obtain ⟨σ7, H7, I7, n7⟩ := q7; exact again I7 n7
    | cont => obtain ⟨σ7, H7, I7, n7⟩ := q7; exact again I7 n7
    | brk => obtain ⟨σ7, H7, I7, q7⟩ := q7; exact ⟨σ7, H7, I7.unpinned, q7⟩
    | ret v => obtain ⟨x7, σ7, H7, I7, r7, q7⟩ := q7; exact ⟨x7, σ7, H7, I7.unpinned, r7, q7⟩
end

/-! ### the forms one uses -/
/-- over a list that the body leaves as it is -/
theorem for_list {K : PySem.W.Frag} {a : Addr} {xs : List V} {g : TG} {tb : TS} {D : Ends} {σ : St} {H : Hp} (Pv : Nat → St → Hp → Prop) (h0 : Pv 0 σ H) (hl : ∀ i σ H, i ≤ xs.length → Pv i σ H → SqL K H a xs)
    (hs : ∀ i x σ H, xs[i]? = some x → Pv i σ H → g x σ H fun σ2 H2 => tb { D with nx := Pv (i + 1), ct := Pv (i + 1), bk := D.nx } σ2 H2) (hd : ∀ σ H, Pv xs.length σ H → D.nx σ H) :
    ∃ W : Nat → Nat → St → Hp → Prop, (∃ m, W 0 m σ H) ∧ ∀ i m σ H, W i m σ H →
      ((Itl K a).stop i H ∧ D.nx σ H) ∨ ((Itl K a).go i H ∧ ∃ N : St → Hp → Prop, (∀ σ' H', N σ' H' → ∃ m', m' < m ∧ W (i + 1) m' σ' H') ∧ ∀ x H', (Itl K a).yld i H x H' → g x σ H' fun σ2 H2 => tb { D with nx := N, ct := N, bk := D.nx } σ2 H2) := by
  refine ⟨fun i m σ H => m = xs.length - i ∧ i ≤ xs.length ∧ Pv i σ H, ⟨xs.length, by simp, Nat.zero_le _, h0⟩, ?_⟩
  rintro i m σ H ⟨rfl, hi, p⟩
  have q := hl i σ H hi p
  by_cases hlt : i < xs.length
  · refine .inr ⟨⟨xs, xs[i], q, by simp [hlt]⟩, Pv (i + 1), fun σ' H' p' => ⟨xs.length - (i + 1), by omega, rfl, hlt, p'⟩, fun x H' y => ?_⟩
    obtain ⟨e, y⟩ := y
    subst e
    exact hs i x σ _ (y xs q) p
  · have e : i = xs.length := by omega
    subst e
    exact .inl ⟨⟨xs, q, Nat.le_refl _⟩, hd σ H p⟩
theorem for_tup {K : PySem.W.Frag} {a : Addr} {xs : List V} {g : TG} {tb : TS} {D : Ends} {σ : St} {H : Hp} (Pv : Nat → St → Hp → Prop) (h0 : Pv 0 σ H) (hl : ∀ i σ H, i ≤ xs.length → Pv i σ H → SqT K H a xs)
    (hs : ∀ i x σ H, xs[i]? = some x → Pv i σ H → g x σ H fun σ2 H2 => tb { D with nx := Pv (i + 1), ct := Pv (i + 1), bk := D.nx } σ2 H2) (hd : ∀ σ H, Pv xs.length σ H → D.nx σ H) :
    ∃ W : Nat → Nat → St → Hp → Prop, (∃ m, W 0 m σ H) ∧ ∀ i m σ H, W i m σ H →
      ((Itt K a).stop i H ∧ D.nx σ H) ∨ ((Itt K a).go i H ∧ ∃ N : St → Hp → Prop, (∀ σ' H', N σ' H' → ∃ m', m' < m ∧ W (i + 1) m' σ' H') ∧ ∀ x H', (Itt K a).yld i H x H' → g x σ H' fun σ2 H2 => tb { D with nx := N, ct := N, bk := D.nx } σ2 H2) := by
  refine ⟨fun i m σ H => m = xs.length - i ∧ i ≤ xs.length ∧ Pv i σ H, ⟨xs.length, by simp, Nat.zero_le _, h0⟩, ?_⟩
  rintro i m σ H ⟨rfl, hi, p⟩
  have q := hl i σ H hi p
  by_cases hlt : i < xs.length
  · refine .inr ⟨⟨xs, xs[i], q, by simp [hlt]⟩, Pv (i + 1), fun σ' H' p' => ⟨xs.length - (i + 1), by omega, rfl, hlt, p'⟩, fun x H' y => ?_⟩
    obtain ⟨e, y⟩ := y
    subst e
    exact hs i x σ _ (y xs q) p
  · have e : i = xs.length := by omega
    subst e
    exact .inl ⟨⟨xs, q, Nat.le_refl _⟩, hd σ H p⟩
theorem for_range {lo : Int} {n : Nat} {g : TG} {tb : TS} {D : Ends} {σ : St} {H : Hp} (Pv : Nat → St → Hp → Prop) (h0 : Pv 0 σ H)
    (hs : ∀ i σ H, i < n → Pv i σ H → g (.int (lo + i)) σ H fun σ2 H2 => tb { D with nx := Pv (i + 1), ct := Pv (i + 1), bk := D.nx } σ2 H2) (hd : ∀ σ H, Pv n σ H → D.nx σ H) :
    ∃ W : Nat → Nat → St → Hp → Prop, (∃ m, W 0 m σ H) ∧ ∀ i m σ H, W i m σ H →
      ((Itr lo n).stop i H ∧ D.nx σ H) ∨ ((Itr lo n).go i H ∧ ∃ N : St → Hp → Prop, (∀ σ' H', N σ' H' → ∃ m', m' < m ∧ W (i + 1) m' σ' H') ∧ ∀ x H', (Itr lo n).yld i H x H' → g x σ H' fun σ2 H2 => tb { D with nx := N, ct := N, bk := D.nx } σ2 H2) := by
  refine ⟨fun i m σ H => m = n - i ∧ i ≤ n ∧ Pv i σ H, ⟨n, by simp, Nat.zero_le _, h0⟩, ?_⟩
  rintro i m σ H ⟨rfl, hi, p⟩
  by_cases hlt : i < n
  · refine .inr ⟨hlt, Pv (i + 1), fun σ' H' p' => ⟨n - (i + 1), by omega, rfl, hlt, p'⟩, fun x H' y => ?_⟩
    obtain ⟨e, y⟩ := y
    subst e y
    exact hs i σ _ hlt p
  · have e : i = n := by omega
    subst e
    exact .inl ⟨Nat.le_refl _, hd σ H p⟩
end L2

namespace L2
open PySem PySem.Spec PyProof.Rows

abbrev R2 := V → V → Hp → VK → Prop
/-- a two-place operation on values: f is binaryOp op, inplaceOp op or compareOp op -/
def OpR (X : Cx) (f : Value → Value → Sem Value) (r : R2) : Prop :=
  ∀ (pins : List (Addr × Obj)) (s : Shared) (σ : St) (H : Hp) (x y : V) (v u : Value) (Q : VK), Inv X pins σ H s → RelV x v → RelV y u → r x y H Q →
    wpAny (model X.prog X.w) X.A (f v u) (EP X pins σ Q) X.xe s
/-- a one-place operation -/
def UnR (X : Cx) (f : Value → Sem Value) (r : V → Hp → VK → Prop) : Prop :=
  ∀ (pins : List (Addr × Obj)) (s : Shared) (σ : St) (H : Hp) (x : V) (v : Value) (Q : VK), Inv X pins σ H s → RelV x v → r x H Q →
    wpAny (model X.prog X.w) X.A (f v) (EP X pins σ Q) X.xe s
/-- a call of a value that is known (a builtin, a type) with values -/
def CallR (X : Cx) (f : Value) (r : List V → Hp → VK → Prop) : Prop :=
  ∀ (pins : List (Addr × Obj)) (s : Shared) (σ : St) (H : Hp) (xs : List V) (us : List Value) (Q : VK), Inv X pins σ H s → Vals xs us → r xs H Q →
    wpAny (model X.prog X.w) X.A (call f us) (EP X pins σ Q) X.xe s
def tOp (r : R2) (ta tb : TE) : TE := fun σ H Q => ta σ H fun x H1 => tb σ H1 fun y H2 => r x y H2 Q
def tUn (r : V → Hp → VK → Prop) (ta : TE) : TE := fun σ H Q => ta σ H fun x H1 => r x H1 Q
/-- ints in, under C, and a value out -/
def rI (C : Int → Int → Prop) (g : Int → Int → V) : R2 := fun x y H Q => ∃ i j, x = .int i ∧ y = .int j ∧ C i j ∧ Q (g i j) H
def rI0 (g : Int → Int → V) : R2 := fun x y H Q => ∃ i j, x = .int i ∧ y = .int j ∧ Q (g i j) H
def rU (g : Int → V) : V → Hp → VK → Prop := fun x H Q => ∃ i, x = .int i ∧ Q (g i) H

section
variable {X : Cx} {a b c : Expr} {ta tb tc : TE} {pos : Pos}

theorem binT (ha : PE X a ta) (hb : PE X b tb) {pins : List (Addr × Obj)} {s : Shared} {σ : St} {H : Hp} {R : V → V → Hp → Prop} (I : Inv X pins σ H s)
    (h : ta σ H fun x H1 => tb σ H1 fun y H2 => R x y H2) {Q : Value → Shared → Prop} {f : Value → Value → Sem Value}
    (hf : ∀ v u s2 x y H2, Inv X pins σ H2 s2 → RelV x v → RelV y u → R x y H2 → wpAny (model X.prog X.w) X.A (f v u) Q X.xe s2) :
    wpAny (model X.prog X.w) X.A (eval a X.env) (fun v s₁ => wpAny (model X.prog X.w) X.A (eval b X.env) (fun u s₂ => wpAny (model X.prog X.w) X.A (f v u) Q X.xe s₂) X.xe s₁) X.xe s := by
  refine thn (ha pins s σ H _ I h) fun v s1 ⟨x, H1, I1, r1, q1⟩ => ?_
  refine thn (hb pins s1 σ H1 _ I1 q1) fun u s2 ⟨y, H2, I2, r2, q2⟩ => ?_
  exact hf v u s2 x y H2 I2 r1 r2 q2

theorem pe_op {op : Operator} {r : R2} (ho : OpR X (binaryOp op) r) (ha : PE X a ta) (hb : PE X b tb) : PE X (.BinOp a op b pos) (tOp r ta tb) := by
  intro pins s σ H Q I h
  exact wpAny_BinOp (binT ha hb I h fun v u s2 x y H2 I2 rx ry q => ho pins s2 σ H2 x y v u Q I2 rx ry q)
theorem pe_un {op : UnaryOp} {r : V → Hp → VK → Prop} (ho : UnR X (unaryOp op) r) (ha : PE X a ta) : PE X (.UnaryOp op a pos) (tUn r ta) := by
  intro pins s σ H Q I h
  exact UnaryOp_ (thn (ha pins s σ H _ I h) fun v s1 ⟨x, H1, I1, r1, q1⟩ => ho pins s1 σ H1 x v Q I1 r1 q1)
/-! ### ints -/
theorem opI {f : Value → Value → Sem Value} {C : Int → Int → Prop} {g : Int → Int → Int}
    (rule : ∀ (i j : Int) (t u : Tok) (s : Shared) (Q : Value → Shared → Prop) (E : Value → Shared → Prop), C i j → Q (.int (g i j) s.toks) { s with toks := s.toks + 1 } → wpAny (model X.prog X.w) X.A (f (.int i t) (.int j u)) Q E s) :
    OpR X f (rI C fun i j => .int (g i j)) := by
  intro pins s σ H x y v u Q I rx ry h
  obtain ⟨i, j, rfl, rfl, hc, q⟩ := h
  obtain ⟨t, rfl⟩ := rx
  obtain ⟨t', rfl⟩ := ry
  exact rule i j t t' s _ _ hc ⟨.int (g i j), H, I.tok _, ⟨_, rfl⟩, q⟩
theorem opI0 {f : Value → Value → Sem Value} {g : Int → Int → Int}
    (rule : ∀ (i j : Int) (t u : Tok) (s : Shared) (Q : Value → Shared → Prop) (E : Value → Shared → Prop), Q (.int (g i j) s.toks) { s with toks := s.toks + 1 } → wpAny (model X.prog X.w) X.A (f (.int i t) (.int j u)) Q E s) :
    OpR X f (rI0 fun i j => .int (g i j)) := by
  intro pins s σ H x y v u Q I rx ry h
  obtain ⟨i, j, rfl, rfl, q⟩ := h
  obtain ⟨t, rfl⟩ := rx
  obtain ⟨t', rfl⟩ := ry
  exact rule i j t t' s _ _ ⟨.int (g i j), H, I.tok _, ⟨_, rfl⟩, q⟩
theorem opB0 {f : Value → Value → Sem Value} {g : Int → Int → Bool}
    (rule : ∀ (i j : Int) (t u : Tok) (s : Shared) (Q : Value → Shared → Prop) (E : Value → Shared → Prop), Q (.bool (g i j)) s → wpAny (model X.prog X.w) X.A (f (.int i t) (.int j u)) Q E s) :
    OpR X f (rI0 fun i j => .bl (g i j)) := by
  intro pins s σ H x y v u Q I rx ry h
  obtain ⟨i, j, rfl, rfl, q⟩ := h
  obtain ⟨t, rfl⟩ := rx
  obtain ⟨t', rfl⟩ := ry
  exact rule i j t t' s _ _ ⟨.bl (g i j), H, I, rfl, q⟩

def CDiv (i j : Int) : Prop := 0 < j ∧ j < 1073741824
def CPow (i j : Int) : Prop := 0 ≤ j ∧ j ≤ 1000000 ∧ i.natAbs < 2 ^ 64
def CMul (i j : Int) : Prop := (-(2 ^ 64) < i ∧ i < 2 ^ 64) ∨ (-(2 ^ 64) < j ∧ j < 2 ^ 64)
theorem CMul.ok {i j : Int} (h : CMul i j) : IntMulOk i j := by
  rcases h with ⟨h1, h2⟩ | ⟨h1, h2⟩
  · exact .of_left (intBits_le_64 h1 h2)
  · exact .of_right (intBits_le_64 h1 h2)
theorem op_add : OpR X (binaryOp .Add) (rI0 fun i j => .int (i + j)) := opI0 fun _ _ _ _ _ _ _ q => add_int q
theorem op_sub : OpR X (binaryOp .Sub) (rI0 fun i j => .int (i - j)) := opI0 fun _ _ _ _ _ _ _ q => sub_int q
theorem op_mul : OpR X (binaryOp .Mult) (rI CMul fun i j => .int (i * j)) := opI fun _ _ _ _ _ _ _ hc q => mul_int q hc.ok
/-- // by a positive divisor -/
theorem op_fdiv : OpR X (binaryOp .FloorDiv) (rI CDiv fun i j => .int (i / j)) := opI fun i j _ _ _ _ _ hc q => by
  have h1 : (0 : Int) < j := hc.1
  have h2 : j < 1073741824 := hc.2
  exact floordiv_int (by omega) (by rw [Int.fdiv_eq_ediv_of_nonneg i (by omega)]; exact q) (.inl (PyProof.noPylong_small (by omega)))
/-- % by a positive divisor of any size -/
theorem op_mod : OpR X (binaryOp .Mod) (rI (fun _ j => 0 < j) fun i j => .int (i % j)) := opI fun i j _ _ _ _ _ hc q => by
  have h1 : (0 : Int) < j := hc
  exact mod_int' (by omega) (by rw [Int.fmod_eq_emod_of_nonneg i (by omega)]; exact q)
theorem op_pow : OpR X (binaryOp .Pow) (rI CPow fun i j => .int (i ^ j.toNat)) := opI fun _ _ _ _ _ _ _ hc q => pow_int_small hc.1 hc.2.1 hc.2.2 q
theorem unI {f : Value → Sem Value} {g : Int → Int}
    (rule : ∀ (i : Int) (t : Tok) (s : Shared) (Q : Value → Shared → Prop) (E : Value → Shared → Prop), Q (.int (g i) s.toks) { s with toks := s.toks + 1 } → wpAny (model X.prog X.w) X.A (f (.int i t)) Q E s) :
    UnR X f (rU fun i => .int (g i)) := by
  intro pins s σ H x v Q I rx h
  obtain ⟨i, rfl, q⟩ := h
  obtain ⟨t, rfl⟩ := rx
  exact rule i t s _ _ ⟨.int (g i), H, I.tok _, ⟨_, rfl⟩, q⟩
theorem un_neg : UnR X (unaryOp .USub) (rU fun i => .int (-i)) := unI fun _ _ _ _ _ q => neg_int q
/-! ### bools among ints: n += (a < b) -/
end

/-! ### comparisons -/
/-- the scalars that == tells apart as data does -/
def scal : V → V → Bool
  | .non, .non => true | .non, .int _ => true | .int _, .non => true | .non, .bl _ => true | .bl _, .non => true | .non, .str _ => true | .str _, .non => true
  | .int _, .int _ => true | .bl _, .bl _ => true | .str _, .str _ => true | .byt _, .byt _ => true
  | .int _, .str _ => true | .str _, .int _ => true | .bl _, .str _ => true | .str _, .bl _ => true
  | _, _ => false
def rEq : R2 := fun x y H Q => scal x y = true ∧ Q (.bl (decide (x = y))) H
def rNe : R2 := fun x y H Q => scal x y = true ∧ Q (.bl (!decide (x = y))) H

theorem dec_int {i j : Int} : decide (V.int i = V.int j) = (i == j) := by
  rw [Bool.eq_iff_iff]
  simp
theorem dec_bl {i j : Bool} : decide (V.bl i = V.bl j) = (i == j) := by
  rw [Bool.eq_iff_iff]
  simp
theorem dec_str {i j : Str} : decide (V.str i = V.str j) = (i == j) := by
  rw [Bool.eq_iff_iff]
  simp
theorem dec_byt {i j : Array UInt8} : decide (V.byt i = V.byt j) = (i.toList == j.toList) := by
  rw [Bool.eq_iff_iff]
  cases i
  cases j
  simp

section
variable {X : Cx} {a b c : Expr} {ta tb tc : TE} {pos : Pos}
theorem fin_bl {pins : List (Addr × Obj)} {σ : St} {H : Hp} {s : Shared} {Q : VK} {k k' : Bool} (I : Inv X pins σ H s) (q : Q (.bl k) H) (e : k = k') : EP X pins σ Q (.bool k') s := by
  subst e
  exact ⟨.bl k, H, I, rfl, q⟩
theorem op_eq : OpR X (compareOp .Eq) rEq := by
  intro pins s σ H x y v u Q I rx ry h
  obtain ⟨hs, q⟩ := h
  cases x with
  | non =>
    cases rx
    cases y with
    | non => cases ry; exact PySem.EqNone.eq_none_none (fin_bl I q (by simp))
    | bl j => cases ry; exact PySem.EqNone.eq_none_bool (fin_bl I q (by simp))
    | int j => obtain ⟨t', rfl⟩ := ry; exact PySem.EqNone.eq_none_int (fin_bl I q (by simp))
    | str j => obtain ⟨t', rfl⟩ := ry; exact PySem.EqNone.eq_none_str (fin_bl I q (by simp))
    | _ => exact absurd (show false = true from hs) Bool.false_ne_true
  | bl i =>
    cases rx
    cases y with
    | non => cases ry; exact PySem.EqNone.eq_bool_none (fin_bl I q (by simp))
    | bl j => cases ry; exact eq_bool (fin_bl I q dec_bl)
    | str j => obtain ⟨t', rfl⟩ := ry; exact PySem.EqMixed.eq_bool_str (fin_bl I q (by simp))
    | _ => exact absurd (show false = true from hs) Bool.false_ne_true
  | int i =>
    obtain ⟨t, rfl⟩ := rx
    cases y with
    | non => cases ry; exact PySem.EqNone.eq_int_none (fin_bl I q (by simp))
    | int j => obtain ⟨t', rfl⟩ := ry; exact eq_int (fin_bl I q dec_int)
    | str j => obtain ⟨t', rfl⟩ := ry; exact PySem.EqMixed.eq_int_str (fin_bl I q (by simp))
    | _ => exact absurd (show false = true from hs) Bool.false_ne_true
  | str i =>
    obtain ⟨t, rfl⟩ := rx
    cases y with
    | non => cases ry; exact PySem.EqNone.eq_str_none (fin_bl I q (by simp))
    | bl j => cases ry; exact PySem.EqMixed.eq_str_bool (fin_bl I q (by simp))
    | int j => obtain ⟨t', rfl⟩ := ry; exact PySem.EqMixed.eq_str_int (fin_bl I q (by simp))
    | str j => obtain ⟨t', rfl⟩ := ry; exact eq_str (fin_bl I q dec_str)
    | _ => exact absurd (show false = true from hs) Bool.false_ne_true
  | byt i =>
    obtain ⟨t, rfl⟩ := rx
    cases y with
    | byt j => obtain ⟨t', rfl⟩ := ry; exact PySem.W.eq_bytes (fin_bl I q dec_byt)
    | _ => exact absurd (show false = true from hs) Bool.false_ne_true
  | _ => cases y <;> exact absurd (show false = true from hs) Bool.false_ne_true
theorem op_ne : OpR X (compareOp .NotEq) rNe := by
  intro pins s σ H x y v u Q I rx ry h
  obtain ⟨hs, q⟩ := h
  cases x with
  | non =>
    cases rx
    cases y with
    | non => cases ry; exact PySem.EqNone.ne_none_none (fin_bl I q (by simp))
    | bl j => cases ry; exact PySem.EqNone.ne_none_bool (fin_bl I q (by simp))
    | int j => obtain ⟨t', rfl⟩ := ry; exact PySem.EqNone.ne_none_int (fin_bl I q (by simp))
    | str j => obtain ⟨t', rfl⟩ := ry; exact PySem.EqNone.ne_none_str (fin_bl I q (by simp))
    | _ => exact absurd (show false = true from hs) Bool.false_ne_true
  | bl i =>
    cases rx
    cases y with
    | non => cases ry; exact PySem.EqNone.ne_bool_none (fin_bl I q (by simp))
    | bl j => cases ry; exact ne_bool (fin_bl I q (congrArg not dec_bl))
    | str j => obtain ⟨t', rfl⟩ := ry; exact PySem.EqMixed.ne_bool_str (fin_bl I q (by simp))
    | _ => exact absurd (show false = true from hs) Bool.false_ne_true
  | int i =>
    obtain ⟨t, rfl⟩ := rx
    cases y with
    | non => cases ry; exact PySem.EqNone.ne_int_none (fin_bl I q (by simp))
    | int j => obtain ⟨t', rfl⟩ := ry; exact ne_int (fin_bl I q (congrArg not dec_int))
    | str j => obtain ⟨t', rfl⟩ := ry; exact PySem.EqMixed.ne_int_str (fin_bl I q (by simp))
    | _ => exact absurd (show false = true from hs) Bool.false_ne_true
  | str i =>
    obtain ⟨t, rfl⟩ := rx
    cases y with
    | non => cases ry; exact PySem.EqNone.ne_str_none (fin_bl I q (by simp))
    | bl j => cases ry; exact PySem.EqMixed.ne_str_bool (fin_bl I q (by simp))
    | int j => obtain ⟨t', rfl⟩ := ry; exact PySem.EqMixed.ne_str_int (fin_bl I q (by simp))
    | str j => obtain ⟨t', rfl⟩ := ry; exact ne_str (fin_bl I q (congrArg not dec_str))
    | _ => exact absurd (show false = true from hs) Bool.false_ne_true
  | byt i =>
    obtain ⟨t, rfl⟩ := rx
    cases y with
    | byt j => obtain ⟨t', rfl⟩ := ry; exact PySem.W.ne_bytes (fin_bl I q (congrArg not dec_byt))
    | _ => exact absurd (show false = true from hs) Bool.false_ne_true
  | _ => cases y <;> exact absurd (show false = true from hs) Bool.false_ne_true

theorem op_lt : OpR X (compareOp .Lt) (rI0 fun i j => .bl (decide (i < j))) := opB0 fun _ _ _ _ _ _ _ q => lt_int q
theorem op_le : OpR X (compareOp .LtE) (rI0 fun i j => .bl (decide (i ≤ j))) := opB0 fun _ _ _ _ _ _ _ q => le_int q
theorem op_gt : OpR X (compareOp .Gt) (rI0 fun i j => .bl (decide (j < i))) := opB0 fun _ _ _ _ _ _ _ q => gt_int q
/-- is None, is not None: the right side a value none -/
theorem op_isN : OpR X (compareOp .Is) (fun x y H Q => y = .non ∧ Q (.bl (decide (x = .non))) H) := by
  intro pins s σ H x y v u Q I rx ry h
  obtain ⟨rfl, q⟩ := h
  cases ry
  refine is_none_gen (fin_bl I q ?_)
  cases x <;> first
    | (cases rx; rfl)
    | (obtain ⟨t, rfl⟩ := rx; rfl)
theorem nomark (b : Expr) {op : CmpOp} (h : op ≠ .In := by decide) (h2 : op ≠ .NotIn := by decide) : behindInMarks op b = false := by
  have e1 : (op == CmpOp.In) = false := by cases op <;> first | rfl | exact absurd rfl h
  have e2 : (op == CmpOp.NotIn) = false := by cases op <;> first | rfl | exact absurd rfl h2
  cases b <;> simp [behindInMarks, e1, e2]
/-- a comparison as a value; hm: nomark b, or (for in, not in) by with_unfolding_all rfl -/
theorem pe_cmpR {op : CmpOp} {r : R2} (ho : OpR X (compareOp op) r) (ha : PE X a ta) (hb : PE X b tb) (hm : behindInMarks op b = false) : PE X (.Compare a [op] [b] pos) (tOp r ta tb) := by
  intro pins s σ H Q I h
  exact wpAny_Compare1 (binT ha hb I h fun v u s2 x y H2 I2 rx ry q => ho pins s2 σ H2 x y v u Q I2 rx ry q) hm
/-- a reading of a value as a test -/
def tTest (t : TE) : TT := fun σ H Q => t σ H fun x H' => ∃ k, x = .bl k ∧ Q k H'
theorem pt_cmpR {op : CmpOp} {r : R2} (ho : OpR X (compareOp op) r) (ha : PE X a ta) (hb : PE X b tb) (hm : behindInMarks op b = false) : PT X (.Compare a [op] [b] pos) (tTest (tOp r ta tb)) := by
  intro pins s σ H Q I h
  refine wpAny_isTrue_Compare1 (thn (ha pins s σ H _ I h) fun v s1 ⟨x, H1, I1, r1, q1⟩ => thn (hb pins s1 σ H1 _ I1 q1) fun u s2 ⟨y, H2, I2, r2, q2⟩ =>
    thn (ho pins s2 σ H2 x y v u _ I2 r1 r2 q2) fun c s3 ⟨z, H3, I3, r3, k, e, q3⟩ => ?_) hm
  subst e
  cases r3
  exact wpAny_truthy_bool ⟨H3, I3, q3⟩
/-- a op1 b op2 c -/
def tChain (r r' : R2) (ta tb tc : TE) : TE := fun σ H Q => ta σ H fun x H1 => tb σ H1 fun y H2 => r x y H2 fun z H3 => ∃ k, z = .bl k ∧
  (if k = true then tc σ H3 fun w' H4 => r' y w' H4 Q else Q (.bl false) H3)
theorem pe_chain {op op' : CmpOp} {r r' : R2} (ho : OpR X (compareOp op) r) (ho' : OpR X (compareOp op') r') (ha : PE X a ta) (hb : PE X b tb) (hc : PE X c tc)
    (hm : lastMarks [op, op'] [b, c] = false := by with_unfolding_all rfl) : PE X (.Compare a [op, op'] [b, c] pos) (tChain r r' ta tb tc) := by
  intro pins s σ H Q I h
  refine Compare_chain (thn (ha pins s σ H _ I h) fun v s1 ⟨x, H1, I1, r1, q1⟩ => chain_link (thn (hb pins s1 σ H1 _ I1 q1) fun u s2 ⟨y, H2, I2, r2, q2⟩ =>
    thn (ho pins s2 σ H2 x y v u _ I2 r1 r2 q2) fun d s3 ⟨z, H3, I3, r3, k, e, q3⟩ => ?_)) hm
  subst e
  cases r3
  refine wpAny_truthy_bool ?_
  cases k with
  | false => exact ite_ff ⟨.bl false, H3, I3, rfl, q3⟩
  | true => exact ite_tt (chain_last (thn (hc pins s3 σ H3 _ I3 q3) fun w' s4 ⟨z', H4, I4, r4, q4⟩ => ho' pins s4 σ H4 y z' u w' Q I4 r2 r4 q4))
theorem pt_chain {op op' : CmpOp} {r r' : R2} (ho : OpR X (compareOp op) r) (ho' : OpR X (compareOp op') r') (ha : PE X a ta) (hb : PE X b tb) (hc : PE X c tc)
    (hm : lastMarks [op, op'] [b, c] = false := by with_unfolding_all rfl) : PT X (.Compare a [op, op'] [b, c] pos) (tTest (tChain r r' ta tb tc)) := by
  intro pins s σ H Q I h
  refine isTrue_chain (thn (ha pins s σ H _ I h) fun v s1 ⟨x, H1, I1, r1, q1⟩ => test_link (thn (hb pins s1 σ H1 _ I1 q1) fun u s2 ⟨y, H2, I2, r2, q2⟩ =>
    thn (ho pins s2 σ H2 x y v u _ I2 r1 r2 q2) fun d s3 ⟨z, H3, I3, r3, k, e, q3⟩ => ?_)) hm
  subst e
  cases r3
  refine wpAny_truthy_bool ?_
  cases k with
  | false =>
    obtain ⟨k', e', q'⟩ := q3
    cases e'
    exact ite_ff ⟨H3, I3, q'⟩
  | true =>
    refine ite_tt (test_last (thn (hc pins s3 σ H3 _ I3 q3) fun w' s4 ⟨z', H4, I4, r4, q4⟩ => thn (ho' pins s4 σ H4 y z' u w' _ I4 r2 r4 q4) fun d' s5 ⟨z2, H5, I5, r5, k2, e2, q5⟩ => ?_))
    subst e2
    cases r5
    exact wpAny_truthy_bool ⟨H5, I5, q5⟩

/-! ### truth -/
theorem line63 : (sizeLine : Nat) < 2 ^ 63 := by rw [sizeLine_eq]; decide
/-! ### strs and bytes -/
/-! ### scalar builtins, by CallR -/
theorem vals1 {x : V} {us : List Value} (r : Vals [x] us) : ∃ u, us = [u] ∧ RelV x u := by
  cases r with
  | cons r1 r2 => cases r2; exact ⟨_, rfl, r1⟩
theorem vals2 {x y : V} {us : List Value} (r : Vals [x, y] us) : ∃ u w', us = [u, w'] ∧ RelV x u ∧ RelV y w' := by
  cases r with
  | cons r1 r2 =>
    cases r2 with
    | cons r3 r4 => cases r4; exact ⟨_, _, rfl, r1, r3⟩
theorem call_max2 (hc : X.calm = true) : CallR X (.builtin "max") (fun xs H Q => ∃ i j, xs = [.int i, .int j] ∧ Q (.int (if j > i then j else i)) H) := by
  intro pins s σ H xs us Q I r h
  obtain ⟨i, j, rfl, q⟩ := h
  obtain ⟨u, w', rfl, ⟨t, rfl⟩, ⟨t', rfl⟩⟩ := vals2 r
  refine max_two_ints (I.ok.hd hc) fun h' tk k => ⟨_, H, I.kept k, ?_, q⟩
  by_cases hj : j > i
  · rw [if_pos hj, if_pos hj]; exact ⟨_, rfl⟩
  · rw [if_neg hj, if_neg hj]; exact ⟨_, rfl⟩
theorem call_min2 (hc : X.calm = true) : CallR X (.builtin "min") (fun xs H Q => ∃ i j, xs = [.int i, .int j] ∧ Q (.int (if j < i then j else i)) H) := by
  intro pins s σ H xs us Q I r h
  obtain ⟨i, j, rfl, q⟩ := h
  obtain ⟨u, w', rfl, ⟨t, rfl⟩, ⟨t', rfl⟩⟩ := vals2 r
  refine min_two_ints (I.ok.hd hc) fun h' tk k => ⟨_, H, I.kept k, ?_, q⟩
  by_cases hj : j < i
  · rw [if_pos hj, if_pos hj]; exact ⟨_, rfl⟩
  · rw [if_neg hj, if_neg hj]; exact ⟨_, rfl⟩
end
end L2

namespace L2
open PySem PySem.Spec PyProof.Rows

/-! ### an instance, its attributes a map -/
structure ObjM (h : Heap) (x dx C : Addr) (mA : Str → Option Value) : Prop where
  obj : h.get? x = some (PySem.W.instObj C dx)
  ns : h.Ns1 dx mA
  ne : dx ≠ x

theorem lookIn_ns {h : Heap} {dx : Addr} {mA : Str → Option Value} (n : h.Ns1 dx mA) : ∃ od, h.get? dx = some od ∧ ∀ name, PySem.W.lookIn name od = some (mA name) := by
  obtain ⟨o, es, ep, ho, hd, hk, _, hm⟩ := n
  refine ⟨o, ho, fun name => ?_⟩
  have e := hm name
  unfold nsFind findBy at e
  rw [← Array.find?_toList] at e
  unfold PySem.W.lookIn
  rw [hd]
  dsimp only
  split
  · rename_i y q
    rw [q] at e
    exact congrArg some e
  · rename_i q
    rw [q] at e
    have a : es.toList.any (·.refKey) = false := by
      rw [List.any_eq_false]
      intro y hy
      obtain ⟨z, t, hkey⟩ := hk y (Array.mem_toList_iff.mp hy)
      simp [DictEntry.refKey, hkey]
    have a' : ¬ es.toList.any (·.refKey) = true := by rw [a]; exact Bool.false_ne_true
    rw [if_neg a']
    exact congrArg some e

theorem ObjM.look {h : Heap} {x dx C : Addr} {mA : Str → Option Value} (I : ObjM h x dx C mA) : ∃ od, PySem.W.InstAt h x (PySem.W.instObj C dx) C (some od) ∧ ∀ name, PySem.W.lookIn name od = some (mA name) :=
  let ⟨od, ho, hl⟩ := lookIn_ns I.ns
  ⟨od, ⟨I.obj, rfl, rfl, ho⟩, hl⟩

section
variable {prog : Program} {w : World} {A : Around} {E : Value → Shared → Prop} {s : Shared} {K : PySem.W.Frag} {x dx C f : Addr} {mA : Str → Option Value} {name : Str} {v : Value}

theorem get_map {expr : Bool} {Q : Value → Shared → Prop} (X : K.In s.heap) (I : ObjM s.heap x dx C mA) (hg : PySem.W.plainGet K C name = true) (hh : PySem.W.hasDictIn K C = true)
    (ha : PySem.W.findIn K (.ref C) name = some none) (hv : mA name = some v) (hv' : PySem.W.handedIn v = true) (h : Q v { s with toks := s.toks + 1 }) :
    wpAny (model prog w) A (getAttr (.ref x) name expr) Q E s := by
  obtain ⟨od, J, hl⟩ := I.look
  exact PySem.W.get_value X J (PySem.W.plainGet_of hg).1 (PySem.W.findObj_own hh ha rfl (by rw [hl, hv])) hv' h

theorem set_map {ns : List Str} {Q : Unit → Shared → Prop} (X : K.In s.heap) (I : ObjM s.heap x dx C mA)
    (hs : PySem.W.findIn K (.ref C) "__setattr__" = some (some (.builtin "object.__setattr__"))) (hp : PySem.W.plainOver K C = true) (ht : PySem.W.takerIn K C name = some none) (hh : PySem.W.hasDictIn K C = true)
    (hw : PySem.Within mA ns) (hsz : ns.length ≤ sizeLine)
    (h : ∀ h', ObjM h' x dx C (fun y => if y = name then some v else mA y) → Heap.SameBut dx s.heap h' → Q () { s with heap := h', toks := s.toks + 2 }) :
    wpAny (model prog w) A (setAttr (.ref x) name v) Q E s := by
  obtain ⟨od, J, hl⟩ := I.look
  refine PySem.W.set_plain X J hs (PySem.W.osa_open (s := { s with toks := s.toks + 1 }) (r := none) X J hp ht fun b => ?_)
  obtain ⟨cd, hc, hd'⟩ := PySem.W.any_some hh
  have hx : s.heap.get? x = some ⟨.ref C, some dx, .plain, #[]⟩ := I.obj
  refine wpAny_bind (wpAny_pure (wpAny_bind (wpAny_bind (wpAny_loadPart hx (wpAny_bind (PySem.W.Looks.here (s := { s with toks := s.toks + 1 }) (PySem.W.looks_clsIn X hc) ?_))))))
  rw [hd']
  refine wpAny_pure (a := some dx) (wpAny_bind (wpAny_pure (wpAny_bind ?_)))
  refine wpAny_nsSet1 (s := { s with toks := s.toks + 1 }) I.ns fun h' hn2 hs2 => ?_
  obtain ⟨oD, esD, epD, hoD, hdD, hcD⟩ := hn2.count (PySem.Within.cons name v hw)
  refine wpAny_bind (wpAny_lookBehind hoD (by rw [hdD]; exact pastItsLine_dict (Nat.le_trans hcD (by rw [List.length_cons]; omega))) ?_)
  exact wpAny_pure (h _ ⟨(hs2.2 _ (Ne.symm I.ne)).trans I.obj, hn2, I.ne⟩ hs2)

/-- C(..): the dict at the heap's end, the instance behind it; then its __init__ -/
theorem make_map {R : Result → Shared → Prop} {vs : List Value} {kw : List (Str × Value)} (X : K.In s.heap) (hm : PySem.W.makesIn K C = true)
    (hi : PySem.W.findIn K (.ref C) "__init__" = some (some (.ref f))) (hf : PySem.W.typeIn K (.ref f) = some (.type "function"))
    (h : codeAny (model prog w) (A.under (.builtin "type.__call__" ⟨.ref C :: vs, kw⟩)) (.call (.ref f) ⟨.ref (s.heap.objs.size + 1) :: vs, kw⟩) (PySem.W.InitBack (s.heap.objs.size + 1) R)
      { s with heap := (s.heap.push PySem.W.emptyDict).push (PySem.W.instObj C s.heap.objs.size) }) :
    codeAny (model prog w) A (.call (.ref C) ⟨vs, kw⟩) R s := by
  obtain ⟨hh, g, d, t, os⟩ := s
  exact PySem.W.make_core (PySem.W.makes_of X hm) (PySem.W.looks_findIn X hi) (fun self => PySem.W.bind_fn X self hf) (.inl rfl) h
end

/-! ### the attributes as a list of pairs -/
def putF (f : Str) (v : V) : List (Str × V) → List (Str × V)
  | [] => [(f, v)]
  | (g, x) :: r => if g = f then (g, v) :: r else (g, x) :: putF f v r
theorem lookup_putF (f g : Str) (v : V) : ∀ fs : List (Str × V), (putF f v fs).lookup g = if g = f then some v else fs.lookup g
  | [] => by
    show List.lookup g [(f, v)] = _
    by_cases h : g = f
    · have hb : (g == f) = true := beq_iff_eq.mpr h
      simp only [List.lookup, hb, if_pos h]
    · have hb : (g == f) = false := beq_eq_false_iff_ne.mpr h
      simp only [List.lookup, hb, if_neg h]
  | (k, x) :: r => by
    have ih := lookup_putF f g v r
    rw [show putF f v ((k, x) :: r) = (if k = f then (k, v) :: r else (k, x) :: putF f v r) from rfl]
    by_cases hk : k = f
    · rw [if_pos hk]
      by_cases h : g = k
      · have hb : (g == k) = true := beq_iff_eq.mpr h
        simp only [List.lookup, hb, if_pos (h.trans hk)]
      · have hb : (g == k) = false := beq_eq_false_iff_ne.mpr h
        simp only [List.lookup, hb, if_neg (fun e : g = f => h (e.trans hk.symm))]
    · rw [if_neg hk]
      by_cases h : g = k
      · have hb : (g == k) = true := beq_iff_eq.mpr h
        simp only [List.lookup, hb, if_neg (fun e : g = f => hk (h.symm.trans e))]
      · have hb : (g == k) = false := beq_eq_false_iff_ne.mpr h
        simp only [List.lookup, hb]
        exact ih
theorem keys_putF (f : Str) (v : V) : ∀ fs : List (Str × V), f ∈ (putF f v fs).map (·.1) ∧ ∀ g, g ∈ fs.map (·.1) → g ∈ (putF f v fs).map (·.1)
  | [] => ⟨by simp [putF], fun g h => by simp at h⟩
  | (k, x) :: r => by
    obtain ⟨i1, i2⟩ := keys_putF f v r
    rw [show putF f v ((k, x) :: r) = (if k = f then (k, v) :: r else (k, x) :: putF f v r) from rfl]
    by_cases hk : k = f
    · rw [if_pos hk]
      subst hk
      exact ⟨by simp, fun g h => by simpa using h⟩
    · rw [if_neg hk]
      refine ⟨?_, fun g h => ?_⟩
      · rw [List.map_cons]
        exact List.mem_cons_of_mem _ i1
      · rw [List.map_cons] at h ⊢
        rcases List.mem_cons.mp h with e | e
        · exact List.mem_cons.mpr (.inl e)
        · exact List.mem_cons_of_mem _ (i2 g e)
theorem length_putF (f : Str) (v : V) : ∀ fs : List (Str × V), (putF f v fs).length ≤ fs.length + 1
  | [] => by simp [putF]
  | (k, x) :: r => by
    have ih := length_putF f v r
    rw [show putF f v ((k, x) :: r) = (if k = f then (k, v) :: r else (k, x) :: putF f v r) from rfl]
    by_cases hk : k = f
    · rw [if_pos hk, List.length_cons, List.length_cons]; omega
    · rw [if_neg hk, List.length_cons, List.length_cons]; omega

theorem RelO.some_of {v : V} {o : Option Value} (r : RelO (some v) o) : ∃ u, o = some u ∧ RelV v u := by
  cases o with
  | none => exact (show False from r).elim
  | some u => exact ⟨u, rfl, r⟩
theorem handed_of {v : V} {u : Value} (r : RelV v u) : PySem.W.handedIn u = true := by
  cases v with
  | non => cases (show u = Value.none from r); rfl
  | bl b => cases (show u = Value.bool b from r); rfl
  | int i => obtain ⟨t, e⟩ := (show ∃ t, u = Value.int i t from r); cases e; rfl
  | str x => obtain ⟨t, e⟩ := (show ∃ t, u = Value.str x t from r); cases e; rfl
  | byt b => obtain ⟨t, e⟩ := (show ∃ t, u = Value.bytes b t from r); cases e; rfl
  | flt b => obtain ⟨t, e⟩ := (show ∃ t, u = Value.float b t from r); cases e; rfl
  | ref a => cases (show u = Value.ref a from r); rfl
  | ty n => cases (show u = Value.type n from r); rfl

section
variable {P : Program} {w : World} {H H' : Hp} {h h' : Heap} {a C dx : Addr} {fs fs' : List (Str × V)}
theorem ins_get (hok : HOk P w H h) (e : H a = some (.ins C dx fs)) : ∃ mA, ObjM h a dx C mA ∧ (∀ f, RelO (fs.lookup f) (mA f)) ∧ PySem.Within mA (fs.map (·.1)) ∧ fs.length ≤ 1000 ∧ H dx = some (.own a) := by
  obtain ⟨d, z, ne, ob, mA, n, r, q⟩ := (show ObjOk P w H h a (.ins C dx fs) from hok a _ e)
  exact ⟨mA, ⟨ob, n, ne⟩, r, q, z, d⟩
end

/-! ### what of the text a class must have -/
structure Cls (K : PySem.W.Frag) (C : Addr) : Prop where
  pg : PySem.W.plainGet K C Str.empty = true
  hd : PySem.W.hasDictIn K C = true
  po : PySem.W.plainOver K C = true
  sa : PySem.W.findIn K (.ref C) "__setattr__" = some (some (.builtin "object.__setattr__"))
theorem Cls.get {K : PySem.W.Frag} {C : Addr} (c : Cls K C) (f : Str) : PySem.W.plainGet K C f = true := c.pg
/-- no class of it has the name -/
def NoAttr (K : PySem.W.Frag) (C : Addr) (f : Str) : Prop := PySem.W.findIn K (.ref C) f = some none
theorem NoAttr.taker {K : PySem.W.Frag} {C : Addr} {f : Str} (n : NoAttr K C f) : PySem.W.takerIn K C f = some none := by
  unfold PySem.W.takerIn
  rw [show PySem.W.findIn K (.ref C) f = some none from n]
  rfl
/-- a constant of the class -/
structure Con (K : PySem.W.Frag) (C : Addr) (f : Str) (v : V) (u : Value) : Prop where
  at_ : PySem.W.findIn K (.ref C) f = some (some u)
  rel : RelV v u
  get : PySem.W.specialIn K u "__get__" = some none
  cp : PySem.W.copiedNames.contains f = false
/-- a method: a plain def of the class or of one above it -/
structure Meth (K : PySem.W.Frag) (C : Addr) (m : Str) (f : Addr) : Prop where
  at_ : PySem.W.findIn K (.ref C) m = some (some (.ref f))
  fn : PySem.W.isFn K (.ref f) = true
  kp : PySem.W.keepIn K (.ref f) = true

section
variable {X : Cx} {pins : List (Addr × Obj)} {σ : St} {H : Hp} {s : Shared} {a C dx : Addr} {fs : List (Str × V)} {f : Str} {v : V} {A : Around} {E : Value → Shared → Prop}

theorem getattr_ok {b : Bool} {Q : Value → Shared → Prop} (I : Inv X pins σ H s) (e : H a = some (.ins C dx fs)) (c : Cls X.K C) (n : NoAttr X.K C f) (l : fs.lookup f = some v)
    (h : ∀ u s', Inv X pins σ H s' → RelV v u → Q u s') : wpAny (model X.prog X.w) A (getAttr (.ref a) f b) Q E s := by
  obtain ⟨mA, O, r, _, _, _⟩ := ins_get I.hok e
  obtain ⟨u, hu, ru⟩ := RelO.some_of (v := v) (o := mA f) (by rw [← l]; exact r f)
  exact get_map I.kIn O (c.get f) c.hd n hu (handed_of ru) (h u _ (I.tok _) ru)

theorem setattr_ok {y : V} {u : Value} {Q : Unit → Shared → Prop} (I : Inv X pins σ H s) (e : H a = some (.ins C dx fs)) (c : Cls X.K C) (n : NoAttr X.K C f) (hl : fs.length < 1000) (ry : RelV y u)
    (h : ∀ s', Inv X pins σ (upd H a (.ins C dx (putF f y fs))) s' → Q () s') : wpAny (model X.prog X.w) A (setAttr (.ref a) f u) Q E s := by
  obtain ⟨mA, O, r, wi, _, ho⟩ := ins_get I.hok e
  have hz : (fs.map (·.1)).length ≤ sizeLine := by rw [List.length_map, sizeLine_eq]; omega
  refine set_map I.kIn O c.sa c.po n.taker c.hd wi hz fun h' O' sb => h _ ?_
  have hd : ∃ o, h'.get? dx = some o := let ⟨o, _, _, e', _⟩ := O'.ns; ⟨o, e'⟩
  refine I.write (x := a) (e := dx) (by rw [e]; exact True.intro) (.inr ho) (fun b q hb z => (sb.2 b hb).trans z) hd ?_
  refine ⟨by rw [upd_ne O.ne]; exact ho, ?_, O.ne, O'.obj, _, O'.ns, fun g => ?_, fun g hg => ?_⟩
  · have := length_putF f y fs; omega
  · show RelO ((putF f y fs).lookup g) (if g = f then some u else mA g)
    rw [lookup_putF]
    by_cases q : g = f
    · rw [if_pos q, if_pos q]; exact ry
    · rw [if_neg q, if_neg q]; exact r g
  · by_cases q : g = f
    · rw [q]; exact (keys_putF f y fs).1
    · refine (keys_putF f y fs).2 g (wi g fun z => hg ?_)
      show (if g = f then some u else mA g) = none
      rw [if_neg q]; exact z

/-- a new instance, tracked, without attributes -/
theorem Inv.made (I : Inv X pins σ H s) : Inv X pins σ (upd (upd H s.heap.objs.size (.own (s.heap.objs.size + 1))) (s.heap.objs.size + 1) (.ins C s.heap.objs.size []))
    { s with heap := (s.heap.push PySem.W.emptyDict).push (PySem.W.instObj C s.heap.objs.size) } := by
  have e1 : (s.heap.push PySem.W.emptyDict).get? s.heap.objs.size = some PySem.W.emptyDict := Heap.get?_push_size s.heap rfl
  have e2 : ((s.heap.push PySem.W.emptyDict).push (PySem.W.instObj C s.heap.objs.size)).get? (s.heap.objs.size + 1) = some (PySem.W.instObj C s.heap.objs.size) := by
    have := Heap.get?_push_size (s.heap.push PySem.W.emptyDict) (o := PySem.W.instObj C s.heap.objs.size) rfl
    rwa [Heap.size_push] at this
  have e3 : (s.heap.push PySem.W.emptyDict).Ns s.heap.objs.size (fun _ => none) := ⟨PySem.W.emptyDict, #[], _, e1, rfl, (fun e he => absurd he (by simp)), fun _ => rfl⟩
  have I1 := I.laid (a := s.heap.objs.size) (o := .own (s.heap.objs.size + 1)) (h' := s.heap.push PySem.W.emptyDict) (t' := s.toks) (fun b u q => Heap.get?_push_of_some _ q) (Nat.le_refl _) ⟨_, e1⟩
  refine I1.laid (a := s.heap.objs.size + 1) (o := .ins C s.heap.objs.size []) (t' := s.toks) (fun b u q => Heap.get?_push_of_some _ q) (Nat.le_of_eq (Heap.size_push _ _)) ?_
  have ne : s.heap.objs.size ≠ s.heap.objs.size + 1 := Nat.ne_of_lt (Nat.lt_succ_self _)
  refine ⟨by rw [upd_ne ne, upd_same], Nat.zero_le _, ne, e2, fun _ => none, (Heap.Ns1.of_empty e3).at fun o q => Heap.get?_push_of_some _ q, fun _ => True.intro, fun y hy => absurd rfl hy⟩

/-- e.f where nothing but the object is asked: through attributeBase (super) and the last hold -/
theorem attr_of {prog : Program} {w : World} {env : Env} {e : Expr} {f : Str} {pos : Pos} {s : Shared} {Q : Value → Shared → Prop} (hb : attributeBase e f env (eval e env) = eval e env)
    (h : wpAny (model prog w) A (eval e env) (fun o s₁ => wpAny (model prog w) A (getAttr o f true) Q E s₁) E s) : wpAny (model prog w) A (eval (.Attribute e f pos) env) Q E s :=
  Attribute_any_ h (by rw [arm_eval_Attribute, hb])
end

/-! ### readings and rules -/
/-- e.f, an attribute of the instance -/
def tFld (K : PySem.W.Frag) (ta : TE) (f : Str) : TE := fun σ H Q => ta σ H fun x H1 => ∃ a C dx fs v, x = .ref a ∧ H1 a = some (.ins C dx fs) ∧ Cls K C ∧ NoAttr K C f ∧ fs.lookup f = some v ∧ Q v H1
/-- e.f = value -/
def sFld (K : PySem.W.Frag) (ta tv : TE) (f : Str) : TS := fun D σ H => tv σ H fun y H1 => ta σ H1 fun x H2 => ∃ a C dx fs, x = .ref a ∧ H2 a = some (.ins C dx fs) ∧ Cls K C ∧ NoAttr K C f ∧ fs.length < 1000 ∧
  D.nx σ (upd H2 a (.ins C dx (putF f y fs)))
section
variable {X : Cx} {o e value : Expr} {f : Str} {pos pos' tpos : Pos} {ta tv : TE}
theorem pe_fld (he : PE X e ta) (hb : attributeBase e f X.env (eval e X.env) = eval e X.env) : PE X (.Attribute e f pos) (tFld X.K ta f) := by
  intro pins s σ H Q I h
  refine attr_of hb (thn (he pins s σ H _ I h) fun u s1 ⟨x, H1, I1, rx, a, C, dx, fs, v, ex, ea, c, n, l, q⟩ => ?_)
  subst ex
  obtain rfl : u = Value.ref a := rx
  exact getattr_ok I1 ea c n l fun u' s2 I2 ru => ⟨v, H1, I2, ru, q⟩
theorem ps_fld (ha : PE X o ta) (hv : PE X value tv) (hs : swapsWith value (some (.Attribute o f pos')) pos.line X.env = pure false) : PS X (.Assign [.Attribute o f pos'] value pos) (sFld X.K ta tv f) := by
  intro pins s σ H D I h
  refine plainObj_wpAny_Assign_Attribute (thn (hv pins s σ H _ I h) fun u s1 ⟨y, H1, I1, ry, q⟩ => thn (ha pins s1 σ H1 _ I1 q) fun ov s2 ⟨x, H2, I2, rx, a, C, dx, fs, ex, ea, c, n, l, q2⟩ => ?_) hs
  subst ex
  obtain rfl : ov = Value.ref a := rx
  exact setattr_ok I2 ea c n l ry fun s3 I3 => ⟨σ, _, I3, q2⟩
end

/-! ### isinstance -/
section
variable {X : Cx} {pins : List (Addr × Obj)} {σ : St} {H : Hp} {s : Shared} {A : Around} {E : Value → Shared → Prop} {Q : Value → Shared → Prop} {c : Value} {b : Bool}
/-- the type of a value, as the fragment's deciders take it; for an instance its class -/
inductive TyOf (K : PySem.W.Frag) (H : Hp) : V → Value → Prop where
  | non : TyOf K H .non (.type "NoneType")
  | bl (x : Bool) : TyOf K H (.bl x) (.type "bool")
  | int (i : Int) : TyOf K H (.int i) (.type "int")
  | str (x : Str) : TyOf K H (.str x) (.type "str")
  | flt (x : UInt64) : TyOf K H (.flt x) (.type "float")
  | lst {a : Addr} {xs : List V} (e : H a = some (.lst xs)) : TyOf K H (.ref a) (.type "list")
  | frz {a : Addr} {o : Obj} {xs : List V} (e : H a = some (.frz o (.lst xs))) : TyOf K H (.ref a) (.type "list")
  | tup {a : Addr} {xs : List V} (e : H a = some (.tup xs)) : TyOf K H (.ref a) (.type "tuple")
  | dK {a : Addr} {kvs : List (Key × V)} (e : H a = some (.dK kvs)) : TyOf K H (.ref a) (.type "dict")
  | dT {a : Addr} {kvs : List (List Key × V)} (e : H a = some (.dT kvs)) : TyOf K H (.ref a) (.type "dict")
  | ins {a C dx : Addr} {fs : List (Str × V)} (e : H a = some (.ins C dx fs)) (cl : Cls K C) (ha : PySem.W.findIn K (.ref C) "__class__" = some (some (.builtin "object.__class__")))
      (hn : PySem.W.specialIn K (.builtin "object.__class__") "__get__" = some (some (.builtin "getset_descriptor.__get__"))) (htk : PySem.W.takesIn K (.builtin "object.__class__") = some true)
      (hm : PySem.W.mroIn K C (.type "object") = some true) : TyOf K H (.ref a) (.ref C)
end
end L2

namespace L2
open PySem PySem.Spec PyProof.Rows

/-! ### room -/
structure Room (k : Nat) (A : Around) : Prop where
  hd : A.handled = none
  dp : A.depth + 3 * k + 5 < recursionLimit
  un : A.units + 16 * k + 200 < cLine
theorem Room.mono {j k : Nat} {A : Around} (r : Room k A) (h : j ≤ k) : Room j A := ⟨r.hd, by have := r.dp; omega, by have := r.un; omega⟩
theorem Room.deeper {k : Nat} {A : Around} (r : Room (k + 1) A) (env : Env) : Room k (A.deeper env) :=
  ⟨r.hd, by have := r.dp; show A.depth + 1 + 3 * k + 5 < _; omega, by have := r.un; show A.units + 3 + 16 * k + 200 < _; omega⟩
theorem make_depth {A : Around} {C : Addr} {us : List Value} {kw : List (Str × Value)} : (A.under (.builtin "type.__call__" ⟨.ref C :: us, kw⟩)).depth = A.depth + 1 := by
  first | rfl | simp [Around.under, Code.weight, Code.isCreation, Code.isGuard, Code.isCaller, Code.frames, Code.isFrame, guardIds]
theorem make_units {A : Around} {C : Addr} {us : List Value} {kw : List (Str × Value)} : (A.under (.builtin "type.__call__" ⟨.ref C :: us, kw⟩)).units = A.units + 1 := by
  first | rfl | simp [Around.under, Code.cUnits, Code.frames, Code.isFrame]
theorem Room.make {k : Nat} {A : Around} (r : Room (k + 1) A) (C : Addr) (us : List Value) (kw : List (Str × Value)) : Room k (A.under (.builtin "type.__call__" ⟨.ref C :: us, kw⟩)) :=
  ⟨r.hd, by have := r.dp; rw [make_depth]; omega, by have := r.un; rw [make_units]; omega⟩
theorem Room.depth {k : Nat} {A : Around} (r : Room k A) : A.depth < recursionLimit := by have := r.dp; omega
theorem Room.units {k : Nat} {A : Around} (r : Room k A) : A.units + 64 < cLine := by have := r.un; omega
/-! ### argument lists and displays -/
def tNil : TA := fun _ H Q => Q [] H
def tCons (ta : TE) (tr : TA) : TA := fun σ H Q => ta σ H fun x H1 => tr σ H1 fun xs H2 => Q (x :: xs) H2
section
variable {X : Cx} {e : Expr} {es : List Expr} {te : TE} {t : TA} {pos : Pos}
theorem pa_nil : PA X [] tNil := fun _ _ _ _ H Q I h => Calls.spliced_nil ⟨[], H, I, .nil, h⟩
theorem pa_cons (ha : PE X e te) (hr : PA X es t) (hs : starEach (e :: es) X.env = (false, eval e X.env) :: starEach es X.env := by rfl) : PA X (e :: es) (tCons te t) := by
  intro pos pins s σ H Q I h
  rw [hs]
  show wpAny _ _ (spliced ((false, eval e X.env) :: backTo pos (starEach es X.env))) _ _ s
  refine Calls.spliced_cons (thn (ha pins s σ H _ I h) fun u s1 ⟨x, H1, I1, r1, q1⟩ => ?_)
  exact thn (hr pos pins s1 σ H1 _ I1 q1) fun us s2 ⟨xs, H2, I2, r2, q2⟩ => ⟨x :: xs, H2, I2, .cons r1 r2, q2⟩

/-- a tuple, a list of written items -/
def tTup (t : TA) : TE := fun σ H Q => t σ H fun xs H1 => xs.length ≤ sizeLine ∧ ∀ p, H1 p = none → Q (.ref p) (upd H1 p (.tup xs))
def tLst (t : TA) : TE := fun σ H Q => t σ H fun xs H1 => xs.length ≤ sizeLine ∧ ∀ p, H1 p = none → Q (.ref p) (upd H1 p (.lst xs))
theorem pe_tup {x1} (h : PA X es t) : PE X (.Tuple es x1 pos) (tTup t) := by
  intro pins s σ H Q I hq
  refine wpAny_Tuple_spliced (thn (h pos pins s σ H _ I hq) fun us s1 ⟨xs, H1, I1, r, z, q⟩ => ⟨by rw [← r.length]; exact z, ?_⟩)
  have hf : H1 s1.heap.objs.size = none := I1.hok.fresh (Nat.le_refl _)
  refine ⟨.ref s1.heap.objs.size, upd H1 s1.heap.objs.size (.tup xs), I1.laid (t' := s1.toks) (fun b u e => Heap.get?_push_of_some _ e) (Nat.le_refl _) ?_, rfl, q _ hf⟩
  exact ⟨z, us, r, ⟨_, Heap.get?_push_size _ rfl, rfl, _, rfl⟩⟩
theorem pe_lst (h : PA X es t) : PE X (.List es pos) (tLst t) := by
  intro pins s σ H Q I hq
  refine wpAny_List_spliced (thn (h pos pins s σ H _ I hq) fun us s1 ⟨xs, H1, I1, r, z, q⟩ => ⟨by rw [← r.length]; exact z, ?_⟩)
  have hf : H1 s1.heap.objs.size = none := I1.hok.fresh (Nat.le_refl _)
  refine ⟨.ref s1.heap.objs.size, upd H1 s1.heap.objs.size (.lst xs), I1.laid (t' := s1.toks) (fun b u e => Heap.get?_push_of_some _ e) (Nat.le_refl _) ?_, rfl, q _ hf⟩
  exact ⟨z, us, 0, r, Heap.get?_push_size _ rfl⟩
end

/-! ### what a def promises -/
/-- a def's promise: the bound arguments in the parameters' order, the heap, the wanted end, the wanted exception -/
abbrev Sp := List V → Hp → VK → XK → Prop
/-- how an exception lies behind a call (file 08 gives it): the callers' frames, abstract heap and state ahead of the call, the wish, the exception, the state -/
abbrev CXT := List Env → Hp → Shared → XK → Value → Shared → Prop

/-- the state at a call -/
structure Env0 (P : Program) (w : World) (K : PySem.W.Frag) (mg : Str → Option Value) (base : Heap) (A : Around) (outer : List Env) (s : Shared) (H : Hp) : Prop where
  frames : A.frames = some outer
  mod : Mod K mg base
  bs : ∀ b o, base.get? b = some o → s.heap.get? b = some o ∧ H b = none
  bsz : base.objs.size ≤ s.heap.objs.size
  funs : s.heap.FunFrames base outer
  frf : ∀ b ∈ frs outer, H b = none
  hok : HOk P w H s.heap
  bare : AllBare s.gens
/-- a call's end -/
def CE (outer : List Env) (P : Program) (w : World) (H : Hp) (s : Shared) (Q : VK) (u : Value) (s' : Shared) : Prop :=
  ∃ v H', s'.os = s.os ∧ AllBare s'.gens ∧ Un (frs outer) [] H H' s.heap s'.heap ∧ HOk P w H' s'.heap ∧ RelV v u ∧ Q v H'
def CR (CX : CXT) (outer : List Env) (P : Program) (w : World) (H : Hp) (s : Shared) (Q : VK) (E : XK) (r : Result) (s' : Shared) : Prop :=
  match r with
  | .ok (.ret u) => CE outer P w H s Q u s'
  | .ok _ => False
  | .error e => CX outer H s E e s'
structure FnOk (P : Program) (w : World) (K : PySem.W.Frag) (mg : Str → Option Value) (base : Heap) (CX : CXT) (k : Nat) (f : Addr) (fd : FuncData) (ps : List Str) (sp : Sp) : Prop where
  len : ∀ vs H Q E, sp vs H Q E → vs.length = ps.length
  run : ∀ (A : Around) (outer : List Env) (s : Shared) (H : Hp) (args : Args) (us : List Value) (vs : List V) (Q : VK) (E : XK), Room k A → Env0 P w K mg base A outer s H → BindsTo s fd args (ps.zip us) → Vals vs us → sp vs H Q E →
    codeAny (model P w) A (.call (.ref f) args) (CR CX outer P w H s Q E) s
theorem FnOk.mono {P : Program} {w : World} {K : PySem.W.Frag} {mg : Str → Option Value} {base : Heap} {CX : CXT} {j k : Nat} {f : Addr} {fd : FuncData} {ps : List Str} {sp : Sp} (F : FnOk P w K mg base CX j f fd ps sp) (h : j ≤ k) :
    FnOk P w K mg base CX k f fd ps sp := ⟨F.len, fun A outer s H args us vs Q E hr => F.run A outer s H args us vs Q E (hr.mono h)⟩
/-- a weaker promise -/
theorem FnOk.imp {P : Program} {w : World} {K : PySem.W.Frag} {mg : Str → Option Value} {base : Heap} {CX : CXT} {k : Nat} {f : Addr} {fd : FuncData} {ps : List Str} {sp sp' : Sp} (F : FnOk P w K mg base CX k f fd ps sp)
    (h : ∀ vs H Q E, sp' vs H Q E → sp vs H Q E) : FnOk P w K mg base CX k f fd ps sp' :=
  ⟨fun vs H Q E q => F.len vs H Q E (h _ _ _ _ q), fun A outer s H args us vs Q E hr he hb hv hs => F.run A outer s H args us vs Q E hr he hb hv (h _ _ _ _ hs)⟩

theorem Env0.make {P : Program} {w : World} {K : PySem.W.Frag} {mg : Str → Option Value} {base : Heap} {A : Around} {outer : List Env} {s : Shared} {H : Hp} (e : Env0 P w K mg base A outer s H) (C : Addr) (us : List Value) (kw : List (Str × Value)) :
    Env0 P w K mg base (A.under (.builtin "type.__call__" ⟨.ref C :: us, kw⟩)) outer s H := ⟨by first | exact e.frames | (simpa [Around.under, Code.envs, Code.isFrame, pushEnvs] using e.frames), e.mod, e.bs, e.bsz, e.funs, e.frf, e.hok, e.bare⟩
section
variable {X : Cx} {pins : List (Addr × Obj)} {σ : St} {H : Hp} {s s' : Shared}
/-- from a body: what a callee wants -/
theorem Inv.env0 (I : Inv X pins σ H s) : Env0 X.prog X.w X.K X.mg X.base X.A X.stack s H :=
  ⟨I.ok.frames, I.ok.mod, I.bs, Nat.le_trans I.ok.bsz I.sz, I.stack, I.stkFree, I.hok, I.bare⟩
/-- behind a call -/
theorem Inv.after {Q : VK} {u : Value} (I : Inv X pins σ H s) (h : CE X.stack X.prog X.w H s Q u s') : EP X pins σ Q u s' := by
  obtain ⟨v, H', os, bare, un, hok, r, q⟩ := h
  obtain ⟨hh, g, d, t, os'⟩ := s'
  obtain rfl : os' = s.os := os
  exact ⟨v, H', I.call (h' := hh) (g' := g) (d' := d) (t' := t) (ch := []) un hok bare (fun b z => absurd z (by simp)), r, q⟩
end

/-! ### calls -/
/-- f(..): the written arguments, then the defaults dvs; E: what is wanted of an exception -/
def tCall (sp : Sp) (dvs : List V) (E : XK) (t : TA) : TE := fun σ H Q => t σ H fun vs H1 => sp (vs ++ dvs) H1 Q E
/-- C(..): a new instance and its dict, then __init__ -/
def tMake (C : Addr) (sp : Sp) (dvs : List V) (E : XK) (t : TA) : TE := fun σ H Q => t σ H fun vs H1 => ∀ x dx, H1 x = none → H1 dx = none → dx ≠ x →
  sp (.ref x :: (vs ++ dvs)) (upd (upd H1 dx (.own x)) x (.ins C dx [])) (fun v H2 => v = .non ∧ Q (.ref x) H2) E

/-- how the parameters are bound: us the positional arguments, kw the keywords' values by name, ds the defaults that fill up -/
def Binds (K : PySem.W.Frag) (fd : FuncData) (ps : List Str) (ds : List Value) : Prop :=
  ∀ (s : Shared) (us : List Value), K.In s.heap → (us ++ ds).length = ps.length → BindsTo s fd ⟨us, []⟩ (ps.zip (us ++ ds))
/-- every parameter is given -/
theorem Binds.all {K : PySem.W.Frag} {fd : FuncData} {ps : List Str} (h : ∀ us : List Value, us.length = ps.length → bindArgs fd ⟨us, []⟩ = pure (ps.zip us)) : Binds K fd ps [] := fun s us _ hl => by
  rw [List.append_nil] at hl ⊢
  exact .of_eq (h us hl)

/-- an exception of a callee reaches what this body wants of exceptions -/
def Passes (CX : CXT) (X : Cx) (E : XK) : Prop := ∀ (pins : List (Addr × Obj)) (σ : St) (H : Hp) (s : Shared) (e : Value) (s' : Shared), Inv X pins σ H s → CX X.stack H s E e s' → X.xe e s'

section
variable {X : Cx} {CX : CXT} {k : Nat} {f C : Addr} {fd : FuncData} {ps : List Str} {sp : Sp} {dvs : List V} {ds : List Value} {E : XK} {x m : Str} {p pos apos : Pos} {e o : Expr} {es : List Expr} {ta : TE} {t : TA}

/-- the callee runs -/
theorem run_fn {pins : List (Addr × Obj)} {σ : St} {H : Hp} {s : Shared} {Q : VK} {us : List Value} {vs : List V} (F : FnOk X.prog X.w X.K X.mg X.base CX k f fd ps sp) (hr : Room k X.A) (hb : Binds X.K fd ps ds) (hd : Vals dvs ds) (hx : Passes CX X E)
    (I : Inv X pins σ H s) (r : Vals vs us) (h : sp (vs ++ dvs) H Q E) : wpAny (model X.prog X.w) X.A (call (.ref f) us) (EP X pins σ Q) X.xe s := by
  have r2 : Vals (vs ++ dvs) (us ++ ds) := r.append hd
  have hl : (us ++ ds).length = ps.length := by rw [← r2.length]; exact F.len _ _ _ _ h
  refine wpAny_call (codeAny_mono (F.run X.A X.stack s H ⟨us, []⟩ (us ++ ds) (vs ++ dvs) Q E hr I.env0 (hb s us I.kIn hl) r2 h) fun r s' hq => ?_)
  cases r with
  | error e => exact hx pins σ H s e s' I hq
  | ok fl =>
    cases fl with
    | ret u => exact I.after hq
    | next => exact False.elim hq
    | brk => exact False.elim hq
    | cont => exact False.elim hq

theorem pe_call (F : FnOk X.prog X.w X.K X.mg X.base CX k f fd ps sp) (hr : Room k X.A) (hg : Gl X x) (hm : X.mg x = some (.ref f)) (hk : PySem.W.keepIn X.K (.ref f) = true) (hb : Binds X.K fd ps ds) (hd : Vals dvs ds) (hx : Passes CX X E)
    (ha : PA X (e :: es) t) (hdb : (x == ("__debug__" : Str)) = false := by decide) (he : starEach (e :: es) X.env = (false, eval e X.env) :: starEach es X.env := by rfl) (hpl : (backTo pos (starEach es X.env)).any (·.1) = false := by rfl) :
    PE X (.Call (.Name x p) (e :: es) [] pos) (tCall sp dvs E t) := by
  intro pins s σ H Q I h
  refine wpAny_Call_Name_kw (ld_glob I hg hm ?_ hdb)
  refine PySem.W.callWith_K (h₀ := X.base) I.ok.mod.kin hk (thn (ha pos pins s σ H _ I h) fun us s1 ⟨vs, H1, I1, r, q⟩ => ⟨I1.kIn, ?_⟩) he hpl
  exact run_fn F hr hb hd hx I1 r q
/-- what a class must have to be made -/
structure Mk (K : PySem.W.Frag) (C f : Addr) : Prop where
  makes : PySem.W.makesIn K C = true
  init : PySem.W.findIn K (.ref C) "__init__" = some (some (.ref f))
  fn : PySem.W.isFn K (.ref f) = true
  kp : PySem.W.keepIn K (.ref C) = true

theorem run_make {pins : List (Addr × Obj)} {σ : St} {H : Hp} {s : Shared} {Q : VK} {us : List Value} {vs : List V} (M : Mk X.K C f) (F : FnOk X.prog X.w X.K X.mg X.base CX k f fd ps sp) (hr : Room (k + 1) X.A) (hb : Binds X.K fd ps ds) (hd : Vals dvs ds)
    (hx : Passes CX X E) (I : Inv X pins σ H s) (r : Vals vs us)
    (h : ∀ x dx, H x = none → H dx = none → dx ≠ x → sp (.ref x :: (vs ++ dvs)) (upd (upd H dx (.own x)) x (.ins C dx [])) (fun v H2 => v = .non ∧ Q (.ref x) H2) E) :
    wpAny (model X.prog X.w) X.A (call (.ref C) us) (EP X pins σ Q) X.xe s := by
  have hq := h (s.heap.objs.size + 1) s.heap.objs.size (I.hok.fresh (Nat.le_succ _)) (I.hok.fresh (Nat.le_refl _)) (Nat.ne_of_lt (Nat.lt_succ_self _))
  have I2 := Inv.made (C := C) I
  have r2 : Vals (V.ref (s.heap.objs.size + 1) :: (vs ++ dvs)) (Value.ref (s.heap.objs.size + 1) :: (us ++ ds)) := .cons rfl (r.append hd)
  have hl : (Value.ref (s.heap.objs.size + 1) :: us ++ ds).length = ps.length := by
    have e := r2.length
    rw [F.len _ _ _ _ hq] at e
    exact e.symm
  refine wpAny_call (make_map (f := f) I.kIn M.makes M.init (beq_iff_eq.mp M.fn) (codeAny_mono (F.run _ X.stack _ _ ⟨Value.ref (s.heap.objs.size + 1) :: us, []⟩ (Value.ref (s.heap.objs.size + 1) :: (us ++ ds)) _ _ E (hr.make C us [])
    (I2.env0.make C us []) (hb _ (Value.ref (s.heap.objs.size + 1) :: us) I2.kIn hl) r2 hq) fun r s' hq' => ?_))
  cases r with
  | error e => exact hx pins σ _ _ e s' I2 hq'
  | ok fl =>
    cases fl with
    | ret u =>
      obtain ⟨v, H', I3, rv, ev, q3⟩ := I2.after hq'
      subst ev
      exact ⟨rv, ⟨V.ref (s.heap.objs.size + 1), H', I3, rfl, q3⟩⟩
    | next => exact False.elim hq'
    | brk => exact False.elim hq'
    | cont => exact False.elim hq'
theorem pe_make (M : Mk X.K C f) (F : FnOk X.prog X.w X.K X.mg X.base CX k f fd ps sp) (hr : Room (k + 1) X.A) (hg : Gl X x) (hm : X.mg x = some (.ref C)) (hb : Binds X.K fd ps ds) (hd : Vals dvs ds) (hx : Passes CX X E)
    (ha : PA X (e :: es) t) (hdb : (x == ("__debug__" : Str)) = false := by decide) (he : starEach (e :: es) X.env = (false, eval e X.env) :: starEach es X.env := by rfl) (hpl : (backTo pos (starEach es X.env)).any (·.1) = false := by rfl) :
    PE X (.Call (.Name x p) (e :: es) [] pos) (tMake C sp dvs E t) := by
  intro pins s σ H Q I h
  refine wpAny_Call_Name_kw (ld_glob I hg hm ?_ hdb)
  refine PySem.W.callWith_K (h₀ := X.base) I.ok.mod.kin M.kp (thn (ha pos pins s σ H _ I h) fun us s1 ⟨vs, H1, I1, r, q⟩ => ⟨I1.kIn, ?_⟩) he hpl
  exact run_make M F hr hb hd hx I1 r q
end

/-! ### keywords -/
section
variable {X : Cx} {CX : CXT} {k : Nat} {f C : Addr} {fd : FuncData} {ps ks : List Str} {sp : Sp} {E : XK} {x m : Str} {p pos apos kpos : Pos} {e o : Expr} {es : List Expr} {kws : List Keyword} {te ta : TE} {t tk : TA} {nm : Option Str}
/-- how a call with keywords binds: g puts the positional values us and the keywords' values ws (names ks) in the parameters' order, defaults among them -/
structure KBinds (K : PySem.W.Frag) (fd : FuncData) (ps ks : List Str) (g : List Value → List Value → List Value) (gV : List V → List V → List V) : Prop where
  to : ∀ (s : Shared) (us ws : List Value), K.In s.heap → (g us ws).length = ps.length → BindsTo s fd ⟨us, ks.zip ws⟩ (ps.zip (g us ws))
  rel : ∀ {vs : List V} {us : List Value} {zs : List V} {ws : List Value}, Vals vs us → Vals zs ws → Vals (gV vs zs) (g us ws)
variable {g : List Value → List Value → List Value} {gV : List V → List V → List V}
end

/-! ### a def's body keeps its promise -/
/-- names: the parameters first -/
structure FnScope (N P : List Str) (sc : Scope) : Prop where
  kind : sc.kind = .function
  co : sc.isCoroutine = false
  gen : sc.isGenerator = false
  nd : N.Nodup
  pre : N.take P.length = P
  par : ∀ x ∈ P, sc.names.lookup x = some .local ∨ sc.names.lookup x = some .cell
  nofree : ∀ y ∈ sc.names, y.2 ≠ .free

theorem bindL_out {kindOf : Str → Option NameKind} {x : Str} : ∀ {binds : List (Str × Value)} {m : Str → Option Value}, (∀ v, (x, v) ∉ binds) → bindL kindOf binds m x = m x
  | [], _, _ => rfl
  | (n, v) :: r, m, h => by
    unfold bindL
    rw [bindL_out fun w hw => h w (List.mem_cons_of_mem _ hw)]
    split
    · have : x ≠ n := by rintro rfl; exact h v List.mem_cons_self
      simp [this]
    · rfl
theorem bindC_out {kindOf : Str → Option NameKind} {x : Str} : ∀ {binds : List (Str × Value)} {m : Str → Option Value}, (∀ v, (x, v) ∉ binds) → bindC kindOf binds m x = m x
  | [], _, _ => rfl
  | (n, v) :: r, m, h => by
    unfold bindC
    rw [bindC_out fun w hw => h w (List.mem_cons_of_mem _ hw)]
    split
    · rfl
    · have : x ≠ n := by rintro rfl; exact h v List.mem_cons_self
      simp [this]
theorem bindL_get {kindOf : Str → Option NameKind} {x : Str} {v : Value} : ∀ {P : List Str} {vs : List Value} {i : Nat} {m : Str → Option Value}, P.Nodup → P[i]? = some x → vs[i]? = some v → kindOf x = some .local →
    bindL kindOf (P.zip vs) m x = some v
  | [], _, _, _, _, h, _, _ => by simp at h
  | _ :: _, [], _, _, _, _, h, _ => by simp at h
  | p :: P, w :: vs, 0, m, nd, h1, h2, hk => by
    simp at h1 h2; subst h1; subst h2
    show bindL kindOf ((p, w) :: P.zip vs) m p = _
    unfold bindL
    rw [bindL_out fun v hv => (List.nodup_cons.mp nd).1 (List.of_mem_zip hv).1, if_pos hk]
    simp
  | p :: P, w :: vs, i + 1, m, nd, h1, h2, hk => by
    show bindL kindOf ((p, w) :: P.zip vs) m x = _
    unfold bindL
    exact bindL_get (i := i) (List.nodup_cons.mp nd).2 (by simpa using h1) (by simpa using h2) hk
theorem bindC_get {kindOf : Str → Option NameKind} {x : Str} {v : Value} : ∀ {P : List Str} {vs : List Value} {i : Nat} {m : Str → Option Value}, P.Nodup → P[i]? = some x → vs[i]? = some v → kindOf x ≠ some .local →
    bindC kindOf (P.zip vs) m x = some v
  | [], _, _, _, _, h, _, _ => by simp at h
  | _ :: _, [], _, _, _, _, h, _ => by simp at h
  | p :: P, w :: vs, 0, m, nd, h1, h2, hk => by
    simp at h1 h2; subst h1; subst h2
    show bindC kindOf ((p, w) :: P.zip vs) m p = _
    unfold bindC
    rw [bindC_out fun v hv => (List.nodup_cons.mp nd).1 (List.of_mem_zip hv).1, if_neg hk]
    simp
  | p :: P, w :: vs, i + 1, m, nd, h1, h2, hk => by
    show bindC kindOf ((p, w) :: P.zip vs) m x = _
    unfold bindC
    exact bindC_get (i := i) (List.nodup_cons.mp nd).2 (by simpa using h1) (by simpa using h2) hk

/-- the names' values at the entry -/
def start (N : List Str) (vs : List V) : St := vs.map some ++ List.replicate (N.length - vs.length) none

/-- the context of a def's body, at its entry; an exception leaves the frame, then lies as CX says -/
def cxOf (CX : CXT) (P : Program) (w : World) (K : PySem.W.Frag) (mg : Str → Option Value) (base : Heap) (N : List Str) (qual : Str) (scope : Scope) (f : Addr) (cd : Value) (A : Around) (outer : List Env) (s : Shared) (H : Hp) (E : XK) : Cx where
  prog := P
  w := w
  K := K
  mg := mg
  base := base
  A := A.deeper (envOfC qual scope s.heap.objs.size f cd)
  N := N
  s₀ := s
  H₀ := H
  env := envOfC qual scope s.heap.objs.size f cd
  outer := outer
  stack := envOfC qual scope s.heap.objs.size f cd :: outer
  ex := []
  calm := true
  fn := fun _ => true
  pn := []
  xe := fun e s' => wpAny (model P w) (A.deeper (envOfC qual scope s.heap.objs.size f cd)) (leaving (envOfC qual scope s.heap.objs.size f cd) e) (fun _ s'' => CX outer H s E e s'') (fun e' s'' => CX outer H s E e' s'') s'

theorem cell_has {sc : Scope} {n : Nat} {x : Str} (h : sc.names.lookup x = some .cell) : ∃ c, (cellsFrom n sc.names []).lookup x = some c := by
  have q := PySem.W.cellsFrom_some sc.names n [] (.inl h)
  exact Option.isSome_iff_exists.mp q

theorem inv_start {CX : CXT} {P : Program} {w : World} {K : PySem.W.Frag} {mg : Str → Option Value} {base : Heap} {N ps : List Str} {qual : Str} {scope : Scope} {f : Addr} {cd : Value} {A : Around} {outer : List Env} {s s1 : Shared} {H : Hp} {E : XK} {us : List Value} {vs : List V}
    (S : FnScope N ps scope) (hd : A.handled = none) (e0 : Env0 P w K mg base A outer s H) (hl : vs.length = ps.length) (r : Vals vs us)
    (x : InCallC s s.heap.objs.size (bindL (envOfC qual scope s.heap.objs.size f cd).kindOf (ps.zip us) fun _ => none) (cellsFrom (s.heap.objs.size + 1) scope.names []) (bindC (envOfC qual scope s.heap.objs.size f cd).kindOf (ps.zip us) fun _ => none) s1) :
    Inv (cxOf CX P w K mg base N qual scope f cd A outer s H E) [] (start N vs) H s1 := by
  have hpl : ps.length ≤ N.length := by have := congrArg List.length S.pre; rw [List.length_take] at this; omega
  obtain ⟨h1, tk, rfl, hk⟩ := x.done
  have noA : ∀ b : Addr, b ∉ (cxOf CX P w K mg base N qual scope f cd A outer s H E).ex := fun b z => absurd (show b ∈ ([] : List Addr) from z) (by simp)
  refine ⟨⟨e0.mod, S.kind, rfl, rfl, Nat.le_refl _, fun y z c h1 h2 => ?_, fun y hy => ?_, fun y c _ h => ?_, fun _ => hd, Around.frames_deeper e0.frames, .inr ⟨rfl, rfl⟩, fun b z => absurd z (noA b), e0.bs, e0.bsz, fun b _ _ => noA b, fun b z => absurd z (noA b), e0.funs, e0.frf⟩,
    rfl, e0.bare, Un.kept hk, ⟨_, x.toInCall.ns, fun i y v h1 h2 h3 => ?_⟩, fun y c h => ⟨_, x.cell y c h⟩, e0.hok.fresh (Nat.le_refl _), fun y c h => ?_, fun p hp => absurd (show p ∈ ([] : List (Addr × Obj)) from hp) (by simp), e0.hok.kept hk, ?_⟩
  · exact name_of_addr x.apart (PySem.mem_of_lookup h1) (PySem.mem_of_lookup h2)
  · have hy : scope.names.lookup y = some .cell ∨ scope.names.lookup y = some .free := hy
    rcases hy with hy | hy
    · exact cell_has hy
    · exact absurd rfl (S.nofree _ (PySem.mem_of_lookup hy))
  · exact Nat.le_of_lt (x.above y c (PySem.mem_of_lookup h))
  · have hi : i < vs.length := by
      unfold start at h2
      by_cases hi : i < vs.length
      · exact hi
      · rw [List.getElem?_append_right (by simpa using hi)] at h2
        rw [List.getElem?_replicate] at h2
        split at h2 <;> cases h2
    have ha : vs[i]? = some v := by
      unfold start at h2
      rw [List.getElem?_append_left (by simpa using hi), List.getElem?_map] at h2
      cases e : vs[i]? with
      | none => rw [e] at h2; cases h2
      | some a => rw [e] at h2; cases h2; rfl
    obtain ⟨u, hu, rv⟩ := r.get ha
    have hp : ps[i]? = some y := by
      rw [← S.pre, List.getElem?_take_of_lt (by omega)]; exact h1
    have ndP : ps.Nodup := by rw [← S.pre]; exact S.nd.sublist (List.take_sublist _ _)
    refine ⟨u, rv, ?_⟩
    rcases S.par y (List.mem_of_getElem? hp) with k | k
    · exact .inl ⟨k, bindL_get ndP hp hu k⟩
    · obtain ⟨c, e⟩ := cell_has (n := s.heap.objs.size + 1) k
      refine .inr ⟨.inl k, c, e, ?_⟩
      have q := x.cell y c e
      rw [bindC_get ndP hp hu (by show scope.names.lookup y ≠ _; rw [k]; decide)] at q
      exact q
  · exact e0.hok.fresh (Nat.le_of_lt (x.above y c (PySem.mem_of_lookup h)))
  · unfold start
    show _ = N.length
    rw [List.length_append, List.length_map, List.length_replicate]
    omega

/-- THE RULE: a def (or a method) of the text, by its body. The body's reading t is chosen for each entry; it is run at the parameters' values -/
theorem fn_of {CX : CXT} {P : Program} {w : World} {K : PySem.W.Frag} {mg : Str → Option Value} {base : Heap} {k : Nat} {f : Addr} {name qual : Str} {params : Arguments} {body : List Stmt} {scope : Scope} {dV kV doc pm cdv ct oc : Value} {an od : Option Addr}
    {osl : Array (Option Value)} {N ps : List Str} {sp : Sp} (lk : K.lookup f = some ⟨oc, od, .func (PySem.W.fnOf name qual params body scope dV kV doc pm an cdv ct), osl⟩) (hcd : PySem.W.codeIn K cdv qual = true) (S : FnScope N ps scope)
    (len : ∀ vs H Q E, sp vs H Q E → vs.length = ps.length)
    (hbody : ∀ (A : Around) (outer : List Env) (s : Shared) (H : Hp) (vs : List V) (Q : VK) (E : XK), Room k (A.deeper (envOfC qual scope s.heap.objs.size f cdv)) → sp vs H Q E →
      ∃ t, PSs (cxOf CX P w K mg base N qual scope f cdv A outer s H E) body t ∧ t { nx := fun _ H' => Q .non H', rt := Q } (start N vs) H) :
    FnOk P w K mg base CX (k + 1) f (PySem.W.fnOf name qual params body scope dV kV doc pm an cdv ct) ps sp := by
  refine ⟨len, fun A outer s H args us vs Q E hr e0 hb r hsp => ?_⟩
  have hl := len _ _ _ _ hsp
  have KX : K.In s.heap := e0.mod.kin.keeps fun b o e => (e0.bs b o e).1
  have lim : s.heap.NoLimit := e0.mod.nolimit.keeps fun b o e => (e0.bs b o e).1
  have hkind : ∀ y ∈ ps.zip us, scope.names.lookup y.1 = some .local ∨ (scope.names.lookup y.1 = some .cell ∧ ((cellsFrom (s.heap.objs.size + 1) scope.names []).lookup y.1).isSome = true) := fun ⟨n, v⟩ hy => by
    rcases S.par n (List.of_mem_zip hy).1 with q | q
    · exact .inl q
    · exact .inr ⟨q, PySem.W.cellsFrom_some _ _ _ (.inl q)⟩
  refine codeAny_call_function hr.depth (KX _ _ lk) rfl S.co S.gen rfl (PySem.W.codeRec_of KX hcd) (hb _ _ _ _ ?_)
  refine wpAny_newFunctionEnv_cells S.kind hkind fun env he s1 x => ?_
  subst he
  refine ⟨lim.keeps x.toInCall.keep, codeAny_func ?_⟩
  obtain ⟨t, ht, hq⟩ := hbody A outer s H vs Q E (hr.deeper _) hsp
  have I : Inv (cxOf CX P w K mg base N qual scope f cdv A outer s H E) [] (start N vs) H s1 := inv_start S hr.hd e0 hl r x
  refine wpAny_mono (ht [] s1 (start N vs) H _ I hq) (fun fl s' hs => ?_) fun e s' hs => hs
  have fin : ∀ {σ' : St} {H' : Hp} {v : V} {u : Value}, Inv (cxOf CX P w K mg base N qual scope f cdv A outer s H E) [] σ' H' s' → RelV v u → Q v H' → CE outer P w H s Q u s' :=
    fun {σ' H' v u} J rv q => ⟨v, H', J.os, J.bare, J.base, J.hok, rv, q⟩
  cases fl with
  | ret u =>
    obtain ⟨v, σ', H', J, rv, q⟩ := hs
    exact fin J rv q
  | next =>
    obtain ⟨σ', H', J, q⟩ := hs
    exact fin (v := V.non) (u := Value.none) J rfl q
  | brk =>
    obtain ⟨_, _, _, q⟩ := hs
    exact False.elim q
  | cont =>
    obtain ⟨_, _, _, q⟩ := hs
    exact False.elim q
end L2

namespace L2
open PySem PySem.Spec PyProof.Rows
section
variable {X : Cx} {x : Str} {p pos : Pos} {e : Expr} {es : List Expr} {t : TA} {id T : String} {r : List V → Hp → VK → Prop}

def tCB (r : List V → Hp → VK → Prop) (t : TA) : TE := fun σ H Q => t σ H fun vs H1 => r vs H1 Q
/-- f(e, ..), f a built-in function -/
theorem pe_callB (hc : CallR X (.builtin id) r) (hg : Gl X x) (hm : X.mg x = none) (hv : bootBuiltins x = some (.builtin id)) (ha : PA X (e :: es) t) (hn : x ≠ "__name__" := by decide) (hdb : (x == ("__debug__" : Str)) = false := by decide)
    (he : starEach (e :: es) X.env = (false, eval e X.env) :: starEach es X.env := by rfl) (hpl : (backTo pos (starEach es X.env)).any (·.1) = false := by rfl) : PE X (.Call (.Name x p) (e :: es) [] pos) (tCB r t) := by
  intro pins s σ H Q I h
  refine wpAny_Call_Name_kw (ld_blt I hg hm hv ?_ hn hdb)
  exact PyProof.Rows.callWith_builtin1 (thn (ha pos pins s σ H _ I h) fun us s1 ⟨vs, H1, I1, r1, q1⟩ => hc pins s1 σ H1 vs us Q I1 r1 q1) he hpl
/-- T(e, ..), T a built-in type -/
theorem pe_callTy (hc : CallR X (.type T) r) (hg : Gl X x) (hm : X.mg x = none) (hv : bootBuiltins x = some (.type T)) (ha : PA X (e :: es) t) (hn : x ≠ "__name__" := by decide) (hdb : (x == ("__debug__" : Str)) = false := by decide)
    (he : starEach (e :: es) X.env = (false, eval e X.env) :: starEach es X.env := by rfl) (hpl : (backTo pos (starEach es X.env)).any (·.1) = false := by rfl) : PE X (.Call (.Name x p) (e :: es) [] pos) (tCB r t) := by
  intro pins s σ H Q I h
  refine wpAny_Call_Name_kw (ld_blt I hg hm hv ?_ hn hdb)
  exact PyProof.Rows.callWith_type1 (thn (ha pos pins s σ H _ I h) fun us s1 ⟨vs, H1, I1, r1, q1⟩ => hc pins s1 σ H1 vs us Q I1 r1 q1) he hpl
end
end L2

namespace HT
open PySem PyProof.Rows

section
open PySem.SeqAt
open PySem.AutoSeq1 (wpAny_loadPart')
open PySem.MeetsSeq PySem.MeetsSeq2 PySem.MeetsSeq3

end

section
variable {prog : Program} {w : World} {A : Around} {E : Value → Shared → Prop} {s : Shared}

/-! ### t[a:b], not the whole -/
/-- a slice's bound as a place among n (d where it is left out) -/
def sIx (n d : Nat) : Option Int → Nat
  | none => d
  | some v => if v < 0 then (v + (n : Int)).toNat else min v.toNat n
theorem sIx_none (n d : Nat) : sIx n d none = d := rfl
end
end HT

namespace L2
open PySem PySem.Spec PyProof.Rows

/-! ### the parts of a slice -/
abbrev TO := St → Hp → (Option Int → Hp → Prop) → Prop
/-- a slice's part (left out, or an int) -/
def PO (X : Cx) (e : Option Expr) (t : TO) : Prop :=
  ∀ (pins : List (Addr × Obj)) (s : Shared) (σ : St) (H : Hp) (Q : Option Int → Hp → Prop), Inv X pins σ H s → t σ H Q →
    wpAny (model X.prog X.w) X.A (evalPart e X.env) (fun u s' => ∃ o H', Inv X pins σ H' s' ∧ IsPart u o ∧ Q o H') X.xe s
def tNoPart : TO := fun _ H Q => Q none H
def tPart (t : TE) : TO := fun σ H Q => t σ H fun x H1 => ∃ i, x = .int i ∧ Q (some i) H1

section
variable {X : Cx} {e : Expr} {te : TE} {lo hi : Option Expr} {tl th : TO} {pos p2 : Pos}

theorem po_none : PO X none tNoPart := by
  intro pins s σ H Q I h
  rw [evalPart_none]
  exact wpAny_pure ⟨none, H, I, .none, h⟩
theorem po_some (h : PE X e te) : PO X (some e) (tPart te) := by
  intro pins s σ H Q I hw
  rw [evalPart_some]
  refine thn (h pins s σ H _ I hw) fun u s1 ⟨x, H1, I1, r1, q1⟩ => ?_
  obtain ⟨i, rfl, q⟩ := q1
  obtain ⟨t, rfl⟩ := r1
  exact ⟨some i, H1, I1, .int i t, q⟩

/-- what a slice of a value is, by values: the slice object stands at sl -/
def SlR (X : Cx) (r : V → Option Int → Option Int → Hp → VK → Prop) : Prop :=
  ∀ (pins : List (Addr × Obj)) (s : Shared) (σ : St) (H : Hp) (x : V) (v vl vu : Value) (lo hi : Option Int) (sl : Addr) (Q : VK), Inv X pins σ H s → RelV x v → s.heap.IsSliceOf sl vl vu .none → IsPart vl lo → IsPart vu hi → r x lo hi H Q →
    ∃ T id, typeLookup (.type T) "__getitem__" = pure (some (.builtin id)) ∧ s.TypeIs v T ∧ wpAny (model X.prog X.w) X.A (getItem v (.ref sl)) (EP X pins σ Q) X.xe s
def tSl (r : V → Option Int → Option Int → Hp → VK → Prop) (te : TE) (tl th : TO) : TE := fun σ H Q => te σ H fun x H1 => tl σ H1 fun l H2 => th σ H2 fun u H3 => r x l u H3 Q
/-- a[lo:hi], any a -/
theorem pe_slice {r : V → Option Int → Option Int → Hp → VK → Prop} (hr : SlR X r) (he : PE X e te) (hl : PO X lo tl) (hu : PO X hi th) : PE X (.Subscript e (.Slice lo hi none p2) pos) (tSl r te tl th) := by
  intro pins s σ H Q I h
  refine Subscript_ (thn (he pins s σ H _ I h) fun v s1 ⟨x, H1, I1, r1, q1⟩ => ?_)
  refine wpAny_Slice (thn (hl pins s1 σ H1 _ I1 q1) fun vl s2 ⟨l, H2, I2, pl, q2⟩ => thn (hu pins s2 σ H2 _ I2 q2) fun vu s3 ⟨u, H3, I3, pu, q3⟩ => ?_)
  rw [evalPart_none]
  refine wpAny_pure ?_
  have I4 : Inv X pins σ H3 { s3 with heap := s3.heap.push { cls := .type "slice", data := .fields #[vl, vu, .none] } } := I3.kept (t' := s3.toks) fun b ob q => Heap.get?_push_of_some _ q
  obtain ⟨T, id, hT, ht, hg⟩ := hr pins { s3 with heap := s3.heap.push { cls := .type "slice", data := .fields #[vl, vu, .none] } } σ H3 x v vl vu l u s3.heap.objs.size Q I4 r1 (Heap.IsSliceOf.new ..) pl pu q3
  show wpAny (model X.prog X.w) X.A (subscriptTail e (.Slice lo hi none p2) v (.ref s3.heap.objs.size)) (EP X pins σ Q) X.xe { s3 with heap := s3.heap.push { cls := .type "slice", data := .fields #[vl, vu, .none] } }
  exact tail_any (ops := [.ref s3.heap.objs.size, v]) ht hT hg (by with_unfolding_all rfl)

/-- the items of xs[lo:hi] -/
def cutV (xs : List V) (lo hi : Option Int) : List V := (xs.drop (HT.sIx xs.length 0 lo)).take (HT.sIx xs.length xs.length hi - HT.sIx xs.length 0 lo)
theorem cutV_length (xs : List V) (lo hi : Option Int) : (cutV xs lo hi).length ≤ xs.length := by
  unfold cutV
  rw [List.length_take, List.length_drop]
  omega
/-! ### t < u, t + u -/
end
end L2

namespace L2
open PySem PySem.Spec PyProof.Rows

/-! ### places -/
/-- the place that an index of any sign means -/
def ixN (n : Nat) (i : Int) : Option Nat := if 0 ≤ i then (if i < n then some i.toNat else none) else if -(n : Int) ≤ i then some (i + n).toNat else none
def atI {α : Type} (xs : List α) (i : Int) : Option α := (ixN xs.length i).bind fun j => xs[j]?
theorem ixN_seq {n : Nat} {i : Int} {j : Nat} (h : ixN n i = some j) : seqIndex? i n = some j ∧ j < n ∧ -(n : Int) ≤ i ∧ i < n := by
  unfold ixN at h
  by_cases h0 : 0 ≤ i
  · rw [if_pos h0] at h
    by_cases h1 : i < n
    · rw [if_pos h1] at h
      have e : i.toNat = j := Option.some.inj h
      exact ⟨by rw [seqIndex_of h0 h1, e], by omega, by omega, h1⟩
    · rw [if_neg h1] at h; cases h
  · rw [if_neg h0] at h
    by_cases h1 : -(n : Int) ≤ i
    · rw [if_pos h1] at h
      have e : (i + n).toNat = j := Option.some.inj h
      exact ⟨by rw [seqIndex_neg (by omega) h1, e], by omega, h1, by omega⟩
    · rw [if_neg h1] at h; cases h
theorem atI_get {α : Type} {xs : List α} {i : Int} {v : α} (h : atI xs i = some v) : ∃ j, seqIndex? i xs.length = some j ∧ xs[j]? = some v ∧ j < xs.length ∧ -(xs.length : Int) ≤ i ∧ i < xs.length := by
  unfold atI at h
  cases e : ixN xs.length i with
  | none => rw [e] at h; cases h
  | some j =>
    rw [e] at h
    obtain ⟨h1, h2, h3, h4⟩ := ixN_seq e
    exact ⟨j, h1, h, h2, h3, h4⟩
/-! ### what may be subscripted -/
/-- what stands as an index of a plain subscript -/
def PlainIx (b : Expr) : Prop := ∀ o i, subscripted b false o i = operate [o, i] (getItem o i)
/-- a subscript by values -/
def IxR (X : Cx) (r : R2) : Prop :=
  ∀ (value slice : Expr) (pins : List (Addr × Obj)) (s : Shared) (σ : St) (H : Hp) (x y : V) (v u : Value) (Q : VK), Inv X pins σ H s → RelV x v → RelV y u → r x y H Q →
    subscripted slice false v u = operate [v, u] (getItem v u) → wpAny (model X.prog X.w) X.A (subscriptTail value slice v u) (EP X pins σ Q) X.xe s
/-- a call of a builtin's method by values: the receiver, the arguments -/
def MtR (X : Cx) (id : String) (r : V → List V → Hp → VK → Prop) : Prop :=
  ∀ (pins : List (Addr × Obj)) (s : Shared) (σ : St) (H : Hp) (x : V) (xs : List V) (v : Value) (us : List Value) (Q : VK), Inv X pins σ H s → RelV x v → Vals xs us → r x xs H Q →
    wpAny (model X.prog X.w) X.A (call (.builtin id) (v :: us)) (EP X pins σ Q) X.xe s
section
variable {X : Cx} {a b : Expr} {ta tb : TE} {pos : Pos}
/-- a[b] -/
theorem pe_ix {r : R2} (hr : IxR X r) (ha : PE X a ta) (hb : PE X b tb) (hs : PlainIx b) : PE X (.Subscript a b pos) (tOp r ta tb) := by
  intro pins s σ H Q I h
  exact Subscript_ (binT ha hb I h fun v u s2 x y H2 I2 rx ry q => hr a b pins s2 σ H2 x y v u Q I2 rx ry q (hs _ _))

def rIxL (K : PySem.W.Frag) : R2 := fun x y H Q => ∃ p xs i v, x = .ref p ∧ y = .int i ∧ SqL K H p xs ∧ atI xs i = some v ∧ Q v H
def rIxT (K : PySem.W.Frag) : R2 := fun x y H Q => ∃ p xs i v, x = .ref p ∧ y = .int i ∧ SqT K H p xs ∧ atI xs i = some v ∧ Q v H
theorem ix_list : IxR X (rIxL X.K) := by
  intro value slice pins s σ H x y v u Q I rx ry h hs
  obtain ⟨p, xs, i, z, rfl, rfl, hq, he, q⟩ := h
  cases rx
  obtain ⟨t, rfl⟩ := ry
  obtain ⟨its, r, pl, hz⟩ := I.list hq
  obtain ⟨j, h1, h2, h3, h4, h5⟩ := atI_get he
  obtain ⟨w, ew, rw'⟩ := r.get h2
  have hl := r.length
  have hn := line63
  have fin : EP X pins σ Q w s := ⟨z, H, I, rw', q⟩
  by_cases h0 : 0 ≤ i
  · have hj : i.toNat = j := by
      rw [seqIndex_of h0 h5] at h1
      exact Option.some.inj h1
    exact item_listR pl.isList h0 (by omega) (by rw [hj]; simpa using ew) fin hs
  · have hj : (i + (its.toArray.size : Int)).toNat = j := by
      rw [seqIndex_neg (by omega) h4] at h1
      rw [List.size_toArray, ← hl]
      exact Option.some.inj h1
    exact subscriptTail_builtinR (x := w) pl.isList.typeIs slot_list_getitem.lookup
      (wpAny_getItem_list_neg (Q := fun r s' => r = w ∧ EP X pins σ Q r s') pl.isList (by omega) (by rw [List.size_toArray] <;> omega) (by omega) (by rw [hj]; simpa using ew) ⟨rfl, fin⟩) hs
theorem ix_tup : IxR X (rIxT X.K) := by
  intro value slice pins s σ H x y v u Q I rx ry h hs
  obtain ⟨p, xs, i, z, rfl, rfl, hq, he, q⟩ := h
  cases rx
  obtain ⟨t, rfl⟩ := ry
  obtain ⟨its, r, pl, hz⟩ := I.tuple hq
  obtain ⟨j, h1, h2, h3, h4, h5⟩ := atI_get he
  obtain ⟨w, ew, rw'⟩ := r.get h2
  have hl := r.length
  have hn := line63
  have fin : EP X pins σ Q w s := ⟨z, H, I, rw', q⟩
  exact subscriptTail_builtinR (x := w) pl.typeIs slot_tuple_getitem.lookup
    (getItem_tuple (j := j) (Q := fun r s' => r = w ∧ EP X pins σ Q r s') pl (by omega) (by omega) (by rw [List.size_toArray, ← hl]; exact h1) (by simpa using ew) ⟨rfl, fin⟩) hs
/-! ### xs[i] = v, any sign -/
/-- the list's object behind a store -/
theorem mapSeq_set (its : List Value) (n j : Nat) (u : Value) : Obj.mapSeq (·.setIfInBounds j u) { cls := .type "list", data := .seq its.toArray n } = { cls := .type "list", data := .seq (its.set j u).toArray n } := by
  simp [Obj.mapSeq]
theorem Inv.lst {pins : List (Addr × Obj)} {σ : St} {H : Hp} {s : Shared} {p : Addr} {xs : List V} (I : Inv X pins σ H s) (h : H p = some (.lst xs)) :
    ∃ (its : List Value) (n : Nat), Vals xs its ∧ s.heap.get? p = some { cls := .type "list", data := .seq its.toArray n } ∧ xs.length ≤ sizeLine := by
  obtain ⟨z, its, n, r, e⟩ := I.hok p _ h
  exact ⟨its, n, r, e, z⟩
/-- the list at p is written by an update of its object -/
theorem Inv.lstUpd {pins : List (Addr × Obj)} {σ : St} {H : Hp} {s : Shared} {p : Addr} {xs ys : List V} {its its' : List Value} {n n' : Nat} {f : Obj → Obj} (I : Inv X pins σ H s) (h : H p = some (.lst xs))
    (ho : s.heap.get? p = some { cls := .type "list", data := .seq its.toArray n }) (hf : f { cls := .type "list", data := .seq its.toArray n } = { cls := .type "list", data := .seq its'.toArray n' }) (r : Vals ys its') (hz : ys.length ≤ sizeLine) (t : Nat) :
    Inv X pins σ (upd H p (.lst ys)) { s with heap := s.heap.update p f, toks := t } := by
  have e : (s.heap.update p f).get? p = some { cls := .type "list", data := .seq its'.toArray n' } := by
    rw [Heap.get?_update_self f ho (by rw [hf] <;> rfl), hf]
  refine I.write (x := p) (e := p) (by rw [h]; trivial) (.inl rfl) (fun b u hb q => (Heap.get?_update_other _ _ (Ne.symm hb)).trans q) ⟨_, e⟩ ?_
  exact ⟨hz, its', n', r, e⟩
def rSetL : V → V → V → Hp → (Hp → Prop) → Prop := fun o i v H Q => ∃ p xs k j, o = .ref p ∧ i = .int k ∧ H p = some (.lst xs) ∧ ixN xs.length k = some j ∧ Q (upd H p (.lst (xs.set j v)))
theorem set_list : PSet X rSetL := by
  intro pins s σ H o i v ov iv u Q I ro ri rv h
  obtain ⟨p, xs, k, j, rfl, rfl, hp, hj, q⟩ := h
  cases ro
  obtain ⟨t, rfl⟩ := ri
  obtain ⟨its, n, r, ho, hz⟩ := I.lst hp
  obtain ⟨h1, h2, h3, h4⟩ := ixN_seq hj
  have hl := r.length
  have hn := line63
  have I' : Inv X pins σ (upd H p (.lst (xs.set j v))) { s with heap := s.heap.update p (Obj.mapSeq (·.setIfInBounds j u)) } :=
    I.lstUpd hp ho (mapSeq_set its n j u) (r.set rv j) (by rw [List.length_set]; exact hz) s.toks
  by_cases h0 : 0 ≤ k
  · have hk : k.toNat = j := by
      rw [seqIndex_of h0 h4] at h1
      exact Option.some.inj h1
    exact PySem.W.ki_setAt ho h0 (by omega) (by rw [List.size_toArray, ← hl]; exact h4) (by rw [hk]; exact ⟨_, I', q⟩)
  · have hk : (k + (its.toArray.size : Int)).toNat = j := by
      rw [seqIndex_neg (by omega) h3] at h1
      rw [List.size_toArray, ← hl]
      exact Option.some.inj h1
    exact PySem.W.ki_setBack ho (by omega) (by rw [List.size_toArray, ← hl]; exact h3) (by omega) (by rw [hk]; exact ⟨_, I', q⟩)

/-! ### slices -/
theorem slice_bounds (lo hi : Option Int) (n : Nat) : (sliceBounds lo hi none n).1 = ((HT.sIx n 0 lo : Nat) : Int) ∧ (sliceBounds lo hi none n).2.1 = ((HT.sIx n n hi : Nat) : Int) ∧ (sliceBounds lo hi none n).2.2 = 1 := by
  refine ⟨?_, ?_, rfl⟩
  · cases lo with
    | none => simp [sliceBounds, HT.sIx]
    | some i =>
      simp only [sliceBounds, HT.sIx, Option.getD_none, show (1 : Int) > 0 by decide, if_true]
      by_cases h : i < 0
      · simp only [h, if_true] <;> omega
      · simp only [h, if_false] <;> omega
  · cases hi with
    | none => simp [sliceBounds, HT.sIx]
    | some i =>
      simp only [sliceBounds, HT.sIx, Option.getD_none, show (1 : Int) > 0 by decide, if_true]
      by_cases h : i < 0
      · simp only [h, if_true] <;> omega
      · simp only [h, if_false] <;> omega
theorem slicePick_cut (its : List Value) (lo hi : Option Int) : slicePick its.toArray lo hi none = ((its.drop (HT.sIx its.length 0 lo)).take (HT.sIx its.length its.length hi - HT.sIx its.length 0 lo)).toArray := by
  obtain ⟨h1, h2, h3⟩ := slice_bounds lo hi its.toArray.size
  unfold slicePick
  rw [h1, h2, h3]
  simp only [sliceRange_one, pick_run, List.size_toArray] <;> rfl
/-- xs[lo:hi] of a list: a new list -/
def rSlL (K : PySem.W.Frag) : V → Option Int → Option Int → Hp → VK → Prop := fun x lo hi H Q => ∃ a xs, x = .ref a ∧ SqL K H a xs ∧ ∀ p, H p = none → Q (.ref p) (upd H p (.lst (cutV xs lo hi)))
theorem sl_list : SlR X (rSlL X.K) := by
  intro pins s σ H x v vl vu lo hi sl Q I rx hs pl pu h
  obtain ⟨a, xs, rfl, hx, q⟩ := h
  cases rx
  obtain ⟨its, r, ht, hz⟩ := I.list hx
  have hlen := r.length
  refine ⟨"list", _, slot_list_getitem.lookup, ht.isList.typeIs, ?_⟩
  refine wpAny_getItem_list_slice ht.isList hs pl pu .none (by simp) ?_ (by rw [List.size_toArray] <;> omega)
  rw [slicePick_cut, ← hlen]
  refine ⟨.ref s.heap.objs.size, _, I.laid (t' := s.toks) (o := .lst (cutV xs lo hi)) (fun b ob q => Heap.get?_push_of_some _ q) (Nat.le_refl _) ?_, rfl, q _ (I.hok.fresh (Nat.le_refl _))⟩
  exact ⟨Nat.le_trans (cutV_length xs lo hi) hz, _, 0, (r.drop (HT.sIx xs.length 0 lo)).take (HT.sIx xs.length xs.length hi - HT.sIx xs.length 0 lo), Heap.get?_push_size _ rfl⟩

/-! ### in, not in: flat items -/
def flatV : V → Bool
  | .non => true
  | .bl _ => true
  | .int _ => true
  | .str _ => true
  | _ => false
/-- == of flat values -/
def eqV : V → V → Bool
  | .non, .non => true
  | .bl a, .bl b => a == b
  | .bl a, .int b => (if a then 1 else 0) == b
  | .int a, .bl b => a == (if b then 1 else 0)
  | .int a, .int b => a == b
  | .str a, .str b => a == b
  | _, _ => false
theorem eqAt_V {A : Around} {s : Shared} {y x : V} {u v : Value} (ry : RelV y u) (rx : RelV x v) (fy : flatV y = true) (fx : flatV x = true) : SeqAt.EqAt A s u v (eqV y x) := by
  cases y with
  | non =>
    cases ry
    cases x with
    | non => cases rx; exact SeqAt.EqAt.same _
    | bl b => cases rx; exact SeqAt.EqAt.none_bool b
    | int b => obtain ⟨t, rfl⟩ := rx; exact SeqAt.EqAt.none_int b t
    | str b => obtain ⟨t, rfl⟩ := rx; exact SeqAt.EqAt.none_str b t
    | _ => exact absurd (show false = true from fx) Bool.false_ne_true
  | bl a =>
    cases ry
    cases x with
    | non => cases rx; exact SeqAt.EqAt.bool_none a
    | bl b => cases rx; exact SeqAt.EqAt.bool_bool a b
    | int b => obtain ⟨t, rfl⟩ := rx; exact SeqAt.EqAt.bool_int a b t
    | str b => obtain ⟨t, rfl⟩ := rx; exact SeqAt.EqAt.bool_str a b t
    | _ => exact absurd (show false = true from fx) Bool.false_ne_true
  | int a =>
    obtain ⟨t', rfl⟩ := ry
    cases x with
    | non => cases rx; exact SeqAt.EqAt.int_none a t'
    | bl b => cases rx; exact SeqAt.EqAt.int_bool a t' b
    | int b => obtain ⟨t, rfl⟩ := rx; exact SeqAt.EqAt.int_int a t' b t
    | str b => obtain ⟨t, rfl⟩ := rx; exact SeqAt.EqAt.int_str a t' b t
    | _ => exact absurd (show false = true from fx) Bool.false_ne_true
  | str a =>
    obtain ⟨t', rfl⟩ := ry
    cases x with
    | non => cases rx; exact SeqAt.EqAt.str_none a t'
    | bl b => cases rx; exact SeqAt.EqAt.str_bool a t' b
    | int b => obtain ⟨t, rfl⟩ := rx; exact SeqAt.EqAt.str_int a t' b t
    | str b => obtain ⟨t, rfl⟩ := rx; exact SeqAt.EqAt.str_str a t' b t
    | _ => exact absurd (show false = true from fx) Bool.false_ne_true
  | _ => exact absurd (show false = true from fy) Bool.false_ne_true
/-- the items' answers, read off the values (a value's own answer does not lean on its token) -/
def eqU (x : V) (u : Value) : Bool := match u with
  | .none => eqV .non x
  | .bool b => eqV (.bl b) x
  | .int i _ => eqV (.int i) x
  | .str z _ => eqV (.str z) x
  | _ => false
theorem eqU_of {x y : V} {u : Value} (r : RelV y u) (f : flatV y = true) : eqU x u = eqV y x := by
  cases y with
  | non => cases r; rfl
  | bl b => cases r; rfl
  | int i => obtain ⟨t, rfl⟩ := r; rfl
  | str z => obtain ⟨t, rfl⟩ := r; rfl
  | _ => exact absurd (show false = true from f) Bool.false_ne_true
theorem any_eqU {x : V} : ∀ {xs : List V} {us : List Value}, Vals xs us → xs.all flatV = true → us.any (eqU x) = xs.any fun y => eqV y x
  | _, _, .nil, _ => rfl
  | y :: xs, u :: us, .cons r t, f => by
    rw [List.all_cons, Bool.and_eq_true] at f
    rw [List.any_cons, List.any_cons, eqU_of r f.1, any_eqU t f.2]
theorem mem_eqAt {A : Around} {s : Shared} {x : V} {v : Value} (rx : RelV x v) (fx : flatV x = true) : ∀ {xs : List V} {us : List Value}, Vals xs us → xs.all flatV = true → ∀ u ∈ us, SeqAt.EqAt A s u v (eqU x u)
  | _, _, .nil, _ => fun u hu => by cases hu
  | y :: xs, u :: us, .cons r t, f => fun u' hu => by
    rw [List.all_cons, Bool.and_eq_true] at f
    rcases List.mem_cons.mp hu with rfl | hu
    · rw [eqU_of r f.1]; exact eqAt_V r rx f.1 fx
    · exact mem_eqAt rx fx t f.2 u' hu
def inV (x : V) (xs : List V) : Bool := xs.any fun y => eqV y x
/-- x in a list or tuple of flat items -/
def rIn (K : PySem.W.Frag) (neg : Bool) : R2 := fun x y H Q => ∃ p xs, y = .ref p ∧ (SqL K H p xs ∨ SqT K H p xs) ∧ flatV x = true ∧ xs.all flatV = true ∧ Q (.bl (if neg then !inV x xs else inV x xs)) H
theorem op_in_seq : OpR X (compareOp .In) (rIn X.K false) := by
  intro pins s σ H x y v u Q I rx ry h
  obtain ⟨p, xs, rfl, hq, fx, fs, q⟩ := h
  cases ry
  rcases hq with hq | hq
  · obtain ⟨its, r, pl, hz⟩ := I.list hq
    refine SeqAt.in_listAt (eqU x) pl.isList (fun w hw => mem_eqAt rx fx r fs w (by simpa using hw)) ⟨.bl _, H, I, rfl, ?_⟩
    rw [show its.toArray.any (eqU x) = its.any (eqU x) by simp, any_eqU r fs]
    exact q
  · obtain ⟨its, r, pl, hz⟩ := I.tuple hq
    refine SeqAt.in_tupleAt (eqU x) pl (fun w hw => mem_eqAt rx fx r fs w (by simpa using hw)) ⟨.bl _, H, I, rfl, ?_⟩
    rw [show its.toArray.any (eqU x) = its.any (eqU x) by simp, any_eqU r fs]
    exact q
theorem op_notIn_seq : OpR X (compareOp .NotIn) (rIn X.K true) := by
  intro pins s σ H x y v u Q I rx ry h
  obtain ⟨p, xs, rfl, hq, fx, fs, q⟩ := h
  cases ry
  rcases hq with hq | hq
  · obtain ⟨its, r, pl, hz⟩ := I.list hq
    refine SeqAt.notIn_listAt (eqU x) pl.isList (fun w hw => mem_eqAt rx fx r fs w (by simpa using hw)) ⟨.bl _, H, I, rfl, ?_⟩
    rw [show its.toArray.any (eqU x) = its.any (eqU x) by simp, any_eqU r fs]
    exact q
  · obtain ⟨its, r, pl, hz⟩ := I.tuple hq
    refine SeqAt.notIn_tupleAt (eqU x) pl (fun w hw => mem_eqAt rx fx r fs w (by simpa using hw)) ⟨.bl _, H, I, rfl, ?_⟩
    rw [show its.toArray.any (eqU x) = its.any (eqU x) by simp, any_eqU r fs]
    exact q
/-! ### len, list(x), tuple(x) of any list or tuple that is read -/
theorem call_len_seq : CallR X (.builtin "len") (fun xs H Q => ∃ p ys, xs = [.ref p] ∧ (SqL X.K H p ys ∨ SqT X.K H p ys) ∧ Q (.int ys.length) H) := by
  intro pins s σ H xs us Q I r h
  obtain ⟨p, ys, rfl, hq, q⟩ := h
  obtain ⟨u, rfl, rx⟩ := vals1 r
  cases rx
  have hn := line63
  rcases hq with hq | hq
  · obtain ⟨its, r', pl, hz⟩ := I.list hq
    have hlen := r'.length
    exact Calls.call_len_list pl.isList (by simp only [List.size_toArray] <;> omega) ⟨.int ys.length, H, I.tok _, ⟨s.toks + 1, by rw [List.size_toArray, hlen]⟩, q⟩
  · obtain ⟨its, r', pl, hz⟩ := I.tuple hq
    have hlen := r'.length
    exact len_tuple pl (by simp only [List.size_toArray] <;> omega) ⟨.int ys.length, H, I.tok _, ⟨s.toks + 1, by rw [List.size_toArray, hlen]⟩, q⟩
theorem call_list_of : CallR X (.type "list") (fun xs H Q => ∃ p ys, xs = [.ref p] ∧ (SqL X.K H p ys ∨ SqT X.K H p ys) ∧ ∀ l, H l = none → Q (.ref l) (upd H l (.lst ys))) := by
  intro pins s σ H xs us Q I r h
  obtain ⟨p, ys, rfl, hq, q⟩ := h
  obtain ⟨u, rfl, rx⟩ := vals1 r
  cases rx
  have fin : ∀ (its : List Value), Vals ys its → ys.length ≤ sizeLine → ∀ (h' : Heap) (c' : Nat), (∀ b o', s.heap.get? b = some o' → h'.get? b = some o') →
      h'.get? s.heap.objs.size = some { cls := .type "list", dict := none, data := .seq its.toArray c', slots := #[] } → EP X pins σ Q (.ref s.heap.objs.size) { s with heap := h' } := fun its r' hz h' c' kp e =>
    ⟨.ref s.heap.objs.size, _, I.laid (t' := s.toks) kp (Nat.le_refl _) (show ObjOk X.prog X.w _ h' _ (.lst ys) from ⟨hz, its, c', r', e⟩), rfl, q _ (I.hok.fresh (Nat.le_refl _))⟩
  rcases hq with hq | hq
  · obtain ⟨its, r', pl, hz⟩ := I.list hq
    have hlen := r'.length
    obtain ⟨o, ho, hc, n, hd⟩ := pl.isList
    exact call_list_seq p (.inl rfl) ho hc hd (fun h' c' kp e => fin its r' hz h' c' kp e) (by simp only [List.size_toArray] <;> omega)
  · obtain ⟨its, r', pl, hz⟩ := I.tuple hq
    have hlen := r'.length
    obtain ⟨o, ho, hc, n, hd⟩ := pl
    exact call_list_seq p (.inr rfl) ho hc hd (fun h' c' kp e => fin its r' hz h' c' kp e) (by simp only [List.size_toArray] <;> omega)
theorem call_tuple_of : CallR X (.type "tuple") (fun xs H Q => ∃ p ys, xs = [.ref p] ∧ ((SqL X.K H p ys ∧ ∀ l, H l = none → Q (.ref l) (upd H l (.tup ys))) ∨ (SqT X.K H p ys ∧ Q (.ref p) H))) := by
  intro pins s σ H xs us Q I r h
  obtain ⟨p, ys, rfl, h⟩ := h
  obtain ⟨u, rfl, rx⟩ := vals1 r
  cases rx
  rcases h with ⟨hq, q⟩ | ⟨hq, q⟩
  · obtain ⟨its, r', pl, hz⟩ := I.list hq
    have hlen := r'.length
    refine call_tuple_list pl.isList (fun h' kp => ?_) (by simp only [List.size_toArray] <;> omega)
    have I1 : Inv X pins σ H { s with heap := h' } := I.kept (t' := s.toks) kp
    have I2 : Inv X pins σ (upd H h'.objs.size (.tup ys)) { s with heap := h'.push { cls := .type "tuple", data := .seq its.toArray } } :=
      I1.laid (t' := s.toks) (fun b o e => Heap.get?_push_of_some _ e) (Nat.le_refl _) (show ObjOk X.prog X.w _ _ _ (.tup ys) from ⟨hz, its, r', IsTup.new _ _⟩)
    exact ⟨.ref h'.objs.size, _, I2, rfl, q _ (I1.hok.fresh (Nat.le_refl _))⟩
  · obtain ⟨its, r', pl, hz⟩ := I.tuple hq
    exact call_tuple_same pl ⟨.ref p, H, I, rfl, q⟩

/-! ### the call of a builtin's method: o.m(..) -/
/-- the value is of that builtin type -/
def tyV (K : PySem.W.Frag) (T : String) (x : V) (H : Hp) : Prop := match x with
  | .str _ => T = "str"
  | .int _ => T = "int"
  | .ref p => (T = "list" ∧ ∃ xs, SqL K H p xs) ∨ (T = "tuple" ∧ ∃ o, K.lookup p = some o ∧ o.cls = .type "tuple" ∧ o.dict = none) ∨
      (T = "dict" ∧ ((∃ kvs, H p = some (.dK kvs)) ∨ ∃ kvs, H p = some (.dT kvs))) ∨ (T = "set" ∧ ∃ S n, H p = some (.set S n))
  | _ => False
theorem tyV_is {pins : List (Addr × Obj)} {σ : St} {H : Hp} {s : Shared} {T : String} {x : V} {v : Value} (I : Inv X pins σ H s) (r : RelV x v) (ty : tyV X.K T x H) :
    s.TypeIs v T ∧ ∀ a, v = .ref a → ∃ ob, s.heap.get? a = some ob ∧ ob.dict = none := by
  cases x with
  | str z =>
    obtain ⟨t, rfl⟩ := r
    cases (show T = "str" from ty)
    exact ⟨typeIs_str s z t, fun _ e => nomatch e⟩
  | int i =>
    obtain ⟨t, rfl⟩ := r
    cases (show T = "int" from ty)
    exact ⟨typeIs_int s i t, fun _ e => nomatch e⟩
  | ref p =>
    cases r
    rcases ty with ⟨rfl, xs, hq⟩ | ⟨rfl, o, hk, hc, hd⟩ | ⟨rfl, hk⟩ | ⟨rfl, S, n, hk⟩
    · obtain ⟨its, _, pl, _⟩ := I.list hq
      refine ⟨pl.isList.typeIs, fun a e => ?_⟩
      cases e
      obtain ⟨o, n, e, c, hd, _⟩ := pl
      exact ⟨o, e, hd⟩
    · refine ⟨⟨o, I.kIn p o hk, hc⟩, fun a e => ?_⟩
      cases e
      exact ⟨o, I.kIn _ o hk, hd⟩
    · have z : ∃ o, s.heap.get? p = some o ∧ o.ExactDict := by
        rcases hk with ⟨kvs, hk⟩ | ⟨kvs, hk⟩
        · obtain ⟨_, _, _, _, o, _, _, e, ex, _⟩ := I.hok p _ hk
          exact ⟨o, e, ex⟩
        · obtain ⟨_, _, _, _, o, _, _, e, ex, _⟩ := I.hok p _ hk
          exact ⟨o, e, ex⟩
      obtain ⟨o, e, ex⟩ := z
      refine ⟨⟨o, e, ex.1⟩, fun a e2 => ?_⟩
      cases e2
      exact ⟨o, e, ex.2.1⟩
    · obtain ⟨o, _, _, _, e, ex, _⟩ := I.hok p _ hk
      refine ⟨⟨o, e, ex.1⟩, fun a e2 => ?_⟩
      cases e2
      exact ⟨o, e, ex.2.1⟩
  | _ => exact False.elim ty
def tBM (K : PySem.W.Frag) (T : String) (r : V → List V → Hp → VK → Prop) (to : TE) (t : TA) : TE := fun σ H Q => to σ H fun x H1 => tyV K T x H1 ∧ t σ H1 fun xs H2 => r x xs H2 Q
variable {o e : Expr} {es : List Expr} {to : TE} {t : TA} {name : Str} {apos cpos : Pos} {T id : String} {r : V → List V → Hp → VK → Prop}
theorem pe_bm (pa : PlainAttrs T) (slot : Slot T name id) (hty : typeOf (.builtin id) = pure (.type "method_descriptor")) (hm : MtR X id r) (ho : PE X o to) (ha : PA X (e :: es) t)
    (hbase : attributeBase o name X.env (eval o X.env) = eval o X.env := by rfl)
    (hfew : ((backTo cpos (starEach (e :: es) X.env)).all (fun x => !x.1) && (backToKw cpos (keywordEach [] X.env)).all (fun x => x.1.isSome)
      && decide ((e :: es).length + ([] : List Keyword).length + (if ([] : List Keyword).isEmpty then 0 else 1) < 30)) = true := by rfl)
    (hline : (apos.endLine == cpos.line) = true := by rfl) (hs : starEach (e :: es) X.env = (false, eval e X.env) :: starEach es X.env := by rfl) (hplain : (backTo cpos (starEach es X.env)).any (·.1) = false := by rfl) :
    PE X (.Call (.Attribute o name apos) (e :: es) [] cpos) (tBM X.K T r to t) := by
  intro pins s σ H Q I h
  refine wpAny_Call_method_late hbase hfew hline rfl (thn (ho pins s σ H _ I h) fun v s1 ⟨x, H1, I1, r1, ty, q1⟩ => ?_)
  obtain ⟨h1, h2⟩ := tyV_is I1 r1 ty
  refine ⟨T, id, pa, slot, hty, h1, h2, ?_⟩
  have hA := ha cpos pins s1 σ H1 _ I1 q1
  rw [hs] at hA ⊢
  refine Calls.callWith_builtin (by show (false || (backTo cpos (starEach es X.env)).any (·.1)) = false; rw [hplain] <;> rfl) (Calls.evalArgs_plain ?_)
  exact thn hA fun us s2 ⟨vs, H2, I2, r2, q2⟩ => hm pins s2 σ H2 x vs v us Q I2 r1 r2 q2
/- xs.append(e), list.index on a module's tuple .. are MtR facts of 06m -/
end
end L2

namespace L2
open PySem PySem.Spec PyProof.Rows

def MtM (X : Cx) (id : String) (r : V → List V → Hp → VK → Prop) : Prop :=
  ∀ (pins : List (Addr × Obj)) (s : Shared) (σ : St) (H : Hp) (x : V) (xs : List V) (v : Value) (us : List Value) (Q : VK), Inv X pins σ H s → RelV x v → Vals xs us → r x xs H Q →
    wpAny (model X.prog X.w) X.A (call (.builtin id) (v :: us)) (EP X pins σ Q) X.xe s

/-! ### lists of values -/
theorem Vals.one : ∀ {x : V} {us : List Value}, Vals [x] us → ∃ u, us = [u] ∧ RelV x u
  | _, _, .cons r .nil => ⟨_, rfl, r⟩
theorem Vals.eraseIdx : ∀ {xs : List V} {us : List Value} (i : Nat), Vals xs us → Vals (xs.eraseIdx i) (us.eraseIdx i)
  | _, _, _, .nil => .nil
  | _, _, 0, .cons _ t => t
  | _, _, i + 1, .cons r t => .cons r (Vals.eraseIdx i t)
theorem Vals.rep {xs : List V} {us : List Value} (h : Vals xs us) : ∀ k : Nat, Vals (List.replicate k xs).flatten (List.replicate k us).flatten
  | 0 => .nil
  | k + 1 => by
    rw [List.replicate_succ, List.replicate_succ, List.flatten_cons, List.flatten_cons]
    exact Vals.append h (Vals.rep h k)
theorem len_erase {α : Type} : ∀ (l : List α) (i : Nat), (l.eraseIdx i).length ≤ l.length
  | [], _ => Nat.le_refl _
  | _ :: _, 0 => Nat.le_succ _
  | _ :: r, i + 1 => Nat.succ_le_succ (len_erase r i)
theorem foldl_rep (its : List Value) : ∀ (k : Nat) (acc : List Value),
    List.foldl (fun x1 x2 => x1 ++ x2) acc.toArray (List.replicate k its.toArray) = (acc ++ (List.replicate k its).flatten).toArray
  | 0, acc => by simp
  | k + 1, acc => by
    have e : acc.toArray ++ its.toArray = (acc ++ its).toArray := by simp
    have e2 : (acc ++ its) ++ (List.replicate k its).flatten = acc ++ (List.replicate (k + 1) its).flatten := by
      rw [List.replicate_succ, List.flatten_cons, List.append_assoc]
    rw [← e2, ← foldl_rep its k (acc ++ its), ← e, List.replicate_succ, List.foldl_cons]

section
variable {X : Cx} {pins : List (Addr × Obj)} {σ : St} {H : Hp} {s : Shared} {l b : Addr} {xs ys zs : List V}

/-! ### the two steps: a tracked list is rewritten, a new list is laid -/
theorem Inv.lset {its its' : List Value} {n : Nat} {f : Array Value → Array Value} {t' : Nat} (I : Inv X pins σ H s) (hH : H l = some (.lst xs))
    (e : s.heap.get? l = some { cls := .type "list", data := .seq its.toArray n }) (hf : f its.toArray = its'.toArray) (hv : Vals ys its') (hz : ys.length ≤ sizeLine) :
    Inv X pins σ (upd H l (.lst ys)) { s with heap := s.heap.update l (Obj.mapSeq f), toks := t' } := by
  have q := PySem.IsL.update e f
  rw [hf] at q
  refine I.write (x := l) (e := l) (by rw [hH]; exact trivial) (.inl rfl) (fun b' u hb hu => (Heap.get?_update_other s.heap (Obj.mapSeq f) (Ne.symm hb)).trans hu) ⟨_, q⟩ ?_
  exact ⟨hz, its', _, hv, q⟩
theorem Inv.lnew {its : List Value} {t' : Nat} (I : Inv X pins σ H s) (hv : Vals ys its) (hz : ys.length ≤ sizeLine) :
    Inv X pins σ (upd H s.heap.objs.size (.lst ys)) { s with heap := s.heap.push { cls := .type "list", data := .seq its.toArray }, toks := t' } :=
  I.laid (fun _ _ q => Heap.get?_push_of_some _ q) (Nat.le_refl _) ⟨hz, its, 0, hv, Heap.get?_push_size _ rfl⟩
theorem Inv.fresh (I : Inv X pins σ H s) : H s.heap.objs.size = none := I.hok.fresh (Nat.le_refl _)
theorem Inv.lstM (I : Inv X pins σ H s) (hH : H l = some (.lst xs)) : xs.length ≤ sizeLine ∧ ∃ (its : List Value) (n : Nat), Vals xs its ∧ xs.length = its.length ∧ s.heap.get? l = some { cls := .type "list", data := .seq its.toArray n } := by
  obtain ⟨z, its, n, r, e⟩ := I.hok l _ hH
  exact ⟨z, its, n, r, r.length, e⟩

theorem notLongL {n : Nat} (h : n ≤ sizeLine) : Builtin.List.listTooLong n = false := by
  unfold Builtin.List.listTooLong
  exact decide_eq_false (by omega)
end

section
variable {X : Cx}

/-! ### methods -/
def rAppend : V → List V → Hp → VK → Prop := fun x vs H Q => ∃ l xs y, x = .ref l ∧ vs = [y] ∧ H l = some (.lst xs) ∧ xs.length < sizeLine ∧ Q .non (upd H l (.lst (xs ++ [y])))
theorem mt_append : MtM X "list.append" rAppend := by
  intro pins s σ H x vs v us Q I rx rv h
  obtain ⟨l, xs, y, rfl, rfl, hH, hz, q⟩ := h
  cases rx
  obtain ⟨u, rfl, ru⟩ := rv.one
  obtain ⟨z, its, n, r, hl, e⟩ := I.lstM hH
  refine call_meets F.slot_list_append ⟨_, e, rfl⟩ F.entry_list_append (F.args_list_append_2 _ _) (PySem.list_append l its.toArray n u (by rw [List.size_toArray]; omega)) ⟨e, ?_⟩
  refine ⟨.non, _, I.lset (its' := its ++ [u]) hH e (by simp) (r.append (.cons ru .nil)) ?_, rfl, q⟩
  rw [List.length_append, List.length_singleton]
  omega

def rPopAt : V → List V → Hp → VK → Prop := fun x vs H Q => ∃ l xs i k y, x = .ref l ∧ vs = [.int i] ∧ H l = some (.lst xs) ∧ -(2 ^ 63) ≤ i ∧ i < 2 ^ 63 ∧ seqIndex? i xs.length = some k ∧ xs[k]? = some y ∧ Q y (upd H l (.lst (xs.eraseIdx k)))
theorem mt_popAt : MtM X "list.pop" rPopAt := by
  intro pins s σ H x vs v us Q I rx rv h
  obtain ⟨l, xs, i, k, y, rfl, rfl, hH, h1, h2, hk, hy, q⟩ := h
  cases rx
  obtain ⟨u, rfl, ru⟩ := rv.one
  obtain ⟨t, rfl⟩ := ru
  obtain ⟨z, its, n, r, hl, e⟩ := I.lstM hH
  obtain ⟨w, hw, rw'⟩ := r.get hy
  refine call_meets F.slot_list_pop ⟨_, e, rfl⟩ F.entry_list_pop (F.args_list_pop_2 _ _)
    (MeetsSeq.list_pop_at l its.toArray n i t k w (fitsIndex_both h1 h2) (by rw [List.size_toArray, ← hl]; exact hk) (by rw [← Array.getElem?_toList]; exact hw) (by rw [List.size_toArray]; omega)) ⟨e, ?_⟩
  refine ⟨y, _, I.lset (its' := its.eraseIdx k) hH e ?_ (r.eraseIdx k) ?_, rw', q⟩
  · show its.toArray.eraseIdxIfInBounds k = (its.eraseIdx k).toArray
    rw [List.eraseIdxIfInBounds_toArray]
  · have := len_erase xs k
    omega

/-! ### list + list, list += list, list * int -/
def rCat : R2 := fun x y H Q => ∃ l b xs zs, x = .ref l ∧ y = .ref b ∧ H l = some (.lst xs) ∧ H b = some (.lst zs) ∧ xs.length + zs.length ≤ sizeLine ∧ ∀ p, H p = none → Q (.ref p) (upd H p (.lst (xs ++ zs)))
theorem op_cat : OpR X (binaryOp .Add) rCat := by
  intro pins s σ H x y v u Q I rx ry h
  obtain ⟨l, b, xs, zs, rfl, rfl, hH, hB, hz, q⟩ := h
  cases rx
  cases ry
  obtain ⟨z, its, n, r, hl, e⟩ := I.lstM hH
  obtain ⟨z2, its2, n2, r2, hl2, e2⟩ := I.lstM hB
  refine PySem.P.add_list e e2 ?_ (by rw [List.size_toArray, List.size_toArray]; omega)
  have ea : its.toArray ++ its2.toArray = (its ++ its2).toArray := by simp
  rw [ea]
  exact ⟨.ref _, _, I.lnew (t' := s.toks) (r.append r2) (by rw [List.length_append]; omega), rfl, q _ I.fresh⟩
/-- a list times an int (a negative one is nothing) -/
def rRep : R2 := fun x y H Q => ∃ l k xs, x = .ref l ∧ y = .int k ∧ H l = some (.lst xs) ∧ -(2 ^ 63) ≤ k ∧ k < 2 ^ 63 ∧ xs.length * k.toNat ≤ sizeLine ∧
  ∀ p, H p = none → Q (.ref p) (upd H p (.lst (List.replicate k.toNat xs).flatten))
theorem len_rep {α : Type} (xs : List α) (k : Nat) : (List.replicate k xs).flatten.length = k * xs.length := by
  induction k with
  | zero => simp
  | succ k ih => rw [List.replicate_succ, List.flatten_cons, List.length_append, ih, Nat.succ_mul, Nat.add_comm]
theorem op_rep : OpR X (binaryOp .Mult) rRep := by
  intro pins s σ H x y v u Q I rx ry h
  obtain ⟨l, k, xs, rfl, rfl, hH, h1, h2, hz, q⟩ := h
  cases rx
  obtain ⟨t, rfl⟩ := ry
  obtain ⟨z, its, n, r, hl, e⟩ := I.lstM hH
  have hlen : its.toArray.size * k.toNat ≤ sizeLine := by rw [List.size_toArray, ← hl]; exact hz
  have hcap : ¬ its.toArray.size * k.toNat > (2 ^ 63 - 1) / 8 := by
    have : (sizeLine : Nat) ≤ (2 ^ 63 - 1) / 8 := by decide
    omega
  have hfit : ¬ (!Builtin.List.listFitsIndex k) = true := by
    rw [fitsIndex_both h1 h2]
    exact Bool.false_ne_true
  have hlong : ¬ Builtin.List.listTooLong (its.toArray.size * k.toNat) = true := by
    rw [notLongL hlen]
    exact Bool.false_ne_true
  have hnew : List.foldl (fun x1 x2 => x1 ++ x2) #[] (List.replicate (if its.toArray.isEmpty = true then 0 else k.toNat) its.toArray) = (List.replicate k.toNat its).flatten.toArray := by
    have f0 : ∀ m : Nat, List.foldl (fun x1 x2 => x1 ++ x2) #[] (List.replicate m its.toArray) = (List.replicate m its).flatten.toArray := fun m => by
      have := foldl_rep its m []
      rw [List.nil_append] at this
      exact this
    rw [f0]
    cases its with
    | nil => simp
    | cons a r' => rw [if_neg (by simp)]
  refine wpAny_binaryOp_repeat_ref (T := "list") (U := "int") (by decide) ⟨_, e, rfl⟩ (fun s' => typeIs_int s' k t) noFill_list_mul F.fills_int_mul F.slot_int_rmul repeat_list F.slot_int_index.lookup
    (call_meets F.slot_int_rmul (typeIs_int s k t) F.entry_int_rmul (F.args_int_rmul_2 _ _) (int___rmul___int_list k t l its.toArray n)
      ⟨e, rfl, ⟨_, e, rfl⟩, call_meets F.slot_list_mul ⟨_, e, rfl⟩ F.entry_list_mul (F.args_list_mul_2 _ _) (AutoListH.list___mul___list_int_3 l its.toArray n k t hfit hcap hlong) ⟨e, ?_⟩⟩)
  rw [hnew]
  exact ⟨.ref _, _, I.lnew (t' := s.toks) (r.rep k.toNat) (by rw [len_rep, Nat.mul_comm]; exact hz), rfl, q _ I.fresh⟩

/-! ### del xs[i] -/
end

/-! ### xs[a:b] = ys -/
section
variable {prog : Program} {w : World} {A : Around} {E : Value → Shared → Prop} {s : Shared}
end

section
variable {X : Cx}
end
end L2

namespace L2
open PySem PySem.Spec PyProof.Rows

/-! ### lists of pairs as tables -/
section
variable {κ : Type} [DecidableEq κ]
theorem RelO.getD {o : Option V} {u : Option Value} {d : V} {d' : Value} (r : RelO o u) (rd : RelV d d') : RelV (o.getD d) (u.getD d') := by
  cases o with
  | none => cases u with
    | none => exact rd
    | some _ => exact (show False from r).elim
  | some _ => cases u with
    | none => exact (show False from r).elim
    | some _ => exact r

theorem KV.any {kvs : List (κ × V)} {vs : List (κ × Value)} (r : KV kvs vs) (k : κ) : (kvs.any fun kv => decide (kv.1 = k)) = vs.any fun kv => decide (kv.1 = k) := by
  unfold KV at r
  induction r with
  | nil => rfl
  | cons h t ih => rw [List.any_cons, List.any_cons, ih, h.1]
theorem KV.length {kvs : List (κ × V)} {vs : List (κ × Value)} (r : KV kvs vs) : kvs.length = vs.length := Paired.length r
end


/-! ### a tracked dict, its keys ints and texts or tuples of these -/
section
variable {P : Program} {w : World} {H : Hp} {h : Heap} {a : Addr}
end

section
variable {X : Cx} {pins : List (Addr × Obj)} {σ : St} {H : Hp} {s : Shared} {a : Addr} {y v : V} {u r : Value} {o : Option V} {A : Around} {E : Value → Shared → Prop}

end

section
variable {X : Cx} {pins : List (Addr × Obj)} {σ : St} {H : Hp} {s : Shared} {a : Addr} {kvs : List (Key × V)} {k : Key} {u : Value} {A : Around} {E : Value → Shared → Prop}
end


/-! ### readings and rules -/
section
variable {X : Cx} {o i e value : Expr} {pos pos' tpos : Pos} {td ty tv : TE}
end


/-! ### displays -/
section
variable {X : Cx} {pos : Pos}
end

/-! ### methods -/
/-- a method call o.m(e) of a built-in, with one argument: what must be seen of the text -/
structure M1 (X : Cx) (o : Expr) (m : Str) (apos : Pos) (e : Expr) (cpos : Pos) : Prop where
  base : attributeBase o m X.env (eval o X.env) = eval o X.env
  few : ((backTo cpos (starEach [e] X.env)).all (fun x => !x.1) && (backToKw cpos (keywordEach [] X.env)).all (fun x => x.1.isSome)
    && decide (([e] : List Expr).length + ([] : List Keyword).length + (if ([] : List Keyword).isEmpty then 0 else 1) < 30)) = true
  line : (apos.endLine == cpos.line) = true
  trees : backTo cpos (starEach [e] X.env) = [(false, eval e X.env)]
structure M2 (X : Cx) (o : Expr) (m : Str) (apos : Pos) (e f : Expr) (cpos : Pos) : Prop where
  base : attributeBase o m X.env (eval o X.env) = eval o X.env
  few : ((backTo cpos (starEach [e, f] X.env)).all (fun x => !x.1) && (backToKw cpos (keywordEach [] X.env)).all (fun x => x.1.isSome)
    && decide (([e, f] : List Expr).length + ([] : List Keyword).length + (if ([] : List Keyword).isEmpty then 0 else 1) < 30)) = true
  line : (apos.endLine == cpos.line) = true
  trees : backTo cpos (starEach [e, f] X.env) = [(false, eval e X.env), (false, eval f X.env)]

section
variable {X : Cx} {pins : List (Addr × Obj)} {σ : St} {H : Hp} {s : Shared} {a : Addr} {y d : V} {u r : Value} {o : Option V} {A : Around} {E : Value → Shared → Prop}
end

section
variable {X : Cx} {o e f : Expr} {apos cpos : Pos} {td ty tx : TE}
end

/-! ### dict(d): a copy -/
section
variable {X : Cx} {pins : List (Addr × Obj)} {σ : St} {H : Hp} {s : Shared} {a : Addr} {kvs : List (Key × V)} {A : Around} {E : Value → Shared → Prop}
end


section
variable {X : Cx} {pins : List (Addr × Obj)} {σ : St} {H : Hp} {s : Shared} {a : Addr} {y : V} {u : Value} {A : Around} {E : Value → Shared → Prop}
end
end L2


namespace Att
open PySem PySem.W PySem.Calls PyProof.Rows

/-! ### the script -/
theorem ints_of_wellAll {P : Params} {h : Heap} : ∀ (ns : List Int) (vs : List Value), WellAll P h vs (ns.map WData.int) → IntsAre vs ns := by
  intro ns
  induction ns with
  | nil =>
    intro vs w
    rw [List.map_nil] at w
    cases w
    exact .nil
  | cons n ns ih =>
    intro vs w
    rw [List.map_cons] at w
    cases w with
    | cons a b =>
      cases a
      exact .cons _ _ (ih _ b)

theorem script_of {l : OpenLaw} {n : Nat} (hn : l.most = some n) {P : Params} {h : Heap} {args : List WData} {vals : List Value}
    (hpre : l.row.toRowW.claim.pre args = true) (hwl : WellAll P h vals args) :
    ∃ a vs ns, vals = [Value.ref a] ∧ args = [WData.list (ns.map WData.int)] ∧ h.get? a = some { cls := .type "list", data := .seq vs.toArray } ∧ IntsAre vs ns ∧ ns.length ≤ n := by
  have hsh : WShape.hasAll [] args [.list .int] = true := (pre_splitW hpre).1
  have hc : l.pre.holds [] { args := args } = true := (pre_splitW hpre).2
  obtain ⟨d, r, rfl, h1, h2⟩ := hasAllW_cons hsh
  obtain rfl := hasAllW_nil h2
  obtain ⟨xs, rfl, h3⟩ := hasW_list h1
  obtain ⟨ns, rfl⟩ := items_int h3
  have hlen : ns.length ≤ n := by
    unfold OpenLaw.pre at hc
    have h4 : (WTm.not (.lt (.lit (.int (n : Int))) (.len (.arg 0)))).holds [] { args := [.list (ns.map .int)] } = true := by
      have h4 := (holds_andW hc).1
      rw [hn] at h4
      exact h4
    have h5 := condW_of h4 (w_not (w_lt w_lit (w_len_list (w_arg rfl))))
    rw [List.length_map] at h5
    refine Nat.le_of_not_lt fun q => ?_
    have q' : (n : Int) < ((ns.length : Nat) : Int) := by omega
    first
      | (rw [decide_eq_true q'] at h5; exact absurd h5 (by decide))
      | (simp at h5; omega)
  cases hwl with
  | cons w1 w2 =>
    cases w2
    cases w1 with
    | list ho hall => exact ⟨_, _, ns, rfl, rfl, ho, ints_of_wellAll ns _ hall, hlen⟩

theorem post_true (l : OpenLaw) (args : List WData) : l.row.toRowW.claim.post args (.bool true) args = true :=
  postW_of (r := l.row.toRowW) (X := (true == true))
    (show WShape.has [] (.bool true) .bool = true by first | rfl | decide | simp [WShape.has, WShape.arms, WShape.armsAll])
    (show (WTm.eq .res (.lit (.bool true))).value [] { args := args, res := some (.bool true), after := args } = some (.bool (true == true)) from w_eq_bool (w_res rfl) w_lit) rfl

/-! ### the attachment: holds_open's last premise (the goal 'hc' behind k_head) from a wpAny of the law's body -/
/-- the same from a codeAny of the CALL (for a layer whose function contracts speak of calls) -/
theorem attach_call {l : OpenLaw} {n : Nat} {q : Program} {loose : List Str} {XP : (Str → Option Value) → Heap → Prop} {YP : World → Heap → Prop} {d : DefRec}
    (hn : l.most = some n) (hdf : d.params.defaults = [])
    (call : ∀ (w : World) (s₀ s₁ : Shared) (mg mb : Str → Option Value) (fa : Addr) (o : Obj) (pm cd doc : Value) (a : Addr) (vs : List Value) (ns : List Int),
      Ground q loose [] XP w s₀ mg mb s₁.heap → YP w s₁.heap →
      s₁.heap.get? fa = some o → o.data = .func (docDef d.name d.params d.body d.scope pm cd doc) → s₁.heap.CodeRec cd d.name → mg d.name = some (.ref fa) →
      s₁.heap.get? a = some { cls := .type "list", data := .seq vs.toArray } → IntsAre vs ns → ns.length ≤ n → s₁.gens = #[] →
      codeAny (model l.prog w) callerA (.call (.ref fa) ⟨[.ref a], []⟩) (fun r s' => r = .ok (.ret (.bool true)) ∧ OldK s₁.heap s'.heap ∧ s'.os = s₁.os ∧ AllBare s'.gens) s₁) :
    WalkO q loose XP YP l.row.toRowW d [] (fun f vs => PySem.call f vs) := by
  intro w s₀ s₁ mg mb G Y fa o pm cd doc dV kV ho hd hcd hD hmg hg args vals as hpre hlay hrd hwl hlo
  obtain rfl : dV = .none := Dflts.none hD hdf
  obtain rfl : kV = .none := Dflts.noKw hD
  obtain ⟨a, vs, ns, rfl, rfl, hobj, hints, hlen⟩ := script_of hn hpre hwl
  refine enter_call (codeAny_mono (call w s₀ s₁ mg mb fa o pm cd doc a vs ns G Y ho (fd_plain hd) hcd hmg hobj hints hlen hg) fun r s' hq => ?_)
  obtain ⟨rfl, h2, h3, h4⟩ := hq
  exact ⟨.inl ⟨.bool true, .bool true, [], rfl, fun _ => rfl, .bool true, post_true l _, fun _ => ⟨List.Pairwise.nil, fun _ hm => (nomatch hm)⟩⟩, h2, h3, h4⟩

/-! ### rules over ANY heap (no ledger) from facts about the written part K: the library's own take a ledger (News) for what they write -/
section
variable {prog : Program} {w : World} {A : Around} {E : Value → Shared → Prop} {s : Shared} {K : Frag}

/-! the whole heap as the ledger: makes every rule that writes through a ledger a rule over any heap -/
def ledger (h : Heap) (L d : Addr) : List (Addr × Obj) := (List.range h.objs.size).filterMap fun a => if a = L ∨ a = d then none else (h.get? a).map fun o => (a, o)
end
end Att

namespace L2
open PySem PySem.Spec PyProof.Rows

theorem vals_ints : ∀ {vs : List Value} {ns : List Int}, IntsAre vs ns → Vals (ns.map V.int) vs
  | _, _, .nil => .nil
  | _, _, .cons n t h => .cons ⟨t, rfl⟩ (vals_ints h)

/-- nothing is tracked but the script, known to the object (or it is an object of the module) -/
def Only (H : Hp) : Prop := ∀ b, H b = none ∨ ∃ o xs, H b = some (.frz o (.lst xs))

/-- THE HEAD: the law's promise, at the heap behind the top. F, the promise of the law's def, may use that base is part of the heap (so K.In base, base.Ns mainGlobals mg stand in Mod) -/
theorem law_call {P : Program} {w : World} {K : PySem.W.Frag} {mg mb : Str → Option Value} {CX : CXT} {k : Nat} {fa a : Addr} {fd : FuncData} {x : Str} {sp : Sp} {s₁ : Shared} {vs : List Value} {ns : List Int}
    (KX : K.In s₁.heap) (hns : s₁.heap.Ns mainGlobals mg) (hb : s₁.heap.Ns builtinsNs mb) (hbb : ∀ x : Str, x ≠ "__name__" → mb x = bootBuiltins x) (hlim : s₁.heap.NoLimit) (hg : s₁.gens = #[])
    (ha : s₁.heap.get? a = some { cls := .type "list", data := .seq vs.toArray }) (hi : IntsAre vs ns) (hl : ns.length ≤ sizeLine) (hr : Room k callerA)
    (F : ∀ base : Heap, K.In base → base.Ns mainGlobals mg → FnOk P w K mg base CX k fa fd [x] sp) (hbind : ∀ (s : Shared) (u : Value), BindsTo s fd ⟨[u], []⟩ [(x, u)])
    (hsp : ∀ H : Hp, Only H → SqL K H a (ns.map V.int) → sp [.ref a] H (fun v _ => v = .bl true) fun _ _ _ => False)
    (hCX : ∀ H e s', CX [] H s₁ (fun _ _ _ => False) e s' → False) :
    codeAny (model P w) callerA (.call (.ref fa) ⟨[.ref a], []⟩) (fun r s' => r = .ok (.ret (.bool true)) ∧ OldK s₁.heap s'.heap ∧ s'.os = s₁.os ∧ AllBare s'.gens) s₁ := by
  have rv := vals_ints hi
  have lenV := hi.length
  -- from an abstract heap in which nothing but the script may be tracked
  have core : ∀ H : Hp, Only H → SqL K H a (ns.map V.int) → HOk P w H s₁.heap → (∀ b, H b ≠ none → b = a) → (H a ≠ none → K.lookup a = none) →
      codeAny (model P w) callerA (.call (.ref fa) ⟨[.ref a], []⟩) (fun r s' => r = .ok (.ret (.bool true)) ∧ OldK s₁.heap s'.heap ∧ s'.os = s₁.os ∧ AllBare s'.gens) s₁ := by
    intro H hO hS hok hA hK
    have base_of : ∀ {b : Addr} {o : Obj}, s₁.heap.get? b = some o → H b = none → (hidT s₁.heap H).get? b = some o := fun e n => hidT_get e n
    have noA : ∀ {b : Addr} {o : Obj} {es : Array DictEntry} {ep : Nat}, s₁.heap.get? b = some o → o.data = .dict es ep → H b = none := fun {b o es ep} e d => by
      cases q : H b with
      | none => rfl
      | some u =>
        have e' : b = a := hA b (by rw [q]; simp)
        subst e'
        rw [ha] at e; cases e
        have d' : Data.seq vs.toArray _ = Data.dict es ep := d
        cases d'
    have nsK : ∀ {b : Addr} {m : Str → Option Value}, s₁.heap.Ns b m → (hidT s₁.heap H).Ns b m := fun {b m} ⟨o, es, ep, e, d, r⟩ => ⟨o, es, ep, base_of e (noA e d), d, r⟩
    have hKb : K.In (hidT s₁.heap H) := fun b o e => base_of (KX b o e) (by
      cases q : H b with
      | none => rfl
      | some u =>
        have e' : b = a := hA b (by rw [q]; simp)
        subst e'
        rw [hK (by rw [q]; simp)] at e; cases e)
    have hM : Mod K mg (hidT s₁.heap H) := ⟨hKb, nsK hns, ⟨mb, nsK hb, hbb⟩, let ⟨mc, h1, h2⟩ := hlim; ⟨mc, nsK h1, h2⟩⟩
    have e0 : Env0 P w K mg (hidT s₁.heap H) callerA [] s₁ H := ⟨rfl, hM, fun b o e => of_hidT e, Nat.le_of_eq (hidT_size _ _), trivial, fun b hb => absurd (show b ∈ ([] : List Addr) from hb) (by simp), hok, .of_eq hg⟩
    refine codeAny_mono ((F _ hKb (nsK hns)).run callerA [] s₁ H ⟨[.ref a], []⟩ [.ref a] [.ref a] _ _ hr e0 (hbind s₁ (.ref a)) (.cons rfl .nil) (hsp H hO hS)) fun r s' h => ?_
    cases r with
    | error e => exact (hCX H e s' h).elim
    | ok fl =>
      cases fl with
      | next => exact False.elim h
      | brk => exact False.elim h
      | cont => exact False.elim h
      | ret u =>
        obtain ⟨v, H', os, bare, un, hok', r', q⟩ := h
        have q' : v = .bl true := q
        subst q'
        obtain rfl : u = Value.bool true := r'
        refine ⟨rfl, OldK.of_keep fun b o e => ?_, os, bare⟩
        cases q : H b with
        | none => exact un.keep b o e q (by intro z; exact absurd (show b ∈ ([] : List Addr) from z) (by simp)) (by simp)
        | some u =>
          rcases hO b with z | ⟨ob, xs, z⟩
          · rw [q] at z; cases z
          · have z2 := un.frzs b ob _ z
            obtain ⟨e1, _⟩ := hok b _ z
            obtain ⟨e2, _⟩ := hok' b _ z2
            rw [e] at e1; cases e1
            exact e2
  cases hk : K.lookup a with
  | some o =>
    -- the script is one of the module's own objects
    have e := KX a o hk
    rw [ha] at e
    cases e
    refine core (fun _ => none) (fun _ => .inl rfl) (.inr ⟨_, vs.toArray, _, hk, rfl, rfl, rfl, by rw [List.size_toArray, lenV]; exact hl, by simpa using rv⟩) (fun b u z => by have z' : (none : Option HO) = some u := z; cases z') (fun b z => absurd rfl z) fun z => absurd rfl z
  | none =>
    refine core (fun b => if b = a then some (.frz { cls := .type "list", data := .seq vs.toArray } (.lst (ns.map V.int))) else none) (fun b => ?_) (.inl (.inr ⟨{ cls := .type "list", data := .seq vs.toArray }, if_pos rfl⟩)) (fun b u z => ?_) (fun b z => ?_) fun _ => hk
    · by_cases hb : b = a
      · exact .inr ⟨_, _, if_pos hb⟩
      · exact .inl (if_neg hb)
    · by_cases hb : b = a
      · have z' := (if_pos hb).symm.trans z
        cases z'
        subst hb
        exact ⟨ha, by rw [List.length_map]; exact hl, vs, _, rv, ha⟩
      · have z' := (if_neg hb).symm.trans z
        cases z'
    · by_cases hb : b = a
      · exact hb
      · exact absurd (if_neg hb) z
end L2

namespace L2
open PySem PySem.Spec PyProof.Rows

abbrev KOf {K : PySem.W.Frag} {h : Heap} (_ : K.In h) : PySem.W.Frag := K

/-- the goal that k_head leaves (case hc), from the law's promise. F gives the function object fd (K's own) once, then the promise over every base -/
theorem walk_of {l : PySem.W.OpenLaw} {n k : Nat} {q : Program} {loose : List Str} {XP : (Str → Option Value) → Heap → Prop} {YP : World → Heap → Prop} {d : DefRec} {K : Params → PySem.W.Frag} {CX : World → CXT} {sp : World → Sp} {x : Str}
    (hn : l.most = some n) (hn2 : n ≤ sizeLine) (hdf : d.params.defaults = []) (hr : Room k callerA)
    (hY : ∀ (w : World) (h : Heap), YP w h → (K w.params).In h)
    (F : ∀ (w : World) (mg : Str → Option Value) (fa : Addr) (h : Heap), (K w.params).In h → h.Ns mainGlobals mg → mg d.name = some (.ref fa) →
      ∃ fd : FuncData, (∀ (s : Shared) (u : Value), BindsTo s fd ⟨[u], []⟩ [(x, u)]) ∧
        ∀ base : Heap, (K w.params).In base → base.Ns mainGlobals mg → FnOk l.prog w (K w.params) mg base (CX w) k fa fd [x] (sp w))
    (hsp : ∀ (w : World) (H : Hp) (a : Addr) (ns : List Int), ns.length ≤ n → Only H → SqL (K w.params) H a (ns.map V.int) → sp w [.ref a] H (fun v _ => v = .bl true) fun _ _ _ => False)
    (hCX : ∀ (w : World) (H : Hp) (s : Shared) (e : Value) (s' : Shared), CX w [] H s (fun _ _ _ => False) e s' → False) :
    PySem.W.WalkO q loose XP YP l.row.toRowW d [] (fun f vs => PySem.call f vs) := by
  refine Att.attach_call hn hdf fun w s₀ s₁ mg mb fa o pm cd doc a vs ns G Y ho hd hcd hmg hobj hints hlen hg => ?_
  have KX := hY w _ Y
  obtain ⟨fd, hb, hF⟩ := F w mg fa _ KX G.T.g hmg
  exact law_call KX G.T.g G.T.b G.T.builtins G.T.nolimit hg hobj hints (Nat.le_trans hlen hn2) hr hF hb (fun H hO hS => hsp w H a ns hlen hO hS) fun H e s' => hCX w H s₁ e s'
/-- the same where the promise hangs on the written part alone: (sp := My.sp_law), no hole under a binder -/
theorem walk_ofK {l : PySem.W.OpenLaw} {n k : Nat} {q : Program} {loose : List Str} {XP : (Str → Option Value) → Heap → Prop} {YP : World → Heap → Prop} {d : DefRec} {K : Params → PySem.W.Frag} {CX : CXT} {sp : PySem.W.Frag → Sp} {x : Str}
    (hn : l.most = some n) (hn2 : n ≤ sizeLine) (hdf : d.params.defaults = []) (hr : Room k callerA)
    (hY : ∀ (w : World) (h : Heap), YP w h → (K w.params).In h)
    (F : ∀ (w : World) (mg : Str → Option Value) (fa : Addr) (h : Heap), (K w.params).In h → h.Ns mainGlobals mg → mg d.name = some (.ref fa) →
      ∃ fd : FuncData, (∀ (s : Shared) (u : Value), BindsTo s fd ⟨[u], []⟩ [(x, u)]) ∧
        ∀ base : Heap, (K w.params).In base → base.Ns mainGlobals mg → FnOk l.prog w (K w.params) mg base CX k fa fd [x] (sp (K w.params)))
    (hsp : ∀ (K : PySem.W.Frag) (H : Hp) (a : Addr) (ns : List Int), ns.length ≤ n → Only H → SqL K H a (ns.map V.int) → sp K [.ref a] H (fun v _ => v = .bl true) fun _ _ _ => False)
    (hCX : ∀ (H : Hp) (s : Shared) (e : Value) (s' : Shared), CX [] H s (fun _ _ _ => False) e s' → False) :
    PySem.W.WalkO q loose XP YP l.row.toRowW d [] (fun f vs => PySem.call f vs) :=
  walk_of (K := K) (CX := fun _ => CX) (sp := fun w => sp (K w.params)) hn hn2 hdf hr hY F (fun w H a ns h1 h2 h3 => hsp (K w.params) H a ns h1 h2 h3) fun _ H s e s' => hCX H s e s'
end L2

/- THE LAST THEOREM (shape; LID, My.* are yours):
   My.Adr: a structure of the addresses that your layer names (classes, functions); My.Txt K t: a structure (Prop) of the equations over K;
   My.txt_mk : {K} {implicit addresses ..} (e1 : nsIn K mainGlobals "law" = some (some (.ref f))) (e2 : K.lookup f = some ⟨oc, od, .func (fnOf "law" "law" params body scope dV kV doc pm an cdv ct), sl⟩) (e3 : codeIn K cdv "law" = true) .. : ∃ t, My.Txt K t

set_option maxRecDepth 100000 in
set_option maxHeartbeats 0 in
theorem PySem.Challenge.cw_LID_holds : PySem.Challenge.rw_LID.Holds := by
  w_on; o_law; k_head; (case hw => w_witness2)
  k_fill
  refine L2.walk_of (l := PySem.Challenge.rw_LID) (n := 63) (k := 40) (x := "script") (CX := fun w => ..) (sp := fun _ => My.sp_law) rfl (by decide) rfl ⟨rfl, by decide, by decide⟩ (fun w h Y => PySem.W.kIn_of Y) ?F ?S ?C
  case F =>
    intro w mg fa h KX G hmg
    have T : ∃ t, My.Txt (L2.KOf KX) t := by
      dsimp only [L2.KOf]                          -- K must stand as «<heap const> w.params» for k_is
      refine' My.txt_mk ?e1 ?e2 ?e3 ..
      (case e1 => PySem.W.k_is)                    -- in the order: a name -> its address -> its object -> its parts
      (case e2 => PySem.W.k_is)
      ..
    obtain ⟨t, T⟩ := T
    have e0 := hmg.symm.trans (PySem.W.mg_of KX G T.law)
    cases e0                                       -- fa is the law's own address
    exact ⟨_, fun s u => .of_eq rfl, fun base kb nb => My.law_fn T kb nb⟩     -- if «.of_eq rfl» comes too early: refine' ⟨_, ?b, fun base kb nb => My.law_fn T kb nb⟩; exact fun s u => .of_eq rfl
  case S => exact fun w H a ns hl hO hS => ..
  case C => exact ..
(the tactic k_is has no namespace: write k_is) -/

/-! SHORT WORDS over the layer: a def of the text, its body, what a loop and a test want. -/
namespace L2
open PySem PySem.Spec PyProof.Rows

/-! ### the text by places -/
/-- the j-th statement of a class's body -/
def inClass (s : Stmt) (j : Nat) : Stmt := match s with
  | .ClassDef _ _ _ body _ _ _ _ _ _ _ => body.getD j (.Pass ⟨0, 0, 0, 0⟩)
  | _ => .Pass ⟨0, 0, 0, 0⟩
def defArgs (s : Stmt) : Arguments := match s with
  | .FunctionDef _ a _ _ _ _ _ _ _ _ => a
  | _ => { posonlyargs := [], args := [], vararg := none, kwonlyargs := [], kw_defaults := [], kwarg := none, defaults := [] }
def defBody (s : Stmt) : List Stmt := match s with
  | .FunctionDef _ _ b _ _ _ _ _ _ _ => b
  | _ => []
def defScope (s : Stmt) : Scope := match s with
  | .FunctionDef _ _ _ _ _ _ sc _ _ _ => sc
  | _ => { kind := .function, names := [], isGenerator := false, isCoroutine := false }

/-! ### no exception leaves a def -/
abbrev CX0 : CXT := fun _ _ _ _ _ _ => False
abbrev E0 : XK := fun _ _ _ => False
theorem pass0 {X : Cx} : Passes CX0 X E0 := fun _ _ _ _ _ _ _ h => h.elim

/-! ### a def (or method) of the text as it stands behind the top -/
structure Fun (K : PySem.W.Frag) (x qual : Str) (st : Stmt) (f : Addr) (fd : FuncData) : Prop where
  ex : ∃ (oc : Value) (od : Option Addr) (kV doc pm : Value) (an : Option Addr) (cdv ct : Value) (osl : Array (Option Value)),
    fd = PySem.W.fnOf x qual (defArgs st) (defBody st) (defScope st) .none kV doc pm an cdv ct ∧ K.lookup f = some ⟨oc, od, .func fd, osl⟩ ∧ PySem.W.codeIn K cdv qual = true
  kp : PySem.W.keepIn K (.ref f) = true
section
variable {P : Program} {w : World} {K : PySem.W.Frag} {mg : Str → Option Value} {base : Heap}
/-- THE RULE for a def: its body as a term of rules, and the reading of that term -/
theorem Fun.ok {x qual : Str} {st : Stmt} {f : Addr} {fd : FuncData} {N ps : List Str} {k : Nat} {sp : Sp} (F : Fun K x qual st f fd) (S : FnScope N ps (defScope st)) (len : ∀ vs H Q E, sp vs H Q E → vs.length = ps.length)
    (hbody : ∀ (cdv : Value) (A : Around) (outer : List Env) (s : Shared) (H : Hp) (vs : List V) (Q : VK) (E : XK), Room k (A.deeper (envOfC qual (defScope st) s.heap.objs.size f cdv)) → sp vs H Q E →
      ∃ t, PSs (cxOf CX0 P w K mg base N qual (defScope st) f cdv A outer s H E).nox (defBody st) t ∧ t { nx := fun _ H' => Q .non H', rt := Q } (start N vs) H) : FnOk P w K mg base CX0 (k + 1) f fd ps sp := by
  obtain ⟨oc, od, kV, doc, pm, an, cdv, ct, osl, rfl, lk, hcd⟩ := F.ex
  refine fn_of lk hcd S len fun A outer s H vs Q E hr hsp => ?_
  obtain ⟨t, h, q⟩ := hbody cdv A outer s H vs Q E hr hsp
  exact ⟨t, h.nox, q⟩
/-- how its arguments bind (no defaults): h is «fun _ _ _ _ _ _ us hl => match us, hl with | [_, _], _ => rfl», one _ a parameter -/
theorem Fun.binds {x qual : Str} {st : Stmt} {f : Addr} {fd : FuncData} {ps : List Str} (F : Fun K x qual st f fd)
    (h : ∀ (kV doc pm : Value) (an : Option Addr) (cdv ct : Value) (us : List Value), us.length = ps.length → bindArgs (PySem.W.fnOf x qual (defArgs st) (defBody st) (defScope st) .none kV doc pm an cdv ct) ⟨us, []⟩ = pure (ps.zip us)) : Binds K fd ps [] := by
  obtain ⟨oc, od, kV, doc, pm, an, cdv, ct, osl, rfl, lk, hcd⟩ := F.ex
  exact .all (h kV doc pm an cdv ct)
theorem fun_mk {x qual : Str} {st : Stmt} {f : Addr} {oc : Value} {od an : Option Addr} {osl : Array (Option Value)} {kV doc pm cdv ct : Value} (l : K.lookup f = some ⟨oc, od, .func (PySem.W.fnOf x qual (defArgs st) (defBody st) (defScope st) .none kV doc pm an cdv ct), osl⟩)
    (c : PySem.W.codeIn K cdv qual = true) (k : PySem.W.keepIn K (.ref f) = true) : Fun K x qual st f (PySem.W.fnOf x qual (defArgs st) (defBody st) (defScope st) .none kV doc pm an cdv ct) := ⟨⟨oc, od, kV, doc, pm, an, cdv, ct, osl, rfl, l, c⟩, k⟩
end
/-! ### expressions in short: the name that stands in the i-th slot -/
section
variable {X : Cx}
theorem pv (i : Nat) {x : Str} {pos : Pos} (hN : X.N[i]? = some x := by rfl) (hv : Vis X.env.scope x := by first | exact Or.inl rfl | exact Or.inr (Or.inl rfl) | exact Or.inr (Or.inr rfl)) (hd : (x == ("__debug__" : Str)) = false := by decide)
    (hcd : (x == ("__classdict__" : Str)) = false := by decide) : PE X (.Name x pos) (tVar i) := pe_var hN hv hd hcd
end

/-! ### tests -/
theorem iteF {A B : Prop} (h : B) : if false = true then A else B := by
  rw [if_neg Bool.false_ne_true]
  exact h
theorem iteT {A B : Prop} (h : A) : if true = true then A else B := by
  rw [if_pos rfl]
  exact h
theorem ite2 {c A B : Prop} [Decidable c] (h1 : c → A) (h2 : ¬ c → B) : if c then A else B := by
  by_cases h : c
  · rw [if_pos h]
    exact h1 h
  · rw [if_neg h]
    exact h2 h
/-! ### heaps -/
/-- all that was tracked is as it was -/
def Same (H H' : Hp) : Prop := ∀ b o, H b = some o → H' b = some o
theorem Same.refl (H : Hp) : Same H H := fun _ _ h => h
theorem Same.trans {H H1 H2 : Hp} (a : Same H H1) (b : Same H1 H2) : Same H H2 := fun c o h => b c o (a c o h)
theorem Same.free {H H' : Hp} (e : Same H H') {l : Addr} (h : H' l = Option.none) : H l = Option.none := by
  cases q : H l with
  | none => rfl
  | some o =>
    rw [e l o q] at h
    cases h
theorem Same.seq {K : PySem.W.Frag} {H H' : Hp} {a : Addr} {xs : List V} (e : Same H H') (h : SqL K H a xs) : SqL K H' a xs := by
  rcases h with (h | ⟨o, h⟩) | h
  · exact .inl (.inl (e _ _ h))
  · exact .inl (.inr ⟨o, e _ _ h⟩)
  · exact .inr h

end L2


/-! ## comprehensions, over the layer -/
namespace L2
open PySem PySem.Spec PyProof.Rows

/-- the tests of a comprehension -/
def PTs (X : Cx) (ifs : List Expr) (t : TT) : Prop :=
  ∀ (pins : List (Addr × Obj)) (s : Shared) (σ : St) (H : Hp) (Q : Bool → Hp → Prop), Inv X pins σ H s → t σ H Q →
    wpAny (model X.prog X.w) X.A (forIn ifs true fun c r => if r = true then do let ok ← isTrue c X.env (eval c X.env); pure (ForInStep.yield ok) else pure (ForInStep.yield r)) (TP X pins σ Q) X.xe s
def tYes : TT := fun _ H Q => Q true H
theorem pts_nil {X : Cx} : PTs X [] tYes := fun _ _ _ H _ I h => wpAny_tests_nil ⟨H, I, h⟩
theorem pts_one {X : Cx} {c : Expr} {t : TT} (hc : PT X c t) : PTs X [c] t := fun pins s σ H Q I h => wpAny_tests_one (hc pins s σ H Q I h)

/-- a comprehension's turn, whatever the iterator keeps -/
theorem compLoop_any {prog : Program} {w : World} {A : Around} {s : Shared} {R : Result → Shared → Prop} {elt target iter : Expr} {ifs : List Expr} {scope : Scope} {pos : Pos} {it acc : Value} {env : Env} (J : Nat → Shared → Prop)
    (turn : ∀ n s, J n s → wpAny (model prog w) A (pyNext it) (fun r s1 => match r with
      | none => R (.ok .next) s1
      | some v => wpAny (model prog w) A (letOwnedTupleGo target it v) (fun _ s2 => wpAny (model prog w) A (assign target env v) (fun _ s3 =>
          wpAny (model prog w) A (forIn ifs true fun c r => if r = true then do let ok ← isTrue c env (eval c env); pure (ForInStep.yield ok) else pure (ForInStep.yield r)) (fun ok s4 =>
            if ok = true then wpAny (model prog w) A (eval elt env) (fun x s5 =>
              wpAny (model prog w) A (call (.builtin "list.append") [acc, x]) (fun _ s6 => ∃ m, m < n ∧ J m s6) (fun _ _ => False) s5) (fun _ _ => False) s4
            else ∃ m, m < n ∧ J m s4) (fun _ _ => False) s3) (fun _ _ => False) s2) (fun _ _ => False) s1) (fun _ _ => False) s)
    (n : Nat) (h : J n s) : codeAny (model prog w) A (.compLoop (.ListComp elt [⟨target, iter, ifs, 0⟩] scope pos) 0 it acc env) R s := by
  refine codeAny_loop rfl J (fun n s hI => ?_) n h
  show wpAny _ A ((compTurn (.ListComp elt [⟨target, iter, ifs, 0⟩] scope pos) 0 it acc env).onRaise (fun x => do noteFrame x env; theTreesLotGoes x)) _ _ s
  refine wpAny_noted ?_
  rw [compTurn_list]
  refine wpAny_bind (wpAny_standAt (wpAny_bind (wpAny_mono (turn n s hI) (fun r s1 h1 => ?_) fun _ _ z => z.elim)))
  cases r with
  | none => exact wpAny_pure h1
  | some v =>
    refine wpAny_bind (wpAny_mono h1 (fun _ s2 h2 => ?_) fun _ _ z => z.elim)
    refine wpAny_bind (wpAny_mono h2 (fun _ s3 h3 => wpAny_bind (wpAny_mono h3 (fun ok s4 h4 => ?_) fun _ _ z => z.elim)) fun _ _ z => z.elim)
    cases ok with
    | false => exact wpAny_pure ⟨rfl, h4⟩
    | true =>
      exact wpAny_bind (wpAny_bind (wpAny_mono h4 (fun x s5 h5 => wpAny_bind (wpAny_mono h5 (fun _ s6 h6 => wpAny_pure (wpAny_pure ⟨rfl, h6⟩)) fun _ _ z => z.elim)) fun _ _ z => z.elim))

/-! ### the cells that a block sees -/
def closL (cells : List (Str × Addr)) : List (Str × NameKind) → List (Str × Addr) → List (Str × Addr)
  | [], acc => acc
  | (n, k) :: r, acc => if k == .free then closL cells r ((n, (cells.lookup n).getD 0) :: acc) else closL cells r acc
theorem closure_go {env : Env} : ∀ (names : List (Str × NameKind)) (acc : List (Str × Addr)), (∀ y ∈ names, y.2 = .free → ∃ c, env.cells.lookup y.1 = some c) →
    (forIn names acc fun (x : Str × NameKind) (cs : List (Str × Addr)) => (if (x.2 == .free) = true then do let a ← cellOf env x.1; pure (ForInStep.yield ((x.1, a) :: cs)) else pure (ForInStep.yield cs) : Sem (ForInStep (List (Str × Addr))))) = pure (closL env.cells names acc)
  | [], acc, _ => rfl
  | (n, k) :: r, acc, h => by
    have ih := fun acc => closure_go r acc fun y hy => h y (List.mem_cons_of_mem _ hy)
    rw [List.forIn_cons]
    unfold closL
    by_cases hk : (k == NameKind.free) = true
    · obtain ⟨c, hc⟩ := h (n, k) List.mem_cons_self (by simpa using hk)
      have e : cellOf env n = pure c := by
        unfold cellOf
        rw [show env.cells.lookup n = some c from hc]
      simp only [hk, if_true, e, pure_bind]
      rw [ih, show env.cells.lookup n = some c from hc]
      rfl
    · simp only [hk, Bool.false_eq_true, if_false, pure_bind]
      exact ih acc
theorem closure_of {env : Env} {scope : Scope} (h : ∀ y ∈ scope.names, y.2 = .free → ∃ c, env.cells.lookup y.1 = some c) : closureFor scope env = pure (closL env.cells scope.names []) := by
  have e := closure_go scope.names [] h
  unfold closureFor
  simp only [bind_pure] at e ⊢
  exact e
theorem closL_sub {env : Env} : ∀ (names : List (Str × NameKind)) (acc : List (Str × Addr)), (∀ y ∈ names, y.2 = .free → ∃ c, env.cells.lookup y.1 = some c) → (∀ x c, acc.lookup x = some c → env.cells.lookup x = some c) →
    ∀ x c, (closL env.cells names acc).lookup x = some c → env.cells.lookup x = some c
  | [], acc, _, ha, x, c, e => ha x c e
  | (n, k) :: r, acc, h, ha, x, c, e => by
    unfold closL at e
    by_cases hk : (k == NameKind.free) = true
    · rw [if_pos hk] at e
      obtain ⟨d, hd⟩ := h (n, k) List.mem_cons_self (by simpa using hk)
      refine closL_sub r _ (fun y hy => h y (List.mem_cons_of_mem _ hy)) (fun y b q => ?_) x c e
      rw [List.lookup_cons] at q
      by_cases hy : (y == n) = true
      · rw [hy] at q
        have hy' : y = n := by simpa using hy
        have hd' : env.cells.lookup n = some d := hd
        rw [hd'] at q
        have q' : d = b := Option.some.inj q
        rw [hy', hd', q']
      · have hy' : (y == n) = false := by simpa using hy
        rw [hy'] at q
        exact ha y b q
    · rw [if_neg hk] at e
      exact closL_sub r acc (fun y hy => h y (List.mem_cons_of_mem _ hy)) ha x c e
theorem closL_acc {cells : List (Str × Addr)} : ∀ (names : List (Str × NameKind)) (acc : List (Str × Addr)) (x : Str), (acc.lookup x).isSome = true → ((closL cells names acc).lookup x).isSome = true
  | [], _, _, h => h
  | (n, k) :: r, acc, x, h => by
    unfold closL
    by_cases hk : (k == NameKind.free) = true
    · rw [if_pos hk]
      refine closL_acc r _ x ?_
      rw [List.lookup_cons]
      by_cases hx : (x == n) = true
      · rw [hx]; rfl
      · have hx' : (x == n) = false := by simpa using hx
        rw [hx']; exact h
    · rw [if_neg hk]
      exact closL_acc r acc x h
theorem closL_has {cells : List (Str × Addr)} : ∀ (names : List (Str × NameKind)) (acc : List (Str × Addr)) (x : Str), (x, NameKind.free) ∈ names → ((closL cells names acc).lookup x).isSome = true
  | [], _, _, h => nomatch h
  | (n, k) :: r, acc, x, h => by
    unfold closL
    rcases List.mem_cons.mp h with e | h
    · cases e
      rw [if_pos (by rfl)]
      refine closL_acc r _ _ ?_
      rw [List.lookup_cons]
      simp
    · by_cases hk : (k == NameKind.free) = true
      · rw [if_pos hk]; exact closL_has r _ x h
      · rw [if_neg hk]; exact closL_has r _ x h
theorem lookup_relabel {env : Env} : ∀ {names : List (Str × NameKind)} {x : Str} {k : NameKind}, (names.map fun (n, k) => if (k == NameKind.free && env.scope.kind == .function && env.kindOf n == some .cell) then (n, NameKind.cell) else (n, k)).lookup x = some k →
    (k = .cell ∨ k = .free) → (x, NameKind.free) ∈ names ∨ (x, NameKind.cell) ∈ names
  | [], _, _, h, _ => by simp at h
  | (n, q) :: r, x, k, h, hk => by
    have h' : List.lookup x ((if (q == NameKind.free && env.scope.kind == .function && env.kindOf n == some .cell) = true then (n, NameKind.cell) else (n, q)) :: r.map fun (n, k) => if (k == NameKind.free && env.scope.kind == .function && env.kindOf n == some .cell) then (n, NameKind.cell) else (n, k)) = some k := h
    by_cases hc : (q == NameKind.free && env.scope.kind == .function && env.kindOf n == some .cell) = true
    · rw [if_pos hc, List.lookup_cons] at h'
      have hq : q = .free := by
        simp only [Bool.and_eq_true, beq_iff_eq] at hc
        exact hc.1.1
      by_cases hx : (x == n) = true
      · have hx' : x = n := by simpa using hx
        subst hx'; subst hq
        exact .inl List.mem_cons_self
      · have hx' : (x == n) = false := by simpa using hx
        rw [hx'] at h'
        rcases lookup_relabel (env := env) h' hk with z | z
        · exact .inl (List.mem_cons_of_mem _ z)
        · exact .inr (List.mem_cons_of_mem _ z)
    · rw [if_neg hc, List.lookup_cons] at h'
      by_cases hx : (x == n) = true
      · rw [hx] at h'
        have hx' : x = n := by simpa using hx
        subst hx'
        have e : q = k := Option.some.inj h'
        subst e
        rcases hk with rfl | rfl
        · exact .inr List.mem_cons_self
        · exact .inl List.mem_cons_self
      · have hx' : (x == n) = false := by simpa using hx
        rw [hx'] at h'
        rcases lookup_relabel (env := env) h' hk with z | z
        · exact .inl (List.mem_cons_of_mem _ z)
        · exact .inr (List.mem_cons_of_mem _ z)
theorem relabel_free {env : Env} : ∀ {names : List (Str × NameKind)} {x : Str}, names.lookup x = some .free →
    (names.map fun (n, k) => if (k == NameKind.free && env.scope.kind == .function && env.kindOf n == some .cell) then (n, NameKind.cell) else (n, k)).lookup x = some .cell ∨
    (names.map fun (n, k) => if (k == NameKind.free && env.scope.kind == .function && env.kindOf n == some .cell) then (n, NameKind.cell) else (n, k)).lookup x = some .free
  | [], _, h => by simp at h
  | (n, q) :: r, x, h => by
    show List.lookup x ((if (q == NameKind.free && env.scope.kind == .function && env.kindOf n == some .cell) = true then (n, NameKind.cell) else (n, q)) :: _) = _ ∨ List.lookup x ((if (q == NameKind.free && env.scope.kind == .function && env.kindOf n == some .cell) = true then (n, NameKind.cell) else (n, q)) :: _) = _
    rw [List.lookup_cons] at h
    by_cases hc : (q == NameKind.free && env.scope.kind == .function && env.kindOf n == some .cell) = true
    · rw [if_pos hc, List.lookup_cons]
      by_cases hx : (x == n) = true
      · rw [hx]; exact .inl rfl
      · have hx' : (x == n) = false := by simpa using hx
        rw [hx'] at h ⊢
        exact relabel_free h
    · rw [if_neg hc, List.lookup_cons]
      by_cases hx : (x == n) = true
      · rw [hx] at h ⊢; exact .inr h
      · have hx' : (x == n) = false := by simpa using hx
        rw [hx'] at h ⊢
        exact relabel_free h

/-! ### the block -/
/-- the context of a comprehension's block -/
def cxC (X : Cx) (N' : List Str) (scope : Scope) (C : Addr) (s : Shared) (H : Hp) (fp : List Addr) : Cx where
  prog := X.prog
  w := X.w
  K := X.K
  mg := X.mg
  base := X.base
  A := X.A
  N := N'
  s₀ := s
  H₀ := H
  env := compEnvC scope (closL X.env.cells scope.names []) C X.env
  outer := X.stack
  stack := X.stack
  ex := fp
  fn := fun _ => false
  calm := X.calm
  pn := []
  xe := fun _ _ => False
/-- the block's values at a turn's start: its own names unknown, the seen ones as they are -/
def σC (o : Nat) (fr : List Nat) (σ : St) : St := List.replicate o none ++ fr.map fun j => (σ[j]?).join
/-- what the text must be like: sc0, N: the scope and the names around; names N' of the block, its o own ones first, behind them those it sees, at the places fr of N -/
structure CompScope (sc0 : Scope) (N N' : List Str) (o : Nat) (fr : List Nat) (scope : Scope) : Prop where
  kind : scope.kind = .function
  nocell : (scope.names.all fun y => y.2 != .cell) = true
  loc : (scope.names.all fun y => y.2 != .local || scope.names.lookup y.1 == some .local) = true
  free : (scope.names.all fun y => y.2 != .free || sc0.names.lookup y.1 == some .cell || sc0.names.lookup y.1 == some .free) = true
  len : N'.length = o + fr.length
  sees : ((List.range fr.length).all fun j => match fr[j]? with
    | none => false
    | some y => match N[y]? with
      | none => false
      | some x => N'[o + j]? == some x && scope.names.lookup x == some .free) = true
/-- the reading. W: turn, measure, the items so far, heap -/
def LcR (J : It) (g : TG) (tt : TT) (te : TE) (o : Nat) (fr : List Nat) (σ : St) (H1 : Hp) (Q : VK) : Prop := ∃ W : Nat → Nat → List V → Hp → Prop, (∃ m, W 0 m [] H1) ∧ ∀ i m ys H, W i m ys H →
  (J.stop i H ∧ ys.length ≤ sizeLine ∧ ∀ p, H p = none → Q (.ref p) (upd H p (.lst ys))) ∨
  (J.go i H ∧ ys.length < sizeLine ∧ ∀ x H', J.yld i H x H' → g x (σC o fr σ) H' fun σ2 H2 => tt σ2 H2 fun b H3 => if b = true then te σ2 H3 fun y H4 => ∃ m', m' < m ∧ W (i + 1) m' (ys ++ [y]) H4 else ∃ m', m' < m ∧ W (i + 1) m' ys H3)
def tLc (wi : TI) (g : TG) (tt : TT) (te : TE) (o : Nat) (fr : List Nat) : TE := fun σ H Q => wi σ H fun J H1 => LcR J g tt te o fr σ H1 Q
/-- a target that stores into the own names alone -/
def OwnG (o : Nat) (g : TG) : Prop := ∀ (x : V) (ow fr : St) (H : Hp) (Q : St → Hp → Prop), ow.length = o → g x (ow ++ fr) H Q → g x (ow ++ fr) H fun σ2 H2 => (∃ ow', ow'.length = o ∧ σ2 = ow' ++ fr) ∧ Q σ2 H2
theorem own_name {o i : Nat} (h : i < o) : OwnG o (gName i) := fun x ow fr H Q hl q => ⟨⟨ow.set i (some x), by rw [List.length_set]; exact hl, by rw [List.set_append_left _ _ (by omega)]⟩, q⟩
def OwnGs (o : Nat) (g : TGs) : Prop := ∀ (xs : List V) (ow fr : St) (H : Hp) (Q : St → Hp → Prop), ow.length = o → g xs (ow ++ fr) H Q → g xs (ow ++ fr) H fun σ2 H2 => (∃ ow', ow'.length = o ∧ σ2 = ow' ++ fr) ∧ Q σ2 H2
theorem own_nil {o : Nat} : OwnGs o gNil := fun _ ow _ _ _ hl ⟨e, q⟩ => ⟨e, ⟨ow, hl, rfl⟩, q⟩
theorem own_cons {o i : Nat} {u : TGs} (h : i < o) (h2 : OwnGs o u) : OwnGs o (gCons (gName i) u) := by
  rintro xs ow fr H Q hl ⟨v, r, rfl, q⟩
  refine ⟨v, r, rfl, ?_⟩
  have q' : u r ((ow ++ fr).set i (some v)) H Q := q
  show u r ((ow ++ fr).set i (some v)) H _
  rw [List.set_append_left _ _ (by omega)] at q' ⊢
  exact h2 r (ow.set i (some v)) fr H Q (by rw [List.length_set]; exact hl) q'
theorem own_tup {K : PySem.W.Frag} {o n : Nat} {u : TGs} (h : OwnGs o u) : OwnG o (gTup K n u) := by
  rintro x ow fr H Q hl ⟨a, xs, rfl, hs, hn, q⟩
  exact ⟨a, xs, rfl, hs, hn, h xs ow fr H Q hl q⟩

section
variable {X : Cx} {pins : List (Addr × Obj)} {σ : St} {H : Hp} {s : Shared} {N' : List Str} {o : Nat} {fr : List Nat} {scope : Scope} {fp : List Addr}
abbrev accObj (us : List Value) : Obj := { cls := .type "list", data := .seq us.toArray us.length }
theorem CompScope.nocell' {sc0 : Scope} {N : List Str} (S : CompScope sc0 N N' o fr scope) : ∀ y ∈ scope.names, y.2 ≠ .cell := fun y hy e => by
  have q := List.all_eq_true.mp S.nocell y hy
  rw [e] at q
  exact absurd q (by decide)
theorem CompScope.loc' {sc0 : Scope} {N : List Str} (S : CompScope sc0 N N' o fr scope) : ∀ y ∈ scope.names, y.2 = .local → scope.names.lookup y.1 = some .local := fun y hy e => by
  have q := List.all_eq_true.mp S.loc y hy
  rw [e] at q
  simpa using q
theorem CompScope.free' {sc0 : Scope} {N : List Str} (S : CompScope sc0 N N' o fr scope) (hs : X.env.scope = sc0) : ∀ y ∈ scope.names, y.2 = .free → X.env.kindOf y.1 = some .cell ∨ X.env.kindOf y.1 = some .free := fun y hy e => by
  have q := List.all_eq_true.mp S.free y hy
  rw [e] at q
  show X.env.scope.names.lookup y.1 = _ ∨ X.env.scope.names.lookup y.1 = _
  rw [hs]
  simpa using q
theorem CompScope.sees' {sc0 : Scope} {N : List Str} (S : CompScope sc0 N N' o fr scope) : ∀ j y, fr[j]? = some y → ∃ x, N[y]? = some x ∧ N'[o + j]? = some x ∧ scope.names.lookup x = some .free := fun j y e => by
  have hj : j < fr.length := (List.getElem?_eq_some_iff.mp e).1
  have q := List.all_eq_true.mp S.sees j (List.mem_range.mpr hj)
  rw [e] at q
  dsimp only at q
  cases ex : N[y]? with
  | none => rw [ex] at q; cases q
  | some x =>
    rw [ex] at q
    dsimp only at q
    rw [Bool.and_eq_true, beq_iff_eq, beq_iff_eq] at q
    exact ⟨x, rfl, q.1, q.2⟩
theorem CompScope.cells {sc0 : Scope} {N0 : List Str} (S : CompScope sc0 N0 N' o fr scope) (hs : X.env.scope = sc0) (I : Inv X pins σ H s) : ∀ y ∈ scope.names, y.2 = .free → ∃ c, X.env.cells.lookup y.1 = some c := fun y hy e => I.ok.has y.1 (S.free' hs y hy e)
theorem CompScope.sub {sc0 : Scope} {N0 : List Str} (S : CompScope sc0 N0 N' o fr scope) (hs : X.env.scope = sc0) (I : Inv X pins σ H s) : ∀ x c, (closL X.env.cells scope.names []).lookup x = some c → X.env.cells.lookup x = some c :=
  closL_sub (env := X.env) scope.names [] (S.cells hs I) (fun _ _ z => nomatch z)
/-- the block's entry: the list at D, the block's names at C -/
theorem Inv.block {sc0 : Scope} {N0 : List Str} (S : CompScope sc0 N0 N' o fr scope) (hs : X.env.scope = sc0) (hN : X.N = N0) (I : Inv X pins σ H s) (hf : ∀ b ∈ fp, FpOk X pins H b) (hfl : ∀ b ∈ fp, b < s.heap.objs.size) {h1 : Heap} {C D : Addr} {m : Str → Option Value} {us : List Value} {t : Nat}
    (hC : s.heap.objs.size ≤ C) (hD : s.heap.objs.size ≤ D) (hDC : D ≠ C)
    (old : ∀ b ob, s.heap.get? b = some ob → h1.get? b = some ob) (hn : h1.Ns C m) (ha : h1.get? D = some (accObj us)) : Inv (cxC X N' scope C s H fp) [(D, accObj us)] (σC o fr σ) H { s with heap := h1, toks := t } := by
  have sub := S.sub hs I
  have frC : ∀ b ∈ frs X.stack, b < s.heap.objs.size := fun b hb => by
    obtain ⟨_, ob, ho, _⟩ := I.stack.mem hb
    exact Heap.lt_size ho
  refine ⟨⟨I.ok.mod, S.kind, I.ok.glob, I.ok.blt, hC, fun x y c h1 h2 => I.ok.inj x y c (sub x c h1) (sub y c h2), fun x hx => ?_, fun x c hfx _ => (nomatch hfx), I.ok.hd, I.ok.frames, .inl rfl, fun b hb => ?_, I.bs, Nat.le_trans I.ok.bsz I.sz, fun b ob e hb => ?_, fun b hb hb' => ?_, I.stack, I.stkFree⟩,
    rfl, I.bare, Un.kept old, ⟨m, hn, fun i x v e1 e2 e3 => ?_⟩, fun x c e => ?_, I.hok.fresh hC, fun x c e => I.freeC x c (sub x c e), fun p hp => ?_, I.hok.kept old, ?_⟩
  · have hx' : (relabel scope X.env).names.lookup x = some .cell ∨ (relabel scope X.env).names.lookup x = some .free := hx
    have key : (x, NameKind.free) ∈ scope.names := by
      rcases hx' with z | z
      · rcases lookup_relabel (env := X.env) z (.inl rfl) with q | q
        · exact q
        · exact absurd rfl (S.nocell' _ q)
      · rcases lookup_relabel (env := X.env) z (.inr rfl) with q | q
        · exact q
        · exact absurd rfl (S.nocell' _ q)
    exact Option.isSome_iff_exists.mp (closL_has (cells := X.env.cells) scope.names [] x key)
  · obtain ⟨f0, f1, f2, f3, f4, f5⟩ := hf b hb
    exact ⟨Nat.ne_of_lt (Nat.lt_of_lt_of_le (hfl b hb) hC), fun x c e => f4 x c (sub x c e)⟩
  · obtain ⟨f0, f1, f2, f3, f4, f5⟩ := hf b hb
    rcases f3 with z | z
    · exact I.ok.noex b ob e z
    · exact absurd (Nat.lt_of_lt_of_le (Heap.lt_size e) (Nat.le_trans I.ok.bsz z)) (Nat.lt_irrefl _)
  · obtain ⟨f0, f1, f2, f3, f4, f5⟩ := hf b hb
    rcases List.mem_cons.mp (I.stkSub b hb') with z | z
    · exact f1 z
    · exact f2 z
  · unfold σC at e2
    by_cases hi : i < o
    · rw [List.getElem?_append_left (by rw [List.length_replicate]; exact hi), List.getElem?_replicate, if_pos hi] at e2
      cases e2
    · rw [List.getElem?_append_right (by rw [List.length_replicate]; exact Nat.not_lt.mp hi), List.length_replicate, List.getElem?_map] at e2
      cases hy : fr[i - o]? with
      | none => rw [hy] at e2; cases e2
      | some y =>
        rw [hy] at e2
        have e2' : (σ[y]?).join = some v := Option.some.inj e2
        have e3' : σ[y]? = some (some v) := by
          cases q : σ[y]? with
          | none => rw [q] at e2'; cases e2'
          | some z => rw [q] at e2'; exact congrArg some e2'
        obtain ⟨x', s2, s1, s3⟩ := S.sees' (i - o) y hy
        rw [← hN] at s2
        rw [show o + (i - o) = i by omega] at s1
        have ex : x = x' := by
          have e1' : N'[i]? = some x := e1
          rw [e1'] at s1
          exact Option.some.inj s1
        subst ex
        have hmem := PySem.mem_of_lookup s3
        obtain ⟨m0, _, hl⟩ := I.loc
        have hk := S.free' hs (x, .free) hmem rfl
        obtain ⟨u, ru, lk⟩ := hl y x v s2 e3' (by rcases hk with z | z; exact .inr (.inl z); exact .inr (.inr z))
        refine ⟨u, ru, .inr ⟨relabel_free (env := X.env) s3, ?_⟩⟩
        obtain ⟨c', hc'⟩ := Option.isSome_iff_exists.mp (closL_has (cells := X.env.cells) scope.names [] x hmem)
        refine ⟨c', hc', ?_⟩
        rcases lk with ⟨z, _⟩ | ⟨_, c, e, ob, ho, hd⟩
        · rcases hk with z' | z'
          · rw [z] at z'; cases z'
          · rw [z] at z'; cases z'
        · have ec : c = c' := by
            have := sub x c' hc'
            rw [e] at this
            exact Option.some.inj this
          subst ec
          exact ⟨ob, old _ _ ho, hd⟩
  · obtain ⟨v, ob, ho, hd⟩ := I.cell x c (sub x c e)
    exact ⟨v, ob, old _ _ ho, hd⟩
  · have e : p = (D, accObj us) := by simpa using (show p ∈ ([] : List (Addr × Obj)) ++ [(D, accObj us)] from hp)
    subst e
    refine ⟨ha, I.hok.fresh hD, hDC, fun z => absurd (Nat.lt_of_lt_of_le (frC D z) hD) (Nat.lt_irrefl _), fun v z => nomatch z⟩
  · show (σC o fr σ).length = N'.length
    unfold σC
    rw [List.length_append, List.length_replicate, List.length_map, S.len]
/-- the block's end, seen from the def: the new list is tracked, the block's names are pinned -/
theorem Inv.unblock (I : Inv X pins σ H s) (hf : ∀ b ∈ fp, FpOk X pins H b) {C D : Addr} {us : List Value} {ys : List V} {σ' : St} {H' : Hp} {s' : Shared} (hC : s.heap.objs.size ≤ C) (hD : s.heap.objs.size ≤ D) (hDC : D ≠ C)
    (I' : Inv (cxC X N' scope C s H fp) [(D, accObj us)] σ' H' s') (r : Vals ys us) (hz : ys.length ≤ sizeLine) : ∃ oC m, s'.heap.get? C = some oC ∧ s'.heap.Ns C m ∧ Inv X (pins ++ [(C, oC)]) σ (upd H' D (.lst ys)) s' := by
  obtain ⟨aD, nD, _, _, _⟩ := I'.pin (D, accObj us) (by simp)
  have aD : s'.heap.get? D = some (accObj us) := aD
  have nD : H' D = none := nD
  have un : Un (frs X.stack) fp H H' s.heap s'.heap := I'.base
  have lt : ∀ b u, H b = some u → b ≠ D := fun b u e => Nat.ne_of_lt (Nat.lt_of_lt_of_le (I.hok.lt e) hD)
  have un2 : Un (frs X.stack) fp H (upd H' D (.lst ys)) s.heap s'.heap := by
    refine ⟨un.keep, un.slot, fun b ob e n hx => ?_, un.there, fun b xs e => ?_, fun b ob u e => ?_, fun b ps e => ?_⟩
    · rw [upd_ne (Nat.ne_of_lt (Nat.lt_of_lt_of_le (Heap.lt_size e) hD))]
      exact un.free b ob e n hx
    · rw [upd_ne (lt b _ e)]; exact un.tups b xs e
    · rw [upd_ne (lt b _ e)]; exact un.frzs b ob u e
    · obtain ⟨more, q⟩ := un.tbls b ps e
      exact ⟨more, by rw [upd_ne (lt b _ e)]; exact q⟩
  have hok : HOk X.prog X.w (upd H' D (.lst ys)) s'.heap := fun b u e => by
    by_cases hb : b = D
    · subst hb
      rw [upd_same] at e
      cases e
      exact ⟨hz, us, us.length, r, aD⟩
    · rw [upd_ne hb] at e
      exact (I'.hok b u e).stay (fun c v _ q => q) (fun c q => by rw [upd_ne (ne_of_none q nD)]; exact q) fun c xs q => by rw [upd_ne (ne_of_none q nD)]; exact q
  have os : s'.os = s.os := I'.os
  have J : Inv X pins σ (upd H' D (.lst ys)) s' := I.call' (ch := fp) os un2 hok I'.bare fun b hb => by
    obtain ⟨f0, f1, f2, f3, f4, f5⟩ := hf b hb
    exact ⟨f3, f1, f4, f5⟩
  obtain ⟨m, hn, _⟩ := I'.loc
  have hn : s'.heap.Ns C m := hn
  obtain ⟨oC, es, ep, hoC, hdC, _⟩ := id hn
  refine ⟨oC, m, hoC, hn, J.pins_of fun p hp => ?_⟩
  rcases List.mem_append.mp hp with z | z
  · exact J.pin p (List.mem_append_right _ z)
  · have e : p = (C, oC) := by simpa using z
    subst e
    have nC : H' C = none := I'.free
    refine ⟨hoC, by rw [upd_ne (Ne.symm hDC)]; exact nC, Nat.ne_of_gt (Nat.lt_of_lt_of_le I.lt hC), I.nofs hC, fun v z => ?_⟩
    have z' : oC.data = .cell v := z
    rw [hdC] at z'
    cases z'
end

section
variable {X : Cx} {N' : List Str} {o : Nat} {fr : List Nat} {scope : Scope} {elt tg iter : Expr} {ifs : List Expr} {pos : Pos} {wi : TI} {g : TG} {tt : TT} {te : TE}
/-- a comprehension runs; use: what is done with the list while the block's names still stand -/
theorem lc_run (hc : X.calm = true) {sc0 : Scope} {N0 : List Str} (S : CompScope sc0 N0 N' o fr scope) (hi : PI X tg iter wi) (ho : OwnG o g)
    (hg : ∀ (C : Addr) (s : Shared) (H : Hp) (fp : List Addr), PG (cxC X N' scope C s H fp) tg g)
    (ht : ∀ (C : Addr) (s : Shared) (H : Hp) (fp : List Addr), PTs (cxC X N' scope C s H fp) ifs tt)
    (he : ∀ (C : Addr) (s : Shared) (H : Hp) (fp : List Addr), PE (cxC X N' scope C s H fp) elt te)
    (hs : ∀ x, foldedSetIterable iter X.env x = pure x) (hsc : X.env.scope = sc0) (hN0 : X.N = N0) {pins : List (Addr × Obj)} {s : Shared} {σ : St} {H : Hp} {Qv : VK} (I : Inv X pins σ H s) (h : tLc wi g tt te o fr σ H Qv)
    {use : Option (Value → Sem Unit)} {Q : Value → Shared → Prop} {E : Value → Shared → Prop}
    (hE : ∀ e s', X.xe e s' → E e s')
    (fin : ∀ (C oC D : _) (m : Str → Option Value) (H' : Hp) (ys : List V) (s' : Shared), Inv X (pins ++ [(C, oC)]) σ (upd H' D (.lst ys)) s' → Qv (.ref D) (upd H' D (.lst ys)) → s'.heap.Ns C m → H' C = none → C ≠ D →
      C ≠ X.env.locals → X.s₀.heap.objs.size ≤ C → (∀ x c, X.env.cells.lookup x = some c → c ≠ C) → (∀ p ∈ X.pn ++ pins, p.1 ≠ C) → compPost (model X.prog X.w) X.A E use Q (.ref D) C (.ok .next) s') :
    wpAny (model X.prog X.w) X.A (comprehension (.ListComp elt [⟨tg, iter, ifs, 0⟩] scope pos) scope X.env (firstIterPos [⟨tg, iter, ifs, 0⟩] pos) (newList []) false (eval iter X.env) use) Q E s := by
  refine wpAny_comprehension_free (use := use) rfl hs (closure_of (S.cells hsc I)) S.kind S.loc' (wpAny_mono (hi pins s σ H _ I h) (fun xv s1 h1 => wpAny_mono h1 (fun itv s2 h2 => ?_) hE) hE)
  obtain ⟨it, fp, tn, J, H2, rfl, I2, T, st2, f2, W, ⟨m0, w0⟩, turn⟩ := h2
  have hfl : ∀ b ∈ fp, b < s2.heap.objs.size := fun b hb => by
    obtain ⟨ob, e, _⟩ := T.obj 0 _ st2 b hb
    exact Heap.lt_size e
  refine wpAny_newObj_type (wpAny_newFunctionEnv S.nocell' (by intro y hy; simp at hy) (fun h1 hns1 hsb1 => ?_) S.kind)
  dsimp only at hns1 hsb1 ⊢
  generalize hH2 : s2.heap.push { cls := .type "list", dict := none, data := .seq ([] : List Value).toArray } = G at hns1 hsb1 ⊢
  have hCe : G.objs.size = s2.heap.objs.size + 1 := by rw [← hH2, Heap.size_push]
  have hC : s2.heap.objs.size ≤ G.objs.size := by rw [hCe]; exact Nat.le_succ _
  have hDC : s2.heap.objs.size ≠ G.objs.size := by rw [hCe]; exact Nat.ne_of_lt (Nat.lt_succ_self _)
  have old : ∀ b ob, s2.heap.get? b = some ob → h1.get? b = some ob := fun b ob e =>
    hsb1.extBut b ob (Nat.ne_of_lt (Nat.lt_of_lt_of_le (Heap.lt_size e) hC)) (Heap.get?_push_of_some _ (hH2 ▸ Heap.get?_push_of_some _ e))
  have hacc : h1.get? s2.heap.objs.size = some (accObj []) := hsb1.extBut _ _ hDC (Heap.get?_push_of_some _ (hH2 ▸ Heap.get?_push_size _ rfl))
  have st1 : tn 0 h1 := T.keep _ _ _ st2 fun b _ ob e => old b ob e
  have fpC : ∀ {us : List Value} {H' : Hp}, (∀ b ∈ fp, H' b = none) → ∀ b ∈ fp, FpOk (cxC X N' scope G.objs.size s2 H2 fp) [(s2.heap.objs.size, accObj us)] H' b := fun {us H'} hn b hb => by
    obtain ⟨f0, f1, f3, f4, f5, f6⟩ := f2 b hb
    refine ⟨hn b hb, Nat.ne_of_lt (Nat.lt_of_lt_of_le (hfl b hb) hC), fun z => ?_, .inl hb, fun x c e => f5 x c (S.sub hsc I2 x c e), fun p hp => ?_⟩
    · rcases List.mem_cons.mp (I2.stkSub b z) with q | q
      · exact f1 q
      · exact f3 q
    · have e : p = (s2.heap.objs.size, accObj us) := by simpa using (show p ∈ ([] : List (Addr × Obj)) ++ [(s2.heap.objs.size, accObj us)] from hp)
      subst e
      exact Nat.ne_of_gt (hfl b hb)
  have loop : ∀ s3 : Shared, s3 = { s2 with heap := h1, toks := s2.toks + ([] : List (Str × Value)).length } →
      codeAny (model X.prog X.w) X.A (.compLoop (.ListComp elt [⟨tg, iter, ifs, 0⟩] scope pos) 0 (.ref it) (.ref s2.heap.objs.size) (compEnvC scope (closL X.env.cells scope.names []) G.objs.size X.env))
        (compPost (model X.prog X.w) X.A E use Q (.ref s2.heap.objs.size) G.objs.size) s3 := by
    rintro s3 rfl
    refine compLoop_any (fun n s' => ∃ i σ' H' ys us, Inv (cxC X N' scope G.objs.size s2 H2 fp) [(s2.heap.objs.size, accObj us)] σ' H' s' ∧ σ' = σC o fr σ ∧ Vals ys us ∧ tn i s'.heap ∧ (∀ b ∈ fp, H' b = none) ∧ W i n ys H') ?_ m0
      ⟨0, _, H2, [], [], I2.block S hsc hN0 f2 hfl hC (Nat.le_refl _) hDC old hns1 hacc, rfl, .nil, st1, fun b hb => (f2 b hb).1, w0⟩
    rintro n s' ⟨i, σ', H', ys, us, I', rfl, rv, st', fr', w'⟩
    rcases turn i n ys H' w' with ⟨stop, hz, q⟩ | ⟨go, hz, step⟩
    · refine thn (T.done (cxC X N' scope G.objs.size s2 H2 fp) rfl rfl rfl hc i _ s' _ H' _ I' (fpC fr') st' stop) fun r s4 ⟨hr, I4⟩ => ?_
      subst hr
      obtain ⟨oC, m, hoC, hn, J4⟩ := I2.unblock f2 hC (Nat.le_refl _) hDC I4 rv hz
      exact fin _ oC _ m H' ys s4 J4 (q _ (I4.pin (s2.heap.objs.size, accObj us) (by simp)).2.1) hn I4.free (Ne.symm hDC) (Nat.ne_of_gt (Nat.lt_of_lt_of_le I2.lt hC)) (Nat.le_trans I2.sz hC)
        (fun x c e => by obtain ⟨v, z⟩ := I2.cell x c e; exact Nat.ne_of_lt (Nat.lt_of_lt_of_le z.lt hC)) fun p hp => Nat.ne_of_lt (Nat.lt_of_lt_of_le (Heap.lt_size (I2.pin p hp).1) hC)
    · refine thn (T.item (cxC X N' scope G.objs.size s2 H2 fp) rfl rfl rfl hc i _ s' _ H' _ I' (fpC fr') st' go) fun r s4 ⟨u, hr, h4⟩ => ?_
      subst hr
      refine thn h4 fun _ s5 ⟨x, H5, I5, r5, y5, st5, fr5⟩ => ?_
      have hst := step x H5 y5
      have hst' := ho x (List.replicate o none) (fr.map fun j => (σ[j]?).join) H5 _ (List.length_replicate ..) hst
      -- the iterator's records are pinned while the block's own code runs
      have I5' := I5.pinned (fpC (us := us) fr5) (T.obj _ _ st5)
      refine thn (hg _ _ _ _ _ s5 _ H5 x u _ I5' r5 hst') fun _ s6 ⟨σ6, H6, I6, ⟨ow, hol, e6⟩, q6⟩ => ?_
      subst e6
      refine thn (ht _ _ _ _ _ s6 _ H6 _ I6 q6) fun b s7 ⟨H7, I7, q7⟩ => ?_
      have back : ∀ {us' : List Value} {σ8 : St} {H8 : Hp} {s8 : Shared}, Inv (cxC X N' scope G.objs.size s2 H2 fp) ([(s2.heap.objs.size, accObj us')] ++ pinsAt fp s5.heap) (ow ++ fr.map fun j => (σ[j]?).join) H8 s8 →
          Inv (cxC X N' scope G.objs.size s2 H2 fp) [(s2.heap.objs.size, accObj us')] (σC o fr σ) H8 s8 ∧ tn (i + 1) s8.heap ∧ ∀ b ∈ fp, H8 b = none := fun {us' σ8 H8 s8} I8 => by
        refine ⟨I8.unpinned.weak ?_ fun j v e => ?_, T.keep _ _ _ st5 fun b hb ob e => (I8.pin (b, ob) (List.mem_append_right _ (List.mem_append_right _ (mem_pinsAt hb e)))).1, fun b hb => ?_⟩
        · unfold σC
          rw [List.length_append, List.length_append, List.length_replicate, hol]
        · unfold σC at e
          by_cases hj : j < o
          · rw [List.getElem?_append_left (by rw [List.length_replicate]; exact hj), List.getElem?_replicate, if_pos hj] at e
            cases e
          · rw [List.getElem?_append_right (by rw [List.length_replicate]; exact Nat.not_lt.mp hj), List.length_replicate] at e
            rw [List.getElem?_append_right (by rw [hol]; exact Nat.not_lt.mp hj), hol]
            exact e
        · obtain ⟨ob, e, _⟩ := T.obj _ _ st5 b hb
          exact (I8.pin (b, ob) (List.mem_append_right _ (List.mem_append_right _ (mem_pinsAt hb e)))).2.1
      cases b with
      | false =>
        rw [if_neg Bool.false_ne_true] at q7 ⊢
        obtain ⟨m', hm, w7⟩ := q7
        obtain ⟨I8, st8, fr8⟩ := back (us' := us) (σ8 := []) I7
        exact ⟨m', hm, i + 1, _, H7, ys, us, I8, rfl, rv, st8, fr8, w7⟩
      | true =>
        rw [if_pos rfl] at q7 ⊢
        refine thn (he _ _ _ _ _ s7 _ H7 _ I7 q7) fun y s8 ⟨yv, H8, I8, r8, m', hm, w8⟩ => ?_
        obtain ⟨aD, nD, _, _, _⟩ := I8.pin (s2.heap.objs.size, accObj us) (by simp)
        have aD : s8.heap.get? s2.heap.objs.size = some (accObj us) := aD
        have nD : H8 s2.heap.objs.size = none := nD
        have hul : us.length ≤ sizeLine := by rw [← rv.length]; exact Nat.le_of_lt hz
        refine append_at (hsz := by show us.toArray.size ≤ sizeLine; rw [List.size_toArray]; exact hul) aD fun h9 hs9 hD9 => ?_
        have hD9' : h9.get? s2.heap.objs.size = some (accObj (us ++ [y])) := by
          rw [hD9]
          show some ({ cls := .type "list", data := .seq (us.toArray.push y) (us.length + 1) } : Obj) = some { cls := .type "list", data := .seq (us ++ [y]).toArray (us ++ [y]).length }
          rw [List.length_append, List.length_singleton, List.push_toArray]
        have I9 : Inv (cxC X N' scope G.objs.size s2 H2 fp) (pinsAt fp s5.heap) (ow ++ fr.map fun j => (σ[j]?).join) H8 { s8 with heap := h9 } :=
          (I8.pins_of (pins' := pinsAt fp s5.heap) fun p hp => I8.pin p (List.mem_append_right _ (List.mem_append_right _ hp))).turned (t' := s8.toks) (it := s2.heap.objs.size) (fun b ob hb e => hs9.extBut b ob hb e) nD hDC (.inr (Nat.le_refl _))
            (fun x c e => by
              obtain ⟨v, z⟩ := I2.cell x c (S.sub hsc I2 x c e)
              exact Nat.ne_of_lt z.lt)
            fun p hp => by
              obtain ⟨hb, _⟩ := of_pinsAt (show p ∈ pinsAt fp s5.heap from by simpa [cxC] using hp)
              exact Nat.ne_of_lt (hfl p.1 hb)
        have I9' : Inv (cxC X N' scope G.objs.size s2 H2 fp) ([(s2.heap.objs.size, accObj (us ++ [y]))] ++ pinsAt fp s5.heap) (ow ++ fr.map fun j => (σ[j]?).join) H8 { s8 with heap := h9 } :=
          I9.pins_of fun p hp => by
            rcases List.mem_append.mp hp with z | z
            · have e : p = (s2.heap.objs.size, accObj (us ++ [y])) := by simpa using z
              subst e
              refine ⟨hD9', nD, hDC, fun z => ?_, fun v z => nomatch z⟩
              obtain ⟨_, ob, hob, _⟩ := I2.stack.mem z
              exact Nat.lt_irrefl _ (Heap.lt_size hob)
            · exact I9.pin p (List.mem_append_right _ z)
        obtain ⟨I10, st10, fr10⟩ := back (us' := us ++ [y]) (σ8 := []) I9'
        exact ⟨m', hm, i + 1, _, H8, ys ++ [yv], us ++ [y], I10, rfl, Vals.append rv (.cons r8 .nil), st10, fr10, w8⟩
  exact codeAny_compStart_list (loop _ rfl) (T.self _ 0 _ _ _ st1 (loop _ rfl))

/-- [elt for tg in iter if ..] -/
theorem pe_lc (hc : X.calm = true) {sc0 : Scope} {N0 : List Str} (S : CompScope sc0 N0 N' o fr scope) (hi : PI X tg iter wi) (ho : OwnG o g)
    (hg : ∀ (C : Addr) (s : Shared) (H : Hp) (fp : List Addr), PG (cxC X N' scope C s H fp) tg g)
    (ht : ∀ (C : Addr) (s : Shared) (H : Hp) (fp : List Addr), PTs (cxC X N' scope C s H fp) ifs tt)
    (he : ∀ (C : Addr) (s : Shared) (H : Hp) (fp : List Addr), PE (cxC X N' scope C s H fp) elt te)
    (hs : ∀ x, foldedSetIterable iter X.env x = pure x := by intro _; rfl) (hsc : X.env.scope = sc0 := by rfl) (hN0 : X.N = N0 := by rfl) : PE X (.ListComp elt [⟨tg, iter, ifs, 0⟩] scope pos) (tLc wi g tt te o fr) := by
  intro pins s σ H Q I h
  rw [eval_ListComp]
  refine lc_run hc S hi ho hg ht he hs hsc hN0 I h (use := none) (fun _ _ z => z) fun C oC D m H' ys s' J q hn nC hCD hCL hCs hCc hCp => ?_
  refine ⟨m, hn, fun h' hs' => ⟨.ref D, upd H' D (.lst ys), ?_, rfl, q⟩⟩
  refine J.unpinned.turned (t' := s'.toks) (it := C) (fun b ob hb e => hs'.extBut b ob hb e) (by rw [upd_ne hCD]; exact nC) hCL (.inr hCs) hCc hCp
/-- name = [elt for tg in iter if ..], where the name is stored while the block's names still stand -/
theorem ps_lc {i : Nat} {x : Str} {px : Pos} {spos : Pos} (hc : X.calm = true) (hN : X.N.Nodup) (hx : X.N[i]? = some x) (hl : X.env.kindOf x = some .local) {sc0 : Scope} {N0 : List Str} (S : CompScope sc0 N0 N' o fr scope) (hi : PI X tg iter wi) (ho : OwnG o g)
    (hg : ∀ (C : Addr) (s : Shared) (H : Hp) (fp : List Addr), PG (cxC X N' scope C s H fp) tg g)
    (ht : ∀ (C : Addr) (s : Shared) (H : Hp) (fp : List Addr), PTs (cxC X N' scope C s H fp) ifs tt)
    (he : ∀ (C : Addr) (s : Shared) (H : Hp) (fp : List Addr), PE (cxC X N' scope C s H fp) elt te)
    (hs : ∀ x, foldedSetIterable iter X.env x = pure x := by intro _; rfl) (hsc : X.env.scope = sc0 := by rfl) (hN0 : X.N = N0 := by rfl)
    (hsw : swapsWith (.ListComp elt [⟨tg, iter, ifs, 0⟩] scope pos) (some (.Name x px)) spos.line X.env = pure true := by rfl) :
    PS X (.Assign [.Name x px] (.ListComp elt [⟨tg, iter, ifs, 0⟩] scope pos) spos) (tAsg (tLc wi g tt te o fr) (gName i)) := by
  intro pins s σ H D I h
  rw [exec_Assign_Name_used _ _ _ _ hsw]
  refine wpAny_bind (wpAny_standAt (wpAny_bind ?_))
  show wpAny _ X.A (do let _ ← comprehension (.ListComp elt [⟨tg, iter, ifs, 0⟩] scope pos) scope X.env (firstIterPos [⟨tg, iter, ifs, 0⟩] pos) (newList []) false (eval iter X.env) (some (assign (.Name x px) X.env))) _ _ s
  refine wpAny_bind (wpAny_mono (lc_run (Q := fun _ s' => SP X pins D .next s') hc S hi ho hg ht he hs hsc hN0 I h (use := some (assign (.Name x px) X.env)) (fun _ _ z => z) fun C oC Dd m H' ys s' J q hn nC hCD hCL hCs hCc hCp => ?_) (fun _ s' hq => wpAny_pure (wpAny_pure hq)) fun _ _ e => e)
  show wpAny _ X.A (assign (.Name x px) X.env (.ref Dd)) _ _ _
  refine wpAny_assign_Name (store_ok J hN hx (.inl hl) (v := .ref Dd) rfl (fun s2 I2 => ?_) (.inr hl))
  have g1 := (I2.pin (C, oC) (by simp)).1
  have g1 : s2.heap.get? C = some oC := g1
  have n2 : s2.heap.Ns C m := by
    obtain ⟨oc, es, ep, e, r⟩ := hn
    have e0 := (J.pin (C, oC) (by simp)).1
    have e0 : s'.heap.get? C = some oC := e0
    rw [e] at e0
    cases e0
    exact ⟨_, es, ep, g1, r⟩
  refine ⟨m, n2, fun h' hs' => ⟨_, upd H' Dd (.lst ys), ?_, q⟩⟩
  exact I2.unpinned.turned (t' := s2.toks) (it := C) (fun b ob hb e => hs'.extBut b ob hb e) (by rw [upd_ne hCD]; exact nC) hCL (.inr hCs) hCc hCp
end
end L2

/-! ## more rules over the layer: range as a value, sum, set, enumerate, dict methods, deep == -/
namespace L2
open PySem PySem.Spec PyProof.Rows
section
variable {X : Cx}
theorem ints_of_vals : ∀ {ns : List Int} {us : List Value}, Vals (ns.map V.int) us → IntsAre us ns
  | [], _, .nil => .nil
  | n :: ns, _, .cons r t => by
    obtain ⟨tk, rfl⟩ := r
    exact .cons n tk (ints_of_vals t)
/-! ### range(..) as an object -/
/-! ### sum of ints -/
theorem call_sum_ints (hc : X.calm = true) : CallR X (.builtin "sum") (fun xs H Q => ∃ (p : Addr) (ns : List Int), xs = [.ref p] ∧ SqL X.K H p (ns.map V.int) ∧ Q (.int ns.sum) H) := by
  intro pins s σ H xs us Q I r h
  obtain ⟨p, ns, rfl, hq, q⟩ := h
  obtain ⟨u, rfl, ru⟩ := vals1 r
  obtain rfl : u = Value.ref p := ru
  obtain ⟨its, rv, pl, hz⟩ := I.list hq
  have hi := ints_of_vals rv
  have hall := hi.allInts
  obtain ⟨xs, ex⟩ := hall.items
  have hl := pl.isList
  rw [ex] at hl
  refine sum_intListG (I.ok.hd hc) hl fun h' tk t' hk => ?_
  have e1 : preSum (numAt xs) xs.size = ns.sum := by
    have e2 := hi.numsOf
    rw [show its = its.toArray.toList from rfl, ex, nums_intItems] at e2
    rw [preSum_eq, List.take_of_length_le (by simp), ← e2]
  exact ⟨.int ns.sum, H, I.kept hk, ⟨t', by rw [e1]⟩, q⟩
/-! ### set(list of ints), its length -/
def seen (ns : List Int) : List Int := firstMet (fun i => ns.getD i 0) ns.length
/-! ### isinstance against a built-in type -/
/-! ### for i, x in enumerate(list) -/
/-- at turn i: a new pair (i, the list's i-th) -/
def Ite (K : PySem.W.Frag) (a : Addr) : It :=
  ⟨fun i H => ∃ xs x, SqL K H a xs ∧ xs[i]? = some x, fun i H v H' => ∃ T x, H T = none ∧ v = .ref T ∧ H' = upd H T (.tup [.int i, x]) ∧ ∀ xs, SqL K H a xs → xs[i]? = some x, fun i H => ∃ xs, SqL K H a xs ∧ xs.length ≤ i⟩
def iEnum (K : PySem.W.Frag) (ta : TA) : TI := fun σ H R => ta σ H fun vs H1 => ∃ a, vs = [.ref a] ∧ (∃ xs, SqL K H1 a xs) ∧ R (Ite K a) H1
theorem turn_enum {P : Program} {w : World} {K : PySem.W.Frag} {elts : List Expr} {x1 : Nat} {pos : Pos} (a e it : Addr) (hne : e ≠ it) : Turn P w K (.Tuple elts x1 pos) (Ite K a) [e, it] e (fun i h => (∃ old, IsEnum h e it i old) ∧ h.IsListIter it a i) where
  mem := by simp
  obj := fun i h st b hb => by
    obtain ⟨⟨old, he⟩, o, eo, c, d⟩ := st
    rcases List.mem_cons.mp hb with z | hb
    · subst z
      exact ⟨_, he, fun v z => by
        have z' : Data.fields _ = Data.cell v := z
        cases z'⟩
    · have z : b = it := by simpa using hb
      subst z
      exact ⟨o, eo, fun v z => by rw [d] at z; cases z⟩
  keep := fun i h h' st k => by
    obtain ⟨⟨old, he⟩, hit⟩ := st
    exact ⟨⟨old, k e (by simp) _ he⟩, hit.at fun o x => k it (by simp) o x⟩
  item := by
    intro X hP hw hK hc i pins s σ H E I hf st hg
    subst hP hw hK
    obtain ⟨xs, x, hq, hx⟩ := hg
    obtain ⟨⟨old, he⟩, hit⟩ := st
    obtain ⟨its, rv, p, hz⟩ := I.list hq
    obtain ⟨u, hu, ru⟩ := rv.get hx
    obtain ⟨f0, f1, f2, f3, f4, f5⟩ := hf e (by simp)
    obtain ⟨g0, g1, g2, g3, g4, g5⟩ := hf it (by simp)
    have hT0 : H s.heap.objs.size = none := I.hok.fresh (Nat.le_refl _)
    refine wpAny_pyNext_enum_item he hit p.isList (x := u) (by simpa using hu) hne fun h' ho hit' hT hsz hk => ?_
    have ltT : ∀ b ob, s.heap.get? b = some ob → b ≠ s.heap.objs.size := fun b ob z => Nat.ne_of_lt (Heap.lt_size z)
    have ltH : ∀ b ob, H b = some ob → b ≠ s.heap.objs.size := fun b ob z => Nat.ne_of_lt (I.hok.lt z)
    have nof : ∀ b ob, H b = some ob → b ≠ e ∧ b ≠ it := fun b ob z => ⟨fun q => (by rw [q, f0] at z; cases z), fun q => (by rw [q, g0] at z; cases z)⟩
    have I1 : Inv X pins σ (upd H s.heap.objs.size (.tup [.int i, x])) { s with heap := h', toks := s.toks + 1 } := by
      refine I.step (g' := s.gens) (d' := s.drawn) (ch := [e, it]) (fun b hb => ?_) (fun b o _ _ hcx z _ => hk b o (fun q => hcx (by simp [q])) (fun q => hcx (by simp [q])) z) (fun b o _ _ hcx z _ => ⟨o.slots, hk b o (fun q => hcx (by simp [q])) (fun q => hcx (by simp [q])) z⟩)
        (fun b o _ z n => by rw [upd_ne (ltT b o z)]; exact n) (fun b o hcx z => ⟨o, hk b o (fun q => hcx (by simp [q])) (fun q => hcx (by simp [q])) z⟩) (fun b ys z => by rw [upd_ne (ltH b _ z)]; exact z) (fun b o v z => by rw [upd_ne (ltH b _ z)]; exact z)
        (fun b ps z => ⟨#[], by rw [upd_ne (ltH b _ z), z]; simp⟩) (fun m hm => ?_) (fun b v z => ?_) I.bare
      · rcases List.mem_cons.mp hb with q | hb
        · rw [q]; exact ⟨f3, f1, f4, f5⟩
        · have q : b = it := by simpa using hb
          rw [q]; exact ⟨g3, g1, g4, g5⟩
      · obtain ⟨o, es, ep, ho', r⟩ := hm
        exact ⟨o, es, ep, hk _ o (Ne.symm f1) (Ne.symm g1) ho', r⟩
      · by_cases hb : b = s.heap.objs.size
        · subst hb
          rw [upd_same] at z
          cases z
          exact ⟨by show 2 ≤ sizeLine; decide, [.int i s.toks, u], .cons ⟨_, rfl⟩ (.cons ru .nil), ⟨_, hT, rfl, _, rfl⟩⟩
        · rw [upd_ne hb] at z
          refine (I.hok b v z).stay (fun c w' hc' q => ?_) (fun c q => by rw [upd_ne (ltH c _ q)]; exact q) fun c ys q => by rw [upd_ne (ltH c _ q)]; exact q
          rcases hc' with rfl | hc'
          · exact hk c w' (nof c _ z).1 (nof c _ z).2 q
          · exact hk c w' (nof c _ hc').1 (nof c _ hc').2 q
    refine ⟨_, rfl, wpAny_letOwnedTupleGo_enum ho fun h2 he2 hs2 => ?_⟩
    have fT : e ≠ s.heap.objs.size := ltT e _ he
    have I2 : Inv X pins σ (upd H s.heap.objs.size (.tup [.int i, x])) { s with heap := h2, toks := s.toks + 1 } := Inv.turned (s := { s with heap := h', toks := s.toks + 1 }) (h' := h2) (t' := s.toks + 1) (it := e) I1 (fun b o hb z => hs2.extBut b o hb z) (by rw [upd_ne fT]; exact f0) f1 f3 f4 f5
    refine ⟨.ref s.heap.objs.size, _, I2, rfl, ⟨_, x, hT0, rfl, rfl, fun ys hy => by rw [I.list_inj hy hq]; exact hx⟩, ⟨⟨u, by simpa using he2⟩, hit'.at fun o z => hs2.extBut it o (Ne.symm hne) z⟩, fun b hb => ?_⟩
    rcases List.mem_cons.mp hb with q | hb
    · rw [q, upd_ne fT]; exact f0
    · have q : b = it := by simpa using hb
      obtain ⟨o, eo, _⟩ := hit
      rw [q, upd_ne (ltT it o eo)]; exact g0
  done := by
    intro X hP hw hK hc i pins s σ H E I hf st hg
    subst hP hw hK
    obtain ⟨xs, hq, hx⟩ := hg
    obtain ⟨⟨old, he⟩, hit⟩ := st
    obtain ⟨its, rv, p, hz⟩ := I.list hq
    obtain ⟨g0, g1, g2, g3, g4, g5⟩ := hf it (by simp)
    have hl := rv.length
    exact wpAny_pyNext_enum_end (I.ok.hd hc) he hit p.isList (by simp; omega) fun h' eb => ⟨rfl, I.turned (t' := s.toks) (it := it) (fun b o hb z => eb b o hb z) g0 g1 g3 g4 g5⟩
  self := fun _ _ _ _ _ st h => let ⟨⟨_, he⟩, _⟩ := st; wpAny_pyIter_enum he h
theorem pi_enum {elts : List Expr} {x1 : Nat} {tpos : Pos} {a : Expr} {ta : TA} {p pos : Pos} (hg : Gl X "enumerate") (hm : X.mg "enumerate" = none) (ha : PA X [a] ta) (hs : starEach [a] X.env = [(false, eval a X.env)] := by rfl) :
    PI X (.Tuple elts x1 tpos) (.Call (.Name "enumerate" p) [a] [] pos) (iEnum X.K ta) := by
  intro pins s σ H R I h
  refine Call_ (ld_blt I hg hm Boot.«enumerate» (PyProof.Rows.callWith_type1 (thn (ha pos pins s σ H _ I h) fun us s1 ⟨vs, H1, I1, r1, q1⟩ => ?_) hs rfl))
  obtain ⟨b, e, ⟨xs, hq⟩, q⟩ := q1
  subst e
  obtain ⟨u, rfl, ru⟩ := vals1 r1
  obtain rfl : u = Value.ref b := ru
  obtain ⟨its, rv, pl, hz⟩ := I1.list hq
  refine call_enumerate_list pl.isList fun h' he hit hsz hk => ?_
  have I2 : Inv X pins σ H1 { s1 with heap := h' } := I1.kept (t' := s1.toks) hk
  refine wpAny_pyIter_enum he ?_
  have nn : ∀ k, s1.heap.objs.size ≤ k → H1 k = none := fun k hk => I1.hok.fresh hk
  refine ⟨s1.heap.objs.size + 1, [s1.heap.objs.size + 1, s1.heap.objs.size], _, _, H1, rfl, I2, turn_enum b _ _ (Nat.succ_ne_self _), ⟨⟨_, he⟩, hit⟩, fun c hc => ?_, q⟩
  have hle : s1.heap.objs.size ≤ c := by
    rcases List.mem_cons.mp hc with q | hc
    · rw [q]; exact Nat.le_succ _
    · have q : c = s1.heap.objs.size := by simpa using hc
      rw [q]; exact Nat.le_refl _
  exact I1.fpOk hle (nn c hle)
end
end L2

/-! ## a dict's setdefault and values; == of lists and tuples to any depth -/
namespace L2
open PySem PySem.Spec PyProof.Rows
section
variable {X : Cx}
end

/-! ### == to any depth -/
/-- the answer of x == y by the abstract heap, down to depth n -/
inductive EqD (K : PySem.W.Frag) (H : Hp) : Nat → V → V → Bool → Prop
  | flat {n : Nat} {x y : V} (fx : flatV x = true) (fy : flatV y = true) : EqD K H n x y (eqV x y)
  | lsts {n : Nat} {a b : Addr} {xs ys : List V} {e : Nat → Bool} (ha : SqL K H a xs) (hb : SqL K H b ys) (hl : xs.length = ys.length) (h : ∀ i x y, xs[i]? = some x → ys[i]? = some y → EqD K H n x y (e i)) : EqD K H (n + 1) (.ref a) (.ref b) ((List.range xs.length).all e)
  | lens {n : Nat} {a b : Addr} {xs ys : List V} (ha : SqL K H a xs) (hb : SqL K H b ys) (hl : xs.length ≠ ys.length) : EqD K H (n + 1) (.ref a) (.ref b) false
  | tups {n : Nat} {a b : Addr} {xs ys : List V} {e : Nat → Bool} (ha : SqT K H a xs) (hb : SqT K H b ys) (h : ∀ i x y, xs[i]? = some x → ys[i]? = some y → EqD K H n x y (e i)) :
      EqD K H (n + 1) (.ref a) (.ref b) ((List.range (min xs.length ys.length)).all e && xs.length == ys.length)
theorem eqV_self {x : V} (h : flatV x = true) : eqV x x = true := by
  cases x <;> first | rfl | (simp [eqV]; done) | exact absurd (show false = true from h) Bool.false_ne_true
section
variable {X : Cx} {pins : List (Addr × Obj)} {σ : St} {H : Hp} {s : Shared}
theorem Vals.at {xs : List V} {us : List Value} {j : Nat} (r : Vals xs us) (h : j < us.length) : ∃ x, xs[j]? = some x ∧ RelV x us[j] := by
  have hl := r.length
  have hx : xs[j]? = some (xs[j]'(by omega)) := List.getElem?_eq_getElem (by omega)
  obtain ⟨u, e, ru⟩ := r.get hx
  rw [List.getElem?_eq_getElem h] at e
  cases e
  exact ⟨_, hx, ru⟩
/-- a thing and itself -/
theorem EqD.self {n : Nat} {x y : V} {b : Bool} (q : EqD X.K H n x y b) (I : Inv X pins σ H s) : x = y → b = true := by
  induction q with
  | flat fx fy => intro e; subst e; exact eqV_self fx
  | @lsts n a b xs ys e ha hb hl h ih =>
    intro z
    cases z
    have e1 : xs = ys := I.list_inj ha hb
    subst e1
    rw [List.all_eq_true]
    intro i hi
    have hx : xs[i]? = some (xs[i]'(List.mem_range.mp hi)) := List.getElem?_eq_getElem _
    exact ih i _ _ hx hx rfl
  | @lens n a b xs ys ha hb hl =>
    intro z
    cases z
    exact absurd (congrArg List.length (I.list_inj ha hb)) hl
  | @tups n a b xs ys e ha hb h ih =>
    intro z
    cases z
    have e1 : xs = ys := I.tuple_inj ha hb
    subst e1
    rw [Nat.min_self, Bool.and_eq_true, List.all_eq_true]
    refine ⟨fun i hi => ?_, by simp⟩
    have hx : xs[i]? = some (xs[i]'(List.mem_range.mp hi)) := List.getElem?_eq_getElem _
    exact ih i _ _ hx hx rfl
theorem EqD.at {n : Nat} {x y : V} {b : Bool} (q : EqD X.K H n x y b) (I : Inv X pins σ H s) : ∀ {A : Around} {u v : Value}, A.units + n < cLine → RelV x u → RelV y v → SeqAt.EqAt A s u v b := by
  induction q with
  | flat fx fy => intro A u v _ ru rv; exact eqAt_V ru rv fx fy
  | @lsts n a b xs ys e ha hb hl h ih =>
    intro A u v hu ru rv
    obtain rfl : u = Value.ref a := ru
    obtain rfl : v = Value.ref b := rv
    by_cases hab : a = b
    · have z := EqD.self (EqD.lsts ha hb hl h) I (congrArg V.ref hab)
      rw [z, hab]
      exact SeqAt.EqAt.same _
    obtain ⟨us, rx, px, _⟩ := I.list ha
    obtain ⟨vs, ry, py, _⟩ := I.list hb
    have l1 := rx.length
    have l2 := ry.length
    have z := SeqAt.RcAt.lists (A := A) (s := s) (e := e) px.isList py.isList (by rw [List.size_toArray, List.size_toArray]; omega) (by omega) fun j h1 h2 => by
      obtain ⟨x, ex, rx'⟩ := rx.at (j := j) (by simpa using h1)
      obtain ⟨y, ey, ry'⟩ := ry.at (j := j) (by simpa using h2)
      exact ih j x y ex ey (A := A.in1) (by show A.units + 1 + n < cLine; omega) (by simpa using rx') (by simpa using ry')
    rw [List.size_toArray, ← l1] at z
    exact SeqAt.EqAt.of_refs hab z
  | @lens n a b xs ys ha hb hl =>
    intro A u v hu ru rv
    obtain rfl : u = Value.ref a := ru
    obtain rfl : v = Value.ref b := rv
    obtain ⟨us, rx, px, _⟩ := I.list ha
    obtain ⟨vs, ry, py, _⟩ := I.list hb
    have l1 := rx.length
    have l2 := ry.length
    have hab : a ≠ b := fun z => by
      subst z
      exact hl (congrArg List.length (I.list_inj ha hb))
    exact SeqAt.EqAt.of_refs hab (SeqAt.RcAt.lists_lengths px.isList py.isList (by rw [List.size_toArray, List.size_toArray]; simp; omega) (by omega))
  | @tups n a b xs ys e ha hb h ih =>
    intro A u v hu ru rv
    obtain rfl : u = Value.ref a := ru
    obtain rfl : v = Value.ref b := rv
    by_cases hab : a = b
    · have z := EqD.self (EqD.tups ha hb h) I (congrArg V.ref hab)
      rw [z, hab]
      exact SeqAt.EqAt.same _
    obtain ⟨us, rx, px, _⟩ := I.tuple ha
    obtain ⟨vs, ry, py, _⟩ := I.tuple hb
    have l1 := rx.length
    have l2 := ry.length
    have z := SeqAt.RcAt.tuples (A := A) (s := s) (e := e) (show s.heap.IsTuple a us.toArray from px) (show s.heap.IsTuple b vs.toArray from py) (by omega) fun j h1 h2 => by
      obtain ⟨x, ex, rx'⟩ := rx.at (j := j) (by simpa using h1)
      obtain ⟨y, ey, ry'⟩ := ry.at (j := j) (by simpa using h2)
      exact ih j x y ex ey (A := A.in1) (by show A.units + 1 + n < cLine; omega) (by simpa using rx') (by simpa using ry')
    rw [List.size_toArray, List.size_toArray, ← l1, ← l2] at z
    exact SeqAt.EqAt.of_refs hab z
end
section
variable {X : Cx}
/-- x == y, x != y of two lists or two tuples -/
def rEqD (K : PySem.W.Frag) (neg : Bool) : R2 := fun x y H Q => ∃ n b p q, x = .ref p ∧ y = .ref q ∧ n ≤ 6 ∧ EqD K H n x y b ∧ Q (.bl (if neg then !b else b)) H
theorem op_eqD (hu : X.A.units + 8 < cLine) : OpR X (compareOp .Eq) (rEqD X.K false) := by
  intro pins s σ H x y u v Q I ru rv h
  obtain ⟨n, b, p, q, rfl, rfl, hn, d, hq⟩ := h
  obtain rfl : u = Value.ref p := ru
  obtain rfl : v = Value.ref q := rv
  have fin : EP X pins σ Q (.bool b) s := ⟨.bl b, H, I, rfl, hq⟩
  cases d with
  | flat fx fy => exact absurd (show false = true from fx) Bool.false_ne_true
  | @lsts n _ _ xs ys e ha hb hl h =>
    obtain ⟨us, rx, px, _⟩ := I.list ha
    obtain ⟨vs, ry, py, _⟩ := I.list hb
    have l1 := rx.length
    have l2 := ry.length
    refine SeqAt.eq_listAt (e := e) px.isList py.isList (by rw [List.size_toArray, List.size_toArray]; omega) (by omega) (fun j h1 h2 => ?_) (by rw [List.size_toArray, ← l1]; exact fin)
    obtain ⟨x, ex, rx'⟩ := rx.at (j := j) (by simpa using h1)
    obtain ⟨y, ey, ry'⟩ := ry.at (j := j) (by simpa using h2)
    exact (h j x y ex ey).at I (A := X.A.in1) (by show X.A.units + 1 + n < cLine; omega) (by simpa using rx') (by simpa using ry')
  | @lens n _ _ xs ys ha hb hl =>
    obtain ⟨us, rx, px, _⟩ := I.list ha
    obtain ⟨vs, ry, py, _⟩ := I.list hb
    have l1 := rx.length
    have l2 := ry.length
    exact SeqAt.eq_list_lengthsAt px.isList py.isList (by rw [List.size_toArray, List.size_toArray]; simp; omega) (by omega) fin
  | @tups n _ _ xs ys e ha hb h =>
    obtain ⟨us, rx, px, _⟩ := I.tuple ha
    obtain ⟨vs, ry, py, _⟩ := I.tuple hb
    have l1 := rx.length
    have l2 := ry.length
    refine SeqAt.eq_tupleAt (e := e) (show s.heap.IsTuple p us.toArray from px) (show s.heap.IsTuple q vs.toArray from py) (by omega) (fun j h1 h2 => ?_) (by rw [List.size_toArray, List.size_toArray, ← l1, ← l2]; exact fin)
    obtain ⟨x, ex, rx'⟩ := rx.at (j := j) (by simpa using h1)
    obtain ⟨y, ey, ry'⟩ := ry.at (j := j) (by simpa using h2)
    exact (h j x y ex ey).at I (A := X.A.in1) (by show X.A.units + 1 + n < cLine; omega) (by simpa using rx') (by simpa using ry')
end
end L2

/-! ## own words over the layer: heaps, pairs, webs, loops over lists and tuples -/
namespace My
open PySem L2
abbrev IL (ns : List Int) : List V := ns.map V.int
theorem il_length (ns : List Int) : (IL ns).length = ns.length := List.length_map ..
theorem il_snoc (a : List Int) (r : Int) : IL (a ++ [r]) = IL a ++ [.int r] := List.map_append ..
theorem il_take (a : List Int) (n : Nat) : IL (a.take n) = (IL a).take n := List.map_take ..
theorem il_drop (a : List Int) (n : Nat) : IL (a.drop n) = (IL a).drop n := List.map_drop ..
theorem il_set (a : List Int) (n : Nat) (z : Int) : IL (a.set n z) = (IL a).set n (.int z) := List.map_set ..
theorem il_at {ns : List Int} {i : Nat} {z : Int} (h : ns[i]? = some z) : (IL ns)[i]? = some (.int z) := by rw [List.getElem?_map, h]; rfl
theorem il_get {ns : List Int} {i : Nat} {x : V} (h : (IL ns)[i]? = some x) : ∃ z, x = .int z ∧ ns[i]? = some z := by
  rw [List.getElem?_map] at h
  cases e : ns[i]? with
  | none => rw [e] at h; cases h
  | some z => rw [e] at h; exact ⟨z, (Option.some.inj h).symm, rfl⟩
theorem same_upd {H H2 : Hp} {a : Addr} {o : HO} (hn : H a = none) (s : Same H H2) : Same H (upd H2 a o) := fun b u e => by rw [upd_ne (ne_of_none e hn)]; exact s b u e
theorem same_new {H H2 : Hp} {p : Addr} {o : HO} (s : Same H H2) (hp : H2 p = none) : Same H (upd H2 p o) := same_upd (s.free hp) s
theorem same_at {H : Hp} {p : Addr} {o : HO} (hp : H p = none) : Same H (upd H p o) := same_new (Same.refl H) hp
theorem sqT_same {K : PySem.W.Frag} {H H' : Hp} {a : Addr} {xs : List V} (e : Same H H') (h : SqT K H a xs) : SqT K H' a xs := by
  rcases h with (h | ⟨o, h⟩) | h
  · exact .inl (.inl (e _ _ h))
  · exact .inl (.inr ⟨o, e _ _ h⟩)
  · exact .inr h
theorem small60 {n : Nat} (h : n ≤ 1000000) : n ≤ sizeLine := Nat.le_trans h (by decide)
theorem small60' {n : Nat} (h : n ≤ 1000000) : n < sizeLine := Nat.lt_of_le_of_lt h (by decide)
theorem hu8 {A : Around} {k : Nat} (hr : Room k A) : A.units + 8 < cLine := Nat.lt_of_le_of_lt (Nat.add_le_add_left (by decide : 8 ≤ 64) _) hr.units
/-- a list's item by a reckoned index -/
theorem atI_of {α : Type} {xs : List α} {i : Int} {n : Nat} {x : α} (hi : i = (n : Int)) (h : xs[n]? = some x) : atI xs i = some x := by
  subst hi
  have hn : n < xs.length := (List.getElem?_eq_some_iff.mp h).1
  unfold atI ixN
  rw [if_pos (Int.natCast_nonneg n), if_pos (by omega)]
  simpa using h
/-! ### tests -/
theorem itd {c A B : Prop} [Decidable c] (hc : c) (h : A) : if decide c = true then A else B := by rw [if_pos (decide_eq_true hc)]; exact h
theorem itdn {c A B : Prop} [Decidable c] (hc : ¬ c) (h : B) : if decide c = true then A else B := by rw [if_neg (by simp [hc])]; exact h
theorem itn {c A B : Prop} [Decidable c] (hc : c) (h : B) : if (!decide c) = true then A else B := by rw [if_neg (by simp [hc])]; exact h
theorem itnn {c A B : Prop} [Decidable c] (hc : ¬ c) (h : A) : if (!decide c) = true then A else B := by rw [if_pos (by simp [hc])]; exact h
theorem itd2 {c A B : Prop} [Decidable c] (h1 : c → A) (h2 : ¬ c → B) : if decide c = true then A else B := by
  by_cases h : c
  · exact itd h (h1 h)
  · exact itdn h (h2 h)
theorem itn2 {c A B : Prop} [Decidable c] (h1 : c → B) (h2 : ¬ c → A) : if (!decide c) = true then A else B := by
  by_cases h : c
  · exact itn h (h1 h)
  · exact itnn h (h2 h)
theorem itb {b : Bool} {A B : Prop} (h1 : b = true → A) (h2 : b = false → B) : if b = true then A else B := by
  cases b with
  | true => exact iteT (h1 rfl)
  | false => exact iteF (h2 rfl)
theorem itnb {b : Bool} {A B : Prop} (h1 : b = true → B) (h2 : b = false → A) : if (!b) = true then A else B := by
  cases b with
  | true => exact iteF (h1 rfl)
  | false => exact iteT (h2 rfl)
/-! ### lists or tuples -/
/-- a list (false) or a tuple (true) -/
def SqK (k : Bool) (K : PySem.W.Frag) (H : Hp) (a : Addr) (xs : List V) : Prop := match k with
  | false => SqL K H a xs
  | true => SqT K H a xs
theorem SqK.same {k : Bool} {K : PySem.W.Frag} {H H' : Hp} {a : Addr} {xs : List V} (e : Same H H') (h : SqK k K H a xs) : SqK k K H' a xs := by
  cases k with
  | false => exact e.seq h
  | true => exact sqT_same e h
theorem SqK.or {k : Bool} {K : PySem.W.Frag} {H : Hp} {a : Addr} {xs : List V} (h : SqK k K H a xs) : SqL K H a xs ∨ SqT K H a xs := by
  cases k with
  | false => exact .inl h
  | true => exact .inr h
def iSeq (K : PySem.W.Frag) (tl : TE) : TI := fun σ H R => tl σ H fun x H1 => ∃ a, x = .ref a ∧ (((∃ xs, SqL K H1 a xs) ∧ R (Itl K a) H1) ∨ ((∃ xs, SqT K H1 a xs) ∧ R (Itt K a) H1))
theorem pi_seq {X : Cx} {tg : Expr} {l : Expr} {tl : TE} (hl : PE X l tl) : PI X tg l (iSeq X.K tl) := by
  intro pins s σ H R I h
  refine thn (hl pins s σ H _ I h) fun v s1 ⟨x, H1, I1, r1, q1⟩ => ?_
  obtain ⟨a, e, q⟩ := q1
  subst e
  cases r1
  rcases q with ⟨⟨xs, hq⟩, q⟩ | ⟨⟨xs, hq⟩, q⟩
  · obtain ⟨its, rv, p, hz⟩ := I1.list hq
    refine wpAny_pyIter_list p.isList ?_
    refine ⟨s1.heap.objs.size, [s1.heap.objs.size], _, _, H1, rfl, I1.kept (t' := s1.toks) fun b o e => Heap.get?_push_of_some _ e, turn_list a _, ⟨_, Heap.get?_push_size _ rfl, rfl, rfl⟩, fun b hb => ?_, q⟩
    have e : b = s1.heap.objs.size := by simpa using hb
    subst e
    exact I1.fpOk (Nat.le_refl _) (I1.hok.fresh (Nat.le_refl _))
  · obtain ⟨its, rv, p, hz⟩ := I1.tuple hq
    refine wpAny_pyIter_tuple (show s1.heap.IsTuple a its.toArray from p) ?_
    refine ⟨s1.heap.objs.size, [s1.heap.objs.size], _, _, H1, rfl, I1.kept (t' := s1.toks) fun b o e => Heap.get?_push_of_some _ e, turn_tuple a _, ⟨_, Heap.get?_push_size _ rfl, rfl, rfl⟩, fun b hb => ?_, q⟩
    have e : b = s1.heap.objs.size := by simpa using hb
    subst e
    exact I1.fpOk (Nat.le_refl _) (I1.hok.fresh (Nat.le_refl _))
/-- a loop over a list or a tuple that the body leaves as it is -/
theorem for_seq {K : PySem.W.Frag} {k : Bool} {a : Addr} {xs : List V} {g : TG} {tb : TS} {D : Ends} {σ : St} {H : Hp} (Pv : Nat → St → Hp → Prop) (h0 : Pv 0 σ H) (hl : ∀ i σ H, i ≤ xs.length → Pv i σ H → SqK k K H a xs)
    (hs : ∀ i x σ H, xs[i]? = some x → Pv i σ H → g x σ H fun σ2 H2 => tb { D with nx := Pv (i + 1), ct := Pv (i + 1), bk := D.nx } σ2 H2) (hd : ∀ σ H, Pv xs.length σ H → D.nx σ H) :
    (((∃ xs, SqL K H a xs) ∧ ∃ W : Nat → Nat → St → Hp → Prop, (∃ m, W 0 m σ H) ∧ ∀ i m σ H, W i m σ H →
      ((Itl K a).stop i H ∧ D.nx σ H) ∨ ((Itl K a).go i H ∧ ∃ N : St → Hp → Prop, (∀ σ' H', N σ' H' → ∃ m', m' < m ∧ W (i + 1) m' σ' H') ∧ ∀ x H', (Itl K a).yld i H x H' → g x σ H' fun σ2 H2 => tb { D with nx := N, ct := N, bk := D.nx } σ2 H2)) ∨
     ((∃ xs, SqT K H a xs) ∧ ∃ W : Nat → Nat → St → Hp → Prop, (∃ m, W 0 m σ H) ∧ ∀ i m σ H, W i m σ H →
      ((Itt K a).stop i H ∧ D.nx σ H) ∨ ((Itt K a).go i H ∧ ∃ N : St → Hp → Prop, (∀ σ' H', N σ' H' → ∃ m', m' < m ∧ W (i + 1) m' σ' H') ∧ ∀ x H', (Itt K a).yld i H x H' → g x σ H' fun σ2 H2 => tb { D with nx := N, ct := N, bk := D.nx } σ2 H2))) := by
  cases k with
  | false => exact .inl ⟨⟨xs, hl 0 σ H (Nat.zero_le _) h0⟩, for_list (K := K) (a := a) (xs := xs) Pv h0 hl hs hd⟩
  | true => exact .inr ⟨⟨xs, hl 0 σ H (Nat.zero_le _) h0⟩, for_tup (K := K) (a := a) (xs := xs) Pv h0 hl hs hd⟩
/-! ### pairs of ints -/
def PairV (H : Hp) (v : V) (p : Int × Int) : Prop := ∃ t, v = .ref t ∧ H t = some (.tup [.int p.1, .int p.2])
def PairsV (H : Hp) (xs : List V) (ps : List (Int × Int)) : Prop := xs.length = ps.length ∧ ∀ (i : Nat) (p : Int × Int), ps[i]? = some p → ∃ v, xs[i]? = some v ∧ PairV H v p
theorem PairV.same {H H' : Hp} {v : V} {p : Int × Int} (s : Same H H') (h : PairV H v p) : PairV H' v p := let ⟨t, e, q⟩ := h; ⟨t, e, s _ _ q⟩
theorem PairsV.same {H H' : Hp} {xs : List V} {ps : List (Int × Int)} (s : Same H H') (h : PairsV H xs ps) : PairsV H' xs ps := ⟨h.1, fun i p e => let ⟨v, e1, q⟩ := h.2 i p e; ⟨v, e1, q.same s⟩⟩
theorem PairsV.at {H : Hp} {xs : List V} {ps : List (Int × Int)} (h : PairsV H xs ps) {i : Nat} {v : V} (e : xs[i]? = some v) : ∃ p, ps[i]? = some p ∧ PairV H v p := by
  have hi : i < xs.length := (List.getElem?_eq_some_iff.mp e).1
  have hp : i < ps.length := by rw [← h.1]; exact hi
  obtain ⟨v', e1, q⟩ := h.2 i ps[i] (List.getElem?_eq_getElem hp)
  rw [e] at e1
  cases e1
  exact ⟨_, List.getElem?_eq_getElem hp, q⟩
theorem PairsV.nil {H : Hp} : PairsV H [] [] := ⟨rfl, fun i p e => by simp at e⟩
theorem PairsV.snoc {H : Hp} {xs : List V} {ps : List (Int × Int)} {v : V} {p : Int × Int} (h : PairsV H xs ps) (q : PairV H v p) : PairsV H (xs ++ [v]) (ps ++ [p]) := by
  refine ⟨by rw [List.length_append, List.length_append, h.1]; rfl, fun i p' e => ?_⟩
  by_cases hi : i < ps.length
  · rw [List.getElem?_append_left hi] at e
    rw [List.getElem?_append_left (by rw [h.1]; exact hi)]
    exact h.2 i p' e
  · have hl : i = ps.length := by
      have := (List.getElem?_eq_some_iff.mp e).1
      rw [List.length_append, List.length_singleton] at this
      omega
    subst hl
    rw [List.getElem?_append_right (Nat.le_refl _), Nat.sub_self] at e
    rw [List.getElem?_append_right (by rw [h.1]; exact Nat.le_refl _), h.1, Nat.sub_self]
    have e' : p = p' := Option.some.inj e
    subst e'
    exact ⟨v, rfl, q⟩
theorem PairsV.drop {H : Hp} {xs : List V} {ps : List (Int × Int)} (h : PairsV H xs ps) (n : Nat) : PairsV H (xs.drop n) (ps.drop n) := by
  refine ⟨by rw [List.length_drop, List.length_drop, h.1], fun i p e => ?_⟩
  rw [List.getElem?_drop] at e ⊢
  exact h.2 _ p e
theorem PairsV.take {H : Hp} {xs : List V} {ps : List (Int × Int)} (h : PairsV H xs ps) (n : Nat) : PairsV H (xs.take n) (ps.take n) := by
  refine ⟨by rw [List.length_take, List.length_take, h.1], fun i p e => ?_⟩
  by_cases hi : i < n
  · rw [List.getElem?_take_of_lt hi] at e ⊢
    exact h.2 _ p e
  · rw [List.getElem?_take_eq_none (by omega)] at e
    cases e
theorem PairsV.app {H : Hp} {xs ys : List V} {ps qs : List (Int × Int)} (h : PairsV H xs ps) (h2 : PairsV H ys qs) : PairsV H (xs ++ ys) (ps ++ qs) := by
  refine ⟨by rw [List.length_append, List.length_append, h.1, h2.1], fun i p e => ?_⟩
  by_cases hi : i < ps.length
  · rw [List.getElem?_append_left hi] at e
    rw [List.getElem?_append_left (by rw [h.1]; exact hi)]
    exact h.2 i p e
  · rw [List.getElem?_append_right (by omega)] at e
    rw [List.getElem?_append_right (by rw [h.1]; omega), h.1]
    exact h2.2 _ p e
/-! ### a Web -/
theorem pt_ne : ¬ (("places" : Str) = "ties") := by decide +kernel
def wf (n : Int) (tl : Addr) : List (Str × V) := putF "ties" (.ref tl) (putF "places" (.int n) [])
theorem wf_places (n : Int) (tl : Addr) : (wf n tl).lookup ("places" : Str) = some (.int n) := by
  unfold wf
  rw [lookup_putF, if_neg pt_ne, lookup_putF, if_pos rfl]
theorem wf_ties (n : Int) (tl : Addr) : (wf n tl).lookup ("ties" : Str) = some (.ref tl) := by
  unfold wf
  rw [lookup_putF, if_pos rfl]
/-- a Web of n places stands at w, its ties ps -/
def WebAt (C : Addr) (H : Hp) (w : Addr) (n : Int) (ps : List (Int × Int)) : Prop := ∃ dx tl xs, H w = some (.ins C dx (wf n tl)) ∧ H tl = some (.lst xs) ∧ PairsV H xs ps
theorem WebAt.same {C : Addr} {H H' : Hp} {w : Addr} {n : Int} {ps : List (Int × Int)} (s : Same H H') (h : WebAt C H w n ps) : WebAt C H' w n ps := let ⟨dx, tl, xs, a, b, c⟩ := h; ⟨dx, tl, xs, s _ _ a, s _ _ b, c.same s⟩
/-- what a web keeps to -/
def GoodW (n : Int) (ps : List (Int × Int)) : Prop := 1 ≤ n ∧ n ≤ 14 ∧ ps.length ≤ 30 ∧ ∀ p ∈ ps, 0 ≤ p.1 ∧ p.1 < n ∧ 0 ≤ p.2 ∧ p.2 < n
/-! ### what the top has made -/
def FX (K : PySem.W.Frag) (mg : Str → Option Value) (x qual : Str) (st : Stmt) : Prop := ∃ (f : Addr) (fd : FuncData), mg x = some (.ref f) ∧ Fun K x qual st f fd
theorem fx_mk {K : PySem.W.Frag} {h : Heap} {mg : Str → Option Value} {x : Str} {st : Stmt} {f : Addr} {oc : Value} {od an : Option Addr} {osl : Array (Option Value)} {kV doc pm cdv ct : Value} (X : K.In h) (G : h.Ns mainGlobals mg)
    (a : PySem.W.nsIn K mainGlobals x = some (some (.ref f))) (l : K.lookup f = some ⟨oc, od, .func (PySem.W.fnOf x x (defArgs st) (defBody st) (defScope st) .none kV doc pm an cdv ct), osl⟩) (c : PySem.W.codeIn K cdv x = true) (k : PySem.W.keepIn K (.ref f) = true) : FX K mg x x st :=
  ⟨f, _, PySem.W.mg_of X G a, fun_mk l c k⟩
def CXF (K : PySem.W.Frag) (mg : Str → Option Value) (x qual : Str) (st : Stmt) (fs : List Str) : Prop := ∃ (C f : Addr) (fd : FuncData), mg x = some (.ref C) ∧ Fun K "__init__" qual st f fd ∧ Cls K C ∧ Mk K C f ∧ ∀ a ∈ fs, NoAttr K C a
theorem cx_mk {K : PySem.W.Frag} {h : Heap} {mg : Str → Option Value} {x qual : Str} {fs : List Str} {st : Stmt} {C f : Addr} {oc : Value} {od an : Option Addr} {osl : Array (Option Value)} {kV doc pm cdv ct : Value} (X : K.In h) (G : h.Ns mainGlobals mg)
    (aC : PySem.W.nsIn K mainGlobals x = some (some (.ref C))) (a : PySem.W.findIn K (.ref C) "__init__" = some (some (.ref f))) (i : PySem.W.isFn K (.ref f) = true)
    (l : K.lookup f = some ⟨oc, od, .func (PySem.W.fnOf "__init__" qual (defArgs st) (defBody st) (defScope st) .none kV doc pm an cdv ct), osl⟩) (c : PySem.W.codeIn K cdv qual = true) (k : PySem.W.keepIn K (.ref f) = true)
    (pg : PySem.W.plainGet K C Str.empty = true) (hd : PySem.W.hasDictIn K C = true) (po : PySem.W.plainOver K C = true) (sa : PySem.W.findIn K (.ref C) "__setattr__" = some (some (.builtin "object.__setattr__"))) (mk : PySem.W.makesIn K C = true) (kc : PySem.W.keepIn K (.ref C) = true)
    (na : ∀ a ∈ fs, PySem.W.findIn K (.ref C) a = some none) : CXF K mg x qual st fs :=
  ⟨C, f, _, PySem.W.mg_of X G aC, fun_mk l c k, ⟨pg, hd, po, sa⟩, ⟨mk, a, i, kc⟩, na⟩
theorem const_mk {K : PySem.W.Frag} {h : Heap} {mg : Str → Option Value} {x : Str} {z : Int} {v : Value} (X : K.In h) (G : h.Ns mainGlobals mg) (a : PySem.W.nsIn K mainGlobals x = some (some v)) (e : ∃ tk, v = .int z tk) : ∃ tk, mg x = some (.int z tk) := by
  obtain ⟨tk, rfl⟩ := e
  exact ⟨tk, PySem.W.mg_of X G a⟩
end My

/-! ## comprehensions: the forms one uses -/
namespace My
open PySem L2
theorem nmY {i : Nat} {x : V} {σ : St} {H : Hp} {A B : St → Hp → Prop} (h : A (σ.set i (some x)) H) : gName i x σ H fun σ2 H2 => tYes σ2 H2 fun b H3 => if b = true then A σ2 H3 else B σ2 H3 :=
  (show if true = true then A (σ.set i (some x)) H else B (σ.set i (some x)) H from iteT h)
theorem nm {i : Nat} {x : V} {σ : St} {H : Hp} {Q : St → Hp → Prop} (h : Q (σ.set i (some x)) H) : gName i x σ H Q := h
section
variable {K : PySem.W.Frag} {a : Addr} {xs : List V} {g : TG} {tt : TT} {te : TE} {o : Nat} {fr : List Nat} {σ : St} {H : Hp} {Q : VK}
/-- what a turn wants, by an invariant over turn, items so far, heap -/
abbrev LcTurn (Pv : Nat → List V → Hp → Prop) (g : TG) (tt : TT) (te : TE) (o : Nat) (fr : List Nat) (σ : St) (i : Nat) (x : V) (ys : List V) (H : Hp) : Prop :=
  ∀ S : Nat → List V → Hp → Prop, (∀ ys H, Pv (i + 1) ys H → S (i + 1) ys H) → g x (σC o fr σ) H fun σ2 H2 => tt σ2 H2 fun b H3 => if b = true then te σ2 H3 fun y H4 => S (i + 1) (ys ++ [y]) H4 else S (i + 1) ys H3
theorem lc_list (Pv : Nat → List V → Hp → Prop) (h0 : Pv 0 [] H) (hz : xs.length < sizeLine) (hl : ∀ i ys H, i ≤ xs.length → Pv i ys H → SqL K H a xs ∧ ys.length ≤ i)
    (hs : ∀ i x ys H, xs[i]? = some x → Pv i ys H → LcTurn Pv g tt te o fr σ i x ys H) (hd : ∀ ys H, Pv xs.length ys H → ∀ p, H p = none → Q (.ref p) (upd H p (.lst ys))) : LcR (Itl K a) g tt te o fr σ H Q := by
  refine ⟨fun i m ys H => m = xs.length - i ∧ i ≤ xs.length ∧ Pv i ys H, ⟨xs.length, by simp, Nat.zero_le _, h0⟩, ?_⟩
  rintro i m ys H ⟨rfl, hi, p⟩
  obtain ⟨q, hy⟩ := hl i ys H hi p
  by_cases hlt : i < xs.length
  · refine .inr ⟨⟨xs, xs[i], q, by simp [hlt]⟩, by omega, fun x H' ⟨e, y⟩ => ?_⟩
    subst e
    have hx := y xs q
    exact hs i x ys _ hx p (fun j ys H => ∃ m', m' < xs.length - i ∧ m' = xs.length - j ∧ j ≤ xs.length ∧ Pv j ys H) fun ys H p' => ⟨xs.length - (i + 1), by omega, rfl, hlt, p'⟩
  · have e : i = xs.length := by omega
    subst e
    exact .inl ⟨⟨xs, q, Nat.le_refl _⟩, by omega, hd ys H p⟩
theorem lc_tup (Pv : Nat → List V → Hp → Prop) (h0 : Pv 0 [] H) (hz : xs.length < sizeLine) (hl : ∀ i ys H, i ≤ xs.length → Pv i ys H → SqT K H a xs ∧ ys.length ≤ i)
    (hs : ∀ i x ys H, xs[i]? = some x → Pv i ys H → LcTurn Pv g tt te o fr σ i x ys H) (hd : ∀ ys H, Pv xs.length ys H → ∀ p, H p = none → Q (.ref p) (upd H p (.lst ys))) : LcR (Itt K a) g tt te o fr σ H Q := by
  refine ⟨fun i m ys H => m = xs.length - i ∧ i ≤ xs.length ∧ Pv i ys H, ⟨xs.length, by simp, Nat.zero_le _, h0⟩, ?_⟩
  rintro i m ys H ⟨rfl, hi, p⟩
  obtain ⟨q, hy⟩ := hl i ys H hi p
  by_cases hlt : i < xs.length
  · refine .inr ⟨⟨xs, xs[i], q, by simp [hlt]⟩, by omega, fun x H' ⟨e, y⟩ => ?_⟩
    subst e
    have hx := y xs q
    exact hs i x ys _ hx p (fun j ys H => ∃ m', m' < xs.length - i ∧ m' = xs.length - j ∧ j ≤ xs.length ∧ Pv j ys H) fun ys H p' => ⟨xs.length - (i + 1), by omega, rfl, hlt, p'⟩
  · have e : i = xs.length := by omega
    subst e
    exact .inl ⟨⟨xs, q, Nat.le_refl _⟩, by omega, hd ys H p⟩
theorem lc_seq {k : Bool} (Pv : Nat → List V → Hp → Prop) (h0 : Pv 0 [] H) (hz : xs.length < sizeLine) (hl : ∀ i ys H, i ≤ xs.length → Pv i ys H → SqK k K H a xs ∧ ys.length ≤ i)
    (hs : ∀ i x ys H, xs[i]? = some x → Pv i ys H → LcTurn Pv g tt te o fr σ i x ys H) (hd : ∀ ys H, Pv xs.length ys H → ∀ p, H p = none → Q (.ref p) (upd H p (.lst ys))) :
    ((∃ xs, SqL K H a xs) ∧ LcR (Itl K a) g tt te o fr σ H Q) ∨ ((∃ xs, SqT K H a xs) ∧ LcR (Itt K a) g tt te o fr σ H Q) := by
  cases k with
  | false => exact .inl ⟨⟨xs, (hl 0 [] H (Nat.zero_le _) h0).1⟩, lc_list Pv h0 hz hl hs hd⟩
  | true => exact .inr ⟨⟨xs, (hl 0 [] H (Nat.zero_le _) h0).1⟩, lc_tup Pv h0 hz hl hs hd⟩
theorem lc_range {lo : Int} {n : Nat} (Pv : Nat → List V → Hp → Prop) (h0 : Pv 0 [] H) (hz : n < sizeLine) (hl : ∀ i ys H, i ≤ n → Pv i ys H → ys.length ≤ i)
    (hs : ∀ i ys H, i < n → Pv i ys H → LcTurn Pv g tt te o fr σ i (.int (lo + i)) ys H) (hd : ∀ ys H, Pv n ys H → ∀ p, H p = none → Q (.ref p) (upd H p (.lst ys))) : LcR (Itr lo n) g tt te o fr σ H Q := by
  refine ⟨fun i m ys H => m = n - i ∧ i ≤ n ∧ Pv i ys H, ⟨n, by simp, Nat.zero_le _, h0⟩, ?_⟩
  rintro i m ys H ⟨rfl, hi, p⟩
  have hy := hl i ys H hi p
  by_cases hlt : i < n
  · refine .inr ⟨hlt, by omega, fun x H' ⟨e, y⟩ => ?_⟩
    subst e
    subst y
    exact hs i ys _ hlt p (fun j ys H => ∃ m', m' < n - i ∧ m' = n - j ∧ j ≤ n ∧ Pv j ys H) fun ys H p' => ⟨n - (i + 1), by omega, rfl, hlt, p'⟩
  · have e : i = n := by omega
    subst e
    exact .inl ⟨Nat.le_refl _, by omega, hd ys H p⟩
end
end My
namespace My
open PySem L2
theorem nodup_get {α : Type} {l : List α} (h : l.Nodup) {i j : Nat} {x : α} (a : l[i]? = some x) (b : l[j]? = some x) : i = j := by
  obtain ⟨h1, e1⟩ := List.getElem?_eq_some_iff.mp a
  obtain ⟨h2, e2⟩ := List.getElem?_eq_some_iff.mp b
  exact (List.getElem_inj h).mp (e1.trans e2.symm)
theorem getD_of {α : Type} {l : List α} {i : Nat} {x d : α} (h : l[i]? = some x) : l.getD i d = x := by rw [List.getD_eq_getElem?_getD, h]; rfl
theorem nd_snoc {α : Type} {l : List α} {x : α} (h : l.Nodup) (hx : x ∉ l) : (l ++ [x]).Nodup := by
  rw [List.nodup_append]
  refine ⟨h, by simp, fun a ha b hb => ?_⟩
  rw [List.mem_singleton] at hb
  subst hb
  rintro rfl
  exact hx ha
/-- for i, x in enumerate(a list that the body leaves as it is): a new pair at each turn -/
theorem for_enum {K : PySem.W.Frag} {a : Addr} {xs : List V} {g : TG} {tb : TS} {D : Ends} {σ : St} {H : Hp} (Pv : Nat → St → Hp → Prop) (h0 : Pv 0 σ H) (hl : ∀ i σ H, i ≤ xs.length → Pv i σ H → SqL K H a xs)
    (hs : ∀ (i : Nat) x σ H (p : Addr), H p = none → xs[i]? = some x → Pv i σ H → g (.ref p) σ (upd H p (.tup [.int i, x])) fun σ2 H2 => tb { D with nx := Pv (i + 1), ct := Pv (i + 1), bk := D.nx } σ2 H2) (hd : ∀ σ H, Pv xs.length σ H → D.nx σ H) :
    ∃ W : Nat → Nat → St → Hp → Prop, (∃ m, W 0 m σ H) ∧ ∀ i m σ H, W i m σ H →
      ((Ite K a).stop i H ∧ D.nx σ H) ∨ ((Ite K a).go i H ∧ ∃ N : St → Hp → Prop, (∀ σ' H', N σ' H' → ∃ m', m' < m ∧ W (i + 1) m' σ' H') ∧ ∀ x H', (Ite K a).yld i H x H' → g x σ H' fun σ2 H2 => tb { D with nx := N, ct := N, bk := D.nx } σ2 H2) := by
  refine ⟨fun i m σ H => m = xs.length - i ∧ i ≤ xs.length ∧ Pv i σ H, ⟨xs.length, by simp, Nat.zero_le _, h0⟩, ?_⟩
  rintro i m σ H ⟨rfl, hi, p⟩
  have q := hl i σ H hi p
  by_cases hlt : i < xs.length
  · refine .inr ⟨⟨xs, xs[i], q, by simp [hlt]⟩, Pv (i + 1), fun σ' H' p' => ⟨xs.length - (i + 1), by omega, rfl, hlt, p'⟩, fun x H' ⟨T, y, hT, ex, eH, hy⟩ => ?_⟩
    subst ex eH
    exact hs i y σ H T hT (hy xs q) p
  · have e : i = xs.length := by omega
    subst e
    exact .inl ⟨⟨xs, q, Nat.le_refl _⟩, hd σ H p⟩
end My
namespace My
open PySem L2
theorem cut_from {xs : List V} {i : Int} (h0 : 0 ≤ i) (h1 : i.toNat ≤ xs.length) : cutV xs (some i) none = xs.drop i.toNat := by
  have e : HT.sIx xs.length 0 (some i) = i.toNat := by
    show (if i < 0 then (i + (xs.length : Int)).toNat else min i.toNat xs.length) = i.toNat
    rw [if_neg (by omega)]
    omega
  unfold cutV
  rw [e, HT.sIx_none]
  exact List.take_of_length_le (by rw [List.length_drop]; exact Nat.le_refl _)
theorem cut_to {xs : List V} {i : Int} (h0 : 0 ≤ i) (h1 : i.toNat ≤ xs.length) : cutV xs none (some i) = xs.take i.toNat := by
  have e : HT.sIx xs.length xs.length (some i) = i.toNat := by
    show (if i < 0 then (i + (xs.length : Int)).toNat else min i.toNat xs.length) = i.toNat
    rw [if_neg (by omega)]
    omega
  unfold cutV
  rw [e, HT.sIx_none, List.drop_zero, Nat.sub_zero]
end My

/-! ## the rules that name the written part, with it named apart (for a comprehension's block) -/
namespace L2
open PySem PySem.Spec PyProof.Rows
section
variable {X : Cx} {a b o e : Expr} {es : List Expr} {ta tb te to : TE} {t : TA} {pos : Pos}
theorem ix_listK (K : PySem.W.Frag) (h : X.K = K := by rfl) : IxR X (rIxL K) := h ▸ ix_list
theorem ix_tupK (K : PySem.W.Frag) (h : X.K = K := by rfl) : IxR X (rIxT K) := h ▸ ix_tup
theorem sl_listK (K : PySem.W.Frag) (h : X.K = K := by rfl) : SlR X (rSlL K) := h ▸ sl_list
theorem op_inK (K : PySem.W.Frag) (h : X.K = K := by rfl) : OpR X (compareOp .In) (fun x y H Q => ∃ p xs, y = .ref p ∧ (SqL K H p xs ∨ SqT K H p xs) ∧ flatV x = true ∧ xs.all flatV = true ∧ Q (.bl (inV x xs)) H) := h ▸ op_in_seq
theorem op_notInK (K : PySem.W.Frag) (h : X.K = K := by rfl) : OpR X (compareOp .NotIn) (fun x y H Q => ∃ p xs, y = .ref p ∧ (SqL K H p xs ∨ SqT K H p xs) ∧ flatV x = true ∧ xs.all flatV = true ∧ Q (.bl (!inV x xs)) H) := h ▸ op_notIn_seq
theorem op_eqDK (K : PySem.W.Frag) (hu : X.A.units + 8 < cLine) (h : X.K = K := by rfl) : OpR X (compareOp .Eq) (rEqD K false) := h ▸ op_eqD hu
theorem pe_fldK (K : PySem.W.Frag) {f : Str} (he : PE X e ta) (hb : attributeBase e f X.env (eval e X.env) = eval e X.env) (h : X.K = K := by rfl) : PE X (.Attribute e f pos) (tFld K ta f) := h ▸ pe_fld he hb
theorem call_lenK (K : PySem.W.Frag) (h : X.K = K := by rfl) : CallR X (.builtin "len") (fun xs H Q => ∃ p ys, xs = [.ref p] ∧ (SqL K H p ys ∨ SqT K H p ys) ∧ Q (.int ys.length) H) := h ▸ call_len_seq
theorem call_listK (K : PySem.W.Frag) (h : X.K = K := by rfl) : CallR X (.type "list") (fun xs H Q => ∃ p ys, xs = [.ref p] ∧ (SqL K H p ys ∨ SqT K H p ys) ∧ ∀ l, H l = none → Q (.ref l) (upd H l (.lst ys))) := h ▸ call_list_of
theorem call_tupleK (K : PySem.W.Frag) (h : X.K = K := by rfl) : CallR X (.type "tuple") (fun xs H Q => ∃ p ys, xs = [.ref p] ∧ ((SqL K H p ys ∧ ∀ l, H l = none → Q (.ref l) (upd H l (.tup ys))) ∨ (SqT K H p ys ∧ Q (.ref p) H))) := h ▸ call_tuple_of
theorem call_sumK (K : PySem.W.Frag) (hc : X.calm = true) (h : X.K = K := by rfl) : CallR X (.builtin "sum") (fun xs H Q => ∃ (p : Addr) (ns : List Int), xs = [.ref p] ∧ SqL K H p (ns.map V.int) ∧ Q (.int ns.sum) H) := h ▸ call_sum_ints hc
theorem pi_listK (K : PySem.W.Frag) {tg : Expr} {l : Expr} {tl : TE} (hl : PE X l tl) (h : X.K = K := by rfl) : PI X tg l (iList K tl) := h ▸ pi_list hl
theorem pi_tupK (K : PySem.W.Frag) {tg : Expr} {l : Expr} {tl : TE} (hl : PE X l tl) (h : X.K = K := by rfl) : PI X tg l (iTup K tl) := h ▸ pi_tup hl
theorem pi_seqK (K : PySem.W.Frag) {tg : Expr} {l : Expr} {tl : TE} (hl : PE X l tl) (h : X.K = K := by rfl) : PI X tg l (My.iSeq K tl) := h ▸ My.pi_seq hl
theorem pi_enumK (K : PySem.W.Frag) {elts : List Expr} {x1 : Nat} {tpos : Pos} {a : Expr} {ta : TA} {p pos : Pos} (hg : Gl X "enumerate") (hm : X.mg "enumerate" = none) (ha : PA X [a] ta) (hs : starEach [a] X.env = [(false, eval a X.env)] := by rfl) (h : X.K = K := by rfl) :
    PI X (.Tuple elts x1 tpos) (.Call (.Name "enumerate" p) [a] [] pos) (iEnum K ta) := h ▸ pi_enum hg hm ha hs
theorem pg_tupK (K : PySem.W.Frag) {es : List Expr} {k : Nat} {t : TGs} {n : Nat} (hc : X.calm = true) (ht : PGs X es t)
    (hn : (assignEach es X.env).length = n := by rfl) (hst : (assignEach es X.env).findIdx? (·.1) = none := by rfl) (h : X.K = K := by rfl) : PG X (.Tuple es k pos) (gTup K n t) := h ▸ pg_tup hc ht hn hst
theorem pe_bmK (K : PySem.W.Frag) {name : Str} {apos cpos : Pos} {T id : String} {r : V → List V → Hp → VK → Prop} (pa : PlainAttrs T) (slot : Slot T name id) (hty : typeOf (.builtin id) = pure (.type "method_descriptor")) (hm : MtR X id r) (ho : PE X o to) (ha : PA X (e :: es) t)
    (hbase : attributeBase o name X.env (eval o X.env) = eval o X.env := by rfl)
    (hfew : ((backTo cpos (starEach (e :: es) X.env)).all (fun x => !x.1) && (backToKw cpos (keywordEach [] X.env)).all (fun x => x.1.isSome)
      && decide ((e :: es).length + ([] : List Keyword).length + (if ([] : List Keyword).isEmpty then 0 else 1) < 30)) = true := by rfl)
    (hline : (apos.endLine == cpos.line) = true := by rfl) (hs : starEach (e :: es) X.env = (false, eval e X.env) :: starEach es X.env := by rfl) (hplain : (backTo cpos (starEach es X.env)).any (·.1) = false := by rfl) (h : X.K = K := by rfl) :
    PE X (.Call (.Attribute o name apos) (e :: es) [] cpos) (tBM K T r to t) := h ▸ pe_bm pa slot hty hm ho ha hbase hfew hline hs hplain
end
end L2

/-! ## marks: two ways to join, one partition -/
namespace My
/-- the mark at a place -/
abbrev mk (m : List Int) (i : Nat) : Int := m.getD i 0
/-- the program's step: the greater mark gives way -/
def pm (m : List Int) (a b : Nat) : List Int :=
  if min (mk m a) (mk m b) < max (mk m a) (mk m b) then m.map (fun k => if k = max (mk m a) (mk m b) then min (mk m a) (mk m b) else k) else m
/-- the other step: the second mark gives way -/
def lm (m : List Int) (a b : Nat) : List Int :=
  if mk m a ≠ mk m b then m.map (fun k => if k = mk m b then mk m a else k) else m
theorem mk_map (m : List Int) (f : Int → Int) {i : Nat} (h : i < m.length) : mk (m.map f) i = f (mk m i) := by
  simp [mk, List.getD_eq_getElem?_getD, List.getElem?_map, List.getElem?_eq_getElem h]
theorem lm_length (m : List Int) (a b : Nat) : (lm m a b).length = m.length := by unfold lm; split <;> simp
/-- two places are alike behind a step -/
def Mrg (m : List Int) (a b i j : Nat) : Prop := mk m i = mk m j ∨ ((mk m i = mk m a ∨ mk m i = mk m b) ∧ (mk m j = mk m a ∨ mk m j = mk m b))
theorem lm_iff {m : List Int} {a b i j : Nat} (hi : i < m.length) (hj : j < m.length) : mk (lm m a b) i = mk (lm m a b) j ↔ Mrg m a b i j := by
  unfold lm Mrg
  split
  · rename_i h
    rw [mk_map _ _ hi, mk_map _ _ hj]
    generalize mk m i = x at *
    generalize mk m j = y at *
    generalize mk m a = p at *
    generalize mk m b = q at *
    split <;> split <;> omega
  · rename_i h
    generalize mk m i = x at *
    generalize mk m j = y at *
    generalize mk m a = p at *
    generalize mk m b = q at *
    omega
/-- the marks behind a row of ties (their ends) -/
def pms (n : Nat) (es : List (Nat × Nat)) : List Int := es.foldl (fun m e => pm m e.1 e.2) ((List.range n).map fun (i : Nat) => (i : Int))
def lms (n : Nat) (es : List (Nat × Nat)) : List Int := es.foldl (fun m e => lm m e.1 e.2) ((List.range n).map fun (i : Nat) => (i : Int))
theorem lms_length (n : Nat) (es : List (Nat × Nat)) : (lms n es).length = n := by
  have : ∀ (es : List (Nat × Nat)) (m : List Int), (es.foldl (fun m e => lm m e.1 e.2) m).length = m.length := by
    intro es
    induction es with
    | nil => intro m; rfl
    | cons e es ih => intro m; rw [List.foldl_cons, ih, lm_length]
  unfold lms; rw [this]; simp
theorem lms_snoc (n : Nat) (es : List (Nat × Nat)) (e : Nat × Nat) : lms n (es ++ [e]) = lm (lms n es) e.1 e.2 := by unfold lms; rw [List.foldl_append]; rfl
end My

/-! ## places by their marks -/
namespace My
def gstep (g : List (Int × List Int)) (place k : Int) : List (Int × List Int) :=
  if k ∈ g.map (·.1) then g.map (fun kv => if kv.1 = k then (kv.1, kv.2 ++ [place]) else kv) else g ++ [(k, [place])]
def grpA (M : List Int) : Nat → List (Int × List Int)
  | 0 => []
  | i + 1 => gstep (grpA M i) (i : Int) (mk M i)
def grp (M : List Int) : List (Int × List Int) := grpA M M.length
theorem gstep_keys (g : List (Int × List Int)) (p k : Int) : (gstep g p k).map (·.1) = if k ∈ g.map (·.1) then g.map (·.1) else g.map (·.1) ++ [k] := by
  unfold gstep
  split
  · rw [List.map_map]
    refine List.map_congr_left fun kv _ => ?_
    show (if kv.1 = k then (kv.1, kv.2 ++ [p]) else kv).1 = kv.1
    split <;> rfl
  · simp
theorem gstep_nodup {g : List (Int × List Int)} {p k : Int} (h : (g.map (·.1)).Nodup) : ((gstep g p k).map (·.1)).Nodup := by
  rw [gstep_keys]
  split
  · exact h
  · rename_i hk
    rw [List.nodup_append]
    refine ⟨h, by simp, fun a ha b hb => ?_⟩
    rw [List.mem_singleton] at hb
    subst hb
    rintro rfl
    exact hk ha
theorem grpA_nodup (M : List Int) : ∀ i, ((grpA M i).map (·.1)).Nodup
  | 0 => by simp [grpA]
  | i + 1 => gstep_nodup (grpA_nodup M i)
/-- what stands in the groups -/
theorem grpA_mem (M : List Int) : ∀ i kv, kv ∈ grpA M i → ∀ z : Int, z ∈ kv.2 ↔ (0 ≤ z ∧ z < (i : Int) ∧ mk M z.toNat = kv.1)
  | 0, kv, h, z => by simp [grpA] at h
  | i + 1, kv, h, z => by
    unfold grpA gstep at h
    split at h
    · rename_i hk
      obtain ⟨kv0, h0, e⟩ := List.mem_map.mp h
      have ih := grpA_mem M i kv0 h0 z
      by_cases hc : kv0.1 = mk M i
      · rw [if_pos hc] at e
        subst e
        rw [List.mem_append, ih, List.mem_singleton]
        constructor
        · rintro (⟨a, b, c⟩ | rfl)
          · exact ⟨a, by omega, c⟩
          · exact ⟨by omega, by omega, by simpa using hc.symm⟩
        · rintro ⟨a, b, c⟩
          by_cases hz : z < (i : Int)
          · exact .inl ⟨a, hz, c⟩
          · exact .inr (by omega)
      · rw [if_neg hc] at e
        subst e
        rw [ih]
        constructor
        · rintro ⟨a, b, c⟩; exact ⟨a, by omega, c⟩
        · rintro ⟨a, b, c⟩
          refine ⟨a, ?_, c⟩
          by_cases hz : z < (i : Int)
          · exact hz
          · have e : z.toNat = i := by omega
            rw [e] at c
            exact absurd c.symm hc
    · rename_i hk
      rcases List.mem_append.mp h with h0 | h0
      · have ih := grpA_mem M i kv h0 z
        rw [ih]
        constructor
        · rintro ⟨a, b, c⟩; exact ⟨a, by omega, c⟩
        · rintro ⟨a, b, c⟩
          refine ⟨a, ?_, c⟩
          by_cases hz : z < (i : Int)
          · exact hz
          · have e : z.toNat = i := by omega
            rw [e] at c
            exact absurd (List.mem_map.mpr ⟨kv, h0, c.symm⟩) hk
      · rw [List.mem_singleton] at h0
        subst h0
        simp only [List.mem_singleton]
        constructor
        · rintro rfl; exact ⟨by omega, by omega, by simp⟩
        · rintro ⟨a, b, c⟩
          by_cases hz : z < (i : Int)
          · exfalso
            have key := grpA_key M i z.toNat (by omega)
            rw [c] at key
            exact hk key
          · omega
where
  grpA_key (M : List Int) : ∀ i j, j < i → mk M j ∈ (grpA M i).map (·.1)
    | 0, j, h => absurd h (Nat.not_lt_zero j)
    | i + 1, j, h => by
      show mk M j ∈ (gstep (grpA M i) (i : Int) (mk M i)).map (·.1)
      rw [gstep_keys]
      by_cases hj : j < i
      · have := grpA_key M i j hj
        split
        · exact this
        · exact List.mem_append_left _ this
      · have e : j = i := by omega
        subst e
        split
        · assumption
        · simp
theorem grpA_key {M : List Int} {i j : Nat} (h : j < i) : mk M j ∈ (grpA M i).map (·.1) := grpA_mem.grpA_key M i j h
theorem grpA_of_key (M : List Int) : ∀ i k, k ∈ (grpA M i).map (·.1) → ∃ j, j < i ∧ mk M j = k
  | 0, k, h => by simp [grpA] at h
  | i + 1, k, h => by
    have h : k ∈ (gstep (grpA M i) (i : Int) (mk M i)).map (·.1) := h
    rw [gstep_keys] at h
    have old : k ∈ (grpA M i).map (·.1) → ∃ j, j < i + 1 ∧ mk M j = k := fun q => by
      obtain ⟨j, hj, e⟩ := grpA_of_key M i k q
      exact ⟨j, by omega, e⟩
    split at h
    · exact old h
    · rcases List.mem_append.mp h with q | q
      · exact old q
      · rw [List.mem_singleton] at q
        exact ⟨i, by omega, q.symm⟩
/-- one group just where all places are alike -/
theorem grp_one {M : List Int} (hM : 1 ≤ M.length) : (grp M).length = 1 ↔ ∀ i j, i < M.length → j < M.length → mk M i = mk M j := by
  unfold grp
  constructor
  · intro h i j hi hj
    obtain ⟨kv, e⟩ := List.length_eq_one_iff.mp h
    have h1 := grpA_key (M := M) hi
    have h2 := grpA_key (M := M) hj
    rw [e] at h1 h2
    rw [List.map_singleton, List.mem_singleton] at h1 h2
    rw [h1, h2]
  · intro h
    have nd := grpA_nodup M M.length
    have h0 := grpA_key (M := M) (i := M.length) (j := 0) (by omega)
    generalize hg : (grpA M M.length) = g at *
    match g, hg with
    | [], _ => simp at h0
    | [kv], _ => rfl
    | a :: b :: r, hg =>
      exfalso
      obtain ⟨i, hi, e1⟩ := grpA_of_key M M.length a.1 (by rw [hg]; simp)
      obtain ⟨j, hj, e2⟩ := grpA_of_key M M.length b.1 (by rw [hg]; simp)
      have e3 := h i j hi hj
      have : a.1 = b.1 := by rw [← e1, ← e2, e3]
      simp [this] at nd
end My
namespace My
end My

/-! ## sets of ints, in, isinstance -/
namespace My
open PySem L2 PyProof.Rows
theorem inV_ints (z : Int) (l : List Int) : inV (.int z) (IL l) = decide (z ∈ l) := by
  unfold inV
  rw [List.any_map]
  rw [Bool.eq_iff_iff, List.any_eq_true, decide_eq_true_iff]
  constructor
  · rintro ⟨y, hy, e⟩
    have e' : y = z := by simpa [eqV] using e
    rw [← e']; exact hy
  · intro h; exact ⟨z, h, by simp [eqV]⟩
theorem flat_ints (l : List Int) : (IL l).all flatV = true := by
  rw [List.all_map, List.all_eq_true]
  intro x _
  rfl
theorem dec_int {a b : Int} : decide (V.int a = V.int b) = decide (a = b) := by
  by_cases h : a = b
  · subst h; simp
  · have h' : ¬ V.int a = V.int b := fun z => h (V.int.inj z)
    rw [decide_eq_false h, decide_eq_false h']
theorem dec_bl {a b : Bool} : decide (V.bl a = V.bl b) = decide (a = b) := by
  by_cases h : a = b
  · subst h; simp
  · have h' : ¬ V.bl a = V.bl b := fun z => h (V.bl.inj z)
    rw [decide_eq_false h, decide_eq_false h']
end My

/-! ## own words about sets of ties, marks and groups -/
namespace My
open PySem L2
/-! from is_set.txt -/
/-- ascending numbers of ties -/
def IsSet (m : Nat) (ns : List Int) : Prop := ∀ i z, ns[i]? = some z → 0 ≤ z ∧ z < (m : Int) ∧ ∀ y, i ≠ 0 → ns[i - 1]? = some y → y < z
/-! from piece_marks.txt -/
/-- the ends of ties -/
def endsOf (ps : List (Int × Int)) (ns : List Int) : List (Nat × Nat) := ns.map fun z => ((ps.getD z.toNat (0, 0)).1.toNat, (ps.getD z.toNat (0, 0)).2.toNat)
theorem mk_some {m : List Int} {i : Nat} (h : i < m.length) : m[i]? = some (mk m i) := by
  rw [List.getElem?_eq_getElem h]
  simp [mk, List.getD_eq_getElem?_getD, List.getElem?_eq_getElem h]
/-! from pieces_of.txt -/
/-- the groups' lists stand apart, and none of them stood ahead of the call -/
structure GrpAt (H0 H : Hp) (g : List (Int × List Int)) (as : List Addr) : Prop where
  len : as.length = g.length
  nd : as.Nodup
  at_ : ∀ (i : Nat) (kv : Int × List Int) (a : Addr), g[i]? = some kv → as[i]? = some a → H a = some (.lst (IL kv.2))
  new : ∀ a ∈ as, H0 a = none
theorem IsSet.all {m : Nat} {ns : List Int} (h : IsSet m ns) : ∀ z ∈ ns, 0 ≤ z ∧ z < (m : Int) := fun z hz => by
  obtain ⟨i, hi, e⟩ := List.getElem_of_mem hz
  obtain ⟨a, b, _⟩ := h i z (by rw [List.getElem?_eq_getElem hi, e])
  exact ⟨a, b⟩
/-! from _law_some.txt -/
theorem IsSet.nil (m : Nat) : IsSet m [] := fun i z e => by simp at e
theorem IsSet.up {m : Nat} {ns : List Int} (h : IsSet m ns) : IsSet (m + 1) ns := fun i z e => by
  obtain ⟨a, b, c⟩ := h i z e
  exact ⟨a, by omega, c⟩
theorem IsSet.snoc {m : Nat} {ns : List Int} (h : IsSet m ns) : IsSet (m + 1) (ns ++ [(m : Int)]) := fun i z e => by
  by_cases hi : i < ns.length
  · rw [List.getElem?_append_left hi] at e
    obtain ⟨a, b, c⟩ := h i z e
    refine ⟨a, by omega, fun y h0 ey => ?_⟩
    rw [List.getElem?_append_left (by omega)] at ey
    exact c y h0 ey
  · have hl : i = ns.length := by
      have := (List.getElem?_eq_some_iff.mp e).1
      rw [List.length_append, List.length_singleton] at this
      omega
    subst hl
    rw [List.getElem?_append_right (Nat.le_refl _), Nat.sub_self] at e
    have e : (m : Int) = z := Option.some.inj e
    subst e
    refine ⟨by omega, by omega, fun y h0 ey => ?_⟩
    rw [List.getElem?_append_left (by omega)] at ey
    exact (h _ y ey).2.1
theorem IsSet.len {m : Nat} : ∀ {ns : List Int}, IsSet m ns → ns.length ≤ m := fun {ns} h => by
  have key : ∀ (i : Nat) (z : Int), ns[i]? = some z → (i : Int) ≤ z := by
    intro i
    induction i with
    | zero => intro z e; exact (h 0 z e).1
    | succ i ih =>
      intro z e
      have hi : i < ns.length := by have := (List.getElem?_eq_some_iff.mp e).1; omega
      have e2 : ns[i]? = some ns[i] := List.getElem?_eq_getElem hi
      have := ih _ e2
      have := (h (i + 1) z e).2.2 ns[i] (by omega) (by rw [Nat.add_sub_cancel]; exact e2)
      omega
  by_cases h0 : ns.length = 0
  · omega
  · have e : ns[ns.length - 1]? = some (ns[ns.length - 1]'(by omega)) := List.getElem?_eq_getElem _
    have a := key _ _ e
    have b := (h _ _ e).2.1
    omega
end My

/-! ## list.index, all and any over a list of bools, == of known data -/
namespace L2
open PySem PySem.Spec PyProof.Rows
section
variable {X : Cx}
end
end L2
namespace My
open PySem L2
section
variable {K : PySem.W.Frag} {H : Hp} {α : Type} [DecidableEq α]
/-- the values bear the data, place by place -/
def Bears (R : V → α → Prop) (xs : List V) (l : List α) : Prop := xs.length = l.length ∧ ∀ (i : Nat) (a : α), l[i]? = some a → ∃ x, xs[i]? = some x ∧ R x a
theorem Bears.at {R : V → α → Prop} {xs : List V} {l : List α} (h : Bears R xs l) {i : Nat} {x : V} (e : xs[i]? = some x) : ∃ a, l[i]? = some a ∧ R x a := by
  have hi : i < xs.length := (List.getElem?_eq_some_iff.mp e).1
  have hl : i < l.length := by rw [← h.1]; exact hi
  obtain ⟨x', e1, q⟩ := h.2 i l[i] (List.getElem?_eq_getElem hl)
  rw [e] at e1
  cases e1
  exact ⟨_, List.getElem?_eq_getElem hl, q⟩
theorem all_dec {l m : List α} (h : l.length = m.length) : (List.range l.length).all (fun i => decide (l[i]? = m[i]?)) = decide (l = m) := by
  rw [Bool.eq_iff_iff, List.all_eq_true, decide_eq_true_iff]
  constructor
  · intro q
    refine List.ext_getElem? fun i => ?_
    by_cases hi : i < l.length
    · exact of_decide_eq_true (q i (List.mem_range.mpr hi))
    · rw [List.getElem?_eq_none (by omega), List.getElem?_eq_none (by omega)]
  · rintro rfl i _
    simp
theorem eqd_tups {R : V → α → Prop} {n : Nat} {p q : Addr} {xs ys : List V} {l m : List α} (hp : SqT K H p xs) (hq : SqT K H q ys) (h1 : Bears R xs l) (h2 : Bears R ys m) (hR : ∀ x y a b, R x a → R y b → EqD K H n x y (decide (a = b))) : EqD K H (n + 1) (.ref p) (.ref q) (decide (l = m)) := by
  have key := EqD.tups (e := fun i => decide (l[i]? = m[i]?)) hp hq fun i x y ex ey => by
    obtain ⟨a, ea, ra⟩ := h1.at ex
    obtain ⟨b, eb, rb⟩ := h2.at ey
    rw [ea, eb, show decide (some a = some b) = decide (a = b) by simp]
    exact hR x y a b ra rb
  by_cases hl : xs.length = ys.length
  · have e := all_dec (l := l) (m := m) (by rw [← h1.1, ← h2.1, hl])
    rw [← hl, Nat.min_self, h1.1, e, show (l.length == l.length) = true by simp, Bool.and_true] at key
    exact key
  · have e : decide (l = m) = false := decide_eq_false fun z => hl (by rw [h1.1, h2.1, z])
    rw [show (xs.length == ys.length) = false by simpa using hl, Bool.and_false] at key
    rw [e]
    exact key
theorem bears_ints (ns : List Int) : Bears (fun x (z : Int) => x = .int z) (IL ns) ns := ⟨il_length ns, fun i z e => ⟨_, il_at e, rfl⟩⟩
theorem eqd_int {n : Nat} {x y : V} {a b : Int} (hx : x = .int a) (hy : y = .int b) : EqD K H n x y (decide (a = b)) := by
  subst hx hy
  have e : decide (a = b) = eqV (.int a) (.int b) := by
    show decide (a = b) = (a == b)
    rw [Bool.beq_eq_decide_eq]
  rw [e]
  exact EqD.flat rfl rfl
theorem eqd_tints {p q : Addr} {ns ms : List Int} (hp : SqT K H p (IL ns)) (hq : SqT K H q (IL ms)) : EqD K H 1 (.ref p) (.ref q) (decide (ns = ms)) :=
  eqd_tups hp hq (bears_ints ns) (bears_ints ms) fun _ _ _ _ => eqd_int
/-- a list of lists of ints -/
def ListV (H : Hp) (v : V) (l : List Int) : Prop := ∃ a, v = .ref a ∧ H a = some (.lst (IL l))
end
end My

/-! ## the groups by first places -/
namespace My
def fstB (M : List Int) (p : Nat) : Bool := (List.range p).all fun i => decide (mk M i ≠ mk M p)
def posA (M : List Int) (k : Int) (i : Nat) : List Int := ((List.range i).filter fun j => decide (mk M j = k)).map fun (j : Nat) => (j : Int)
def fstA (M : List Int) (i : Nat) : List Nat := (List.range i).filter (fstB M)
theorem fstB_iff {M : List Int} {p : Nat} : fstB M p = true ↔ ∀ i, i < p → mk M i ≠ mk M p := by
  unfold fstB
  rw [List.all_eq_true]
  constructor
  · intro h i hi; exact of_decide_eq_true (h i (List.mem_range.mpr hi))
  · intro h i hi; exact decide_eq_true (h i (List.mem_range.mp hi))
theorem posA_succ (M : List Int) (k : Int) (i : Nat) : posA M k (i + 1) = posA M k i ++ (if mk M i = k then [(i : Int)] else []) := by
  unfold posA
  rw [List.range_succ, List.filter_append, List.map_append]
  congr 1
  by_cases h : mk M i = k
  · rw [if_pos h, List.filter_cons, if_pos (by simpa using h)]; rfl
  · rw [if_neg h, List.filter_cons, if_neg (by simpa using h)]; rfl
theorem fstA_succ (M : List Int) (i : Nat) : fstA M (i + 1) = fstA M i ++ (if fstB M i = true then [i] else []) := by
  unfold fstA
  rw [List.range_succ, List.filter_append]
  congr 1
  by_cases h : fstB M i = true
  · rw [if_pos h, List.filter_cons, if_pos h]; rfl
  · rw [if_neg h, List.filter_cons, if_neg h]; rfl
theorem grpA_eq (M : List Int) : ∀ i, grpA M i = (fstA M i).map fun p => (mk M p, posA M (mk M p) i)
  | 0 => rfl
  | i + 1 => by
    have ih := grpA_eq M i
    show gstep (grpA M i) (i : Int) (mk M i) = _
    have hk : (mk M i ∈ (grpA M i).map (·.1)) ↔ fstB M i ≠ true := by
      constructor
      · intro h q
        obtain ⟨j, hj, e⟩ := grpA_of_key M i _ h
        exact fstB_iff.mp q j hj e
      · intro h
        by_cases q : ∃ j, j < i ∧ mk M j = mk M i
        · obtain ⟨j, hj, e⟩ := q
          rw [← e]
          exact grpA_key hj
        · exact absurd (fstB_iff.mpr fun j hj e => q ⟨j, hj, e⟩) h
    unfold gstep
    by_cases h : mk M i ∈ (grpA M i).map (·.1)
    · have hf := hk.mp h
      rw [if_pos h, fstA_succ, if_neg hf, List.append_nil, ih, List.map_map]
      refine List.map_congr_left fun p _ => ?_
      show (if mk M p = mk M i then (mk M p, posA M (mk M p) i ++ [(i : Int)]) else (mk M p, posA M (mk M p) i)) = (mk M p, posA M (mk M p) (i + 1))
      rw [posA_succ]
      by_cases e : mk M p = mk M i
      · rw [if_pos e, if_pos e.symm]
      · rw [if_neg e, if_neg (fun z => e z.symm), List.append_nil]
    · have hf : fstB M i = true := by
        cases q : fstB M i with
        | true => rfl
        | false => exact absurd (hk.mpr (by rw [q]; exact Bool.false_ne_true)) h
      rw [if_neg h, fstA_succ, if_pos hf, List.map_append, ih]
      congr 1
      · refine List.map_congr_left fun p hp => ?_
        have hpi : p < i := List.mem_range.mp (List.mem_filter.mp hp).1
        rw [posA_succ, if_neg (fun z => fstB_iff.mp hf p hpi z.symm), List.append_nil]
      · show [(mk M i, [(i : Int)])] = [(mk M i, posA M (mk M i) (i + 1))]
        rw [posA_succ, if_pos rfl]
        have e0 : posA M (mk M i) i = [] := by
          unfold posA
          rw [List.filter_eq_nil_iff.mpr fun j hj => by simpa using fstB_iff.mp hf j (List.mem_range.mp hj)]
          rfl
        rw [e0]
        rfl
end My

/-! ## more own words -/
namespace My
open PySem L2
theorem Bears.snoc {α : Type} [DecidableEq α] {R : V → α → Prop} {xs : List V} {l : List α} {x : V} {a : α} (h : Bears R xs l) (hx : R x a) : Bears R (xs ++ [x]) (l ++ [a]) := by
  refine ⟨by rw [List.length_append, List.length_append, h.1]; rfl, fun i b e => ?_⟩
  by_cases hi : i < l.length
  · rw [List.getElem?_append_left hi] at e
    rw [List.getElem?_append_left (by rw [h.1]; exact hi)]
    exact h.2 i b e
  · have hl : i = l.length := by
      have := (List.getElem?_eq_some_iff.mp e).1
      rw [List.length_append, List.length_singleton] at this
      omega
    subst hl
    rw [List.getElem?_append_right (Nat.le_refl _), Nat.sub_self] at e
    rw [List.getElem?_append_right (by rw [h.1]; exact Nat.le_refl _), h.1, Nat.sub_self]
    have e' : a = b := Option.some.inj e
    subst e'
    exact ⟨x, rfl, hx⟩
theorem Bears.imp {α : Type} [DecidableEq α] {R R' : V → α → Prop} {xs : List V} {l : List α} (h : Bears R xs l) (f : ∀ x a, R x a → R' x a) : Bears R' xs l := ⟨h.1, fun i a e => let ⟨x, e1, r⟩ := h.2 i a e; ⟨x, e1, f x a r⟩⟩
end My

/-! ## exceptions of own classes: raised, passing a def, caught by a try -/
namespace L2
open PySem PySem.Spec PyProof.Rows
theorem ObjOk.there {P : Program} {w : World} {H : Hp} {h : Heap} {a : Addr} {o : HO} (x : ObjOk P w H h a o) : ∃ u, h.get? a = some u := by
  cases o with
  | lst xs => obtain ⟨_, _, _, _, e⟩ := x; exact ⟨_, e⟩
  | tup xs => obtain ⟨_, _, _, o, e, _⟩ := x; exact ⟨_, e⟩
  | dK kvs => obtain ⟨_, _, _, _, o, _, _, e, _⟩ := x; exact ⟨_, e⟩
  | dT kvs => obtain ⟨_, _, _, _, o, _, _, e, _⟩ := x; exact ⟨_, e⟩
  | set S n => obtain ⟨o, _, _, _, e, _⟩ := x; exact ⟨_, e⟩
  | ins C dx fs => obtain ⟨_, _, _, e, _⟩ := x; exact ⟨_, e⟩
  | own y => exact x
  | xd fs => obtain ⟨_, ⟨_, _, _, e, _⟩, _⟩ := x; exact ⟨_, e⟩
  | rng lo hi => obtain ⟨_, _, _, e⟩ := x; exact ⟨_, e⟩
  | frz ob u => obtain ⟨e, _⟩ := x; exact ⟨_, e⟩
  | tbl ps => exact ⟨_, x⟩
  | met f y => exact ⟨_, x⟩
  | ext φ => obtain ⟨_, e, _⟩ := x; exact e
/-- an exception in flight at e, of the class C: it and its last entry are new and not tracked -/
structure Fly (h0 : Heap) (H : Hp) (e C : Addr) (h : Heap) : Prop where
  ex : ∃ oe vs T oT ts a0, h.get? e = some oe ∧ oe.cls = .ref C ∧ oe.data = .fields vs ∧ vs[0]? = some a0 ∧ vs[1]? = some (.ref T) ∧ T ≠ e ∧ h.get? T = some oT ∧ oT.data = .fields ts ∧ ts[3]? = some .none ∧ h0.get? T = none ∧ H T = none
  new : h0.get? e = none
  free : H e = none
/-- how it lies behind a call -/
def CXW (P : Program) (w : World) : CXT := fun outer H s E ev s' => ∃ (e C : Addr) (H' : Hp), ev = Value.ref e ∧ s'.os = s.os ∧ AllBare s'.gens ∧ Un (frs outer) [] H H' s.heap s'.heap ∧ HOk P w H' s'.heap ∧ Fly s.heap H' e C s'.heap ∧ E (.ref C) none H'
section
variable {X : Cx} {pins : List (Addr × Obj)} {σ : St} {H : Hp} {s : Shared} {e C : Addr}
/-- the ground that a step of an exception leaves as it is -/
abbrev grd (X : Cx) (h : Heap) (ns : List Addr) : Heap := PySem.W.hideAll h (frs X.stack ++ ns)
theorem grd_get {h : Heap} {ns : List Addr} {b : Addr} {o : Obj} (q : h.get? b = some o) (h1 : b ∉ frs X.stack) (h2 : b ∉ ns) : (grd X h ns).get? b = some o :=
  PySem.W.hideAll_get _ q fun z => (List.mem_append.mp z).elim h1 h2
theorem grd_of {h : Heap} {ns : List Addr} : (grd X h ns).StaysIn h := fun _ _ q => PySem.W.of_hideAll _ q
theorem Inv.was (I : Inv X pins σ H s) (hex : X.ex = []) {b : Addr} (h : s.heap.get? b = none) : X.s₀.heap.get? b = none := by
  cases q : X.s₀.heap.get? b with
  | none => rfl
  | some o =>
    obtain ⟨o', e⟩ := I.base.there b o q (by rw [hex]; simp)
    rw [h] at e; cases e
/-- what is kept where the ground stays -/
theorem hok_grd {P : Program} {w : World} {h' : Heap} {ns : List Addr} {h : Heap} (ok : HOk P w H h) (hf : ∀ b ∈ frs X.stack, H b = none) (hns : ∀ b ∈ ns, H b = none) (k : (grd X h ns).StaysIn h') : HOk P w H h' := fun a o q =>
  (ok a o q).stay (fun b u hb g => k b u (grd_get g (fun z => by
    have := hf b z
    rcases hb with rfl | hb
    · rw [q] at this; cases this
    · rw [hb] at this; cases this) fun z => by
    have := hns b z
    rcases hb with rfl | hb
    · rw [q] at this; cases this
    · rw [hb] at this; cases this)) (fun _ z => z) fun _ _ z => z
theorem frs_stack (hst : X.stack = X.env :: X.outer) (hfr : X.env.frame = some X.env.locals) : frs X.stack = X.env.locals :: frs X.outer := by
  rw [hst]
  unfold frs
  rw [List.filterMap_cons, hfr]
/-- behind the step by which it leaves the frame -/
theorem cx_left (hst : X.stack = X.env :: X.outer) (hfr : X.env.frame = some X.env.locals) (hex : X.ex = []) (I : Inv X pins σ H s) {ns : List Addr} (hns : ∀ b ∈ ns, X.s₀.heap.get? b = none ∧ H b = none) {h' : Heap} {a0 : Value} {E : XK} {s' : Shared}
    (hfl : Heap.FlyingW (grd X s.heap ns) X.outer e (.ref C) a0 h') (up : s.heap.UpToSlots h') (ne : X.s₀.heap.get? e = none) (fe : H e = none) (hE : E (.ref C) none H) (hs : s'.heap = h') (ho : s'.os = s.os) (hg : s'.gens = s.gens) :
    CXW X.prog X.w X.outer X.H₀ X.s₀ E (.ref e) s' := by
  subst hs
  have fst := frs_stack (X := X) hst hfr
  have noL : ∀ b o, X.s₀.heap.get? b = some o → b ≠ X.env.locals := fun b o q => Nat.ne_of_lt (Nat.lt_of_lt_of_le (Heap.lt_size q) I.ok.above)
  have nns : ∀ b o, X.s₀.heap.get? b = some o → b ∉ ns := fun b o q z => by rw [(hns b z).1] at q; cases q
  have nfs : ∀ b o, X.s₀.heap.get? b = some o → b ∉ frs X.outer → b ∉ frs X.stack := fun b o q n z => by
    rw [fst] at z
    rcases List.mem_cons.mp z with z | z
    · exact noL b o q z
    · exact n z
  have nex : ∀ b, b ∉ X.ex := fun b z => by rw [hex] at z; cases z
  have keep : ∀ b o u, X.s₀.heap.get? b = some o → b ∉ frs X.outer → s.heap.get? b = some u → s'.heap.get? b = some u := fun b o u q n g => hfl.1 b u (grd_get g (nfs b o q n) (nns b o q))
  have slot : ∀ b u, b ∈ frs X.outer → s.heap.get? b = some u → ∃ sl, s'.heap.get? b = some { u with slots := sl } := fun b u hb g => by
    obtain ⟨_, o', ho', hd⟩ := I.funs.mem hb
    rw [g] at ho'
    cases ho'
    exact up b u g hd
  refine ⟨e, C, H, rfl, ho.trans I.os, hg ▸ I.bare, ⟨fun b o q n hb _ => ?_, fun b o q n hb _ => ?_, fun b o q n _ => I.base.free b o q n (nex b), fun b o q _ => ?_, I.base.tups, I.base.frzs, I.base.tbls⟩, hok_grd I.hok I.stkFree (fun b hb => (hns b hb).2) hfl.1, ⟨?_, ne, fe⟩, hE⟩
  · exact keep b o o q hb (I.base.keep b o q n hb (nex b))
  · obtain ⟨sl, g⟩ := I.base.slot b o q n hb (nex b)
    obtain ⟨sl', g'⟩ := slot b _ hb g
    exact ⟨sl', g'⟩
  · obtain ⟨u, g⟩ := I.base.there b o q (nex b)
    by_cases hb : b ∈ frs X.outer
    · obtain ⟨sl, g'⟩ := slot b u hb g
      exact ⟨_, g'⟩
    · exact ⟨u, keep b o u q hb g⟩
  · obtain ⟨f1, f2, f3, oe, vs, T, oT, ts, he, ⟨hc, h0⟩, hd, h1, hnT, hTe, hT, hdT, h3⟩ := hfl
    refine ⟨oe, vs, T, oT, ts, a0, he, hc, hd, h0, h1, hTe, hT, hdT, h3, ?_, ?_⟩
    · cases q : X.s₀.heap.get? T with
      | none => rfl
      | some o =>
        obtain ⟨u, g⟩ := I.base.there T o q (nex T)
        by_cases hb : T ∈ frs X.outer
        · obtain ⟨_, o', ho', hd'⟩ := f3.mem hb
          rw [hT] at ho'
          cases ho'
          exact absurd hdT (hd' ts)
        · rw [grd_get g (nfs T o q hb) (nns T o q)] at hnT
          cases hnT
    · cases q : H T with
      | none => rfl
      | some ho =>
        obtain ⟨u, g⟩ := (I.hok T ho q).there
        rw [grd_get g (fun z => by rw [I.stkFree T z] at q; cases q) (fun z => by rw [(hns T z).2] at q; cases q)] at hnT
        cases hnT
theorem fly_base (hst : X.stack = X.env :: X.outer) (I : Inv X pins σ H s) {h0 : Heap} (F : Fly h0 H e C s.heap) : ∃ T a0, Heap.FlyingW (grd X s.heap [e, T]) X.stack e (.ref C) a0 s.heap ∧ h0.get? T = none ∧ H T = none := by
  obtain ⟨oe, vs, T, oT, ts, a0, he, hc, hd, h0', h1, hTe, hT, hdT, h3, nT, fT⟩ := F.ex
  refine ⟨T, a0, ⟨grd_of, PySem.W.hideAll_none _ (by simp), ?_, oe, vs, T, oT, ts, he, ⟨hc, h0'⟩, hd, h1, PySem.W.hideAll_none _ (by simp), hTe, hT, hdT, h3⟩, nT, fT⟩
  exact PySem.W.funFrames_hide I.stack fun env henv a hf => List.mem_append_left _ (List.mem_filterMap.mpr ⟨env, henv, hf⟩)
/-- it leaves the frame on its way -/
theorem leave_fly (hst : X.stack = X.env :: X.outer) (hfr : X.env.frame = some X.env.locals) (hex : X.ex = []) (I : Inv X pins σ H s) (F : Fly X.s₀.heap H e C s.heap) {E : XK} (hE : E (.ref C) none H) {E' : Value → Shared → Prop} :
    wpAny (model X.prog X.w) X.A (leaving X.env (.ref e)) (fun _ s'' => CXW X.prog X.w X.outer X.H₀ X.s₀ E (.ref e) s'') E' s := by
  obtain ⟨T, a0, fl, nT, fT⟩ := fly_base hst I F
  rw [hst] at fl
  refine wpAny_leaves_onW (by rw [I.ok.frames, hst]) hfr fl fun h' fl' up => ?_
  refine cx_left hst hfr hex I (fun b hb => ?_) fl' up F.new F.free hE rfl rfl rfl
  rcases List.mem_cons.mp hb with rfl | hb
  · exact ⟨F.new, F.free⟩
  · rw [List.mem_singleton.mp hb]; exact ⟨nT, fT⟩
/-- it is raised here and leaves the frame -/
theorem leave_made (hst : X.stack = X.env :: X.outer) (hfr : X.env.frame = some X.env.locals) (hex : X.ex = []) (I : Inv X pins σ H s) {h' : Heap} {vs : List Value} (hm : Heap.MadeExcOf s.heap h' e (.ref C) vs) {E : XK} (hE : E (.ref C) none H) {E' : Value → Shared → Prop} :
    wpAny (model X.prog X.w) X.A (leaving X.env (.ref e)) (fun _ s'' => CXW X.prog X.w X.outer X.H₀ X.s₀ E (.ref e) s'') E' { s with heap := h' } := by
  have ff : s.heap.FunFrames (grd X s.heap []) X.stack := PySem.W.funFrames_hide I.stack fun env henv a hf => List.mem_append_left _ (List.mem_filterMap.mpr ⟨env, henv, hf⟩)
  rw [hst] at ff
  refine wpAny_leaves_madeW (base := grd X s.heap []) (h := s.heap) (by rw [I.ok.frames, hst]) hfr grd_of ff hm fun h'' t fl _ _ up => ?_
  have fe : H e = none := by
    cases q : H e with
    | none => rfl
    | some ho =>
      obtain ⟨u, g⟩ := (I.hok e ho q).there
      rw [hm.new] at g
      cases g
  exact cx_left (s' := { s with heap := h'' }) hst hfr hex I (fun b hb => by cases hb) fl ((Heap.UpToSlots.of_keeps hm.keeps).trans up) (I.was hex hm.new) fe hE rfl rfl rfl
/-- the state behind a call that ended in an exception -/
theorem Inv.flown {E : XK} {ev : Value} {s' : Shared} (I : Inv X pins σ H s) (h : CXW X.prog X.w X.stack H s E ev s') : ∃ e C H', ev = Value.ref e ∧ Inv X pins σ H' s' ∧ Fly s.heap H' e C s'.heap ∧ E (.ref C) none H' := by
  obtain ⟨e, C, H', rfl, ho, hg, u, ok, F, hE⟩ := h
  exact ⟨e, C, H', rfl, I.call' (ch := []) ho u ok hg (fun _ z => nomatch z), F, hE⟩
theorem Fly.older {h0 h1 h : Heap} (F : Fly h0 H e C h) (k : ∀ b, h0.get? b = none → h1.get? b = none) : Fly h1 H e C h := by
  obtain ⟨oe, vs, T, oT, ts, a0, he, hc, hd, h0', h1', hTe, hT, hdT, h3, nT, fT⟩ := F.ex
  exact ⟨⟨oe, vs, T, oT, ts, a0, he, hc, hd, h0', h1', hTe, hT, hdT, h3, k _ nT, fT⟩, k _ F.new, F.free⟩
end
section
variable {P : Program} {w : World} {K : PySem.W.Frag} {mg : Str → Option Value} {base : Heap}
/-- a callee's exception passes a def -/
theorem pxs {N : List Str} {qual : Str} {scope : Scope} {f : Addr} {cd : Value} {A : Around} {outer : List Env} {s : Shared} {H : Hp} {E : XK} : Passes (CXW P w) (cxOf (CXW P w) P w K mg base N qual scope f cd A outer s H E) E := by
  intro pins σ H1 s1 ev s' I h
  obtain ⟨e, C, H', rfl, J, F, hE⟩ := I.flown h
  exact leave_fly rfl rfl rfl J (F.older fun b hb => I.was rfl hb) hE
/-- THE RULE for a def that may raise -/
theorem Fun.okX {x qual : Str} {st : Stmt} {f : Addr} {fd : FuncData} {N ps : List Str} {k : Nat} {sp : Sp} (F : Fun K x qual st f fd) (S : FnScope N ps (defScope st)) (len : ∀ vs H Q E, sp vs H Q E → vs.length = ps.length)
    (hbody : ∀ (cdv : Value) (A : Around) (outer : List Env) (s : Shared) (H : Hp) (vs : List V) (Q : VK) (E : XK), Room k (A.deeper (envOfC qual (defScope st) s.heap.objs.size f cdv)) → sp vs H Q E →
      ∃ t, PSs (cxOf (CXW P w) P w K mg base N qual (defScope st) f cdv A outer s H E) (defBody st) t ∧ t { nx := fun _ H' => Q .non H', rt := Q } (start N vs) H) : FnOk P w K mg base (CXW P w) (k + 1) f fd ps sp := by
  obtain ⟨oc, od, kV, doc, pm, an, cdv, ct, osl, rfl, lk, hcd⟩ := F.ex
  exact fn_of lk hcd S len fun A outer s H vs Q E hr hsp => hbody cdv A outer s H vs Q E hr hsp
end
/-- what of the text an own exception's class must have -/
structure XCls (K : PySem.W.Frag) (C : Addr) : Prop where
  ex : PySem.W.excIn K C [.type "ValueError", .type "Exception", .type "BaseException", .type "object"] "ValueError.__new__" = true
  ga : PySem.W.findIn K (.ref C) "__getattribute__" = some (some (.builtin "BaseException.__getattribute__"))
  gh : PySem.W.findIn K (.ref C) "__getattr__" = some none
  cl : PySem.W.findIn K (.ref C) "__class__" = some (some (.builtin "object.__class__"))
  ob : PySem.W.mroIn K C (.type "object") = some true
  bx : PySem.W.mroIn K C (.type "BaseException") = some true
theorem XCls.obj {K : PySem.W.Frag} {C : Addr} {h : Heap} (c : XCls K C) (X : K.In h) : ∃ bm N nm q bs hdct sn sub ab col dd k0 k1 k2 k3 k5 mN, h.get? C = some (excClassObj nm q C N bs bm hdct sn sub ab col dd k0 k1 k2 k3 k5 "ValueError.__new__") ∧ h.Ns N mN ∧ mN "__init__" = none ∧ OwnTail h [.type "ValueError", .type "Exception", .type "BaseException", .type "object"] bm := by
  have q := c.ex
  unfold PySem.W.excIn at q
  split at q
  · rename_i dd cd sl ho
    split at q
    · rename_i C' bm k0 k1 k2 k3 n k5 hm hs
      simp only [Bool.and_eq_true, beq_iff_eq, Bool.not_eq_true'] at q
      obtain ⟨⟨⟨⟨⟨rfl, rfl⟩, hdel⟩, ht⟩, hok⟩, hni⟩ := q
      obtain ⟨nm, bs, mro, ns, qn, hd, sn, sub, ab, col, del⟩ := cd
      dsimp only at hm hdel hok hni
      subst hm hdel
      have hsl : sl = #[k0, k1, k2, k3, some (.builtin "ValueError.__new__"), k5] := by
        obtain ⟨l⟩ := sl
        simp only at hs
        rw [hs]
      subst hsl
      exact ⟨bm, ns, nm, qn, bs, hd, sn, sub, ab, col, dd, k0, k1, k2, k3, k5, _, X _ _ ho, .of_isNs (PySem.W.isNs_of_in X hok), PySem.W.nsMap_none_of_in X hok hni, PySem.W.tail_of_in X ht⟩
    · cases q
  · cases q
/-- raise C(e, ..) -/
def tRaise (C : Addr) (E : XK) (t : TA) : TS := fun _ σ H => t σ H fun vs H1 => vs.length ≤ sizeLine ∧ E (.ref C) none H1
theorem ps_raise {P : Program} {w : World} {K : PySem.W.Frag} {mg : Str → Option Value} {base : Heap} {N : List Str} {qual : Str} {scope : Scope} {f : Addr} {cd : Value} {A : Around} {outer : List Env} {s0 : Shared} {H0 : Hp} {E : XK} {C : Addr} {x : Str} {np cpos pos : Pos} {e₀ : Expr} {rest : List Expr} {t : TA}
    (c : XCls K C) (hm : mg x = some (.ref C)) (ha : PA (cxOf (CXW P w) P w K mg base N qual scope f cd A outer s0 H0 E) (e₀ :: rest) t)
    (hg : Gl (cxOf (CXW P w) P w K mg base N qual scope f cd A outer s0 H0 E) x := by rfl) (hd : (x == ("__debug__" : Str)) = false := by decide)
    (he : starEach (e₀ :: rest) (cxOf (CXW P w) P w K mg base N qual scope f cd A outer s0 H0 E).env = (false, eval e₀ (cxOf (CXW P w) P w K mg base N qual scope f cd A outer s0 H0 E).env) :: starEach rest (cxOf (CXW P w) P w K mg base N qual scope f cd A outer s0 H0 E).env := by rfl)
    (hplain : (backTo cpos (starEach rest (cxOf (CXW P w) P w K mg base N qual scope f cd A outer s0 H0 E).env)).any (·.1) = false := by rfl) :
    PS (cxOf (CXW P w) P w K mg base N qual scope f cd A outer s0 H0 E) (.Raise (some (.Call (.Name x np) (e₀ :: rest) [] cpos)) none pos) (tRaise C E t) := by
  intro pins s σ H D I h
  obtain ⟨tl, NN, nm, q, bs, hdct, sn, sub, ab, col, dd, k0, k1, k2, k3, k5, mN, hC, hN, hni, T⟩ := c.obj I.ok.mod.kin
  refine wpAny_Raise_call_subT (C := C) (nm := nm) (q := q) (N := NN) (bs := bs) (bm := tl) (hdct := hdct) (sn := sn) (sub := sub) (ab := ab) (col := col) (dd := dd) (k0 := k0) (k1 := k1) (k2 := k2) (k3 := k3) (k5 := k5)
    PySem.F.excBase_ValueError (mN := mN) (T.hasType PySem.F.excBase_ValueError.hasBase) (I.ok.hd rfl) (by rw [he]; show (false || (backTo cpos (starEach rest _)).any (·.1)) = false; rw [hplain]; rfl) hni (ld_glob I hg hm ⟨rfl, ?_⟩ hd)
  have h := ha cpos pins s σ H _ I h
  rw [he] at h ⊢
  refine Calls.evalArgs_plain (wpAny_mono h (fun vs s₂ h₂ => ?_) fun _ _ y => y)
  obtain ⟨zs, H2, I2, rz, hz, hE⟩ := h₂
  refine ⟨rfl, by rw [← rz.length]; exact hz, I2.bk _ _ hC, hN.keeps I2.bk, T.keeps I2.bk, fun h' e hme => ?_⟩
  exact leave_made rfl rfl rfl I2 hme hE
end L2

/-! ## try, except C as e; isinstance of a caught exception -/
namespace L2
open PySem PySem.Spec PyProof.Rows
section
variable {X : Cx} {pins : List (Addr × Obj)} {σ : St} {H : Hp} {s : Shared} {e C : Addr}
end
/-! ### the contexts within a try -/
section
variable {X : Cx} {pins pins' : List (Addr × Obj)} {σ : St} {H : Hp} {s : Shared} {R : St → XK} {e C : Addr} {oe : Obj}
end
/-! ### calls that may raise, by what is wanted at these names' values -/
section
variable {X : Cx} {CX : CXT} {k : Nat} {f C : Addr} {fd : FuncData} {ps : List Str} {sp : Sp} {dvs : List V} {ds : List Value} {R : St → XK} {x m : Str} {p pos apos : Pos} {e o : Expr} {es : List Expr} {ta : TE} {t : TA}
end
/-! ### the statement -/
end L2

/-! ## isinstance of a caught exception -/
namespace L2
open PySem PySem.Spec PyProof.Rows PySem.W PySem.Calls Builtin Builtin.ObjectAttr Builtin.Getset_descriptor
section
variable {prog : Program} {w : World} {A : Around} {E : Value → Shared → Prop} {K : PySem.W.Frag} {x C : Addr} {ox : Obj}
end
theorem XCls.isSome {K : PySem.W.Frag} {C : Addr} (c : XCls K C) : (clsIn K C).isSome = true := by
  have q := c.ex
  unfold excIn at q
  unfold clsIn
  split at q
  · rename_i dd cd sl ho
    rw [ho]
    rfl
  · cases q
section
variable {X : Cx}
end
end L2

/-! ## f-texts of ints -/
namespace L2
open PySem PySem.Spec PyProof.Rows
theorem log_small {a : Int} (h1 : -(10 ^ 70) < a) (h2 : a < 10 ^ 70) : a.natAbs.log2 < 1920 := by
  have h : a.natAbs < 10 ^ 70 := by omega
  by_cases h0 : a.natAbs = 0
  · rw [h0]; decide
  · exact (Nat.log2_lt h0).mpr (Nat.lt_trans h (by decide))
/-- the parts of an f-text, from the left; n stand ahead -/
def PJ (X : Cx) (es : List Expr) (t : St → Hp → (Hp → Prop) → Prop) : Prop := ∀ (n : Nat) (pins : List (Addr × Obj)) (s : Shared) (σ : St) (H : Hp) (acc : Str) (Q : Hp → Prop), acc.length ≤ 4000 * n → n + es.length ≤ 100 → Inv X pins σ H s → t σ H Q →
  wpAny (model X.prog X.w) X.A (joinParts acc (evalEach es X.env)) (fun v s' => ∃ x tk H', v = Value.str x tk ∧ Inv X pins σ H' s' ∧ Q H') X.xe s
section
variable {X : Cx} {es : List Expr} {e : Expr} {te : TE} {t : St → Hp → (Hp → Prop) → Prop} {pos : Pos}
theorem line4 : 4000 * 100 ≤ sizeLine := by decide
theorem pj_nil : PJ X [] (fun _ H Q => Q H) := fun n pins s σ H acc Q ha hn I h => by
  refine joinParts_nil ⟨acc, _, H, rfl, I.tok _, h⟩ (Nat.le_trans ha (Nat.le_trans (Nat.mul_le_mul_left _ ?_) line4))
  simpa using hn
theorem pj_str {x : Str} {j : Nat} {p : Pos} (hr : PJ X es t) (hz : x.length ≤ 4000 := by decide +kernel) : PJ X (.Constant (.str x) j p :: es) t := fun n pins s σ H acc Q ha hn I h => by
  have hl : (acc ++ x).length = acc.length + x.length := strLen_append ..
  rw [List.length_cons] at hn
  have hb : (acc ++ x).length ≤ 4000 * (n + 1) := by rw [hl]; omega
  refine joinParts_cons (Calls.Constant_str ⟨Nat.le_trans hb (Nat.le_trans (Nat.mul_le_mul_left _ (by omega)) line4), ?_⟩)
  exact hr (n + 1) pins _ σ H _ Q hb (by omega) (I.tok _) h
def jInt (te : TE) (t : St → Hp → (Hp → Prop) → Prop) : St → Hp → (Hp → Prop) → Prop := fun σ H Q => te σ H fun v H1 => ∃ a : Int, v = .int a ∧ -(10 ^ 70) < a ∧ a < 10 ^ 70 ∧ t σ H1 Q
theorem pj_int {p : Pos} (he : PE X e te) (hr : PJ X es t) : PJ X (.FormattedValue e (-1) none p :: es) (jInt te t) := fun n pins s σ H acc Q ha hn I h => by
  rw [List.length_cons] at hn
  refine joinParts_cons (FormattedValue_plain (thn (he pins s σ H _ I h) fun u s1 ⟨v, H1, I1, r, a, ev, a1, a2, q⟩ => ?_))
  subst ev
  obtain ⟨tk, rfl⟩ := r
  have hlog := log_small a1 a2
  have hlen : (Str.ofString (toString a)).length ≤ 4000 := by
    have z := int_text_length_le (k := 1920) (by decide) hlog
    rw [PySem.ofString_length]
    omega
  refine formatField_int_small hlog ?_
  have hl : (acc ++ Str.ofString (toString a)).length = acc.length + (Str.ofString (toString a)).length := strLen_append ..
  have hb : (acc ++ Str.ofString (toString a)).length ≤ 4000 * (n + 1) := by rw [hl]; omega
  refine ⟨Nat.le_trans hb (Nat.le_trans (Nat.mul_le_mul_left _ (by omega)) line4), ?_⟩
  exact hr (n + 1) pins _ σ H1 _ Q hb (by omega) (I1.tok _) q
def tJoin (t : St → Hp → (Hp → Prop) → Prop) : TE := fun σ H Q => t σ H fun H' => ∀ x : Str, Q (.str x) H'
theorem pe_fstr {v₁ v₂ : Expr} {rest : List Expr} (h : PJ X (v₁ :: v₂ :: rest) t) (hn : (v₁ :: v₂ :: rest).length ≤ 100 := by decide) : PE X (.JoinedStr (v₁ :: v₂ :: rest) pos) (tJoin t) := fun pins s σ H Q I hq =>
  JoinedStr_many (thn (h 0 pins s σ H Str.empty _ (by decide) (by simpa using hn) I hq) fun u s1 ⟨x, tk, H1, eu, I1, q⟩ => by
    subst eu
    exact ⟨.str x, H1, I1, ⟨tk, rfl⟩, q x⟩)
end
end L2

namespace L2
open PySem PySem.Spec PyProof.Rows
/-- no exception is let through -/
theorem passN {P : Program} {w : World} {X : Cx} : Passes (CXW P w) X E0 := fun _ _ _ _ _ _ _ h => by
  obtain ⟨_, _, _, _, _, _, _, _, _, z⟩ := h
  exact z.elim
end L2

/-! ## lists of ints: slices, sums of lists -/
namespace My
open PySem L2
end My

/-! ## what the laws share: the web made, the number of turns -/
namespace My
open PySem L2
theorem xI {α : Type} {p : α → Prop} {w : α} (h : p w) : ∃ x, p x := ⟨w, h⟩
end My

/-! ## sorted(ints), reversed(list), list(reversed(list)) -/
namespace L2
open PySem PySem.Spec PyProof.Rows
theorem Vals.rev : ∀ {xs : List V} {us : List Value}, Vals xs us → Vals xs.reverse us.reverse
  | _, _, .nil => .nil
  | _, _, .cons r t => by
    rw [List.reverse_cons, List.reverse_cons]
    exact (Vals.rev t).append (.cons r .nil)
section
variable {X : Cx}
end
/-! ### reversed(list) -/
section
variable {X : Cx}
section
variable {prog : Program} {w : World} {A : Around} {E : Value → Shared → Prop} {s : Shared} {it a : Addr} {items : Array Value}
end
end
section
variable {X : Cx} {p p2 pos pos2 : Pos} {e : Expr} {t : TA}
end
end L2

/-! ## sets of ties: ascending lists -/
namespace My
open PySem L2
theorem isSet_iff {m : Nat} {ns : List Int} : IsSet m ns ↔ (∀ z ∈ ns, 0 ≤ z ∧ z < (m : Int)) ∧ ns.Pairwise (· < ·) := by
  constructor
  · intro h
    refine ⟨h.all, ?_⟩
    rw [List.pairwise_iff_getElem]
    intro i j hi hj hij
    induction j with
    | zero => exact absurd hij (Nat.not_lt_zero i)
    | succ j ih =>
      have hj' : j < ns.length := by omega
      have key := (h (j + 1) ns[j + 1] (List.getElem?_eq_getElem hj)).2.2 ns[j] (by omega) (by rw [Nat.add_sub_cancel]; exact List.getElem?_eq_getElem hj')
      by_cases e : i = j
      · subst e; exact key
      · have := ih hj' (by omega)
        omega
  · rintro ⟨ha, hp⟩ i z hz
    obtain ⟨hi, ei⟩ := List.getElem?_eq_some_iff.mp hz
    have hm := ha z (List.mem_of_getElem? hz)
    refine ⟨hm.1, hm.2, fun y h0 hy => ?_⟩
    obtain ⟨hi', ei'⟩ := List.getElem?_eq_some_iff.mp hy
    have := List.pairwise_iff_getElem.mp hp (i - 1) i hi' hi (by omega)
    rw [ei, ei'] at this
    exact this
theorem lt_nodup {ns : List Int} (h : ns.Pairwise (· < ·)) : ns.Nodup := h.imp fun hab e => by omega
theorem IsSet.nodup {m : Nat} {ns : List Int} (h : IsSet m ns) : ns.Nodup := lt_nodup (isSet_iff.mp h).2
end My

/-! ## joined places: the closure of the ties; how many pieces there are -/
namespace My
theorem snoc_ind {α : Type} {P : List α → Prop} (h0 : P []) (h1 : ∀ l x, P l → P (l ++ [x])) : ∀ l, P l := by
  intro l
  rw [← List.reverse_reverse l]
  induction l.reverse with
  | nil => exact h0
  | cons x r ih =>
    rw [List.reverse_cons]
    exact h1 _ _ ih
/-- two places are joined over ties -/
inductive Conn (es : List (Nat × Nat)) : Nat → Nat → Prop
  | refl (i : Nat) : Conn es i i
  | edge {a b : Nat} (h : (a, b) ∈ es) : Conn es a b
  | symm {i j : Nat} : Conn es i j → Conn es j i
  | trans {i j k : Nat} : Conn es i j → Conn es j k → Conn es i k
theorem Conn.mono {es fs : List (Nat × Nat)} (h : ∀ e ∈ es, e ∈ fs) {i j : Nat} (c : Conn es i j) : Conn fs i j := by
  induction c with
  | refl i => exact .refl i
  | edge q => exact .edge (h _ q)
  | symm _ ih => exact .symm ih
  | trans _ _ i1 i2 => exact .trans i1 i2
theorem mk_range {n i : Nat} (h : i < n) : mk ((List.range n).map fun (i : Nat) => (i : Int)) i = (i : Int) := by
  rw [mk_map' h]
where
  mk_map' {n i : Nat} (h : i < n) : mk ((List.range n).map fun (i : Nat) => (i : Int)) i = (i : Int) := by
    simp [mk, List.getD_eq_getElem?_getD, List.getElem?_map, List.getElem?_range h]
def InN (n : Nat) (es : List (Nat × Nat)) : Prop := ∀ e ∈ es, e.1 < n ∧ e.2 < n
theorem InN.snoc {n : Nat} {es : List (Nat × Nat)} {e : Nat × Nat} (h : InN n (es ++ [e])) : InN n es ∧ e.1 < n ∧ e.2 < n := ⟨fun x hx => h x (List.mem_append_left _ hx), h e (by simp)⟩
theorem lms_edge {n : Nat} : ∀ es : List (Nat × Nat), InN n es → ∀ e ∈ es, mk (lms n es) e.1 = mk (lms n es) e.2 := by
  refine snoc_ind (fun _ e h => by cases h) fun es x ih hn e he => ?_
  obtain ⟨h1, h2, h3⟩ := hn.snoc
  have hl := lms_length n es
  have hx := hn e he
  rw [lms_snoc]
  refine (lm_iff (by omega) (by omega)).mpr ?_
  rcases List.mem_append.mp he with q | q
  · exact .inl (ih h1 e q)
  · rw [List.mem_singleton.mp q]
    exact .inr ⟨.inl rfl, .inr rfl⟩
theorem lms_conn {n : Nat} : ∀ es : List (Nat × Nat), InN n es → ∀ i j, i < n → j < n → mk (lms n es) i = mk (lms n es) j → Conn es i j := by
  refine snoc_ind (fun _ i j hi hj h => ?_) fun es x ih hn i j hi hj h => ?_
  · have h : mk ((List.range n).map fun (i : Nat) => (i : Int)) i = mk ((List.range n).map fun (i : Nat) => (i : Int)) j := h
    rw [mk_range hi, mk_range hj] at h
    have : i = j := by omega
    subst this
    exact .refl i
  · obtain ⟨h1, h2, h3⟩ := hn.snoc
    have hl := lms_length n es
    have up : ∀ {i j : Nat}, Conn es i j → Conn (es ++ [x]) i j := fun c => c.mono fun e he => List.mem_append_left _ he
    have ex : Conn (es ++ [x]) x.1 x.2 := .edge (by simp)
    rw [lms_snoc] at h
    rcases (lm_iff (by omega) (by omega)).mp h with q | ⟨q1, q2⟩
    · exact up (ih h1 i j hi hj q)
    · have ci : Conn (es ++ [x]) i x.1 := by
        rcases q1 with q | q
        · exact up (ih h1 i _ hi h2 q)
        · exact (up (ih h1 i _ hi h3 q)).trans ex.symm
      have cj : Conn (es ++ [x]) j x.1 := by
        rcases q2 with q | q
        · exact up (ih h1 j _ hj h2 q)
        · exact (up (ih h1 j _ hj h3 q)).trans ex.symm
      exact ci.trans cj.symm
theorem conn_lms {n : Nat} {es : List (Nat × Nat)} (hn : InN n es) {i j : Nat} (c : Conn es i j) : i = j ∨ (i < n ∧ j < n ∧ mk (lms n es) i = mk (lms n es) j) := by
  induction c with
  | refl i => exact .inl rfl
  | edge q => exact .inr ⟨(hn _ q).1, (hn _ q).2, lms_edge es hn _ q⟩
  | symm _ ih =>
    rcases ih with e | ⟨a, b, c⟩
    · exact .inl e.symm
    · exact .inr ⟨b, a, c.symm⟩
  | trans _ _ i1 i2 =>
    rcases i1 with e | ⟨a, b, c⟩
    · rw [e]; exact i2
    · rcases i2 with e | ⟨a', b', c'⟩
      · rw [← e]; exact .inr ⟨a, b, c⟩
      · exact .inr ⟨a, b', c.trans c'⟩
theorem lms_iff {n : Nat} {es : List (Nat × Nat)} (hn : InN n es) {i j : Nat} (hi : i < n) (hj : j < n) : mk (lms n es) i = mk (lms n es) j ↔ Conn es i j := by
  constructor
  · exact lms_conn es hn i j hi hj
  · intro c
    rcases conn_lms hn c with e | ⟨_, _, e⟩
    · rw [e]
    · exact e
/-! ### how many pieces -/
def cnt (M : List Int) : Nat := (fstA M M.length).length
theorem fst_ex (M : List Int) {i : Nat} : ∃ p, p ≤ i ∧ mk M p = mk M i ∧ fstB M p = true := by
  induction i using Nat.strongRecOn with
  | ind i ih =>
    by_cases h : fstB M i = true
    · exact ⟨i, Nat.le_refl _, rfl, h⟩
    · have : ∃ j, j < i ∧ mk M j = mk M i := by
        by_cases q : ∃ j, j < i ∧ mk M j = mk M i
        · exact q
        · exact absurd (fstB_iff.mpr fun j hj e => q ⟨j, hj, e⟩) h
      obtain ⟨j, hj, e⟩ := this
      obtain ⟨p, h1, h2, h3⟩ := ih j hj
      exact ⟨p, by omega, h2.trans e, h3⟩
theorem count_less {p q : Nat → Bool} {x n : Nat} (hx : x < n) (hpx : p x = true) (h : ∀ y, y < n → q y = (p y && !decide (y = x))) : ((List.range n).filter q).length + 1 = ((List.range n).filter p).length := by
  induction n with
  | zero => exact absurd hx (Nat.not_lt_zero x)
  | succ n ih =>
    rw [List.range_succ, List.filter_append, List.filter_append, List.length_append, List.length_append]
    by_cases e : x = n
    · subst e
      have e1 : (List.range x).filter q = (List.range x).filter p := List.filter_congr fun y hy => by
        have hy := List.mem_range.mp hy
        rw [h y (by omega), show decide (y = x) = false from decide_eq_false (by omega)]
        simp
      have e2 : q x = false := by rw [h x (by omega)]; simp
      rw [e1]
      simp [List.filter_cons, e2, hpx]
    · have hq : q n = p n := by rw [h n (by omega), show decide (n = x) = false from decide_eq_false (fun z => e z.symm)]; simp
      have := ih (by omega) fun y hy => h y (by omega)
      simp only [List.filter_cons, List.filter_nil, hq]
      omega
theorem fst_uniq {M : List Int} {p q : Nat} (hp : fstB M p = true) (hq : fstB M q = true) (e : mk M p = mk M q) : p = q := by
  rcases Nat.lt_trichotomy p q with h | h | h
  · exact absurd e (fstB_iff.mp hq p h)
  · exact h
  · exact absurd e.symm (fstB_iff.mp hp q h)
theorem cnt_step {m : List Int} {a b : Nat} (ha : a < m.length) (hb : b < m.length) (hne : mk m a ≠ mk m b) : cnt (lm m a b) + 1 = cnt m := by
  obtain ⟨A, hA1, hA2, hA3⟩ := fst_ex m (i := a)
  obtain ⟨B, hB1, hB2, hB3⟩ := fst_ex m (i := b)
  have hAB : A ≠ B := fun e => hne (by rw [← hA2, ← hB2, e])
  unfold cnt fstA
  rw [lm_length]
  refine count_less (x := max A B) (by omega) ?_ fun y hy => ?_
  · rcases Nat.le_total A B with h | h
    · rw [Nat.max_eq_right h]; exact hB3
    · rw [Nat.max_eq_left h]; exact hA3
  · rw [Bool.eq_iff_iff, Bool.and_eq_true, fstB_iff, fstB_iff]
    have key : ∀ i, i < y → (mk (lm m a b) i = mk (lm m a b) y ↔ Mrg m a b i y) := fun i hi => lm_iff (by omega) hy
    have nmax : (!decide (y = max A B)) = true ↔ y ≠ max A B := by simp
    rw [nmax]
    constructor
    · intro q
      refine ⟨fun i hi e => q i hi ((key i hi).mpr (.inl e)), fun e => ?_⟩
      -- the other one is ahead
      rcases Nat.lt_or_gt_of_ne hAB with h | h
      · have ey : y = B := by omega
        subst ey
        exact q A h ((key A h).mpr (.inr ⟨.inl hA2, .inr hB2⟩))
      · have ey : y = A := by omega
        subst ey
        exact q B h ((key B h).mpr (.inr ⟨.inr hB2, .inl hA2⟩))
    · rintro ⟨q1, q2⟩ i hi e
      rcases (key i hi).mp e with e | ⟨e1, e2⟩
      · exact q1 i hi e
      · have fy : fstB m y = true := fstB_iff.mpr q1
        rcases e2 with e2 | e2
        · have ey : y = A := fst_uniq fy hA3 (e2.trans hA2.symm)
          rcases e1 with e1 | e1
          · exact q1 i hi (e1.trans e2.symm)
          · obtain ⟨p, p1, p2, p3⟩ := fst_ex m (i := i)
            have : p = B := fst_uniq p3 hB3 (by rw [p2, e1, hB2])
            omega
        · have ey : y = B := fst_uniq fy hB3 (e2.trans hB2.symm)
          rcases e1 with e1 | e1
          · obtain ⟨p, p1, p2, p3⟩ := fst_ex m (i := i)
            have : p = A := fst_uniq p3 hA3 (by rw [p2, e1, hA2])
            omega
          · exact q1 i hi (e1.trans e2.symm)
theorem cnt_range (n : Nat) : cnt ((List.range n).map fun (i : Nat) => (i : Int)) = n := by
  unfold cnt fstA
  rw [List.length_map, List.length_range]
  have e : (List.range n).filter (fstB ((List.range n).map fun (i : Nat) => (i : Int))) = List.range n := by
    refine List.filter_eq_self.mpr fun p hp => fstB_iff.mpr fun i hi e => ?_
    have hp := List.mem_range.mp hp
    rw [mk_range (by omega), mk_range hp] at e
    omega
  rw [e, List.length_range]
theorem cnt_one {M : List Int} (hM : 1 ≤ M.length) : cnt M = 1 ↔ ∀ i j, i < M.length → j < M.length → mk M i = mk M j := by
  have e : cnt M = (grp M).length := by
    unfold cnt grp
    rw [grpA_eq, List.length_map]
  rw [e]
  exact grp_one hM
end My

/-! ## trees -/
namespace My
open PySem L2
theorem seq_ix {i : Int} {n : Nat} (h0 : 0 ≤ i) (h1 : i < (n : Int)) : seqIndex? i n = some i.toNat := by
  have e : (if i < 0 then i + (n : Int) else i) = i := if_neg (by omega)
  unfold seqIndex?
  simp only [e]
  rw [if_pos (by simp; omega)]
def IsTree (n : Int) (ps : List (Int × Int)) (ns : List Int) : Prop := IsSet ps.length ns ∧ (ns.length : Int) = n - 1 ∧ ∀ i j, i < n.toNat → j < n.toNat → Conn (endsOf ps ns) i j
theorem ends_in {n : Int} {ps : List (Int × Int)} {ns : List Int} (g : GoodW n ps) (h : ∀ z ∈ ns, 0 ≤ z ∧ z < (ps.length : Int)) : InN n.toNat (endsOf ps ns) := fun e he => by
  obtain ⟨z, hz, rfl⟩ := List.mem_map.mp he
  obtain ⟨z0, z1⟩ := h z hz
  have hp : ps[z.toNat]? = some (ps[z.toNat]'(by omega)) := List.getElem?_eq_getElem _
  rw [getD_of hp]
  obtain ⟨b1, b2, b3, b4⟩ := g.2.2.2 _ (List.mem_of_getElem? hp)
  exact ⟨by omega, by omega⟩
theorem ends_sub {ps : List (Int × Int)} {ns ms : List Int} (h : ∀ z ∈ ns, z ∈ ms) : ∀ e ∈ endsOf ps ns, e ∈ endsOf ps ms := fun e he => by
  obtain ⟨z, hz, rfl⟩ := List.mem_map.mp he
  exact List.mem_map.mpr ⟨z, h z hz, rfl⟩
/-- all places have one mark -/
theorem one_conn {n : Nat} {es : List (Nat × Nat)} (h : InN n es) : (∀ i j, i < (lms n es).length → j < (lms n es).length → mk (lms n es) i = mk (lms n es) j) ↔ ∀ i j, i < n → j < n → Conn es i j := by
  rw [lms_length]
  constructor
  · intro q i j hi hj; exact (lms_iff h hi hj).mp (q i j hi hj)
  · intro q i j hi hj; exact (lms_iff h hi hj).mpr (q i j hi hj)
theorem conn_perm {ps : List (Int × Int)} {ns ms : List Int} (h : ∀ z, z ∈ ns ↔ z ∈ ms) {i j : Nat} : Conn (endsOf ps ns) i j ↔ Conn (endsOf ps ms) i j :=
  ⟨fun c => c.mono (ends_sub fun z hz => (h z).mp hz), fun c => c.mono (ends_sub fun z hz => (h z).mpr hz)⟩
end My

/-! ## comprehensions over enumerate; cuts -/
namespace My
open PySem L2
section
variable {K : PySem.W.Frag} {a : Addr} {xs : List V} {g : TG} {tt : TT} {te : TE} {o : Nat} {fr : List Nat} {σ : St} {H : Hp} {Q : VK}
theorem lc_enum (Pv : Nat → List V → Hp → Prop) (h0 : Pv 0 [] H) (hz : xs.length < sizeLine) (hl : ∀ i ys H, i ≤ xs.length → Pv i ys H → SqL K H a xs ∧ ys.length ≤ i)
    (hs : ∀ (i : Nat) x ys H (p : Addr), H p = none → xs[i]? = some x → Pv i ys H → LcTurn Pv g tt te o fr σ i (.ref p) ys (upd H p (.tup [.int i, x]))) (hd : ∀ ys H, Pv xs.length ys H → ∀ p, H p = none → Q (.ref p) (upd H p (.lst ys))) : LcR (Ite K a) g tt te o fr σ H Q := by
  refine ⟨fun i m ys H => m = xs.length - i ∧ i ≤ xs.length ∧ Pv i ys H, ⟨xs.length, by simp, Nat.zero_le _, h0⟩, ?_⟩
  rintro i m ys H ⟨rfl, hi, p⟩
  obtain ⟨q, hy⟩ := hl i ys H hi p
  by_cases hlt : i < xs.length
  · refine .inr ⟨⟨xs, xs[i], q, by simp [hlt]⟩, by omega, fun x H' ⟨T, y, hT, ex, eH, hyy⟩ => ?_⟩
    subst ex eH
    exact hs i y ys H T hT (hyy xs q) p (fun j ys H => ∃ m', m' < xs.length - i ∧ m' = xs.length - j ∧ j ≤ xs.length ∧ Pv j ys H) fun ys H p' => ⟨xs.length - (i + 1), by omega, rfl, hlt, p'⟩
  · have e : i = xs.length := by omega
    subst e
    exact .inl ⟨⟨xs, q, Nat.le_refl _⟩, by omega, hd ys H p⟩
end
/-- the numbers of the ties whose ends have unlike marks -/
def unlike (M : List Int) (ps : List (Int × Int)) (i : Nat) : List Int := ((List.range i).filter fun k => decide (mk M (ps.getD k (0, 0)).1.toNat ≠ mk M (ps.getD k (0, 0)).2.toNat)).map fun (k : Nat) => (k : Int)
/-- the ties other than one -/
def wo (ns : List Int) (z : Int) : List Int := ns.filter fun y => decide (y ≠ z)
theorem wo_mem {ns : List Int} {z y : Int} : y ∈ wo ns z ↔ y ∈ ns ∧ y ≠ z := by unfold wo; rw [List.mem_filter]; simp
end My

/-! ## rings -/
namespace My
open PySem L2
/-- the ties of a tree whose cut has the tie -/
def ringA (n : Int) (ps : List (Int × Int)) (ns : List Int) (z : Int) (l : List Int) : List Int := l.filter fun y => decide (z ∈ unlike (lms n.toNat (endsOf ps (wo ns y))) ps ps.length)
theorem unlike_mem {M : List Int} {ps : List (Int × Int)} {z : Int} (h0 : 0 ≤ z) (h1 : z < (ps.length : Int)) : z ∈ unlike M ps ps.length ↔ mk M (ps.getD z.toNat (0, 0)).1.toNat ≠ mk M (ps.getD z.toNat (0, 0)).2.toNat := by
  unfold unlike
  rw [List.mem_map]
  constructor
  · rintro ⟨k, hk, rfl⟩
    have := of_decide_eq_true (List.mem_filter.mp hk).2
    rw [Int.toNat_natCast]
    exact this
  · intro h
    exact ⟨z.toNat, List.mem_filter.mpr ⟨List.mem_range.mpr (by omega), decide_eq_true h⟩, by omega⟩
end My

/-! ## sorted(tuple of ints) -/
namespace L2
open PySem PySem.Spec PyProof.Rows
section
variable {prog : Program} {w : World} {A : Around} {E : Value → Shared → Prop} {s : Shared}
end
section
variable {X : Cx}
end
end L2

/-! ## t + u, either may be empty -/
namespace L2
open PySem PySem.Spec PyProof.Rows
section
variable {X : Cx}
end
end L2

/-! ## exchanges -/
namespace My
open PySem L2
theorem lm_id {m : List Int} {a b : Nat} (h : mk m a = mk m b) : lm m a b = m := by unfold lm; rw [if_neg (fun z => z h)]
theorem cnt_less {m : List Int} {a b : Nat} (ha : a < m.length) (hb : b < m.length) : cnt m ≤ cnt (lm m a b) + 1 := by
  by_cases e : mk m a = mk m b
  · rw [lm_id e]; omega
  · have := cnt_step ha hb e; omega
theorem cnt_lms {n : Nat} : ∀ es : List (Nat × Nat), InN n es → n ≤ cnt (lms n es) + es.length := by
  refine snoc_ind (fun _ => ?_) fun es x ih hn => ?_
  · have : cnt (lms n []) = n := cnt_range n
    omega
  · obtain ⟨h1, h2, h3⟩ := hn.snoc
    have hl := lms_length n es
    have := cnt_less (m := lms n es) (a := x.1) (b := x.2) (by omega) (by omega)
    have := ih h1
    rw [lms_snoc, List.length_append, List.length_cons, List.length_nil]
    omega
theorem cnt_pos {M : List Int} (h : 1 ≤ M.length) : 1 ≤ cnt M := by
  unfold cnt fstA
  refine List.length_pos_of_mem (a := 0) (List.mem_filter.mpr ⟨List.mem_range.mpr (by omega), fstB_iff.mpr fun i hi => absurd hi (Nat.not_lt_zero i)⟩)
theorem cnt_conn {n : Nat} {es : List (Nat × Nat)} (hn : 1 ≤ n) (h : InN n es) : cnt (lms n es) = 1 ↔ ∀ i j, i < n → j < n → Conn es i j := by
  rw [cnt_one (by rw [lms_length]; exact hn)]
  exact one_conn h
/-- an item once in a row -/
theorem wo_length {ts : List Int} {o : Int} (hn : ts.Nodup) (ho : o ∈ ts) : (wo ts o).length + 1 = ts.length := by
  induction ts with
  | nil => cases ho
  | cons x r ih =>
    obtain ⟨h1, h2⟩ := List.nodup_cons.mp hn
    unfold wo
    rw [List.filter_cons]
    by_cases e : x = o
    · subst e
      rw [if_neg (by simp)]
      have : r.filter (fun y => decide (y ≠ x)) = r := List.filter_eq_self.mpr fun y hy => decide_eq_true fun e => h1 (e ▸ hy)
      rw [this]; rfl
    · rw [if_pos (decide_eq_true e)]
      have := ih h2 ((List.mem_cons.mp ho).resolve_left fun z => e z.symm)
      unfold wo at this
      rw [List.length_cons, List.length_cons]
      omega
/-- the ends of a tie -/
def endOf (ps : List (Int × Int)) (z : Int) : Nat × Nat := ((ps.getD z.toNat (0, 0)).1.toNat, (ps.getD z.toNat (0, 0)).2.toNat)
theorem ends_snoc (ps : List (Int × Int)) (ns : List Int) (z : Int) : endsOf ps (ns ++ [z]) = endsOf ps ns ++ [endOf ps z] := by unfold endsOf endOf; rw [List.map_append]; rfl
theorem end_in {n : Int} {ps : List (Int × Int)} {z : Int} (g : GoodW n ps) (z0 : 0 ≤ z) (z1 : z < (ps.length : Int)) : (endOf ps z).1 < n.toNat ∧ (endOf ps z).2 < n.toNat := by
  have := ends_in (ns := [z]) g (fun y hy => by rw [List.mem_singleton.mp hy]; exact ⟨z0, z1⟩)
  exact this (endOf ps z) (by unfold endsOf endOf; simp)
theorem wo_all {n : Int} {ps : List (Int × Int)} {ts : List Int} {o : Int} (hT : IsTree n ps ts) : ∀ y ∈ wo ts o, 0 ≤ y ∧ y < (ps.length : Int) := fun y hy => hT.1.all y (wo_mem.mp hy).1
/-- a tree with one tie for another is joined where the other one's ends are in two pieces without the one -/
theorem exch {n : Int} {ps : List (Int × Int)} {ts : List Int} {o z : Int} (g : GoodW n ps) (hT : IsTree n ps ts) (ho : o ∈ ts) (z0 : 0 ≤ z) (z1 : z < (ps.length : Int)) :
    (∀ i j, i < n.toNat → j < n.toNat → Conn (endsOf ps (wo ts o ++ [z])) i j) ↔ ¬ Conn (endsOf ps (wo ts o)) (endOf ps z).1 (endOf ps z).2 := by
  have hn : 1 ≤ n.toNat := by have := g.1; omega
  have hw := wo_length hT.1.nodup ho
  have hl : (ts.length : Int) = n - 1 := hT.2.1
  have i0 : InN n.toNat (endsOf ps (wo ts o)) := ends_in g (wo_all hT)
  have hz := end_in g z0 z1
  have ob := hT.1.all o ho
  have hoe := end_in g ob.1 ob.2
  have i1 : InN n.toNat (endsOf ps (wo ts o) ++ [endOf ps z]) := fun e he => (List.mem_append.mp he).elim (i0 e) fun q => by rw [List.mem_singleton.mp q]; exact hz
  have i2 : InN n.toNat (endsOf ps (wo ts o) ++ [endOf ps o]) := fun e he => (List.mem_append.mp he).elim (i0 e) fun q => by rw [List.mem_singleton.mp q]; exact hoe
  have hL := lms_length n.toNat (endsOf ps (wo ts o))
  have le : (endsOf ps (wo ts o)).length = (wo ts o).length := by unfold endsOf; rw [List.length_map]
  rw [ends_snoc]
  constructor
  · intro hc c
    have h1 : cnt (lms n.toNat (endsOf ps (wo ts o) ++ [endOf ps z])) = 1 := (cnt_conn hn i1).mpr hc
    rw [lms_snoc, lm_id ((lms_iff i0 hz.1 hz.2).mpr c)] at h1
    have := cnt_lms _ i0
    omega
  · intro hc
    have h2 : cnt (lms n.toNat (endsOf ps (wo ts o) ++ [endOf ps o])) = 1 := by
      refine (cnt_conn hn i2).mpr fun i j hi hj => ?_
      rw [← ends_snoc]
      refine (conn_perm fun y => ?_).mp (hT.2.2 i j hi hj)
      rw [List.mem_append, wo_mem, List.mem_singleton]
      constructor
      · intro hy
        by_cases e : y = o
        · exact .inr e
        · exact .inl ⟨hy, e⟩
      · rintro (q | q)
        · exact q.1
        · rw [q]; exact ho
    rw [lms_snoc] at h2
    have h3 := cnt_less (m := lms n.toNat (endsOf ps (wo ts o))) (a := (endOf ps o).1) (b := (endOf ps o).2) (by omega) (by omega)
    have h4 := cnt_step (m := lms n.toNat (endsOf ps (wo ts o))) (a := (endOf ps z).1) (b := (endOf ps z).2) (by omega) (by omega) (fun e => hc ((lms_iff i0 hz.1 hz.2).mp e))
    have h5 := cnt_pos (M := lm (lms n.toNat (endsOf ps (wo ts o))) (endOf ps z).1 (endOf ps z).2) (by rw [lm_length]; omega)
    refine (cnt_conn hn i1).mp ?_
    rw [lms_snoc]
    omega
/-- the cut of a tie of a tree -/
def cutT (n : Int) (ps : List (Int × Int)) (ts : List Int) (o : Int) : List Int := unlike (lms n.toNat (endsOf ps (wo ts o))) ps ps.length
theorem unlike_bnd {M : List Int} {ps : List (Int × Int)} {i : Nat} {z : Int} (h : z ∈ unlike M ps i) : 0 ≤ z ∧ z < (i : Int) := by
  unfold unlike at h
  obtain ⟨k, hk, rfl⟩ := List.mem_map.mp h
  have := List.mem_range.mp (List.mem_filter.mp hk).1
  omega
theorem cutT_mem {n : Int} {ps : List (Int × Int)} {ts : List Int} {o z : Int} (g : GoodW n ps) (hT : IsTree n ps ts) (z0 : 0 ≤ z) (z1 : z < (ps.length : Int)) : z ∈ cutT n ps ts o ↔ ¬ Conn (endsOf ps (wo ts o)) (endOf ps z).1 (endOf ps z).2 := by
  have hz := end_in g z0 z1
  unfold cutT
  rw [unlike_mem z0 z1]
  exact not_congr (lms_iff (ends_in g (wo_all hT)) hz.1 hz.2)
def exg (n : Int) (ps : List (Int × Int)) (ts : List Int) (o z : Int) : Prop := o ∈ ts ∧ z ≠ o ∧ z ∈ cutT n ps ts o
instance (n : Int) (ps : List (Int × Int)) (ts : List Int) (o z : Int) : Decidable (exg n ps ts o z) := by unfold exg; infer_instance
theorem exg_iff {n : Int} {ps : List (Int × Int)} {ts : List Int} {o z : Int} (g : GoodW n ps) (hT : IsTree n ps ts) :
    exg n ps ts o z ↔ o ∈ ts ∧ z ∉ ts ∧ 0 ≤ z ∧ z < (ps.length : Int) ∧ ∀ i j, i < n.toNat → j < n.toNat → Conn (endsOf ps (wo ts o ++ [z])) i j := by
  constructor
  · rintro ⟨h1, h2, h3⟩
    obtain ⟨z0, z1⟩ := unlike_bnd h3
    have hc := (cutT_mem g hT z0 z1).mp h3
    refine ⟨h1, fun hz => hc ?_, z0, z1, (exch g hT h1 z0 z1).mpr hc⟩
    refine .edge ?_
    exact List.mem_map.mpr ⟨z, wo_mem.mpr ⟨hz, h2⟩, rfl⟩
  · rintro ⟨h1, h2, z0, z1, hc⟩
    exact ⟨h1, fun e => h2 (e ▸ h1), (cutT_mem g hT z0 z1).mpr ((exch g hT h1 z0 z1).mp hc)⟩
/-! ### the list of exchanges -/
theorem wo_lt {l : List Int} (z : Int) (h : l.Pairwise (· < ·)) : (wo l z).Pairwise (· < ·) := List.Pairwise.sublist List.filter_sublist h
end My

/-! ## lists of pairs, a list changed -/
namespace My
open PySem L2
end My

/-! ## list(reversed(tuple)) -/
namespace L2
open PySem PySem.Spec PyProof.Rows
theorem rv_mro : mroOf (.type "reversed") = pure [.type "reversed", .type "object"] := by rw [mroOf_type]; kernel_rfl
theorem rv_init : PySem.Slot "reversed" "__init__" "object.__init__" :=
  .of (owner := "object") (n := "__init__") (by rw [typeLookup_type, builtinLookup_eq_fast]; kernel_rfl) (by decide +kernel) (by decide +kernel) (by decide +kernel)
    (by first | exact .inl (by decide +kernel) | exact .inr (by decide +kernel)) (by rw [isSubtype_type]; kernel_rfl)
theorem rv_called : TypeCalled "reversed" "reversed.__new__" "object.__init__" :=
  ⟨by decide +kernel, by decide +kernel, ⟨_, _, rv_mro⟩, madeBy_type rv_mro PySem.F.lookup_reversed_new (by decide +kernel), by decide +kernel, by rw [isSubtype_type]; kernel_rfl, rv_init⟩
theorem rv_owner : Manifest.owners.lookup (String.ofList ['d', 'e', 's', 'r', 'e', 'v', 'e', 'r'].reverse) = some Manifest.sig_reversed := by kernel_rfl
theorem rv_next : PySem.Slot "reversed" "__next__" "reversed.__next__" :=
  .of (owner := "reversed") (n := "__next__") (by rw [typeLookup_type, builtinLookup_eq_fast]; kernel_rfl) (by decide +kernel) (by decide +kernel) (by decide +kernel)
    (by first | exact .inl (by decide +kernel) | exact .inr (by decide +kernel)) (by rw [isSubtype_type]; kernel_rfl)
theorem rv_enext : entryFor table "reversed.__next__" = some Builtin.«reversed.__next__» := entryFor_of_tree (by kernel_rfl)
theorem rv_anext (a : Value) : argsOk "reversed.__next__" ⟨[a], []⟩ := by
  unfold argsOk; rw [signature?_of (id := "reversed.__next__") (n := ['_', '_', 't', 'x', 'e', 'n', '_', '_']) (o := ['d', 'e', 's', 'r', 'e', 'v', 'e', 'r']) (by kernel_rfl) rv_owner]; kernel_rfl
theorem rv_iter : PySem.Slot "reversed" "__iter__" "reversed.__iter__" :=
  .of (owner := "reversed") (n := "__iter__") (by rw [typeLookup_type, builtinLookup_eq_fast]; kernel_rfl) (by decide +kernel) (by decide +kernel) (by decide +kernel)
    (by first | exact .inl (by decide +kernel) | exact .inr (by decide +kernel)) (by rw [isSubtype_type]; kernel_rfl)
theorem rv_aiter (a : Value) : argsOk "reversed.__iter__" ⟨[a], []⟩ := by
  unfold argsOk; rw [signature?_of (id := "reversed.__iter__") (n := ['_', '_', 'r', 'e', 't', 'i', '_', '_']) (o := ['d', 'e', 's', 'r', 'e', 'v', 'e', 'r']) (by kernel_rfl) rv_owner]; kernel_rfl
theorem rv_eiter : entryFor table "reversed.__iter__" = some Builtin.«dict_keyiterator.__iter__» :=
  entryFor_alias (id' := "dict_keyiterator.__iter__") (by kernel_rfl) (by first | rfl | decide +kernel | (unfold String.splitOn; simp +decide [String.splitOnAux])) (by decide +kernel) (by kernel_rfl)
theorem rv_none : typeLookup (.type "tuple") "__reversed__" = pure none := by rw [typeLookup_type, builtinLookup_eq_fast]; kernel_rfl
theorem rv_nodict : isSubtype (.type "tuple") (.type "dict") = pure false := by rw [isSubtype_type]; kernel_rfl
theorem rv_hint : typeLookup (.type "reversed") "__length_hint__" = pure (some (.builtin "reversed.__length_hint__")) := by rw [typeLookup_type, builtinLookup_eq_fast]; kernel_rfl
theorem rv_nolen : typeLookup (.type "reversed") "__len__" = pure none := by rw [typeLookup_type, builtinLookup_eq_fast]; kernel_rfl
theorem rv_meets (l : Addr) (items : Array Value) (n : Nat) (dd : Option Addr) (sl : Array (Option Value)) :
    Meets (Builtin.«reversed.__new__» ⟨[.type "reversed", .ref l], []⟩) (fun _ R s => s.heap.get? l = some { cls := .type "tuple", dict := dd, data := .seq items n, slots := sl } ∧ ¬ (items.size : Int) ≥ 2 ^ 63 ∧
      ∀ tk, R (.ok (.ret (.ref s.heap.objs.size))) { s with heap := s.heap.push { cls := .type "reversed", data := .fields #[.ref l, rawInt ((items.size : Int) - 1)] }, toks := tk }) :=
  .of_wp fun prog w A R s h => by
    obtain ⟨hl, hf, h⟩ := h
    have hT : s.TypeIs (.ref l) "tuple" := ⟨_, hl, rfl⟩
    have f0 := PySem.F.sub_reversed_self
    have f1 := rv_none
    have f2 := rv_nodict
    have f3 := PySem.F.slot_tuple_getitem.lookup
    unfold Builtin.«reversed.__new__»
    refine wpAny_bind (wpAny_of_eq (newClass_reversed _) ?_)
    try dsimp only
    refine wpAny_bind (wpAny_of_eq (a := ()) (by first | rfl | kernel_rfl) ?_)
    refine wpAny_bind (wpAny_of_eq (a := ()) (by first | rfl | kernel_rfl) ?_)
    try dsimp only
    refine wpAny_bind (wpAny_specialOf hT f1 ?_)
    try dsimp only
    refine wpAny_bind ?_
    wp_delta
    refine wpAny_bind (wpAny_isInstance (T := "tuple") (b := false) hT f2 ?_)
    rw [if_neg (by decide)]
    refine wpAny_bind (wpAny_specialOf hT f3 ?_)
    dsimp only
    rw [if_pos (by decide +kernel)]
    refine wpAny_pure ?_
    rw [if_neg (by decide)]
    refine wpAny_bind (len_tuple ⟨_, hl, rfl, n, rfl⟩ (by omega) ?_)
    refine wpAny_bind (wpAny_of_eq (a := some (items.size : Int)) rfl ?_)
    dsimp only
    refine wpAny_bind ?_
    unfold Builtin.SmallTypes.newRecord
    refine wpAny_newObj_type ?_ (by size_fits)
    exact wpAny_pure ⟨_, rfl, h _⟩
/-! ### the iterator of reversed(tuple) -/
def IsRv (h : Heap) (r l : Addr) (i : Int) : Prop := ∃ o, h.get? r = some o ∧ o.cls = .type "reversed" ∧ o.data = .fields #[.ref l, rawInt i]
theorem IsRv.ty {s : Shared} {r l : Addr} {i : Int} (x : IsRv s.heap r l i) : s.TypeIs (.ref r) "reversed" := let ⟨o, a, b, _⟩ := x; ⟨o, a, b⟩
theorem IsRv.keep {h h' : Heap} {r l : Addr} {i : Int} (x : IsRv h r l i) (e : ∀ o, h.get? r = some o → h'.get? r = some o) : IsRv h' r l i := let ⟨o, a, b⟩ := x; ⟨o, e _ a, b⟩
section
variable {prog : Program} {w : World} {A : Around} {E : Value → Shared → Prop} {s : Shared}
theorem rv_call {l : Addr} {items : Array Value} {Q : Value → Shared → Prop} (hl : IsTup s.heap l items) (hf : (items.size : Int) < 2 ^ 63)
    (k : ∀ tk h', IsRv h' s.heap.objs.size l ((items.size : Int) - 1) → (∀ b o, s.heap.get? b = some o → h'.get? b = some o) → h'.objs.size = s.heap.objs.size + 1 → Q (.ref s.heap.objs.size) { s with heap := h', toks := tk }) :
    wpAny (model prog w) A (call (.type "reversed") [.ref l]) Q E s := by
  obtain ⟨⟨cls, dd, data, sl⟩, ho, hc, n, hd⟩ := id hl
  simp only at hc hd
  subst hc hd
  refine callType_new rv_called (by decide) (PySem.F.typeCall_reversed_1 _) (PySem.F.newCall_reversed_1 _) (fun obj => PySem.F.args_object_init_2 obj _) PySem.F.entry_reversed_new (rv_meets l items n dd sl) ⟨ho, by omega, fun tk => ?_⟩
  have e := Heap.get?_push_size s.heap (o := { cls := .type "reversed", data := .fields #[.ref l, rawInt ((items.size : Int) - 1)] }) rfl
  exact ⟨⟨_, e, rfl⟩, k tk _ ⟨_, e, rfl, rfl⟩ (fun b o g => Heap.get?_push_of_some _ g) (Heap.size_push ..)⟩
theorem rv_item {r l : Addr} {i : Nat} {items : Array Value} {x : Value} {Q : Option Value → Shared → Prop} (hr : IsRv s.heap r l (i : Int)) (hl : IsTup s.heap l items) (hx : items[i]? = some x) (h63 : (i : Int) < 2 ^ 63)
    (hQ : ∀ h' tk, IsRv h' r l ((i : Int) - 1) → Heap.SameBut r s.heap h' → Q (some x) { s with heap := h', toks := tk }) : wpAny (model prog w) A (pyNext (.ref r)) Q E s := by
  obtain ⟨o, ho, hc, hd⟩ := id hr
  have hi : i < items.size := (Array.getElem?_eq_some_iff.mp hx).1
  unfold pyNext
  refine wpAny_bind (wpAny_attempt (wpAny_callSpecial?_slot (name := Str.ofString "__next__") hr.ty rv_next (wpAny_call_entry rv_next hr.ty rv_enext ?_ (rv_anext _))))
  unfold Builtin.«reversed.__next__»
  refine wpAny_bind (wpAny_of_eq (a := (Value.ref r, [])) rfl ?_)
  dsimp only
  refine wpAny_bind (wpAny_field ho hd (x := .ref l) rfl ?_)
  refine wpAny_bind (wpAny_field ho hd (x := rawInt (i : Int)) rfl ?_)
  show wpAny _ _ (if (i : Int) < 0 then _ else _) _ _ s
  rw [if_neg (by omega)]
  refine wpAny_bind (wpAny_specialOf hl.typeIs PySem.F.slot_tuple_getitem.lookup ?_)
  rw [if_neg (by simp)]
  refine wpAny_bind (wpAny_mkInt ?_)
  refine wpAny_bind (wpAny_attempt (getItem_tuple (j := i) hl (by omega) h63 (My.seq_ix (by omega) (by omega)) hx ?_))
  dsimp only
  refine wpAny_bind (wpAny_field ho hd (x := rawInt (i : Int)) rfl ?_)
  show wpAny _ _ (setField (.ref r) 1 (rawInt ((i : Int) - 1)) >>= _) _ _ _
  refine wpAny_bind (wpAny_setField ho hd (by simp) ?_)
  refine wpAny_pure ⟨x, rfl, wpAny_pure (hQ _ _ ⟨_, Heap.get?_update_self _ ho (Obj.isFreed_of_fields (Obj.data_mapFields hd _)), (Obj.cls_mapFields ..).trans hc, ?_⟩ (Heap.SameBut.update ..))⟩
  rw [Obj.data_mapFields hd]
  simp
theorem rv_end {r l : Addr} {Q : Option Value → Shared → Prop} (hh : A.handled = none) (hr : IsRv s.heap r l (-1)) (hQ : ∀ h', Heap.ExtBut r s.heap h' → Q none { s with heap := h' }) : wpAny (model prog w) A (pyNext (.ref r)) Q E s := by
  obtain ⟨o, ho, hc, hd⟩ := id hr
  unfold pyNext
  refine wpAny_bind (wpAny_attempt (wpAny_callSpecial?_slot (name := Str.ofString "__next__") hr.ty rv_next (wpAny_call_entry rv_next hr.ty rv_enext ?_ (rv_anext _))))
  unfold Builtin.«reversed.__next__»
  refine wpAny_bind (wpAny_of_eq (a := (Value.ref r, [])) rfl ?_)
  dsimp only
  refine wpAny_bind (wpAny_field ho hd (x := .ref l) rfl ?_)
  refine wpAny_bind (wpAny_field ho hd (x := rawInt (-1)) rfl ?_)
  show wpAny _ _ (if (-1 : Int) < 0 then _ else _) _ _ s
  rw [if_pos (by decide)]
  refine wpAny_bind (wpAny_rule ?_)
  refine wpAny_bind ?_
  wp_delta
  refine wpAny_bind (wpAny_setField ho hd (by simp) ?_)
  have ho2 := Heap.get?_update_self (Obj.mapFields (fun vs => vs.setIfInBounds 1 (rawInt (-1)))) ho (Obj.isFreed_of_fields (Obj.data_mapFields hd _))
  refine wpAny_setField ho2 (Obj.data_mapFields hd _) (by simp) ?_
  refine wpAny_bind ?_
  show wpAny _ _ (newExc (.type "StopIteration") [] >>= _) _ _ _
  refine wpAny_bind ?_
  simp only [newExc, newTuple]
  refine wpAny_bind (wpAny_newObj_type ?_ (by size_fits))
  refine wpAny_bind (m := firstArgMember _ _) (wpAny_of_eq (a := Value.none) (by first | rfl | (simp only [firstArgMember]; rfl)) ?_)
  refine wpAny_newObj_type ?_ (by size_fits)
  simp only [raiseNew]
  refine wpAny_bind (wpAny_handled ?_)
  rw [show A.in1.handled = none from hh]
  refine wpAny_bind (wpAny_pure (wpAny_throw ?_))
  refine wpAny_bind (wpAny_isInstance (T := "StopIteration") (b := true) ⟨_, Heap.get?_push_size _ rfl, rfl⟩ isSubtype_stop ?_)
  exact wpAny_pure (hQ _ (((((Heap.SameBut.update ..).trans (Heap.SameBut.update ..)).extBut).push _).push _))
theorem rv_self {r l : Addr} {i : Int} {Q : Value → Shared → Prop} (hr : IsRv s.heap r l i) (h : Q (.ref r) s) : wpAny (model prog w) A (pyIter (.ref r)) Q E s := by
  refine wpAny_pyIter_slot hr.ty rv_iter (wpAny_call_entry rv_iter hr.ty rv_eiter ?_ (rv_aiter _))
  show wpAny _ _ (ret (.ref r)) _ _ s
  exact wpAny_pure ⟨_, rfl, "reversed", _, hr.ty, rv_next.lookup, h⟩
end
theorem rv_walks {prog : Program} {w : World} {A : Around} (hh : A.handled = none) (r l : Addr) (hne : l ≠ r) (items : Array Value) (h63 : (items.size : Int) < 2 ^ 63) :
    Walks prog w A r [r, l] [r] items.size (fun i v => items[items.size - 1 - i]? = some v) (fun i h => i ≤ items.size ∧ IsRv h r l ((items.size : Int) - 1 - (i : Int)) ∧ IsTup h l items) where
  sub := fun b hb => List.mem_cons.mpr (.inl (List.mem_singleton.mp hb))
  frame := fun _ _ _ x hk => ⟨x.1, x.2.1.keep fun o e => hk r (by simp) o e, let ⟨o, a, b⟩ := x.2.2; ⟨o, hk l (by simp) o a, b⟩⟩
  item := fun i s Q E hi ⟨_, x1, x2⟩ hQ => by
    have hx : items[items.size - 1 - i]? = some (items[items.size - 1 - i]'(by omega)) := Array.getElem?_eq_getElem (by omega)
    rw [show (items.size : Int) - 1 - (i : Int) = ((items.size - 1 - i : Nat) : Int) by omega] at x1
    refine rv_item x1 x2 hx (by omega) fun h' tk y hs => ?_
    rw [show ((items.size - 1 - i : Nat) : Int) - 1 = (items.size : Int) - 1 - ((i + 1 : Nat) : Int) by omega] at y
    exact hQ _ h' tk hx ⟨hi, y, let ⟨o, a, b⟩ := x2; ⟨o, (hs.2 l hne).trans a, b⟩⟩ fun b o hb eo => hs.extBut b o (fun e => hb (by simp [e])) eo
  done := fun s Q E ⟨_, x1, _⟩ hQ => by
    rw [show (items.size : Int) - 1 - (items.size : Int) = -1 by omega] at x1
    exact rv_end hh x1 fun h' he => hQ h' s.toks fun b o hb eo => he b o (fun e => hb (by simp [e])) eo
  self := fun _ _ _ _ x hQ => rv_self x.2.1 hQ
theorem rv_lh : PySem.Slot "reversed" "__length_hint__" "reversed.__length_hint__" :=
  .of (owner := "reversed") (n := "__length_hint__") (by rw [typeLookup_type, builtinLookup_eq_fast]; kernel_rfl) (by decide +kernel) (by decide +kernel) (by decide +kernel)
    (by first | exact .inl (by decide +kernel) | exact .inr (by decide +kernel)) (by rw [isSubtype_type]; kernel_rfl)
theorem rv_elh : entryFor table "reversed.__length_hint__" = some Builtin.«reversed.__length_hint__» := entryFor_of_tree (by kernel_rfl)
theorem rv_alh (a : Value) : argsOk "reversed.__length_hint__" ⟨[a], []⟩ := by
  unfold argsOk; rw [signature?_of (id := "reversed.__length_hint__") (n := ['_', '_', 't', 'n', 'i', 'h', '_', 'h', 't', 'g', 'n', 'e', 'l', '_', '_']) (o := ['d', 'e', 's', 'r', 'e', 'v', 'e', 'r']) (by kernel_rfl) rv_owner]; kernel_rfl
theorem rvt_hint {prog : Program} {w : World} {A : Around} {E : Value → Shared → Prop} {s : Shared} {r l : Addr} {items : Array Value} {Q : Bool → Shared → Prop} (hr : IsRv s.heap r l ((items.size : Int) - 1)) (hl : IsTup s.heap l items) (hz : items.size ≤ sizeLine) (h : ∀ b tk, Q b { s with toks := tk }) : wpAny (model prog w) A (Builtin.List.listLengthHint (.ref r)) Q E s := by
  have hT := hr.ty
  have hzl : sizeLine = 16777216 := sizeLine_eq
  obtain ⟨o, ho, hc, hd⟩ := id hr
  unfold Builtin.List.listLengthHint
  refine wpAny_bind (wpAny_specialOf hT rv_nolen ?_)
  show wpAny _ A (specialOf (Value.ref r) (Str.ofString "__length_hint__") >>= _) _ _ _
  refine wpAny_bind (wpAny_specialOf hT rv_hint ?_)
  generalize hid : ("reversed.__length_hint__" : String) = id0
  wp_delta
  rw [show splitId id0 = some ("reversed", "__length_hint__") from by subst hid; decide +kernel]
  subst hid
  refine wpAny_bind (wpAny_isInstance (T := "reversed") (b := true) hT (by rw [isSubtype_type]; kernel_rfl) ?_)
  refine wpAny_ite_split (fun z => absurd z (by decide)) (fun _ => ?_)
  refine wpAny_ite_split (fun z => absurd z (by decide +kernel)) (fun _ => ?_)
  refine wpAny_bind (wpAny_rule ?_)
  refine wpAny_bind (wpAny_of_eq (rv_lh.bind _) ?_)
  dsimp only
  refine wpAny_bind (wpAny_attempt (wpAny_call_entry rv_lh hT rv_elh ?_ (rv_alh _)))
  unfold Builtin.«reversed.__length_hint__»
  refine wpAny_bind (wpAny_of_eq (a := Value.ref r) rfl ?_)
  refine wpAny_bind (wpAny_field ho hd (x := .ref l) rfl ?_)
  refine wpAny_ite_split (fun z => absurd z (by rw [show (Value.ref l == Value.none) = false from rfl]; decide)) (fun _ => ?_)
  refine wpAny_bind (len_tuple hl (by omega) ?_)
  refine wpAny_bind (wpAny_of_eq (a := some (items.size : Int)) rfl ?_)
  dsimp only
  refine wpAny_bind (wpAny_field ho hd (x := rawInt ((items.size : Int) - 1)) rfl ?_)
  show wpAny _ _ (if (items.size : Int) < (items.size : Int) - 1 + 1 then _ else _) _ _ _
  rw [if_neg (by omega)]
  show wpAny _ _ (mkInt ((items.size : Int) - 1 + 1) >>= _) _ _ _
  refine wpAny_bind (wpAny_mkInt (wpAny_pure ⟨_, rfl, ?_⟩))
  dsimp only
  refine wpAny_bind (wpAny_of_eq (a := some ((items.size : Int) - 1 + 1)) rfl ?_)
  dsimp only
  rw [show (items.size : Int) - 1 + 1 = (items.size : Int) by omega]
  have htl : Builtin.List.listTooLong ((items.size : Int).toNat) = false := by simp [Builtin.List.listTooLong]; omega
  have hfi : Builtin.List.listFitsIndex (items.size : Int) = true := by simp [Builtin.List.listFitsIndex]; omega
  simp only [hfi, htl, Bool.not_true, Bool.false_eq_true, if_false, show ¬ ((items.size : Int) < 0) by omega]
  exact wpAny_pure (h _ _)
section
variable {prog : Program} {w : World} {A : Around} {E : Value → Shared → Prop} {s : Shared} {it a : Addr} {items : Array Value}
theorem rvt_extend {R : Result → Shared → Prop} (hh : A.handled = none) (hi : IsRv s.heap it a ((items.size : Int) - 1)) (hl : IsTup s.heap a items) (hne : a ≠ it) {S : Addr} (h1 : S ≠ it) (h2 : S ≠ a) {res : Value} {c0 : Nat}
    (hS : s.heap.get? S = some { cls := .type "list", data := .seq #[] c0 }) (hz : items.size ≤ sizeLine)
    (k : ∀ h' tk acc c, (∀ b o, b ≠ S → b ≠ it → s.heap.get? b = some o → h'.get? b = some o) → h'.get? S = some { cls := .type "list", dict := none, data := .seq acc c, slots := #[] } → ItemsOf (fun i v => items[items.size - 1 - i]? = some v) acc items.size → R (.ok (.ret res)) { s with heap := h', toks := tk }) :
    wpAny (model prog w) A.in1 (Builtin.List.listExtendWith (.ref S) (.ref it) res)
      (fun fin s' => match fin with | .done f => R (.ok f) s' | .again c' => c'.quiet = true ∧ codeAny (model prog w) A c' R s') (fun e s' => R (.error e) s') s := by
  have hzl : sizeLine = 16777216 := sizeLine_eq
  have W := rv_walks (prog := prog) (w := w) (A := A.in1) hh it a hne items (by omega)
  have hSf : S ∉ [it, a] := by simp only [List.mem_cons, List.not_mem_nil, or_false, not_or]; exact ⟨h1, h2⟩
  have key : ∀ (hp : Heap) (c1 tk : Nat), IsRv hp it a ((items.size : Int) - 1) → IsTup hp a items → (∀ b o, b ≠ S → s.heap.get? b = some o → hp.get? b = some o) → hp.get? S = some { cls := .type "list", data := .seq #[] c1 } →
      codeAny (model prog w) A (.builtin "list.extend.loop" ⟨[.ref S, .ref it, res], []⟩) R { s with heap := hp, toks := tk } := by
    intro hp c1 tk hi' hl' hk' hS1
    have st0 : (0 ≤ items.size ∧ IsRv hp it a ((items.size : Int) - 1 - ((0 : Nat) : Int)) ∧ IsTup hp a items) := ⟨Nat.zero_le _, by rw [show ((items.size : Int) - 1 - ((0 : Nat) : Int)) = (items.size : Int) - 1 by omega]; exact hi', hl'⟩
    refine codeAny_extend_loopS W.toS hz S hSf res items.size 0 _ #[] c1 rfl (Nat.zero_le _) st0 hS1 (ItemsOf.nil _) fun s' acc c hm hS' hacc => ?_
    rw [Moved.eq_with hm]
    refine k s'.heap s'.toks acc c (fun b o hb hbi e => hm.heap b o (fun hmem => ?_) (hk' b o hb e)) hS' hacc
    rcases List.mem_cons.mp hmem with e' | hmem
    · exact hb e'
    · exact hbi (List.mem_singleton.mp hmem)
  unfold Builtin.List.listExtendWith
  refine wpAny_bind (wpAny_typeOf (T := "reversed") hi.ty ?_)
  have e1 : Builtin.List.listSameRef (.ref S) (.ref it) = false := by simp [Builtin.List.listSameRef, h1]
  rw [if_neg (by rw [e1]; decide)]
  refine wpAny_bind (rv_self hi ?_)
  refine wpAny_bind (wpAny_holding (rvt_hint hi hl hz fun bb tk => ?_))
  refine wpAny_ite_split (fun _ => ?_) (fun _ => wpAny_pure ⟨plainId_quiet PySem.F.plain_extend_loop _, key _ c0 tk hi hl (fun b o _ e => e) hS⟩)
  refine wpAny_bind (wpAny_rule ?_)
  refine wpAny_bind ?_
  show wpAny _ _ (updateSeq S (·.push .none) >>= fun _ => updateSeq S (·.pop)) _ _ _
  refine wpAny_bind (wpAny_updateSeq hS rfl ?_)
  have hS2 := Heap.get?_update_self (Obj.mapSeq (·.push Value.none)) hS rfl
  refine wpAny_updateSeq (hz := by seq_fits) hS2 rfl ?_
  have hS3 := Heap.get?_update_self (Obj.mapSeq (·.pop)) hS2 rfl
  have oth : ∀ b o, b ≠ S → s.heap.get? b = some o → ((s.heap.update S (Obj.mapSeq (·.push Value.none))).update S (Obj.mapSeq (·.pop))).get? b = some o := fun b o hb e => (Heap.get?_update_other _ _ (Ne.symm hb)).trans ((Heap.get?_update_other _ _ (Ne.symm hb)).trans e)
  exact wpAny_pure ⟨plainId_quiet PySem.F.plain_extend_loop _, key _ _ tk (hi.keep fun o e => oth it o (Ne.symm h1) e) (let ⟨o, e, z⟩ := hl; ⟨o, oth a o (Ne.symm h2) e, z⟩) oth hS3⟩
end
section
variable {X : Cx} {p p2 pos pos2 : Pos} {e : Expr} {t : TA}
end
end L2

/-! ## t[lo:hi], also the whole -/
namespace L2
open PySem PySem.Spec PyProof.Rows
section
variable {prog : Program} {w : World} {A : Around} {E : Value → Shared → Prop} {s : Shared}
end
section
variable {X : Cx}
end
end L2

/-! ## tuples of ints: slices -/
namespace My
open PySem L2
end My

/-! ## x in a list of objects, by what they hold -/
namespace L2
open PySem PySem.Spec PyProof.Rows
section
variable {X : Cx}
end
end L2
namespace My
open PySem L2
end My

/-! ## rings and cuts of a tree, and behind an exchange -/
namespace My
open PySem L2
/-- of the tree's own ties only the one that is left out is in the cut -/
theorem cut_own {n : Int} {ps : List (Int × Int)} {ts : List Int} {o y : Int} (g : GoodW n ps) (hT : IsTree n ps ts) (ho : o ∈ ts) (hy : y ∈ ts) : y ∈ cutT n ps ts o ↔ y = o := by
  have yb := hT.1.all y hy
  rw [cutT_mem g hT yb.1 yb.2]
  constructor
  · intro h
    by_cases e : y = o
    · exact e
    · exact absurd (.edge (List.mem_map.mpr ⟨y, wo_mem.mpr ⟨hy, e⟩, rfl⟩)) h
  · rintro rfl
    refine (exch g hT hy yb.1 yb.2).mp fun i j hi hj => (conn_perm fun z => ?_).mp (hT.2.2 i j hi hj)
    rw [List.mem_append, wo_mem, List.mem_singleton]
    constructor
    · intro hz
      by_cases e : z = y
      · exact .inr e
      · exact .inl ⟨hz, e⟩
    · rintro (q | q)
      · exact q.1
      · rw [q]; exact hy
/-- the tree behind an exchange -/
theorem exg_tree {n : Int} {ps : List (Int × Int)} {ts ms : List Int} {o z : Int} (g : GoodW n ps) (hT : IsTree n ps ts) (hx : exg n ps ts o z) (hpm : ms.Perm (wo ts o ++ [z])) (hpw : ms.Pairwise (· ≤ ·)) : IsTree n ps ms := by
  obtain ⟨ho, hz, z0, z1, hc⟩ := (exg_iff g hT).mp hx
  have nd : (wo ts o ++ [z]).Nodup := nd_snoc (hT.1.nodup.sublist List.filter_sublist) fun h => hz (wo_mem.mp h).1
  have ndm : ms.Nodup := hpm.nodup_iff.mpr nd
  have hl := wo_length hT.1.nodup ho
  have hl2 := hpm.length_eq
  rw [List.length_append, List.length_singleton] at hl2
  refine ⟨isSet_iff.mpr ⟨fun y hy => ?_, (List.pairwise_and_iff.mpr ⟨hpw, ndm⟩).imp fun {x y} h => by have := h.1; have := h.2; omega⟩, by rw [hl2, hl]; exact hT.2.1, fun i j hi hj => (conn_perm fun y => hpm.mem_iff).mpr (hc i j hi hj)⟩
  rcases List.mem_append.mp (hpm.mem_iff.mp hy) with h | h
  · exact hT.1.all y (wo_mem.mp h).1
  · rw [List.mem_singleton.mp h]; exact ⟨z0, z1⟩
section
variable {n : Int} {ps : List (Int × Int)} {ts ms : List Int} {o z : Int} (g : GoodW n ps) (hT : IsTree n ps ts) (hx : exg n ps ts o z) (hpm : ms.Perm (wo ts o ++ [z])) (hpw : ms.Pairwise (· ≤ ·))
include g hT hx hpm hpw
end
end My

/-! ## the least tree: each tie that closes no ring -/
namespace My
open PySem L2
def grd (n : Nat) (ps : List (Int × Int)) : Nat → List Int
  | 0 => []
  | k + 1 => if mk (lms n (endsOf ps (grd n ps k))) (endOf ps (k : Int)).1 = mk (lms n (endsOf ps (grd n ps k))) (endOf ps (k : Int)).2 then grd n ps k else grd n ps k ++ [(k : Int)]
/-! ### order of rows -/
end My

/-! ## min(list of tuples of ints) -/
namespace My
open PySem L2
end My
namespace L2
open PySem PySem.Spec PyProof.Rows
section
variable {prog : Program} {w : World} {A : Around} {I S : Addr} {fp wr : List Addr} {n : Nat} {P : Nat → Value → Prop} {St : Nat → Heap → Prop} {R : Result → Shared → Prop}
/-- the items are tuples of ints, apart from what the loop writes -/
def TupsAt (S : Addr) (wr : List Addr) (P : Nat → Value → Prop) (L : Nat → List Int) (h : Heap) : Prop := ∀ i v, P i v → ∃ a vs, v = .ref a ∧ a ≠ S ∧ a ∉ wr ∧ IsTup h a vs ∧ IntsAre vs.toList (L i)
theorem TupsAt.keep {L : Nat → List Int} {h h' : Heap} (x : TupsAt S wr P L h) (k : ∀ b o, b ≠ S → b ∉ wr → h.get? b = some o → h'.get? b = some o) : TupsAt S wr P L h' := fun i v p => by
  obtain ⟨a, vs, e, n1, n2, ⟨o, ho, z⟩, hi⟩ := x i v p
  exact ⟨a, vs, e, n1, n2, ⟨o, k a o n1 n2 ho, z⟩, hi⟩
end
section
variable {X : Cx}
end
end L2

/-! ## lists of tuples of ints; all ascending rows of a length -/
namespace My
open PySem L2
/-! ### rows -/
def nxt (s : List Int) : Int := match s.getLast? with | none => 0 | some x => x + 1
def ext1 (m : Int) (s : List Int) : List (List Int) := (List.range (m - nxt s).toNat).map fun (i : Nat) => s ++ [nxt s + (i : Int)]
def cmb (m : Int) : Nat → List (List Int)
  | 0 => [[]]
  | k + 1 => (cmb m k).flatMap (ext1 m)
theorem nxt_snoc (s : List Int) (x : Int) : nxt (s ++ [x]) = x + 1 := by unfold nxt; rw [List.getLast?_append]; rfl
theorem ext1_mem {m : Int} {s l : List Int} : l ∈ ext1 m s ↔ ∃ t, nxt s ≤ t ∧ t < m ∧ l = s ++ [t] := by
  unfold ext1
  rw [List.mem_map]
  constructor
  · rintro ⟨i, hi, rfl⟩
    have := List.mem_range.mp hi
    exact ⟨_, by omega, by omega, rfl⟩
  · rintro ⟨t, h1, h2, rfl⟩
    exact ⟨(t - nxt s).toNat, List.mem_range.mpr (by omega), by rw [show nxt s + (((t - nxt s).toNat : Nat) : Int) = t by omega]⟩
theorem asc_snoc {m : Nat} {s : List Int} {t : Int} : IsSet m (s ++ [t]) ↔ IsSet m s ∧ nxt s ≤ t ∧ 0 ≤ t ∧ t < (m : Int) := by
  rw [isSet_iff, isSet_iff, List.pairwise_append]
  have last : (∀ a ∈ s, ∀ b ∈ [t], a < b) ∧ s.Pairwise (· < ·) → nxt s ≤ t ∨ t < 0 := by
    rintro ⟨h, _⟩
    unfold nxt
    cases e : s.getLast? with
    | none => by_cases h0 : 0 ≤ t; exact .inl h0; exact .inr (by omega)
    | some x => have := h x (List.mem_of_getLast? e) t (by simp); exact .inl (by show x + 1 ≤ t; omega)
  constructor
  · rintro ⟨h1, h2, _, h3⟩
    have ht := h1 t (by simp)
    refine ⟨⟨fun z hz => h1 z (List.mem_append_left _ hz), h2⟩, ?_, ht⟩
    rcases last ⟨h3, h2⟩ with h | h
    · exact h
    · omega
  · rintro ⟨⟨h1, h2⟩, h3, h4, h5⟩
    refine ⟨fun z hz => ?_, h2, List.pairwise_singleton .., fun a ha b hb => ?_⟩
    · rcases List.mem_append.mp hz with h | h
      · exact h1 z h
      · rw [List.mem_singleton.mp h]; exact ⟨h4, h5⟩
    · rw [List.mem_singleton.mp hb]
      have key : ∀ {s : List Int} {a : Int}, s.Pairwise (· < ·) → a ∈ s → a < nxt s := by
        refine fun {s} => snoc_ind (P := fun s => ∀ {a : Int}, s.Pairwise (· < ·) → a ∈ s → a < nxt s) (fun {a} _ h => by cases h) (fun l x ih {a} hp h => ?_) s
        rw [nxt_snoc]
        rw [List.pairwise_append] at hp
        rcases List.mem_append.mp h with h | h
        · have := hp.2.2 a h x (by simp); omega
        · rw [List.mem_singleton.mp h]; omega
      have := key h2 ha
      omega
theorem cmb_mem {m : Nat} : ∀ {k : Nat} {l : List Int}, l ∈ cmb (m : Int) k ↔ l.length = k ∧ IsSet m l
  | 0, l => by
    show l ∈ [[]] ↔ _
    rw [List.mem_singleton]
    constructor
    · rintro rfl; exact ⟨rfl, fun i z e => by simp at e⟩
    · rintro ⟨h, _⟩; exact List.length_eq_zero_iff.mp h
  | k + 1, l => by
    show l ∈ (cmb (m : Int) k).flatMap (ext1 m) ↔ _
    rw [List.mem_flatMap]
    constructor
    · rintro ⟨s, hs, hl⟩
      obtain ⟨t, h1, h2, rfl⟩ := ext1_mem.mp hl
      obtain ⟨e, hI⟩ := cmb_mem.mp hs
      have n0 : 0 ≤ nxt s := by
        unfold nxt
        cases q : s.getLast? with
        | none => exact Int.le_refl 0
        | some x => have := (hI.all x (List.mem_of_getLast? q)).1; show 0 ≤ x + 1; omega
      exact ⟨by rw [List.length_append, e]; rfl, asc_snoc.mpr ⟨hI, h1, by omega, h2⟩⟩
    · rintro ⟨e, hI⟩
      have hne : l ≠ [] := fun z => by rw [z] at e; simp at e
      obtain ⟨s, t, rfl⟩ : ∃ s t, l = s ++ [t] := ⟨l.dropLast, l.getLast hne, (List.dropLast_concat_getLast hne).symm⟩
      obtain ⟨h1, h2, h3, h4⟩ := asc_snoc.mp hI
      exact ⟨s, cmb_mem.mpr ⟨by rw [List.length_append] at e; simpa using e, h1⟩, ext1_mem.mpr ⟨t, h2, h4, rfl⟩⟩
theorem ext1_len {m : Nat} {s : List Int} (h : IsSet m s) : (ext1 (m : Int) s).length ≤ m := by
  unfold ext1
  rw [List.length_map, List.length_range]
  have n0 : 0 ≤ nxt s := by
    unfold nxt
    cases q : s.getLast? with
    | none => exact Int.le_refl 0
    | some x => have := (h.all x (List.mem_of_getLast? q)).1; show 0 ≤ x + 1; omega
  omega
theorem flat_len {m : Nat} : ∀ L : List (List Int), (∀ s ∈ L, IsSet m s) → (L.flatMap (ext1 (m : Int))).length ≤ m * L.length
  | [], _ => Nat.zero_le _
  | s :: L, h => by
    have := flat_len L fun x hx => h x (List.mem_cons_of_mem _ hx)
    have := ext1_len (h s List.mem_cons_self)
    rw [List.flatMap_cons, List.length_append, List.length_cons, Nat.mul_succ]
    omega
end My

/-! ## every tree is reached by exchanges -/
namespace My
open PySem L2
theorem asc_sub : ∀ {w t : List Int}, t.Pairwise (· < ·) → w.Pairwise (· < ·) → (∀ z ∈ t, z ∈ w) → t.Sublist w
  | [], [], _, _, _ => List.Sublist.slnil
  | [], x :: t, _, _, h => absurd (h x List.mem_cons_self) (by simp)
  | y :: w, [], _, _, _ => List.nil_sublist _
  | y :: w, x :: t, ht, hw, h => by
    obtain ⟨h1, h2⟩ := List.pairwise_cons.mp ht
    obtain ⟨h3, h4⟩ := List.pairwise_cons.mp hw
    by_cases e : x = y
    · subst e
      refine List.Sublist.cons₂ _ (asc_sub h2 h4 fun z hz => ?_)
      rcases List.mem_cons.mp (h z (List.mem_cons_of_mem _ hz)) with q | q
      · have := h1 z hz; omega
      · exact q
    · have hx : x ∈ w := (List.mem_cons.mp (h x List.mem_cons_self)).resolve_left e
      refine List.Sublist.cons _ (asc_sub ht h4 fun z hz => ?_)
      rcases List.mem_cons.mp (h z hz) with q | q
      · have := h3 x hx
        rcases List.mem_cons.mp hz with q2 | q2
        · rw [q2]; exact hx
        · have := h1 z q2; omega
      · exact q
/-- a tree crosses each cut of another -/
theorem cross {n : Int} {ps : List (Int × Int)} {T W : List Int} {o : Int} (g : GoodW n ps) (hT : IsTree n ps T) (hW : IsTree n ps W) (ho : o ∈ T) : ∃ z ∈ W, z ∈ cutT n ps T o := by
  refine Classical.byContradiction fun hno => ?_
  have all : ∀ i j, Conn (endsOf ps W) i j → Conn (endsOf ps (wo T o)) i j := fun i j c => by
    induction c with
    | refl i => exact .refl i
    | symm _ ih => exact .symm ih
    | trans _ _ i1 i2 => exact .trans i1 i2
    | @edge a b h =>
      obtain ⟨z, hz, e⟩ := List.mem_map.mp h
      obtain ⟨z0, z1⟩ := hW.1.all z hz
      have c : Conn (endsOf ps (wo T o)) (endOf ps z).1 (endOf ps z).2 := Classical.byContradiction fun hc => hno ⟨z, hz, (cutT_mem g hT z0 z1).mpr hc⟩
      have ea : a = (endOf ps z).1 := (congrArg Prod.fst e).symm
      have eb : b = (endOf ps z).2 := (congrArg Prod.snd e).symm
      rw [ea, eb]
      exact c
  have ob := hT.1.all o ho
  have he := end_in g ob.1 ob.2
  exact (cutT_mem g hT ob.1 ob.2).mp ((cut_own g hT ho ho).mpr rfl) (all _ _ (hW.2.2 _ _ he.1 he.2))
theorem reach {n : Int} {ps : List (Int × Int)} {W : List Int} (g : GoodW n ps) (hW : IsTree n ps W) (R : List Int → Prop)
    (close : ∀ T o z ms, R T → IsTree n ps T → exg n ps T o z → ms.Perm (wo T o ++ [z]) → ms.Pairwise (· ≤ ·) → R ms) : ∀ (k : Nat) (T : List Int), R T → IsTree n ps T → (T.filter fun y => decide (y ∉ W)).length = k → R W
  | 0, T, hR, hT, h => by
    have hsub : ∀ z ∈ T, z ∈ W := fun z hz => Classical.byContradiction fun hn => by
      have : z ∈ T.filter fun y => decide (y ∉ W) := List.mem_filter.mpr ⟨hz, decide_eq_true hn⟩
      rw [List.length_eq_zero_iff.mp h] at this
      cases this
    have := (asc_sub (isSet_iff.mp hT.1).2 (isSet_iff.mp hW.1).2 hsub).eq_of_length (by have := hT.2.1; have := hW.2.1; omega)
    exact this ▸ hR
  | k + 1, T, hR, hT, h => by
    obtain ⟨o, hof⟩ : ∃ o, o ∈ T.filter fun y => decide (y ∉ W) := List.exists_mem_of_length_pos (by omega)
    have ho := (List.mem_filter.mp hof).1
    have hoW : o ∉ W := of_decide_eq_true (List.mem_filter.mp hof).2
    obtain ⟨z, hzW, hzc⟩ := cross g hT hW ho
    have hzo : z ≠ o := fun e => hoW (e ▸ hzW)
    have hx : exg n ps T o z := ⟨ho, hzo, hzc⟩
    have hpm : ((wo T o ++ [z]).mergeSort fun a b => decide (a ≤ b)).Perm (wo T o ++ [z]) := List.mergeSort_perm ..
    have hpw : ((wo T o ++ [z]).mergeSort fun a b => decide (a ≤ b)).Pairwise (· ≤ ·) := by
      have := List.pairwise_mergeSort (le := fun (a b : Int) => decide (a ≤ b)) (fun a b c h1 h2 => by simp only [decide_eq_true_eq] at *; omega) (fun a b => by simp only [Bool.or_eq_true, decide_eq_true_eq]; omega) (wo T o ++ [z])
      exact this.imp fun h => by simpa using h
    refine reach g hW R close k _ (close T o z _ hR hT hx hpm hpw) (exg_tree g hT hx hpm hpw) ?_
    rw [(hpm.filter _).length_eq, List.filter_append]
    have e1 : [z].filter (fun y => decide (y ∉ W)) = [] := by rw [List.filter_cons, if_neg (by simpa using hzW)]; rfl
    rw [e1, List.append_nil]
    have e2 : (wo T o).filter (fun y => decide (y ∉ W)) = wo (T.filter fun y => decide (y ∉ W)) o := by
      unfold wo
      rw [List.filter_filter, List.filter_filter]
      refine List.filter_congr fun y _ => Bool.and_comm ..
    rw [e2]
    have := wo_length (hT.1.nodup.sublist List.filter_sublist) hof
    omega
end My

/-! ## marks merged, ties grown -/
namespace My
open PySem L2
end My
namespace My
open PySem L2
theorem cut_upto {xs : List V} {i : Int} (h0 : 0 ≤ i) : cutV xs none (some i) = xs.take i.toNat := by
  have e : HT.sIx xs.length xs.length (some i) = min i.toNat xs.length := by
    show (if i < 0 then (i + (xs.length : Int)).toNat else min i.toNat xs.length) = _
    rw [if_neg (by omega)]
  unfold cutV
  rw [e, HT.sIx_none, List.drop_zero, Nat.sub_zero]
  by_cases h : i.toNat ≤ xs.length
  · rw [Nat.min_eq_left h]
  · rw [Nat.min_eq_right (by omega), List.take_of_length_le (Nat.le_refl _), List.take_of_length_le (by omega)]
/-- all numbers of ties -/
def rgL (m : Nat) : List Int := (List.range m).map fun (i : Nat) => (i : Int)
theorem rgL_mem {m : Nat} {z : Int} : z ∈ rgL m ↔ 0 ≤ z ∧ z < (m : Int) := by
  unfold rgL
  rw [List.mem_map]
  constructor
  · rintro ⟨i, hi, rfl⟩
    have := List.mem_range.mp hi
    omega
  · intro h
    exact ⟨z.toNat, List.mem_range.mpr (by omega), by omega⟩
theorem rgL_asc (m : Nat) : (rgL m).Pairwise (· < ·) := by
  unfold rgL
  rw [List.pairwise_map]
  exact List.pairwise_lt_range.imp fun h => by omega
end My

/-! ## tuple(range) -/
namespace L2
open PySem PySem.Spec PyProof.Rows
section
variable {prog : Program} {w : World} {A : Around} {E : Value → Shared → Prop} {s : Shared}
end
section
variable {X : Cx}
end
end L2

/-! ## ties grown in an order: each that closes no ring -/
namespace My
open PySem L2
def gst (n : Nat) (ps : List (Int × Int)) (G : List Int) (z : Int) : List Int := if mk (lms n (endsOf ps G)) (endOf ps z).1 = mk (lms n (endsOf ps G)) (endOf ps z).2 then G else G ++ [z]
def grw (n : Nat) (ps : List (Int × Int)) (zs : List Int) : List Int := zs.foldl (gst n ps) []
end My
namespace My
open PySem L2
end My

/-! ## lists sorted, however long -/
namespace PyProof.Rows
open PySem
abbrev dK : Keyed := (Value.none, Value.none)
section
variable {M : Model} {A : Around} {E : Value → Shared → Prop} {s : Shared} {O : KeyOrd} {key : Keyed → O.α} {kd : SortKind} {S : Keyed → Prop}
end
end PyProof.Rows
namespace PyProof.Rows
open PySem
section
variable {M : Model} {A : Around} {E : Value → Shared → Prop} {s : Shared} {O : KeyOrd} {key : Keyed → O.α} {kd : SortKind} {S : Keyed → Prop}
def RK (O : KeyOrd) (key : Keyed → O.α) (x y : Keyed) : Prop := O.kle (key x) (key y)
structure MI (O : KeyOrd) (key : Keyed → O.α) (la lb : List Keyed) (out : Array Keyed) (ia ib : Nat) : Prop where
  so : out.toList.Pairwise (RK O key)
  oa : ∀ x ∈ out.toList, ∀ y ∈ la.drop ia, RK O key x y
  ob : ∀ x ∈ out.toList, ∀ y ∈ lb.drop ib, RK O key x y
  pm : (out.toList ++ la.drop ia ++ lb.drop ib).Perm (la ++ lb)
abbrev LoS := Option (Array Keyed) × Array Keyed × Nat × Nat × Nat × Nat × Nat
section
variable {a b out : Array Keyed} {ia ib : Nat} {st : SortSt} {R : ForInStep LoS → SortSt → Prop}
end
section
variable {a b : Array Keyed} {st : SortSt}
end
end
end PyProof.Rows
namespace PyProof.Rows
open PySem
section
variable {M : Model} {A : Around} {E : Value → Shared → Prop} {s : Shared} {O : KeyOrd} {key : Keyed → O.α} {kd : SortKind} {S : Keyed → Prop}
structure MH (O : KeyOrd) (key : Keyed → O.α) (la lb : List Keyed) (out : Array Keyed) (na nb : Nat) : Prop where
  so : out.toList.Pairwise fun x y => RK O key y x
  oa : ∀ x ∈ la.take na, ∀ y ∈ out.toList, RK O key x y
  ob : ∀ x ∈ lb.take nb, ∀ y ∈ out.toList, RK O key x y
  pm : (la.take na ++ lb.take nb ++ out.toList).Perm (la ++ lb)
abbrev HiS := Option (Array Keyed) × Nat × Nat × Array Keyed × Nat × Nat × Nat
section
variable {a b out : Array Keyed} {na nb : Nat} {st : SortSt} {R : ForInStep HiS → SortSt → Prop}
end
section
variable {a b : Array Keyed} {st : SortSt}
end
end
end PyProof.Rows
namespace PyProof.Rows
open PySem
section
variable {M : Model} {A : Around} {E : Value → Shared → Prop} {s : Shared} {O : KeyOrd} {key : Keyed → O.α} {kd : SortKind} {S : Keyed → Prop}
end
end PyProof.Rows
namespace PyProof.Rows
open PySem
section
variable {M : Model} {A : Around} {E : Value → Shared → Prop} {s : Shared} {O : KeyOrd} {key : Keyed → O.α} {kd : SortKind} {S : Keyed → Prop}
/-- as it was, but for the order of what stands from lo on -/
def Stp (lo : Nat) (st st' : SortSt) : Prop := kindOf st' = kindOf st ∧ failedOf st' = failedOf st ∧ pendingOf st' = pendingOf st ∧ (arrOf st').Perm (arrOf st) ∧ ∀ i, i < lo → (arrOf st')[i]? = (arrOf st)[i]?
theorem Stp.refl (lo : Nat) (st : SortSt) : Stp lo st st := ⟨rfl, rfl, rfl, Array.Perm.refl _, fun _ _ => rfl⟩
theorem Stp.trans {lo : Nat} {a b c : SortSt} (h : Stp lo a b) (k : Stp lo b c) : Stp lo a c := ⟨k.1.trans h.1, k.2.1.trans h.2.1, k.2.2.1.trans h.2.2.1, k.2.2.2.1.trans h.2.2.2.1, fun i hi => (k.2.2.2.2 i hi).trans (h.2.2.2.2 i hi)⟩
theorem Stp.size {lo : Nat} {a b : SortSt} (h : Stp lo a b) : (arrOf b).size = (arrOf a).size := h.2.2.2.1.size_eq
theorem Stp.all {lo : Nat} {a b : SortSt} (h : Stp lo a b) (hS : ∀ x ∈ (arrOf a).toList, S x) : ∀ x ∈ (arrOf b).toList, S x := fun x hx => hS x ((Array.perm_iff_toList_perm.mp h.2.2.2.1).mem_iff.mp hx)
end
end PyProof.Rows
namespace PyProof.Rows
open PySem
section
variable {M : Model} {A : Around} {E : Value → Shared → Prop} {s : Shared} {O : KeyOrd} {key : Keyed → O.α} {kd : SortKind} {S : Keyed → Prop}
/-- where the runs lie -/
def offs : List (List Keyed) → Nat → List (Nat × Nat)
  | [], _ => []
  | g :: gs, o => (o, g.length) :: offs gs (o + g.length)
structure PI (O : KeyOrd) (key : Keyed → O.α) (kd : SortKind) (a₀ : Array Keyed) (st : SortSt) (segs : List (List Keyed)) (rest : List Keyed) : Prop where
  kind : kindOf st = kd
  fail : failedOf st = none
  perm : (arrOf st).Perm a₀
  arr : (arrOf st).toList = segs.flatten ++ rest
  srt : ∀ g ∈ segs, 1 ≤ g.length ∧ g.Pairwise (RK O key)
  pend : (pendingOf st).toList.map (fun p => (p.1, p.2.1)) = offs segs 0
theorem PI.size {a₀ : Array Keyed} {st : SortSt} {segs : List (List Keyed)} {rest : List Keyed} (h : PI O key kd a₀ st segs rest) : a₀.size = segs.flatten.length + rest.length := by
  rw [← h.perm.size_eq, ← Array.length_toList, h.arr, List.length_append]
end
end PyProof.Rows

/-! ## sorted(list of tuples of ints), however long -/
namespace L2
open PySem PySem.Spec PyProof.Rows
section
variable {prog : Program} {w : World} {A : Around} {E : Value → Shared → Prop} {s : Shared}
def sameBut (a : Addr) (h h' : Heap) : Prop := ∀ b o, b ≠ a → h.get? b = some o → h'.get? b = some o
/-! ### tuples of ints as keys -/
end
end L2
namespace L2
open PySem PySem.Spec PyProof.Rows My
section
variable {X : Cx}
end
end L2

/-! ## a tuple in a list of tuples, and not in it -/
namespace L2
open PySem PySem.Spec PyProof.Rows
section
variable {X : Cx}
end
end L2
namespace My
open PySem L2
/-! ### rows in order -/
end My

/-! ## a tie beside a tree has a ring -/
namespace My
open PySem L2
theorem sub_len {α : Type} [DecidableEq α] : ∀ {l m : List α}, l.Nodup → (∀ x ∈ l, x ∈ m) → l.length ≤ m.length
  | [], m, _, _ => Nat.zero_le _
  | x :: l, m, h, hs => by
    obtain ⟨h1, h2⟩ := List.nodup_cons.mp h
    have hx := hs x List.mem_cons_self
    have := sub_len (l := l) (m := m.erase x) h2 fun y hy => (List.mem_erase_of_ne (fun (e : y = x) => h1 (e ▸ hy))).mpr (hs y (List.mem_cons_of_mem _ hy))
    rw [List.length_erase_of_mem hx] at this
    have := List.length_pos_of_mem hx
    rw [List.length_cons]
    omega
end My

/-! ## greater numbers -/
namespace L2
open PySem PySem.Spec PyProof.Rows
section
variable {X : Cx}
end
end L2

/-! ## sorted(list of lists of ints) -/
namespace L2
open PySem PySem.Spec PyProof.Rows
open PySem.SeqAt
open PySem.AutoSeq1 (wpAny_loadPart')
open PySem.MeetsSeq PySem.MeetsSeq2 PySem.MeetsSeq3
end L2
namespace L2
open PySem PySem.Spec PyProof.Rows My
section
variable {prog : Program} {w : World} {A : Around} {E : Value → Shared → Prop} {s : Shared}
end
section
variable {X : Cx}
end
end L2

/-! ## greater factors -/
namespace L2
open PySem PySem.Spec PyProof.Rows
section
variable {X : Cx}
end
end L2

/-! ## all rows of ties that are not longer than a tree -/
namespace My
open PySem L2
end My

/-! ## min(list of ints) -/
namespace L2
open PySem PySem.Spec PyProof.Rows
section
variable {X : Cx}
end
end L2

/-! ## ways from tree to tree -/
namespace My
open PySem L2
/-- the steps of a way: by the ties of the other tree, in their order -/
inductive WP (n : Int) (ps : List (Int × Int)) (W : List Int) (T0 : List Int) : List Int → List (Int × Int) → List Int → Prop
  | nil : WP n ps W T0 [] [] T0
  | skip {l : List Int} {ws : List (Int × Int)} {T : List Int} {z : Int} : WP n ps W T0 l ws T → z ∈ T → WP n ps W T0 (l ++ [z]) ws T
  | step {l : List Int} {ws : List (Int × Int)} {T T' : List Int} {z o : Int} : WP n ps W T0 l ws T → z ∉ T → o ∈ ringA n ps T z T → o ∉ W → (∀ y ∈ ringA n ps T z T, y ∉ W → o ≤ y) → T'.Perm (wo T o ++ [z]) → T'.Pairwise (· ≤ ·) → WP n ps W T0 (l ++ [z]) (ws ++ [(o, z)]) T'
end My

/-! ## pieces joined -/
namespace My
open PySem L2
theorem asc_ext {a b : List Int} (ha : a.Pairwise (· < ·)) (hb : b.Pairwise (· < ·)) (h : ∀ z, z ∈ a ↔ z ∈ b) : a = b :=
  (asc_sub ha hb fun z hz => (h z).mp hz).eq_of_length (Nat.le_antisymm (asc_sub ha hb fun z hz => (h z).mp hz).length_le (asc_sub hb ha fun z hz => (h z).mpr hz).length_le)
end My

/-! ## webs numbered anew -/
namespace My
open PySem L2
end My

/-! ## min and max of a tuple of ints -/
namespace L2
open PySem PySem.Spec PyProof.Rows
section
variable {prog : Program} {w : World} {A : Around} {E : Value → Shared → Prop} {s : Shared} {l : Addr} {xs : Array (Int × Tok)}
theorem iter_intTup {Q : Value → Shared → Prop} (hl : s.heap.IsTuple l (intItems xs))
    (h : ∀ s₂ : Shared, s₂ = { s with heap := s.heap.push { cls := .type "tuple_iterator", data := .fields #[.ref l, .int 0 0] } } →
      (s₂.heap.IsTupleIter s.heap.objs.size l 0 ∧ s₂.heap.IsTuple l (intItems xs)) → (∀ b ∈ [s.heap.objs.size, l], b < s₂.heap.objs.size) → l ≠ s.heap.objs.size → Q (.ref s.heap.objs.size) s₂) :
    wpAny (model prog w) A (pyIter (.ref l)) Q E s := by
  have hlt : l < s.heap.objs.size := by obtain ⟨_, e, _⟩ := hl; exact Heap.lt_size e
  refine wpAny_pyIter_tuple hl (h _ rfl ⟨⟨_, Heap.get?_push_size _ rfl, rfl, rfl⟩, hl.push _⟩ (fun b hb => ?_) (Nat.ne_of_lt hlt))
  show b < (s.heap.push _).objs.size
  rw [Heap.size_push]
  rcases List.mem_cons.mp hb with rfl | hb
  · exact Nat.lt_succ_self _
  · rcases List.mem_cons.mp hb with rfl | hb
    · exact Nat.lt_succ_of_lt hlt
    · cases hb
theorem old_keptT {h' : Heap} (hk : ∀ b o, b ∉ [s.heap.objs.size] → (s.heap.push { cls := .type "tuple_iterator", data := .fields #[.ref l, .int 0 0] }).get? b = some o → h'.get? b = some o) :
    ∀ b o, s.heap.get? b = some o → h'.get? b = some o := fun b o e => by
  refine hk b o (fun hm => ?_) (Heap.get?_push_of_some _ e)
  rcases List.mem_cons.mp hm with e1 | hm
  · exact absurd (e1 ▸ Heap.lt_size e) (Nat.lt_irrefl _)
  · cases hm
theorem min_intTup {Q : Value → Shared → Prop} (hh : A.handled = none) (hl : s.heap.IsTuple l (intItems xs)) (hne : 0 < xs.size)
    (h : ∀ v h' tk, (intItems xs)[argBest (fun i j => decide (numAt xs i < numAt xs j)) (xs.size - 1)]? = some v → (∀ b o, s.heap.get? b = some o → h'.get? b = some o) → Q v { s with heap := h', toks := tk }) :
    wpAny (model prog w) A (call (.builtin "min") [.ref l]) Q E s := by
  refine call_min_walk (iter_intTup hl fun s₂ e st hfp hlI => ?_)
  subst e
  refine ⟨_, _, _, _, _, _, _, rfl, Walks.tuple (A := A.in1) hh _ l hlI (intItems xs), st, hfp, by simpa [intItems] using hne, CmpOf.ints_lt (numAt xs) (fun _ _ => intItems_at), fun v h' tk hP hk => ?_⟩
  exact h v h' tk (by simpa [intItems] using hP) (old_keptT hk)
end
section
variable {X : Cx}
theorem call_minTI (K : PySem.W.Frag) (hc : X.calm = true) (hk : X.K = K := by rfl) : CallR X (.builtin "min") (fun xs H Q => ∃ (p : Addr) (ns : List Int), xs = [.ref p] ∧ SqT K H p (ns.map V.int) ∧ 0 < ns.length ∧ ∀ m : Int, m ∈ ns → (∀ a ∈ ns, m ≤ a) → Q (.int m) H) := by
  subst hk
  intro pins s σ H xs us Q I r h
  obtain ⟨p, ns, rfl, hq, hn, q⟩ := h
  obtain ⟨u, rfl, ru⟩ := vals1 r
  obtain rfl : u = Value.ref p := ru
  obtain ⟨its, rv, pl, hz⟩ := I.tuple hq
  have hi := ints_of_vals rv
  obtain ⟨xs, e⟩ := hi.allInts.items
  have hns : ns = xs.toList.map (·.1) := by rw [← hi.numsOf, ← nums_intItems, ← e]
  have hsz : 0 < xs.size := by rw [hns, List.length_map, Array.length_toList] at hn; exact hn
  have hl : s.heap.IsTuple p its.toArray := pl
  rw [e] at hl
  refine min_intTup (I.ok.hd hc) hl hsz fun v h' tk hv hk => ?_
  obtain ⟨t, rfl⟩ := intItems_at hv
  obtain ⟨h1, h2⟩ := argBest_lt (numAt xs) (xs.size - 1)
  refine ⟨.int _, H, I.kept (t' := tk) hk, ⟨t, rfl⟩, q _ ?_ fun a ha => ?_⟩
  · rw [hns, numAt_eq]
    exact getD_mem (by rw [List.length_map, Array.length_toList]; omega)
  · rw [hns] at ha
    obtain ⟨j, hj, rfl⟩ := mem_getD ha
    rw [List.length_map, Array.length_toList] at hj
    rw [← numAt_eq]
    exact h2 j (by omega)
end
end L2

/-! ## one tie left out, two places drawn together -/
namespace My
open PySem L2
theorem cut_from2 {xs : List V} {i : Int} (h0 : 0 ≤ i) : cutV xs (some i) none = xs.drop i.toNat := by
  have e : HT.sIx xs.length 0 (some i) = min i.toNat xs.length := by
    show (if i < 0 then (i + (xs.length : Int)).toNat else min i.toNat xs.length) = _
    rw [if_neg (by omega)]
  unfold cutV
  rw [e, HT.sIx_none, List.take_of_length_le (by rw [List.length_drop]; exact Nat.le_refl _)]
  by_cases h : i.toNat ≤ xs.length
  · rw [Nat.min_eq_left h]
  · rw [Nat.min_eq_right (by omega), List.drop_eq_nil_of_le (Nat.le_refl _), List.drop_eq_nil_of_le (by omega)]
/-- all but the one at z -/
def cutz {α : Type} (l : List α) (z : Int) : List α := l.take z.toNat ++ l.drop (z.toNat + 1)
theorem cut_z {xs : List V} {z : Int} (h0 : 0 ≤ z) : cutV xs none (some z) ++ cutV xs (some (z + 1)) none = cutz xs z := by
  rw [cut_upto h0, cut_from2 (by omega), show (z + 1).toNat = z.toNat + 1 by omega]
  rfl
theorem cutz_len {α : Type} (l : List α) (z : Int) : (cutz l z).length ≤ l.length := by
  unfold cutz
  rw [List.length_append, List.length_take, List.length_drop]
  omega
/-- a place's number when hi is drawn to lo -/
def dn (lo hi i : Int) : Int := if i = hi then lo else if i < hi then i else i - 1
end My

/-! ## an item of a list or of a tuple; two tests with one end -/
namespace L2
open PySem PySem.Spec PyProof.Rows
section
variable {X : Cx}
end
end L2

/-! ## lists of a known length -/
namespace My
theorem len1 {α : Type} {l : List α} (h : l.length = 1) : ∃ a, l = [a] := by
  cases l with
  | nil => cases h
  | cons a l => cases l with
    | nil => exact ⟨a, rfl⟩
    | cons b l => simp at h
theorem len2 {α : Type} {l : List α} (h : l.length = 2) : ∃ a b, l = [a, b] := by
  cases l with
  | nil => cases h
  | cons a l =>
    obtain ⟨b, rfl⟩ := len1 (Nat.succ.inj h)
    exact ⟨a, b, rfl⟩
theorem len3 {α : Type} {l : List α} (h : l.length = 3) : ∃ a b c, l = [a, b, c] := by
  cases l with
  | nil => cases h
  | cons a l =>
    obtain ⟨b, c, rfl⟩ := len2 (Nat.succ.inj h)
    exact ⟨a, b, c, rfl⟩
theorem len4 {α : Type} {l : List α} (h : l.length = 4) : ∃ a b c d, l = [a, b, c, d] := by
  cases l with
  | nil => cases h
  | cons a l =>
    obtain ⟨b, c, d, rfl⟩ := len3 (Nat.succ.inj h)
    exact ⟨a, b, c, d, rfl⟩
end My

/-! ## the script's numbers have a weight; products within it -/
namespace L2
open PySem PySem.Spec PyProof.Rows
section
variable {X : Cx}
end
end L2
namespace Att
open PySem PySem.W PySem.Calls PyProof.Rows
end Att
namespace L2
open PySem PySem.Spec PyProof.Rows
end L2

/-! ## two webs put together; a pair many times -/
namespace My
open PySem L2
end My

/-! ## tuple(list or tuple), told once -/
namespace L2
open PySem PySem.Spec PyProof.Rows
section
variable {X : Cx}
end
end L2
namespace My
open PySem L2
end My

/-! ## tuple(reversed(tuple)) -/
namespace L2
open PySem PySem.Spec PyProof.Rows
section
variable {prog : Program} {w : World} {A : Around} {E : Value → Shared → Prop} {s : Shared} {it a : Addr} {items : Array Value}
theorem collect_rvt {Q : List Value → Shared → Prop} (hh : A.handled = none) (hi : IsRv s.heap it a ((items.size : Int) - 1)) (hl : IsTup s.heap a items) (hne : a ≠ it) (hz : items.size ≤ sizeLine)
    (k : ∀ (h' : Heap) (tk : Nat) (acc : Array Value), (∀ b o, b ≠ it → s.heap.get? b = some o → h'.get? b = some o) → ItemsOf (fun i v => items[items.size - 1 - i]? = some v) acc items.size → Q acc.toList { s with heap := h', toks := tk }) : wpAny (model prog w) A (collect (.ref it)) Q E s := by
  obtain ⟨oi, hoi, _⟩ := id hi
  obtain ⟨ol, hol, _⟩ := id hl
  have n1 : s.heap.objs.size ≠ it := Nat.ne_of_gt (Heap.lt_size hoi)
  have n2 : s.heap.objs.size ≠ a := Nat.ne_of_gt (Heap.lt_size hol)
  have hL1 : (s.heap.push (seqObj "list" #[] 0)).get? s.heap.objs.size = some (seqObj "list" #[] 0) := Heap.get?_push_size _ rfl
  unfold collect
  refine wpAny_bind (wpAny_runValue (codeAny_builtin entry_proto_collect' ?_))
  show wpAny _ A.in1 (do again (.builtin "list.__iadd__" ⟨[← newList [], .ref it], []⟩)) _ _ s
  refine wpAny_bind (wpAny_newList (wpAny_pure ⟨Code.quiet_builtin _ (by decide +kernel), codeAny_builtin entry_list_iadd' ?_⟩))
  show wpAny _ A.in1 (Builtin.List.listExtendWith (.ref s.heap.objs.size) (.ref it) (.ref s.heap.objs.size)) _ _ { s with heap := s.heap.push (seqObj "list" #[] 0) }
  refine wpAny_mono (rvt_extend (A := A) (R := fun x s' => ∃ (h' : Heap) (tk : Nat) (acc : Array Value) (c' : Nat), x = .ok (.ret (.ref s.heap.objs.size)) ∧ s' = { s with heap := h', toks := tk } ∧ (∀ b o, b ≠ it → s.heap.get? b = some o → h'.get? b = some o) ∧
      h'.get? s.heap.objs.size = some { cls := .type "list", dict := none, data := .seq acc c', slots := #[] } ∧ ItemsOf (fun i v => items[items.size - 1 - i]? = some v) acc items.size)
    (s := { s with heap := s.heap.push (seqObj "list" #[] 0) }) hh (hi.keep fun o e => Heap.get?_push_of_some _ e) (let ⟨o, e, z⟩ := hl; ⟨o, Heap.get?_push_of_some _ e, z⟩) hne n1 n2 hL1 hz fun h' tk acc c' k1 k2 k3 => ⟨h', tk, acc, c', rfl, rfl, fun b o hb e => k1 b o (Nat.ne_of_lt (Heap.lt_size e)) hb (Heap.get?_push_of_some _ e), k2, k3⟩) (fun fin s' z => ?_) (fun e s' z => ?_)
  · cases fin with
    | done f =>
      obtain ⟨h', tk, acc, c', e, rfl, k1, k2, k3⟩ := z
      cases e
      refine wpAny_bind (wpAny_load k2 ?_)
      exact wpAny_pure (k h' tk acc k1 k3)
    | again c' =>
      refine ⟨z.1, codeAny_mono z.2 fun x s2 z => ?_⟩
      obtain ⟨h', tk, acc, c', rfl, rfl, k1, k2, k3⟩ := z
      refine wpAny_bind (wpAny_load k2 ?_)
      exact wpAny_pure (k h' tk acc k1 k3)
  · obtain ⟨h', tk, acc, c', e, _⟩ := z
    cases e
theorem new_tuple_rvt (it a : Addr) (items : Array Value) :
    Meets (Builtin.«tuple.__new__» ⟨[.type "tuple", .ref it], []⟩) (fun A R s => A.handled = none ∧ IsRv s.heap it a ((items.size : Int) - 1) ∧ IsTup s.heap a items ∧ a ≠ it ∧ items.size ≤ sizeLine ∧ ∀ (h' : Heap) (tk : Nat) (acc : Array Value), (∀ b o, b ≠ it → s.heap.get? b = some o → h'.get? b = some o) → ItemsOf (fun i v => items[items.size - 1 - i]? = some v) acc items.size →
      R (.ok (.ret (.ref h'.objs.size))) { s with heap := h'.push (seqObj "tuple" acc 0), toks := tk }) :=
  .of_wp fun prog w A R s h => by
    obtain ⟨hh, hi, hl, hne, hz, h⟩ := h
    have e1 := sub_tuple_self
    have e2 := init_tuple_lookup
    have e3 := madeHere_tuple
    have hT : s.TypeIs (.ref it) "reversed" := hi.ty
    have hh1 : A.in1.handled = none := hh
    wp_walk using wpAny_typeOf hT, collect_rvt hh1 hi hl hne hz
    intro h' tk acc hk hacc
    show wpAny _ _ (Builtin.Tuple.tupleExact acc.toList.toArray >>= ret) _ _ _
    unfold Builtin.Tuple.tupleExact
    have e : acc.toList.toArray = acc := by simp
    rw [e]
    refine wpAny_bind (wpAny_newObj_type ?_ (by show acc.size ≤ sizeLine; rw [hacc.1]; exact hz))
    exact wpAny_pure ⟨_, rfl, h h' tk acc hk hacc⟩
theorem call_tuple_rvt {Q : Value → Shared → Prop} (hh : A.handled = none) (hi : IsRv s.heap it a ((items.size : Int) - 1)) (hl : IsTup s.heap a items) (hne : a ≠ it) (hz : items.size ≤ sizeLine)
    (k : ∀ (h' : Heap) (tk : Nat) (acc : Array Value), (∀ b o, b ≠ it → s.heap.get? b = some o → h'.get? b = some o) → ItemsOf (fun i v => items[items.size - 1 - i]? = some v) acc items.size → Q (.ref h'.objs.size) { s with heap := h'.push (seqObj "tuple" acc 0), toks := tk }) : wpAny (model prog w) A (call (.type "tuple") [.ref it]) Q E s :=
  callType_new F.called_tuple (by decide) (F.typeCall_tuple_1 _) (F.newCall_tuple_1 _) (fun o => F.args_object_init_2 o _) F.entry_tuple_new (new_tuple_rvt it a items)
    ⟨hh, hi, hl, hne, hz, fun h' tk acc hk hacc => ⟨⟨_, Heap.get?_push_size _ rfl, rfl⟩, k h' tk acc hk hacc⟩⟩
end
section
variable {X : Cx} {p p2 pos pos2 : Pos} {e : Expr} {t : TA}
/-- tuple(reversed(e)), e a tuple -/
def tTupRvT (K : PySem.W.Frag) (t : TA) : TE := fun σ H Q => t σ H fun vs H1 => ∃ (a : Addr) (ys : List V), vs = [.ref a] ∧ SqT K H1 a ys ∧ ∀ l, H1 l = none → Q (.ref l) (upd H1 l (.tup ys.reverse))
theorem pe_tupRvT (K : PySem.W.Frag) (hc : X.calm = true) (g1 : Gl X "tuple") (m1 : X.mg "tuple" = none) (g2 : Gl X "reversed") (m2 : X.mg "reversed" = none) (ha : PA X [e] t) (hk : X.K = K := by rfl)
    (he : starEach [e] X.env = [(false, eval e X.env)] := by rfl)
    (he2 : starEach [.Call (.Name "reversed" p2) [e] [] pos2] X.env = [(false, eval (.Call (.Name "reversed" p2) [e] [] pos2) X.env)] := by rfl) :
    PE X (.Call (.Name "tuple" p) [.Call (.Name "reversed" p2) [e] [] pos2] [] pos) (tTupRvT K t) := by
  subst hk
  intro pins s σ H Q I h
  refine wpAny_Call_Name_kw (ld_blt I g1 m1 Boot.«tuple» ?_)
  refine PyProof.Rows.callWith_type1 ?_ (by rw [he2]; rfl) rfl
  rw [he2]
  show wpAny _ _ (spliced ((false, eval (.Call (.Name "reversed" p2) [e] [] pos2) X.env) :: backTo pos [])) _ _ s
  refine Calls.spliced_cons ?_
  refine wpAny_Call_Name_kw (ld_blt I g2 m2 Boot.«reversed» ?_)
  refine PyProof.Rows.callWith_type1 (thn (ha pos2 pins s σ H _ I h) fun us s1 ⟨vs, H1, I1, r1, q1⟩ => ?_) (by rw [he]; rfl) rfl
  obtain ⟨a, ys, rfl, hq, q⟩ := q1
  obtain ⟨u, rfl, ru⟩ := vals1 r1
  obtain rfl : u = Value.ref a := ru
  obtain ⟨its, rv, pl, hz⟩ := I1.tuple hq
  have el : its.toArray.size = ys.length := by rw [List.size_toArray, ← rv.length]
  have hzl : sizeLine = 16777216 := sizeLine_eq
  refine rv_call pl (by omega) fun tk1 h1 hit ext1 hz1 => ?_
  refine Calls.spliced_nil ?_
  have hne : a ≠ s1.heap.objs.size := Nat.ne_of_lt pl.lt
  refine call_tuple_rvt (s := { s1 with heap := h1, toks := tk1 }) (I.ok.hd hc) hit (pl.keeps ext1) hne (by rw [el]; exact hz) fun h' tk acc hk ha' => ?_
  have el2 : its.length = ys.length := rv.length.symm
  have ea : acc.toList = its.reverse := by
    refine List.ext_getElem? fun i => ?_
    have h1 := ha'.1
    by_cases hi : i < its.length
    · obtain ⟨v, ev⟩ : ∃ v, acc[i]? = some v := ⟨_, Array.getElem?_eq_getElem (by rw [h1, List.size_toArray]; exact hi)⟩
      have h2 := ha'.2 i v ev
      rw [List.getElem?_reverse hi]
      have e3 : acc.toList[i]? = some v := by simpa using ev
      rw [e3]
      have e4 : its[its.length - 1 - i]? = some v := by simpa using h2
      rw [e4]
    · rw [List.getElem?_eq_none (by rw [Array.length_toList, h1, List.size_toArray]; omega), List.getElem?_eq_none (by rw [List.length_reverse]; omega)]
  have I2 : Inv X pins σ H1 { s1 with heap := h', toks := tk } := I1.kept (t' := tk) fun b o e => hk b o (Nat.ne_of_lt (Heap.lt_size e)) (ext1 b o e)
  have rv2 : Vals ys.reverse acc.toList := by rw [ea]; exact rv.rev
  have hz2 : ys.reverse.length ≤ sizeLine := by rw [List.length_reverse]; exact hz
  have I3 : Inv X pins σ (upd H1 h'.objs.size (.tup ys.reverse)) { s1 with heap := h'.push (seqObj "tuple" acc.toList.toArray 0), toks := tk } :=
    I2.laid (t' := tk) (fun b o e => Heap.get?_push_of_some _ e) (Nat.le_refl _) (show ObjOk X.prog X.w _ _ _ (.tup ys.reverse) from ⟨hz2, acc.toList, rv2, IsTup.new _ _⟩)
  have ec : acc.toList.toArray = acc := by simp
  rw [ec] at I3
  exact ⟨.ref h'.objs.size, _, I3, rfl, q _ (I2.hok.fresh (Nat.le_refl _))⟩
end
end L2

/-! ## t + u and t[lo:hi] of own tuples, told once -/
namespace L2
open PySem PySem.Spec PyProof.Rows
section
variable {X : Cx}
end
end L2

/-! ## partners between two trees -/
namespace My
open PySem L2
theorem Conn.lift {es fs : List (Nat × Nat)} (h : ∀ e ∈ es, Conn fs e.1 e.2) {i j : Nat} (c : Conn es i j) : Conn fs i j := by
  induction c with
  | refl i => exact .refl i
  | edge e => exact h _ e
  | symm _ ih => exact ih.symm
  | trans _ _ ih1 ih2 => exact ih1.trans ih2
end My

/-! ## trees within joined ties, trees with a tie -/
namespace My
open PySem L2
end My

/-! ## tuple(..) of an own tuple or a list: an own tuple -/
namespace L2
open PySem PySem.Spec PyProof.Rows
section
variable {X : Cx}
end
end L2
namespace My
open PySem L2
/-- a walk of good steps from a tree -/
inductive Wk (n : Int) (ps : List (Int × Int)) (T0 : List Int) : List (Int × Int) → List Int → Prop
  | nil : Wk n ps T0 [] T0
  | step {ws : List (Int × Int)} {T T' : List Int} {o z : Int} : Wk n ps T0 ws T → exg n ps T o z → T'.Perm (wo T o ++ [z]) → T'.Pairwise (· ≤ ·) → Wk n ps T0 (ws ++ [(o, z)]) T'
end My

/-! ## the tree farthest from a tree -/
namespace My
open PySem L2
end My

/-! ## forests, listed in order -/
namespace My
open PySem L2
/-- no ring among them -/
def Fr (n : Nat) (ps : List (Int × Int)) (l : List Int) : Bool := decide (grw n ps l = l)
/-- the forests of so many ties -/
def frs (n : Nat) (ps : List (Int × Int)) (k : Nat) : List (List Int) := (cmb (ps.length : Int) k).filter (Fr n ps)
end My

/-! ## a tree that no exchange makes shorter is a shortest one -/
namespace My
open PySem L2
end My

/-! ## the gains of a tree, found tie by tie -/
namespace My
open PySem L2
end My

/-! ## the least and the greatest tree with some ties and without others -/
namespace My
open PySem L2
theorem asc_split {p r : List Int} {x : Int} (h : (p ++ x :: r).Pairwise (· < ·)) : (∀ z ∈ p, z < x) ∧ ∀ z ∈ x :: r, x ≤ z := by
  have a := List.pairwise_append.mp h
  refine ⟨fun z hz => a.2.2 z hz x List.mem_cons_self, fun z hz => ?_⟩
  rcases List.mem_cons.mp hz with h | h
  · rw [h]; exact Int.le_refl _
  · exact Int.le_of_lt ((List.pairwise_cons.mp a.2.1).1 z h)
end My

/-! ## for x in reversed(a list or a tuple) -/
namespace L2
open PySem PySem.Spec PyProof.Rows
section
variable {X : Cx}
end
end L2
namespace My
open PySem L2
end My

/-! ## the tree behind and the tree ahead -/
namespace My
open PySem L2
/-! ### what a call may answer: nothing, or a tree -/
end My

/-! ## a + b of two lists, wherever they lie -/
namespace L2
open PySem PySem.Spec PyProof.Rows
def rCatK (K : PySem.W.Frag) : R2 := fun x y H Q => ∃ l b xs zs, x = .ref l ∧ y = .ref b ∧ SqL K H l xs ∧ SqL K H b zs ∧ xs.length + zs.length ≤ sizeLine ∧ ∀ p, H p = none → Q (.ref p) (upd H p (.lst (xs ++ zs)))
section
variable {X : Cx}
theorem op_catK (K : PySem.W.Frag) (hk : X.K = K := by rfl) : OpR X (binaryOp .Add) (rCatK K) := by
  subst hk
  intro pins s σ H x y v u Q I rx ry h
  obtain ⟨l, b, xs, zs, rfl, rfl, hH, hB, hz, q⟩ := h
  cases rx
  cases ry
  obtain ⟨its, r, p, _⟩ := I.list hH
  obtain ⟨its2, r2, p2, _⟩ := I.list hB
  have l1 := r.length
  have l2 := r2.length
  obtain ⟨⟨cls, dd, data, sl⟩, ho, hc, n, hd⟩ := id p.isList
  obtain ⟨⟨cls2, dd2, data2, sl2⟩, ho2, hc2, n2, hd2⟩ := id p2.isList
  simp only at hc hd hc2 hd2
  subst hc hd hc2 hd2
  have e : its.toArray ++ its2.toArray = (its ++ its2).toArray := by simp
  refine concat_meets ⟨_, ho, rfl⟩ ⟨_, ho2, rfl⟩ noFill_list_add seq_list_add PySem.F.slot_list_add PySem.F.entry_list_add (PySem.F.args_list_add_2 _ _) (list_addW l b its.toArray its2.toArray n n2 dd dd2 sl sl2 (by rw [List.size_toArray, List.size_toArray]; omega)) ⟨ho, ho2, ?_⟩
  rw [e]
  exact ⟨.ref _, _, I.lnew (t' := s.toks) (r.append r2) (by rw [List.length_append]; omega), rfl, q _ I.fresh⟩
end
end L2

/-! ## trees counted by parting -/
namespace My
open PySem L2
/-- there are c trees -/
def TC (n : Int) (ps : List (Int × Int)) (c : Nat) : Prop := ∃ L : List (List Int), L.Nodup ∧ (∀ l, l ∈ L ↔ IsTree n ps l) ∧ L.length = c
theorem TC.uniq {n : Int} {ps : List (Int × Int)} {c d : Nat} (h1 : TC n ps c) (h2 : TC n ps d) : c = d := by
  obtain ⟨L, a1, a2, rfl⟩ := h1
  obtain ⟨M, b1, b2, rfl⟩ := h2
  exact ((List.perm_ext_iff_of_nodup a1 b1).mpr fun l => by rw [a2, b2]).length_eq
theorem set_snoc {m : Nat} {T : List Int} : IsSet (m + 1) (T ++ [(m : Int)]) ↔ IsSet m T := by
  constructor
  · intro h
    have a := isSet_iff.mp h
    have b := List.pairwise_append.mp a.2
    refine isSet_iff.mpr ⟨fun z hz => ?_, b.1⟩
    have c := a.1 z (List.mem_append_left _ hz)
    have d := b.2.2 z hz m (List.mem_singleton.mpr rfl)
    omega
  · exact fun h => h.snoc
theorem set_last {m : Nat} {T : List Int} (h : IsSet (m + 1) T) : IsSet m T ∨ ∃ T', T = T' ++ [(m : Int)] ∧ IsSet m T' := by
  have a := isSet_iff.mp h
  by_cases hm : (m : Int) ∈ T
  · obtain ⟨p, r, e⟩ := List.append_of_mem hm
    have b := asc_split (e ▸ a.2)
    cases r with
    | nil => exact .inr ⟨p, e, set_snoc.mp (e ▸ h)⟩
    | cons y r =>
      have h1 := a.1 y (by rw [e]; simp)
      have h2 := (List.pairwise_cons.mp (List.pairwise_append.mp (e ▸ a.2)).2.1).1 y List.mem_cons_self
      omega
  · refine .inl (isSet_iff.mpr ⟨fun z hz => ?_, a.2⟩)
    have h1 := a.1 z hz
    have h2 : z ≠ (m : Int) := fun e => hm (e ▸ hz)
    omega
theorem conn_flip {es : List (Nat × Nat)} {a b i j : Nat} (c : Conn (es ++ [(a, b)]) i j) : Conn (es ++ [(b, a)]) i j := c.lift fun e he => by
  rcases List.mem_append.mp he with q | q
  · exact .edge (List.mem_append_left _ q)
  · rw [List.mem_singleton.mp q]
    exact .symm (.edge (by simp))
end My

/-! ## loops in front -/
namespace My
open PySem L2
end My

/-! ## list.insert -/
namespace L2
open PySem PySem.Spec PyProof.Rows
section
variable {X : Cx}
end
end L2

/-! ## forests, tie after tie -/
namespace My
open PySem L2
theorem PairsV.set {H : Hp} {xs : List V} {ps : List (Int × Int)} {v : V} {p : Int × Int} (h : PairsV H xs ps) (i : Nat) (q : PairV H v p) : PairsV H (xs.set i v) (ps.set i p) := by
  refine ⟨by rw [List.length_set, List.length_set]; exact h.1, fun j x e => ?_⟩
  have hl := h.1
  by_cases c : i = j
  · subst c
    rw [List.getElem?_set] at e
    rw [if_pos rfl] at e
    by_cases hlt : i < ps.length
    · rw [if_pos hlt] at e
      obtain rfl := Option.some.inj e
      exact ⟨v, by rw [List.getElem?_set, if_pos rfl, if_pos (by omega)], q⟩
    · rw [if_neg hlt] at e
      cases e
  · rw [List.getElem?_set, if_neg c] at e
    obtain ⟨w, e1, r⟩ := h.2 j x e
    exact ⟨w, by rw [List.getElem?_set, if_neg c]; exact e1, r⟩
end My

/-! ## for x, y in zip(list, list) -/
namespace L2
open PySem PySem.Spec PyProof.Rows
/-- at turn i: a new pair of the two lists' i-th ones -/
def Itz (K : PySem.W.Frag) (a b : Addr) : It :=
  ⟨fun i H => ∃ xs ys x y, SqL K H a xs ∧ SqL K H b ys ∧ xs[i]? = some x ∧ ys[i]? = some y, fun i H v H' => ∃ T x y, H T = none ∧ v = .ref T ∧ H' = upd H T (.tup [x, y]) ∧ (∀ xs, SqL K H a xs → xs[i]? = some x) ∧ ∀ ys, SqL K H b ys → ys[i]? = some y,
   fun i H => ∃ xs ys, SqL K H a xs ∧ SqL K H b ys ∧ (xs.length ≤ i ∨ ys.length ≤ i)⟩
theorem turn_zip {P : Program} {w : World} {K : PySem.W.Frag} {elts : List Expr} {x1 : Nat} {pos : Pos} (a b z TI TO i1 i2 : Addr) (D : ZipApart z TI TO i1 i2 a b) :
    Turn P w K (.Tuple elts x1 pos) (Itz K a b) [z, TI, TO, i1, i2] z (fun i h => IsZip h z TI TO .none ∧ IsPair h TI (.ref i1) (.ref i2) ∧ (∃ c d, IsPair h TO c d) ∧ h.IsListIter i1 a i ∧ h.IsListIter i2 b i) where
  mem := by simp
  obj := fun i h st c hc => by
    obtain ⟨hz, hTI, ⟨u, v, hTO⟩, ⟨o1, e1, _, d1⟩, ⟨o2, e2, _, d2⟩⟩ := st
    have hc' : c = z ∨ c = TI ∨ c = TO ∨ c = i1 ∨ c = i2 := by simpa using hc
    rcases hc' with rfl | rfl | rfl | rfl | rfl
    · exact ⟨_, hz, fun v q => by
        have q' : Data.fields _ = Data.cell v := q
        cases q'⟩
    · exact ⟨_, hTI, fun v q => by
        have q' : Data.seq _ _ = Data.cell v := q
        cases q'⟩
    · exact ⟨_, hTO, fun v q => by
        have q' : Data.seq _ _ = Data.cell v := q
        cases q'⟩
    · exact ⟨o1, e1, fun v q => by rw [d1] at q; cases q⟩
    · exact ⟨o2, e2, fun v q => by rw [d2] at q; cases q⟩
  keep := fun i h h' st k => by
    obtain ⟨hz, hTI, ⟨u, v, hTO⟩, h1, h2⟩ := st
    exact ⟨k z (by simp) _ hz, k TI (by simp) _ hTI, ⟨u, v, k TO (by simp) _ hTO⟩, h1.at fun o e => k i1 (by simp) o e, h2.at fun o e => k i2 (by simp) o e⟩
  item := by
    intro X hP hw hK hc i pins s σ H E I hf st hg
    subst hP hw hK
    obtain ⟨xs, ys, x, y, hq, hq2, hx, hy⟩ := hg
    obtain ⟨hz, hTI, ⟨u0, v0, hTO⟩, h1, h2⟩ := st
    obtain ⟨its, rv, p, _⟩ := I.list hq
    obtain ⟨u, hu, ru⟩ := rv.get hx
    obtain ⟨its2, rv2, p2, _⟩ := I.list hq2
    obtain ⟨v, hv, rv'⟩ := rv2.get hy
    have fz := hf z (by simp)
    have fTO := hf TO (by simp)
    have fi1 := hf i1 (by simp)
    have fi2 := hf i2 (by simp)
    have hT0 : H s.heap.objs.size = none := I.hok.fresh (Nat.le_refl _)
    refine wpAny_pyNext_zip_item D hz hTI hTO h1 h2 p.isList p2.isList (x := u) (y := v) (by simpa using hu) (by simpa using hv) fun h' a1 a2 a3 a4 a5 hsz hk => ?_
    have ltT : ∀ b ob, s.heap.get? b = some ob → b ≠ s.heap.objs.size := fun b ob z => Nat.ne_of_lt (Heap.lt_size z)
    have ltH : ∀ b ob, H b = some ob → b ≠ s.heap.objs.size := fun b ob z => Nat.ne_of_lt (I.hok.lt z)
    have nof : ∀ c ob, H c = some ob → c ≠ z ∧ c ≠ TO ∧ c ≠ i1 ∧ c ≠ i2 := fun c ob q => ⟨fun e => (by rw [e, fz.1] at q; cases q), fun e => (by rw [e, fTO.1] at q; cases q), fun e => (by rw [e, fi1.1] at q; cases q), fun e => (by rw [e, fi2.1] at q; cases q)⟩
    have hkc : ∀ c o, c ∉ [z, TO, i1, i2] → s.heap.get? c = some o → h'.get? c = some o := fun c o hcx q => hk c o (fun e => hcx (by simp [e])) (fun e => hcx (by simp [e])) (fun e => hcx (by simp [e])) (fun e => hcx (by simp [e])) q
    have I1 : Inv X pins σ (upd H s.heap.objs.size (.tup [x, y])) { s with heap := h' } := by
      refine I.step (g' := s.gens) (d' := s.drawn) (t' := s.toks) (ch := [z, TO, i1, i2]) (fun c hb => ?_) (fun c o _ _ hcx q _ => hkc c o hcx q) (fun c o _ _ hcx q _ => ⟨o.slots, hkc c o hcx q⟩)
        (fun c o _ q n => by rw [upd_ne (ltT c o q)]; exact n) (fun c o hcx q => ⟨o, hkc c o hcx q⟩) (fun c ys q => by rw [upd_ne (ltH c _ q)]; exact q) (fun c o v q => by rw [upd_ne (ltH c _ q)]; exact q)
        (fun c ps q => ⟨#[], by rw [upd_ne (ltH c _ q), q]; simp⟩) (fun m hm => ?_) (fun c v' q => ?_) I.bare
      · have hc' : c = z ∨ c = TO ∨ c = i1 ∨ c = i2 := by simpa using hb
        rcases hc' with rfl | rfl | rfl | rfl
        · exact ⟨fz.2.2.2.1, fz.2.1, fz.2.2.2.2.1, fz.2.2.2.2.2⟩
        · exact ⟨fTO.2.2.2.1, fTO.2.1, fTO.2.2.2.2.1, fTO.2.2.2.2.2⟩
        · exact ⟨fi1.2.2.2.1, fi1.2.1, fi1.2.2.2.2.1, fi1.2.2.2.2.2⟩
        · exact ⟨fi2.2.2.2.1, fi2.2.1, fi2.2.2.2.2.1, fi2.2.2.2.2.2⟩
      · obtain ⟨o, es, ep, ho', r⟩ := hm
        exact ⟨o, es, ep, hk _ o (Ne.symm fz.2.1) (Ne.symm fTO.2.1) (Ne.symm fi1.2.1) (Ne.symm fi2.2.1) ho', r⟩
      · by_cases hb : c = s.heap.objs.size
        · subst hb
          rw [upd_same] at q
          cases q
          exact ⟨by show 2 ≤ sizeLine; decide, [u, v], .cons ru (.cons rv' .nil), ⟨_, a5, rfl, _, rfl⟩⟩
        · rw [upd_ne hb] at q
          refine (I.hok c v' q).stay (fun e w' hc' q' => ?_) (fun e q => by rw [upd_ne (ltH e _ q)]; exact q) fun e ys q => by rw [upd_ne (ltH e _ q)]; exact q
          rcases hc' with rfl | hc'
          · have := nof e _ q
            exact hk e w' this.1 this.2.1 this.2.2.1 this.2.2.2 q'
          · have := nof e _ hc'
            exact hk e w' this.1 this.2.1 this.2.2.1 this.2.2.2 q'
    refine ⟨_, rfl, wpAny_letOwnedTupleGo_zip a1 fun h2 hz2 hs2 => ?_⟩
    have fT : z ≠ s.heap.objs.size := ltT z _ hz
    have I2 : Inv X pins σ (upd H s.heap.objs.size (.tup [x, y])) { s with heap := h2 } := Inv.turned (s := { s with heap := h' }) (h' := h2) (t' := s.toks) (it := z) I1 (fun b o hb q => hs2.extBut b o hb q) (by rw [upd_ne fT]; exact fz.1) fz.2.1 fz.2.2.2.1 fz.2.2.2.2.1 fz.2.2.2.2.2
    refine ⟨.ref s.heap.objs.size, _, I2, rfl, ⟨_, x, y, hT0, rfl, rfl, fun ys hy' => by rw [I.list_inj hy' hq]; exact hx, fun ys hy' => by rw [I.list_inj hy' hq2]; exact hy⟩,
      ⟨hz2, hs2.extBut _ _ D.TIz (hkc _ _ (by have := D.TIz; have := D.TITO; have := D.TIi1; have := D.TIi2; simp; exact ⟨D.TIz, D.TITO, D.TIi1, D.TIi2⟩) hTI), ⟨u, v, hs2.extBut _ _ D.TOz a2⟩, a3.at fun o q => hs2.extBut i1 o D.i1z q, a4.at fun o q => hs2.extBut i2 o D.i2z q⟩, fun c hc => ?_⟩
    have hc' : c = z ∨ c = TI ∨ c = TO ∨ c = i1 ∨ c = i2 := by simpa using hc
    have hn := (hf c hc).1
    rcases hc' with rfl | rfl | rfl | rfl | rfl
    · rw [upd_ne fT]; exact hn
    · rw [upd_ne (ltT _ _ hTI)]; exact hn
    · rw [upd_ne (ltT _ _ hTO)]; exact hn
    · obtain ⟨o, eo, _⟩ := h1
      rw [upd_ne (ltT _ o eo)]; exact hn
    · obtain ⟨o, eo, _⟩ := h2
      rw [upd_ne (ltT _ o eo)]; exact hn
  done := by
    intro X hP hw hK hc i pins s σ H E I hf st hg
    subst hP hw hK
    obtain ⟨xs, ys, hq, hq2, hend⟩ := hg
    obtain ⟨hz, hTI, ⟨u0, v0, hTO⟩, h1, h2⟩ := st
    obtain ⟨its, rv, p, _⟩ := I.list hq
    obtain ⟨its2, rv2, p2, _⟩ := I.list hq2
    have l1 := rv.length
    have l2 := rv2.length
    have fz := hf z (by simp)
    have fTO := hf TO (by simp)
    have fi1 := hf i1 (by simp)
    have fi2 := hf i2 (by simp)
    refine wpAny_pyNext_zip_end (I.ok.hd hc) D hz hTI hTO h1 h2 p.isList p2.isList (by
      rcases hend with e | e
      · exact .inl (by simp; omega)
      · exact .inr (by simp; omega)) fun h' hk => ⟨rfl, ?_⟩
    have hkc : ∀ c o, c ∉ [z, TO, i1, i2] → s.heap.get? c = some o → h'.get? c = some o := fun c o hcx q => hk c o (fun e => hcx (by simp [e])) (fun e => hcx (by simp [e])) (fun e => hcx (by simp [e])) (fun e => hcx (by simp [e])) q
    have nof : ∀ c ob, H c = some ob → c ≠ z ∧ c ≠ TO ∧ c ≠ i1 ∧ c ≠ i2 := fun c ob q => ⟨fun e => (by rw [e, fz.1] at q; cases q), fun e => (by rw [e, fTO.1] at q; cases q), fun e => (by rw [e, fi1.1] at q; cases q), fun e => (by rw [e, fi2.1] at q; cases q)⟩
    refine I.step (g' := s.gens) (d' := s.drawn) (t' := s.toks) (ch := [z, TO, i1, i2]) (fun c hb => ?_) (fun c o _ _ hcx q _ => hkc c o hcx q) (fun c o _ _ hcx q _ => ⟨o.slots, hkc c o hcx q⟩)
      (fun c o _ q n => n) (fun c o hcx q => ⟨o, hkc c o hcx q⟩) (fun c ys q => q) (fun c o v q => q)
      (fun c ps q => ⟨#[], by rw [q]; simp⟩) (fun m hm => ?_) (fun c v' q => ?_) I.bare
    · have hc' : c = z ∨ c = TO ∨ c = i1 ∨ c = i2 := by simpa using hb
      rcases hc' with rfl | rfl | rfl | rfl
      · exact ⟨fz.2.2.2.1, fz.2.1, fz.2.2.2.2.1, fz.2.2.2.2.2⟩
      · exact ⟨fTO.2.2.2.1, fTO.2.1, fTO.2.2.2.2.1, fTO.2.2.2.2.2⟩
      · exact ⟨fi1.2.2.2.1, fi1.2.1, fi1.2.2.2.2.1, fi1.2.2.2.2.2⟩
      · exact ⟨fi2.2.2.2.1, fi2.2.1, fi2.2.2.2.2.1, fi2.2.2.2.2.2⟩
    · obtain ⟨o, es, ep, ho', r⟩ := hm
      exact ⟨o, es, ep, hk _ o (Ne.symm fz.2.1) (Ne.symm fTO.2.1) (Ne.symm fi1.2.1) (Ne.symm fi2.2.1) ho', r⟩
    · refine (I.hok c v' q).stay (fun e w' hc' q' => ?_) (fun e q => q) fun e ys q => q
      rcases hc' with rfl | hc'
      · have := nof e _ q
        exact hk e w' this.1 this.2.1 this.2.2.1 this.2.2.2 q'
      · have := nof e _ hc'
        exact hk e w' this.1 this.2.1 this.2.2.1 this.2.2.2 q'
  self := fun _ _ _ _ _ st h => wpAny_pyIter_zip st.1 h
def iZip (K : PySem.W.Frag) (ta : TA) : TI := fun σ H R => ta σ H fun vs H1 => ∃ a b, vs = [.ref a, .ref b] ∧ (∃ xs ys, SqL K H1 a xs ∧ SqL K H1 b ys) ∧ R (Itz K a b) H1
section
variable {X : Cx}
theorem pi_zip (K : PySem.W.Frag) {elts : List Expr} {x1 : Nat} {tpos : Pos} {e f : Expr} {ta : TA} {p pos : Pos} (hg : Gl X "zip") (hm : X.mg "zip" = none) (ha : PA X [e, f] ta) (hs : starEach [e, f] X.env = (false, eval e X.env) :: starEach [f] X.env := by rfl) (hpl : (backTo pos (starEach [f] X.env)).any (·.1) = false := by rfl) (hk : X.K = K := by rfl) :
    PI X (.Tuple elts x1 tpos) (.Call (.Name "zip" p) [e, f] [] pos) (iZip K ta) := by
  subst hk
  intro pins s σ H R I h
  refine Call_ (ld_blt I hg hm Boot.«zip» (PyProof.Rows.callWith_type1 (thn (ha pos pins s σ H _ I h) fun us s1 ⟨vs, H1, I1, r1, q1⟩ => ?_) hs hpl))
  obtain ⟨a, b, ev, ⟨xs, ys, hq, hq2⟩, q⟩ := q1
  subst ev
  obtain ⟨u, u', rfl, ru, ru'⟩ := vals2 r1
  obtain rfl : u = Value.ref a := ru
  obtain rfl : u' = Value.ref b := ru'
  obtain ⟨its, rv, pl, _⟩ := I1.list hq
  obtain ⟨its2, rv2, pl2, _⟩ := I1.list hq2
  have lt1 : a < s1.heap.objs.size := let ⟨_, _, e, _⟩ := pl; Heap.lt_size e
  have lt2 : b < s1.heap.objs.size := let ⟨_, _, e, _⟩ := pl2; Heap.lt_size e
  have D : ZipApart (s1.heap.objs.size + 4) (s1.heap.objs.size + 2) (s1.heap.objs.size + 3) s1.heap.objs.size (s1.heap.objs.size + 1) a b := by
    have key : ∀ n x y : Nat, x < n → y < n → ZipApart (n + 4) (n + 2) (n + 3) n (n + 1) x y := fun n x y h1 h2 => by constructor <;> (intro q; have q' : (_ : Nat) = _ := q; omega)
    exact key _ _ _ lt1 lt2
  refine call_zip_2 pl.isList pl2.isList fun h' hz hTI hTO hi1 hi2 hsz hk => ?_
  refine wpAny_pyIter_zip (s := { s1 with heap := h' }) hz ?_
  refine ⟨s1.heap.objs.size + 4, [s1.heap.objs.size + 4, s1.heap.objs.size + 2, s1.heap.objs.size + 3, s1.heap.objs.size, s1.heap.objs.size + 1], _, _, H1, rfl, I1.kept (t' := s1.toks) hk, turn_zip a b _ _ _ _ _ D, ⟨hz, hTI, ⟨_, _, hTO⟩, hi1, hi2⟩, fun c hc => ?_, q⟩
  have hle : s1.heap.objs.size ≤ c := by
    have hc' : c = s1.heap.objs.size + 4 ∨ c = s1.heap.objs.size + 2 ∨ c = s1.heap.objs.size + 3 ∨ c = s1.heap.objs.size ∨ c = s1.heap.objs.size + 1 := by simpa using hc
    rcases hc' with e | e | e | e | e <;> rw [e] <;> first | exact Nat.le_refl _ | exact Nat.le_add_right _ _
  exact I1.fpOk hle (I1.hok.fresh hle)
end
end L2
namespace My
open PySem L2
section
variable {K : PySem.W.Frag} {a b : Addr} {xs ys : List V} {g : TG} {tt : TT} {te : TE} {o : Nat} {fr : List Nat} {σ : St} {H : Hp} {Q : VK}
/-- a list out of two -/
theorem lc_zip (Pv : Nat → List V → Hp → Prop) (h0 : Pv 0 [] H) (hxy : xs.length = ys.length) (hz : xs.length < sizeLine) (hl : ∀ i zs H, i ≤ xs.length → Pv i zs H → SqL K H a xs ∧ SqL K H b ys ∧ zs.length ≤ i)
    (hs : ∀ (i : Nat) x y zs H (p : Addr), H p = none → xs[i]? = some x → ys[i]? = some y → Pv i zs H → LcTurn Pv g tt te o fr σ i (.ref p) zs (upd H p (.tup [x, y]))) (hd : ∀ zs H, Pv xs.length zs H → ∀ p, H p = none → Q (.ref p) (upd H p (.lst zs))) : LcR (Itz K a b) g tt te o fr σ H Q := by
  refine ⟨fun i m zs H => m = xs.length - i ∧ i ≤ xs.length ∧ Pv i zs H, ⟨xs.length, by simp, Nat.zero_le _, h0⟩, ?_⟩
  rintro i m zs H ⟨rfl, hi, p⟩
  obtain ⟨q, q2, hy⟩ := hl i zs H hi p
  by_cases hlt : i < xs.length
  · refine .inr ⟨⟨xs, ys, xs[i], ys[i]'(by omega), q, q2, by simp [hlt], List.getElem?_eq_getElem (by omega)⟩, by omega, fun x H' ⟨T, u, v, hT, ex, eH, hu, hv⟩ => ?_⟩
    subst ex eH
    exact hs i u v zs H T hT (hu xs q) (hv ys q2) p (fun j zs H => ∃ m', m' < xs.length - i ∧ m' = xs.length - j ∧ j ≤ xs.length ∧ Pv j zs H) fun zs H p' => ⟨xs.length - (i + 1), by omega, rfl, hlt, p'⟩
  · have e : i = xs.length := by omega
    subst e
    exact .inl ⟨⟨xs, ys, q, q2, .inl (Nat.le_refl _)⟩, by omega, hd zs H p⟩
end
end My

/-! ## determinants, by the first row -/
namespace My
abbrev Mx := Nat → Nat → Int
/-- the sum of the first n -/
def sm : Nat → (Nat → Int) → Int
  | 0, _ => 0
  | n + 1, f => sm n f + f n
theorem sm_congr {f g : Nat → Int} : ∀ {n : Nat}, (∀ i, i < n → f i = g i) → sm n f = sm n g
  | 0, _ => rfl
  | n + 1, h => by
    show sm n f + f n = sm n g + g n
    rw [sm_congr fun i hi => h i (by omega), h n (by omega)]
theorem sm_add {f g : Nat → Int} : ∀ {n : Nat}, sm n (fun i => f i + g i) = sm n f + sm n g
  | 0 => rfl
  | n + 1 => by
    show sm n (fun i => f i + g i) + (f n + g n) = sm n f + f n + (sm n g + g n)
    rw [sm_add]
    omega
theorem sm_mul {c : Int} {f : Nat → Int} : ∀ {n : Nat}, sm n (fun i => c * f i) = c * sm n f
  | 0 => (Int.mul_zero c).symm
  | n + 1 => by
    show sm n (fun i => c * f i) + c * f n = c * (sm n f + f n)
    rw [sm_mul, Int.mul_add]
theorem sm_zero : ∀ {n : Nat}, sm n (fun _ => 0) = 0
  | 0 => rfl
  | n + 1 => by
    show sm n (fun _ => 0) + 0 = 0
    rw [sm_zero]
    rfl
theorem sm_none {f : Nat → Int} {n : Nat} (h : ∀ i, i < n → f i = 0) : sm n f = 0 := by rw [sm_congr h]; exact sm_zero
theorem sm_first {f : Nat → Int} : ∀ {n : Nat}, sm (n + 1) f = f 0 + sm n (fun i => f (i + 1))
  | 0 => by show 0 + f 0 = f 0 + 0; omega
  | n + 1 => by
    show sm (n + 1) f + f (n + 1) = f 0 + (sm n (fun i => f (i + 1)) + f (n + 1))
    rw [sm_first]
    omega
theorem sm_swap {f : Nat → Nat → Int} {m : Nat} : ∀ {n : Nat}, sm n (fun i => sm m (f i)) = sm m (fun j => sm n (fun i => f i j))
  | 0 => sm_zero.symm
  | n + 1 => by
    show sm n (fun i => sm m (f i)) + sm m (f n) = sm m (fun j => sm n (fun i => f i j) + f n j)
    rw [sm_swap, sm_add]
/-- all numbers but j -/
def sk (j k : Nat) : Nat := if k < j then k else k + 1
def mn (A : Mx) (j : Nat) : Mx := fun i k => A (i + 1) (sk j k)
def sg (j : Nat) : Int := if j % 2 = 0 then 1 else -1
theorem sg_succ (j : Nat) : sg (j + 1) = - sg j := by
  unfold sg
  by_cases h : j % 2 = 0
  · rw [if_pos h, if_neg (by omega)]
  · rw [if_neg h, if_pos (by omega)]; rfl
def det : Nat → Mx → Int
  | 0, _ => 1
  | n + 1, A => sm (n + 1) fun j => sg j * A 0 j * det n (mn A j)
theorem sk_lt {j k n : Nat} (h : k < n) : sk j k < n + 1 := by unfold sk; split <;> omega
theorem det_congr : ∀ {n : Nat} {A B : Mx}, (∀ i j, i < n → j < n → A i j = B i j) → det n A = det n B
  | 0, _, _, _ => rfl
  | n + 1, A, B, h => sm_congr fun j hj => by
    rw [h 0 j (by omega) hj, det_congr (A := mn A j) (B := mn B j) fun i k hi hk => h (i + 1) (sk j k) (by omega) (sk_lt hk)]
theorem det_lin : ∀ {n : Nat} {A B C : Mx} {c : Int} {i : Nat}, i < n → (∀ r j, r < n → j < n → r ≠ i → A r j = B r j ∧ A r j = C r j) → (∀ j, j < n → A i j = c * B i j + C i j) → det n A = c * det n B + det n C
  | 0, _, _, _, _, _, hi, _, _ => absurd hi (Nat.not_lt_zero _)
  | n + 1, A, B, C, c, i, hi, h1, h2 => by
    show sm (n + 1) (fun j => sg j * A 0 j * det n (mn A j)) = c * sm (n + 1) (fun j => sg j * B 0 j * det n (mn B j)) + sm (n + 1) (fun j => sg j * C 0 j * det n (mn C j))
    rw [← sm_mul, ← sm_add]
    refine sm_congr fun j hj => ?_
    cases i with
    | zero =>
      have e1 : det n (mn B j) = det n (mn A j) := det_congr fun r k hr hk => (h1 (r + 1) (sk j k) (by omega) (sk_lt hk) (by omega)).1.symm
      have e2 : det n (mn C j) = det n (mn A j) := det_congr fun r k hr hk => (h1 (r + 1) (sk j k) (by omega) (sk_lt hk) (by omega)).2.symm
      rw [e1, e2, h2 j hj]
      generalize det n (mn A j) = d
      generalize sg j = s
      rw [Int.mul_add, Int.add_mul, ← Int.mul_assoc s c, Int.mul_comm s c, Int.mul_assoc c s, Int.mul_assoc c]
    | succ i =>
      have e := det_lin (n := n) (A := mn A j) (B := mn B j) (C := mn C j) (c := c) (i := i) (by omega) (fun r k hr hk hne => h1 (r + 1) (sk j k) (by omega) (sk_lt hk) (by omega)) (fun k hk => h2 (sk j k) (sk_lt hk))
      have e0 := h1 0 j (by omega) hj (by omega)
      rw [e, ← e0.1, ← e0.2]
      generalize det n (mn B j) = d
      generalize det n (mn C j) = d'
      generalize sg j * A 0 j = s
      rw [Int.mul_add, ← Int.mul_assoc, ← Int.mul_assoc, Int.mul_comm s c]
theorem mn_mn {A : Mx} {j k i l : Nat} (h : j ≤ k) : mn (mn A j) k i l = mn (mn A (k + 1)) j i l := by
  show A (i + 1 + 1) (sk j (sk k l)) = A (i + 1 + 1) (sk (k + 1) (sk j l))
  refine congrArg _ ?_
  unfold sk
  by_cases h1 : l < j
  · rw [if_pos (show l < k by omega), if_pos h1, if_pos (show l < k + 1 by omega)]
  · rw [if_neg h1]
    by_cases h2 : l < k
    · rw [if_pos h2, if_neg h1, if_pos (show l + 1 < k + 1 by omega)]
    · rw [if_neg h2, if_neg (show ¬ l + 1 < j by omega), if_neg (show ¬ l + 1 < k + 1 by omega)]
/-- two neighbouring rows alike -/
theorem det_next : ∀ {n : Nat} {A : Mx} {i : Nat}, i + 1 < n → (∀ j, j < n → A i j = A (i + 1) j) → det n A = 0
  | 0, _, _, hi, _ => absurd hi (Nat.not_lt_zero _)
  | n + 1, A, i + 1, hi, h => sm_none fun j hj => by
    rw [det_next (A := mn A j) (i := i) (by omega) fun k hk => h (sk j k) (sk_lt hk), Int.mul_zero]
  | 1, _, 0, hi, _ => absurd hi (by omega)
  | n + 2, A, 0, _, h => by
    -- t j k: columns j and then k
    obtain ⟨t, ht⟩ : ∃ t : Nat → Nat → Int, t = fun j k => sg j * A 0 j * (sg k * A 1 (sk j k) * det n (mn (mn A j) k)) := ⟨_, rfl⟩
    have e1 : det (n + 2) A = sm (n + 2) fun j => sm (n + 1) (t j) := sm_congr fun j hj => by
      rw [ht, sm_mul]
      rfl
    have e2 : ∀ j k, j ≤ k → k < n + 1 → t (k + 1) j = - t j k := fun j k hjk hk => by
      rw [ht]
      show sg (k + 1) * A 0 (k + 1) * (sg j * A 1 (sk (k + 1) j) * det n (mn (mn A (k + 1)) j)) = - (sg j * A 0 j * (sg k * A 1 (sk j k) * det n (mn (mn A j) k)))
      have f1 : sk (k + 1) j = j := by unfold sk; rw [if_pos (by omega)]
      have f2 : sk j k = k + 1 := by unfold sk; rw [if_neg (by omega)]
      have f3 : det n (mn (mn A (k + 1)) j) = det n (mn (mn A j) k) := det_congr fun i l _ _ => (mn_mn hjk).symm
      rw [f1, f2, f3, sg_succ, ← h j (by omega), ← h (k + 1) (by omega)]
      generalize det n (mn (mn A j) k) = d
      generalize A 0 j = x
      generalize A 0 (k + 1) = y
      generalize sg j = s
      generalize sg k = u
      simp only [Int.neg_mul, Int.neg_inj]
      simp only [Int.mul_comm, Int.mul_left_comm, Int.mul_assoc]
    have e3 : sm (n + 2) (fun j => sm (n + 1) (t j)) = sm (n + 2) (fun j => sm (n + 1) fun k => if k < j then t j k else 0) + sm (n + 2) (fun j => sm (n + 1) fun k => if k < j then 0 else t j k) := by
      rw [← sm_add]
      refine sm_congr fun j _ => ?_
      rw [← sm_add]
      refine sm_congr fun k _ => ?_
      split <;> omega
    have e4 : sm (n + 2) (fun j => sm (n + 1) fun k => if k < j then t j k else 0) = sm (n + 1) (fun k => sm (n + 1) fun j => if k ≤ j then t (j + 1) k else 0) := by
      rw [sm_swap]
      refine sm_congr fun k _ => ?_
      rw [sm_first, if_neg (by omega), Int.zero_add]
      refine sm_congr fun j _ => ?_
      by_cases c : k ≤ j
      · rw [if_pos c, if_pos (by omega)]
      · rw [if_neg c, if_neg (by omega)]
    have e5 : sm (n + 2) (fun j => sm (n + 1) fun k => if k < j then 0 else t j k) = sm (n + 1) (fun j => sm (n + 1) fun k => if j ≤ k then t j k else 0) := by
      show sm (n + 1) (fun j => sm (n + 1) fun k => if k < j then 0 else t j k) + sm (n + 1) (fun k => if k < n + 1 then 0 else t (n + 1) k) = _
      rw [sm_none (f := fun k => if k < n + 1 then 0 else t (n + 1) k) fun k hk => if_pos hk, Int.add_zero]
      refine sm_congr fun j _ => sm_congr fun k _ => ?_
      by_cases c : j ≤ k
      · rw [if_pos c, if_neg (by omega)]
      · rw [if_neg c, if_pos (by omega)]
    rw [e1, e3, e4, e5, ← sm_add]
    refine sm_none fun j hj => ?_
    rw [← sm_add]
    refine sm_none fun k hk => ?_
    by_cases c : j ≤ k
    · rw [if_pos c, if_pos c, e2 j k c hk]
      omega
    · rw [if_neg c, if_neg c]
      rfl
end My

/-! ## determinants: rows exchanged, rows taken off -/
namespace My
/-- rows i and i + 1 put in -/
def put2 (A : Mx) (i : Nat) (x y : Nat → Int) : Mx := fun r => if r = i then x else if r = i + 1 then y else A r
theorem det_put2 {n : Nat} {A : Mx} {i : Nat} {x x' y : Nat → Int} (hi : i + 1 < n) : det n (put2 A i (fun j => x j + x' j) y) = det n (put2 A i x y) + det n (put2 A i x' y) := by
  have := det_lin (n := n) (A := put2 A i (fun j => x j + x' j) y) (B := put2 A i x y) (C := put2 A i x' y) (c := 1) (i := i) (by omega) (fun r j _ _ hne => by unfold put2; rw [if_neg hne, if_neg hne, if_neg hne]; exact ⟨rfl, rfl⟩) (fun j _ => by unfold put2; rw [if_pos rfl, if_pos rfl, if_pos rfl, Int.one_mul])
  rw [this, Int.one_mul]
theorem det_put2' {n : Nat} {A : Mx} {i : Nat} {x y y' : Nat → Int} (hi : i + 1 < n) : det n (put2 A i x (fun j => y j + y' j)) = det n (put2 A i x y) + det n (put2 A i x y') := by
  have ne : ¬ i + 1 = i := by omega
  have := det_lin (n := n) (A := put2 A i x (fun j => y j + y' j)) (B := put2 A i x y) (C := put2 A i x y') (c := 1) (i := i + 1) (by omega) (fun r j _ _ hne => by unfold put2; rw [if_neg hne, if_neg hne, if_neg hne]; exact ⟨rfl, rfl⟩) (fun j _ => by unfold put2; rw [if_neg ne, if_neg ne, if_neg ne, if_pos rfl, if_pos rfl, if_pos rfl, Int.one_mul])
  rw [this, Int.one_mul]
theorem det_same {n : Nat} {A : Mx} {i : Nat} {x : Nat → Int} (hi : i + 1 < n) : det n (put2 A i x x) = 0 := det_next hi fun j _ => by
  unfold put2
  rw [if_pos rfl, if_neg (by omega), if_pos rfl]
theorem det_turn {n : Nat} {A : Mx} {i : Nat} {x y : Nat → Int} (hi : i + 1 < n) : det n (put2 A i y x) = - det n (put2 A i x y) := by
  have h := det_same (A := A) (x := fun j => x j + y j) hi
  rw [det_put2 hi, det_put2' hi, det_put2' hi, det_same hi, det_same hi] at h
  omega
theorem put2_own {A : Mx} {i : Nat} : put2 A i (A i) (A (i + 1)) = A := by
  funext r
  unfold put2
  by_cases h : r = i
  · rw [if_pos h, h]
  · rw [if_neg h]
    by_cases h2 : r = i + 1
    · rw [if_pos h2, h2]
    · rw [if_neg h2]
theorem det_swap {n : Nat} {A : Mx} {i : Nat} (hi : i + 1 < n) : det n (put2 A i (A (i + 1)) (A i)) = - det n A := by
  have := det_turn (A := A) (x := A i) (y := A (i + 1)) hi
  rw [put2_own] at this
  exact this
/-- two rows alike -/
theorem det_alike {n : Nat} {a : Nat} : ∀ {d : Nat} {A : Mx}, a + d + 1 < n → (∀ j, j < n → A a j = A (a + d + 1) j) → det n A = 0
  | 0, A, hn, h => det_next hn h
  | d + 1, A, hn, h => by
    have e := det_swap (n := n) (A := A) (i := a + d + 1) (by omega)
    have z : det n (put2 A (a + d + 1) (A (a + d + 1 + 1)) (A (a + d + 1))) = 0 := by
      refine det_alike (a := a) (d := d) (by omega) fun j hj => ?_
      unfold put2
      rw [if_neg (by omega), if_neg (by omega), if_pos rfl]
      exact h j hj
    omega
/-- row k + t put before row k -/
def rotN (k t i : Nat) : Nat := if i < k then i else if i = k then k + t else if i ≤ k + t then i - 1 else i
theorem rotN_zero (k i : Nat) : rotN k 0 i = i := by
  unfold rotN
  by_cases h : i < k
  · rw [if_pos h]
  · rw [if_neg h]
    by_cases h2 : i = k
    · rw [if_pos h2, h2]; rfl
    · rw [if_neg h2, if_neg (by omega)]
theorem det_rot {n k : Nat} : ∀ {t : Nat} {A : Mx}, k + t < n → det n (fun i => A (rotN k t i)) = sg t * det n A
  | 0, A, _ => by
    rw [show sg 0 = 1 from rfl, Int.one_mul]
    exact det_congr fun i j _ _ => by rw [rotN_zero]
  | t + 1, A, h => by
    have e := det_rot (n := n) (k := k) (t := t) (A := put2 A (k + t) (A (k + t + 1)) (A (k + t))) (by omega)
    rw [det_swap (by omega)] at e
    have f : det n (fun i => A (rotN k (t + 1) i)) = det n (fun i => put2 A (k + t) (A (k + t + 1)) (A (k + t)) (rotN k t i)) := det_congr fun i j _ _ => by
      refine congrFun ?_ j
      have r1 : rotN k (t + 1) i = if i < k then i else if i = k then k + (t + 1) else if i ≤ k + (t + 1) then i - 1 else i := rfl
      have r2 : rotN k t i = if i < k then i else if i = k then k + t else if i ≤ k + t then i - 1 else i := rfl
      unfold put2
      by_cases h1 : i < k
      · rw [if_pos h1] at r1 r2
        rw [r1, r2, if_neg (by omega), if_neg (by omega)]
      · rw [if_neg h1] at r1 r2
        by_cases h2 : i = k
        · rw [if_pos h2] at r1 r2
          rw [r1, r2, if_pos rfl]
          rfl
        · rw [if_neg h2] at r1 r2
          by_cases h3 : i ≤ k + t
          · rw [if_pos (by omega)] at r1
            rw [if_pos h3] at r2
            rw [r1, r2, if_neg (by omega), if_neg (by omega)]
          · rw [if_neg h3] at r2
            by_cases h4 : i = k + t + 1
            · rw [if_pos (by omega)] at r1
              rw [r1, r2, if_neg (by omega), if_pos h4]
              exact congrArg A (by omega)
            · rw [if_neg (by omega)] at r1
              rw [r1, r2, if_neg (by omega), if_neg h4]
    rw [f, e, sg_succ, Int.mul_neg, Int.neg_mul]
theorem det_col0 : ∀ {n : Nat} {A : Mx}, (∀ i, i < n + 1 → A i 0 = 0) → det (n + 1) A = 0
  | 0, A, h => by
    show 0 + sg 0 * A 0 0 * 1 = 0
    rw [h 0 (by omega), Int.mul_zero]
    rfl
  | n + 1, A, h => sm_none fun j hj => by
    cases j with
    | zero => rw [h 0 (by omega), Int.mul_zero, Int.zero_mul]
    | succ j =>
      rw [det_col0 (A := mn A (j + 1)) fun i hi => ?_, Int.mul_zero]
      show A (i + 1) (sk (j + 1) 0) = 0
      rw [show sk (j + 1) 0 = 0 from rfl]
      exact h (i + 1) (by omega)
theorem det_first {n : Nat} {A : Mx} (h : ∀ i, i < n → A (i + 1) 0 = 0) : det (n + 1) A = A 0 0 * det n (fun i j => A (i + 1) (j + 1)) := by
  show sm (n + 1) (fun j => sg j * A 0 j * det n (mn A j)) = _
  rw [sm_first, sm_none fun j hj => ?_]
  · rw [Int.add_zero, show sg 0 = 1 from rfl, Int.one_mul]
    refine congrArg (A 0 0 * ·) (det_congr fun i j _ _ => ?_)
    rfl
  · cases n with
    | zero => exact absurd hj (Nat.not_lt_zero _)
    | succ n =>
      rw [det_col0 (A := mn A (j + 1)) fun i hi => ?_, Int.mul_zero]
      exact h i hi
theorem det_row0 {n : Nat} {A : Mx} {i : Nat} (hi : i < n) (h : ∀ j, j < n → A i j = 0) : det n A = 0 := by
  have := det_lin (A := A) (B := A) (C := A) (c := 1) hi (fun r j _ _ _ => ⟨rfl, rfl⟩) (fun j hj => by rw [h j hj]; rfl)
  omega
theorem det_scale {c : Int} : ∀ {n : Nat} {A : Mx}, det n (fun i j => c * A i j) = c ^ n * det n A
  | 0, _ => by show (1 : Int) = c ^ 0 * 1; rw [Int.pow_zero]; rfl
  | n + 1, A => by
    show sm (n + 1) (fun j => sg j * (c * A 0 j) * det n (mn (fun i j => c * A i j) j)) = c ^ (n + 1) * sm (n + 1) (fun j => sg j * A 0 j * det n (mn A j))
    rw [← sm_mul]
    refine sm_congr fun j _ => ?_
    have e : det n (mn (fun i j => c * A i j) j) = c ^ n * det n (mn A j) := det_scale (A := mn A j)
    rw [e, Int.pow_succ]
    generalize det n (mn A j) = d
    generalize c ^ n = p
    generalize sg j = s
    generalize A 0 j = x
    simp only [Int.mul_comm, Int.mul_left_comm, Int.mul_assoc]
/-- what stays of the rows below, once the first is taken off -/
def offN (R : Mx) : Mx := fun i j => R 0 0 * R (i + 1) (j + 1) - R (i + 1) 0 * R 0 (j + 1)
def offB (R : Mx) (k : Nat) : Mx := fun r j => if r = 0 then R 0 j else if r ≤ k then R 0 0 * R r j - R r 0 * R 0 j else R r j
theorem det_offB {m : Nat} {R : Mx} : ∀ {k : Nat}, k < m + 1 → det (m + 1) (offB R k) = R 0 0 ^ k * det (m + 1) R
  | 0, _ => by
    rw [Int.pow_zero, Int.one_mul]
    refine det_congr fun i j _ _ => ?_
    unfold offB
    by_cases h : i = 0
    · rw [if_pos h, h]
    · rw [if_neg h, if_neg (by omega)]
  | k + 1, hk => by
    have ih := det_offB (m := m) (R := R) (k := k) (by omega)
    -- the row in question: another of the first
    obtain ⟨C, hC⟩ : ∃ C : Mx, C = fun r j => if r = k + 1 then - R (k + 1) 0 * R 0 j else offB R k r j := ⟨_, rfl⟩
    obtain ⟨B, hB⟩ : ∃ B : Mx, B = fun r j => if r = k + 1 then R 0 j else offB R k r j := ⟨_, rfl⟩
    obtain ⟨Z, hZ⟩ : ∃ Z : Mx, Z = fun r j => if r = k + 1 then 0 else offB R k r j := ⟨_, rfl⟩
    have hBz : det (m + 1) B = 0 := det_alike (n := m + 1) (a := 0) (d := k) (by omega) fun j hj => by
      rw [hB]
      show (if 0 = k + 1 then _ else offB R k 0 j) = if 0 + k + 1 = k + 1 then _ else _
      rw [if_neg (by omega), if_pos (by omega)]
      rfl
    have hZz : det (m + 1) Z = 0 := det_row0 (i := k + 1) hk fun j hj => by rw [hZ]; exact if_pos rfl
    have hCz : det (m + 1) C = 0 := by
      have := det_lin (A := C) (B := B) (C := Z) (c := - R (k + 1) 0) hk (fun r j _ _ hne => by
        rw [hC, hB, hZ]
        show (if r = k + 1 then _ else offB R k r j) = (if r = k + 1 then _ else offB R k r j) ∧ (if r = k + 1 then _ else offB R k r j) = (if r = k + 1 then _ else offB R k r j)
        rw [if_neg hne, if_neg hne, if_neg hne]
        exact ⟨rfl, rfl⟩) (fun j _ => by
        rw [hC, hB, hZ]
        show (if k + 1 = k + 1 then _ else _) = _ * (if k + 1 = k + 1 then _ else _) + (if k + 1 = k + 1 then _ else _)
        rw [if_pos rfl, if_pos rfl, if_pos rfl, Int.add_zero])
      rw [this, hBz, hZz, Int.mul_zero]
      rfl
    have := det_lin (A := offB R (k + 1)) (B := offB R k) (C := C) (c := R 0 0) hk (fun r j _ _ hne => by
      have e1 : offB R (k + 1) r j = offB R k r j := by
        unfold offB
        by_cases h0 : r = 0
        · rw [if_pos h0, if_pos h0]
        · rw [if_neg h0, if_neg h0]
          by_cases h1 : r ≤ k
          · rw [if_pos h1, if_pos (by omega)]
          · rw [if_neg h1, if_neg (by omega)]
      refine ⟨e1, ?_⟩
      rw [hC, e1]
      show _ = if r = k + 1 then _ else _
      rw [if_neg hne]) (fun j _ => by
      have e1 : offB R (k + 1) (k + 1) j = R 0 0 * R (k + 1) j - R (k + 1) 0 * R 0 j := by
        unfold offB
        rw [if_neg (by omega), if_pos (by omega)]
      have e2 : offB R k (k + 1) j = R (k + 1) j := by
        unfold offB
        rw [if_neg (by omega), if_neg (by omega)]
      rw [e1, e2, hC]
      show _ = _ + (if k + 1 = k + 1 then - R (k + 1) 0 * R 0 j else _)
      rw [if_pos rfl, Int.neg_mul]
      rfl)
    rw [this, hCz, ih, Int.add_zero, Int.pow_succ]
    rw [← Int.mul_assoc, Int.mul_comm (R 0 0)]
theorem det_off {m : Nat} {R : Mx} : R 0 0 * det m (offN R) = R 0 0 ^ m * det (m + 1) R := by
  rw [← det_offB (k := m) (by omega), det_first fun i hi => ?_]
  · have e0 : offB R m 0 0 = R 0 0 := if_pos rfl
    rw [e0]
    refine congrArg (R 0 0 * ·) (det_congr fun i j hi hj => ?_)
    unfold offB offN
    rw [if_neg (by omega), if_pos (by omega)]
  · unfold offB
    rw [if_neg (by omega), if_pos (by omega), Int.mul_comm]
    omega
end My

/-! ## determinants, without fractions -/
namespace My
/-- the first k, and then those behind them that r names -/
def ex (k : Nat) (r : Nat → Nat) (i : Nat) : Nat := if i < k then i else k + r (i - k)
/-- the rows that stay after k steps are minors of the table: last is what divides -/
def Bar (A : Mx) (k M : Nat) (R : Mx) (last : Int) : Prop := last ≠ 0 ∧ ∀ (m : Nat) (r c : Nat → Nat), (∀ i, i < m + 1 → r i < M ∧ c i < M) →
  det (m + 1) (fun i j => R (r i) (c j)) = det (k + m + 1) (fun i j => A (ex k r i) (ex k c j)) * last ^ m
theorem bar_start (A : Mx) (n : Nat) : Bar A 0 n A 1 := ⟨by decide, fun m r c _ => by
  rw [Int.one_pow, Int.mul_one, Nat.zero_add]
  refine det_congr fun i j _ _ => ?_
  unfold ex
  rw [if_neg (Nat.not_lt_zero _), if_neg (Nat.not_lt_zero _), Nat.zero_add, Nat.zero_add, Nat.sub_zero, Nat.sub_zero]⟩
theorem pow_ne {p : Int} (h : p ≠ 0) : ∀ n : Nat, p ^ n ≠ 0
  | 0 => by rw [Int.pow_zero]; decide
  | n + 1 => by rw [Int.pow_succ]; exact Int.mul_ne_zero (pow_ne h n) h
/-- one before, then the next ones -/
def bef (r : Nat → Nat) : Nat → Nat
  | 0 => 0
  | i + 1 => r i + 1
theorem ex_bef (k : Nat) (r : Nat → Nat) (i : Nat) : ex k (bef r) i = ex (k + 1) r i := by
  unfold ex
  by_cases h : i < k
  · rw [if_pos h, if_pos (by omega)]
  · rw [if_neg h]
    by_cases h2 : i = k
    · rw [if_pos (by omega), h2, Nat.sub_self]
      rfl
    · rw [if_neg (by omega)]
      obtain ⟨d, rfl⟩ : ∃ d, i = k + d + 1 := ⟨i - k - 1, by omega⟩
      rw [show k + d + 1 - k = d + 1 by omega, show k + d + 1 - (k + 1) = d by omega]
      show k + (r d + 1) = k + 1 + r d
      omega
/-- what the numbers before the division are -/
theorem bar_off {A : Mx} {k M : Nat} {R : Mx} {last : Int} (h : Bar A k (M + 1) R last) (hp : R 0 0 ≠ 0) {m : Nat} {r c : Nat → Nat} (hb : ∀ i, i < m + 1 → r i < M ∧ c i < M) :
    det (m + 1) (fun i j => offN R (r i) (c j)) = R 0 0 ^ m * (last ^ (m + 1) * det (k + 1 + m + 1) (fun i j => A (ex (k + 1) r i) (ex (k + 1) c j))) := by
  have e1 := det_off (m := m + 1) (R := fun i j => R (bef r i) (bef c j))
  have e2 := h.2 (m + 1) (bef r) (bef c) fun i hi => by
    cases i with
    | zero => exact ⟨Nat.succ_pos _, Nat.succ_pos _⟩
    | succ i => have := hb i (by omega); exact ⟨Nat.succ_lt_succ this.1, Nat.succ_lt_succ this.2⟩
  have e3 : det (m + 1) (offN fun i j => R (bef r i) (bef c j)) = det (m + 1) (fun i j => offN R (r i) (c j)) := rfl
  have e4 : det (k + (m + 1) + 1) (fun i j => A (ex k (bef r) i) (ex k (bef c) j)) = det (k + 1 + m + 1) (fun i j => A (ex (k + 1) r i) (ex (k + 1) c j)) := by
    rw [show k + (m + 1) + 1 = k + 1 + m + 1 by omega]
    exact det_congr fun i j _ _ => by rw [ex_bef, ex_bef]
  rw [e3] at e1
  rw [e4] at e2
  have e5 : R (bef r 0) (bef c 0) = R 0 0 := rfl
  rw [e5, e2] at e1
  generalize det (m + 1) (fun i j => offN R (r i) (c j)) = x at *
  generalize det (k + 1 + m + 1) (fun i j => A (ex (k + 1) r i) (ex (k + 1) c j)) = y at *
  rw [Int.pow_succ] at e1
  refine Int.eq_of_mul_eq_mul_left hp ?_
  rw [e1, Int.mul_comm y, Int.mul_comm (R 0 0 ^ m), Int.mul_assoc]
theorem det_one (A : Mx) : det 1 A = A 0 0 := by
  show 0 + sg 0 * A 0 0 * 1 = A 0 0
  rw [show sg 0 = 1 from rfl]
  omega
/-- each number before the division is a minor, last times -/
theorem bar_num {A : Mx} {k M : Nat} {R : Mx} {last : Int} (h : Bar A k (M + 1) R last) (hp : R 0 0 ≠ 0) {i j : Nat} (hi : i < M) (hj : j < M) :
    offN R i j = last * det (k + 2) (fun a b => A (ex (k + 1) (fun _ => i) a) (ex (k + 1) (fun _ => j) b)) := by
  have := bar_off h hp (m := 0) (r := fun _ => i) (c := fun _ => j) fun _ _ => ⟨hi, hj⟩
  rw [det_one, Int.pow_zero, Int.one_mul, Int.pow_succ, Int.pow_zero, Int.one_mul] at this
  exact this
theorem bar_step {A : Mx} {k M : Nat} {R R' : Mx} {last : Int} (h : Bar A k (M + 1) R last) (hp : R 0 0 ≠ 0) (hR : ∀ i j, i < M → j < M → R' i j = (offN R i j).fdiv last) : Bar A (k + 1) M R' (R 0 0) := by
  refine ⟨hp, fun m r c hb => ?_⟩
  have ex1 : ∀ i j, i < M → j < M → offN R i j = last * R' i j := fun i j hi hj => by
    rw [hR i j hi hj, bar_num h hp hi hj, Int.mul_fdiv_cancel_left _ h.1]
  have e1 := bar_off h hp hb
  have e2 : det (m + 1) (fun i j => offN R (r i) (c j)) = last ^ (m + 1) * det (m + 1) (fun i j => R' (r i) (c j)) := by
    rw [← det_scale]
    exact det_congr fun i j hi hj => ex1 _ _ (hb i hi).1 (hb j hj).2
  rw [e2] at e1
  refine Int.eq_of_mul_eq_mul_left (pow_ne h.1 (m + 1)) ?_
  rw [e1]
  generalize det (k + 1 + m + 1) (fun i j => A (ex (k + 1) r i) (ex (k + 1) c j)) = y
  rw [Int.mul_left_comm, Int.mul_comm y]
/-- a row moved up -/
theorem bar_rot {A : Mx} {k M t : Nat} {R : Mx} {last : Int} (h : Bar A k M R last) (ht : t < M) : Bar (fun i => A (rotN k t i)) k M (fun i => R (rotN 0 t i)) last := by
  refine ⟨h.1, fun m r c hb => ?_⟩
  have e := h.2 m (fun i => rotN 0 t (r i)) c fun i hi => ⟨by
    have := (hb i hi).1
    unfold rotN
    rw [if_neg (by omega)]
    split
    · omega
    · split <;> omega, (hb i hi).2⟩
  rw [e]
  refine congrArg (· * last ^ m) (det_congr fun i j _ _ => ?_)
  refine congrArg (fun a => A a (ex k c j)) ?_
  unfold ex
  by_cases hi : i < k
  · rw [if_pos hi, if_pos hi]
    unfold rotN
    rw [if_pos hi]
  · rw [if_neg hi, if_neg hi]
    show k + rotN 0 t (r (i - k)) = rotN k t (k + r (i - k))
    generalize r (i - k) = a
    have r1 : rotN 0 t a = if a < 0 then a else if a = 0 then 0 + t else if a ≤ 0 + t then a - 1 else a := rfl
    have r2 : rotN k t (k + a) = if k + a < k then k + a else if k + a = k then k + t else if k + a ≤ k + t then k + a - 1 else k + a := rfl
    rw [if_neg (by omega)] at r1 r2
    by_cases h1 : a = 0
    · rw [if_pos h1] at r1
      rw [if_pos (by omega)] at r2
      rw [r1, r2]
      omega
    · rw [if_neg h1] at r1
      rw [if_neg (by omega)] at r2
      by_cases h2 : a ≤ t
      · rw [if_pos (by omega)] at r1
        rw [if_pos (by omega)] at r2
        rw [r1, r2]
        omega
      · rw [if_neg (by omega)] at r1
        rw [if_neg (by omega)] at r2
        rw [r1, r2]
theorem ex_id (k i : Nat) : ex k (fun i => i) i = i := by
  unfold ex
  by_cases h : i < k
  · rw [if_pos h]
  · rw [if_neg h]
    show k + (i - k) = i
    omega
theorem bar_none {A : Mx} {k M : Nat} {R : Mx} {last : Int} (h : Bar A k (M + 1) R last) (h0 : ∀ i, i < M + 1 → R i 0 = 0) : det (k + M + 1) A = 0 := by
  have e := h.2 M (fun i => i) (fun i => i) fun i hi => ⟨hi, hi⟩
  rw [det_col0 (A := fun i j => R i j) h0] at e
  have e2 : det (k + M + 1) (fun i j => A (ex k (fun i => i) i) (ex k (fun i => i) j)) = det (k + M + 1) A := det_congr fun i j _ _ => by rw [ex_id, ex_id]
  rw [e2] at e
  rcases Int.mul_eq_zero.mp e.symm with z | z
  · exact z
  · exact absurd z (pow_ne h.1 M)
theorem bar_end {A : Mx} {k : Nat} {R : Mx} {last : Int} (h : Bar A k 1 R last) : R 0 0 = det (k + 1) A := by
  have e := h.2 0 (fun i => i) (fun i => i) fun i hi => ⟨by omega, by omega⟩
  rw [det_one, Int.pow_zero, Int.mul_one] at e
  have e2 : det (k + 0 + 1) (fun i j => A (ex k (fun i => i) i) (ex k (fun i => i) j)) = det (k + 1) A := det_congr fun i j _ _ => by rw [ex_id, ex_id]
  rw [e2] at e
  exact e
end My

/-! ## products and quotients of great numbers -/
namespace L2
open PySem PySem.Spec PyProof.Rows
def CMulL (i j : Int) : Prop := i.natAbs < 2 ^ 9000 ∧ j.natAbs < 2 ^ 9000
def CDivL (i j : Int) : Prop := j ≠ 0 ∧ j.natAbs < 2 ^ 9000
theorem bits_long {a : Int} (h : a.natAbs < 2 ^ 9000) : Builtin.Int.intBits a ≤ 9000 := PySem.intBits_le_iff.mpr h
section
variable {X : Cx}
theorem op_mulL : OpR X (binaryOp .Mult) (rI CMulL fun i j => .int (i * j)) := opI fun _ _ _ _ _ _ _ hc q => mul_int q (.of_bits (Nat.le_trans (bits_long hc.1) (by decide)) (Nat.le_trans (bits_long hc.2) (by decide)))
theorem op_fdivL : OpR X (binaryOp .FloorDiv) (rI CDivL fun i j => .int (i.fdiv j)) := opI fun _ _ _ _ _ _ _ hc q => floordiv_int hc.1 q (.inl (PyProof.noPylong_of_log2 ((Nat.log2_lt (by have := hc.1; omega)).mpr hc.2)))
end
end L2

/-! ## tables as rows of rows -/
namespace My
def fnL (L : List (List Int)) : Mx := fun i j => (L.getD i []).getD j 0
theorem fnL_at {L : List (List Int)} {l : List Int} {i j : Nat} {x : Int} (h : L[i]? = some l) (h2 : l[j]? = some x) : fnL L i j = x := by
  have e : L.getD i [] = l := by rw [List.getD_eq_getElem?_getD, h]; rfl
  unfold fnL
  rw [e, List.getD_eq_getElem?_getD, h2]
  rfl
/-- how great a determinant can be -/
def bnd (B : Nat) : Nat → Nat
  | 0 => 1
  | n + 1 => (n + 1) * (B * bnd B n)
theorem sm_abs {f : Nat → Int} {C : Nat} : ∀ {n : Nat}, (∀ i, i < n → (f i).natAbs ≤ C) → (sm n f).natAbs ≤ n * C
  | 0, _ => by show (0 : Int).natAbs ≤ 0 * C; rw [Nat.zero_mul]; exact Nat.le_refl 0
  | n + 1, h => by
    have h1 := sm_abs (n := n) fun i hi => h i (by omega)
    have h2 := h n (by omega)
    have h3 : (sm n f + f n).natAbs ≤ (sm n f).natAbs + (f n).natAbs := Int.natAbs_add_le ..
    show (sm n f + f n).natAbs ≤ (n + 1) * C
    rw [Nat.succ_mul]
    omega
theorem det_abs {B : Nat} : ∀ {n : Nat} {A : Mx}, (∀ i j, i < n → j < n → (A i j).natAbs ≤ B) → (det n A).natAbs ≤ bnd B n
  | 0, _, _ => Nat.le_refl 1
  | n + 1, A, h => by
    refine sm_abs fun j hj => ?_
    have e : (sg j).natAbs = 1 := by
      unfold sg
      split <;> rfl
    rw [Int.natAbs_mul, Int.natAbs_mul, e, Nat.one_mul]
    exact Nat.mul_le_mul (h 0 j (by omega) hj) (det_abs fun i k hi hk => h (i + 1) (sk j k) (by omega) (sk_lt hk))
theorem bnd_le {b : Nat} : ∀ {n : Nat}, n ≤ 16 → bnd (2 ^ b) n ≤ 2 ^ ((b + 4) * n)
  | 0, _ => by show 1 ≤ 2 ^ ((b + 4) * 0); rw [Nat.mul_zero]; exact Nat.le_refl 1
  | n + 1, h => by
    have ih := bnd_le (b := b) (n := n) (by omega)
    have e : 2 ^ ((b + 4) * (n + 1)) = 16 * (2 ^ b * 2 ^ ((b + 4) * n)) := by
      rw [Nat.mul_succ, Nat.pow_add, Nat.pow_add, Nat.mul_comm (2 ^ ((b + 4) * n)), Nat.mul_comm (2 ^ b) (2 ^ 4), Nat.mul_assoc]
    rw [e]
    show (n + 1) * (2 ^ b * bnd (2 ^ b) n) ≤ _
    exact Nat.mul_le_mul h (Nat.mul_le_mul (Nat.le_refl _) ih)
theorem det_small {n : Nat} {A : Mx} (hn : n ≤ 16) (h : ∀ i j, i < n → j < n → (A i j).natAbs ≤ 2 ^ 400) : (det n A).natAbs < 2 ^ 9000 := by
  have h1 := det_abs h
  have h2 := bnd_le (b := 400) hn
  have h3 : 2 ^ ((400 + 4) * n) ≤ 2 ^ (404 * 16) := Nat.pow_le_pow_right (by decide) (Nat.mul_le_mul (Nat.le_refl _) hn)
  have h4 : 2 ^ (404 * 16) < 2 ^ 9000 := Nat.pow_lt_pow_right (by decide) (by decide)
  exact Nat.lt_of_le_of_lt (Nat.le_trans h1 (Nat.le_trans h2 h3)) h4
theorem bar_at {A : Mx} {k M : Nat} {R : Mx} {last : Int} (h : Bar A k M R last) {i j : Nat} (hi : i < M) (hj : j < M) : R i j = det (k + 1) (fun a b => A (ex k (fun _ => i) a) (ex k (fun _ => j) b)) := by
  have := h.2 0 (fun _ => i) (fun _ => j) fun _ _ => ⟨hi, hj⟩
  rw [det_one, Int.pow_zero, Int.mul_one] at this
  exact this
theorem bar_small {A : Mx} {k M n : Nat} {R : Mx} {last : Int} (h : Bar A k M R last) (hn : k + M = n) (hn16 : n ≤ 16) (hA : ∀ i j, i < n → j < n → (A i j).natAbs ≤ 2 ^ 400) {i j : Nat} (hi : i < M) (hj : j < M) : (R i j).natAbs < 2 ^ 9000 := by
  rw [bar_at h hi hj]
  refine det_small (by omega) fun a b ha hb => hA _ _ ?_ ?_
  · have e : ex k (fun _ => i) a = if a < k then a else k + i := rfl
    rw [e]
    split <;> omega
  · have e : ex k (fun _ => j) b = if b < k then b else k + j := rfl
    rw [e]
    split <;> omega
theorem rot_get {L : List (List Int)} {l : List Int} {t : Nat} (h : L[t]? = some l) (i : Nat) : (l :: L.eraseIdx t)[i]? = L[rotN 0 t i]? := by
  have ht := (List.getElem?_eq_some_iff.mp h).1
  have r : rotN 0 t i = if i < 0 then i else if i = 0 then 0 + t else if i ≤ 0 + t then i - 1 else i := rfl
  rw [if_neg (by omega)] at r
  cases i with
  | zero =>
    rw [if_pos rfl, Nat.zero_add] at r
    rw [r, h]
    rfl
  | succ i =>
    rw [if_neg (by omega), Nat.zero_add] at r
    rw [r, List.getElem?_cons_succ, List.getElem?_eraseIdx]
    by_cases c : i + 1 ≤ t
    · rw [if_pos c, if_pos (by omega)]
      rfl
    · rw [if_neg c, if_neg (by omega)]
theorem rot_fnL {L : List (List Int)} {l : List Int} {t : Nat} (h : L[t]? = some l) : fnL (l :: L.eraseIdx t) = fun i => fnL L (rotN 0 t i) := by
  funext i j
  show ((l :: L.eraseIdx t).getD i []).getD j 0 = (L.getD (rotN 0 t i) []).getD j 0
  refine congrArg (fun r : List Int => r.getD j 0) ?_
  rw [List.getD_eq_getElem?_getD, List.getD_eq_getElem?_getD, rot_get h]
/-- a row once the pivot is taken off -/
def tkn (y : Int) (p : List Int) (last : Int) (l : List Int) : List Int := List.zipWith (fun own other => (y * own - l.headD 0 * other).fdiv last) l.tail p
theorem tkn_len {y last : Int} {p l : List Int} (h : l.length = p.length + 1) : (tkn y p last l).length = p.length := by
  unfold tkn
  rw [List.length_zipWith, List.length_tail]
  omega
theorem tkn_fnL {y last : Int} {p : List Int} {L : List (List Int)} {M : Nat} (hp : p.length = M) (hL : L.length = M) (hl : ∀ l ∈ L, l.length = M + 1) {i j : Nat} (hi : i < M) (hj : j < M) :
    fnL (L.map (tkn y p last)) i j = (offN (fnL ((y :: p) :: L)) i j).fdiv last := by
  obtain ⟨l, hli⟩ : ∃ l, L[i]? = some l := ⟨_, List.getElem?_eq_getElem (by omega)⟩
  have hll := hl l (List.mem_of_getElem? hli)
  obtain ⟨x, l', rfl⟩ : ∃ x l', l = x :: l' := by
    cases l with
    | nil => cases hll
    | cons x l' => exact ⟨x, l', rfl⟩
  have hl' : l'.length = M := by rw [List.length_cons] at hll; omega
  obtain ⟨u, hu⟩ : ∃ u, l'[j]? = some u := ⟨_, List.getElem?_eq_getElem (by omega)⟩
  obtain ⟨v, hv⟩ : ∃ v, p[j]? = some v := ⟨_, List.getElem?_eq_getElem (by omega)⟩
  have e1 : fnL (L.map (tkn y p last)) i j = (y * u - x * v).fdiv last := fnL_at (l := tkn y p last (x :: l')) (by rw [List.getElem?_map, hli]; rfl) (by
    show (List.zipWith _ l' p)[j]? = _
    rw [List.getElem?_zipWith, hu, hv]
    rfl)
  have e2 : fnL ((y :: p) :: L) 0 0 = y := rfl
  have e3 : fnL ((y :: p) :: L) (i + 1) (j + 1) = u := fnL_at (l := x :: l') hli hu
  have e4 : fnL ((y :: p) :: L) (i + 1) 0 = x := fnL_at (l := x :: l') hli rfl
  have e5 : fnL ((y :: p) :: L) 0 (j + 1) = v := fnL_at (l := y :: p) rfl hv
  rw [e1]
  unfold offN
  rw [e2, e3, e4, e5]
end My

/-! ## tables as they lie -/
namespace My
open PySem L2
def RowV (K : PySem.W.Frag) (H : Hp) (v : V) (l : List Int) : Prop := ∃ (r : Addr) (k : Bool), v = .ref r ∧ SqK k K H r (IL l)
/-- a list that is not the one at d -/
def LiV (d : Addr) (H : Hp) (v : V) (l : List Int) : Prop := ∃ r, v = .ref r ∧ H r = some (.lst (IL l)) ∧ r ≠ d
theorem LiV.same {d : Addr} {H H' : Hp} {v : V} {l : List Int} (s : Same H H') (h : LiV d H v l) : LiV d H' v l := by
  obtain ⟨r, e, h, n⟩ := h
  exact ⟨r, e, s _ _ h, n⟩
theorem LiV.mut {d : Addr} {H : Hp} {v : V} {l : List Int} {o : HO} (h : LiV d H v l) : LiV d (upd H d o) v l := by
  obtain ⟨r, e, h, n⟩ := h
  exact ⟨r, e, by rw [upd_ne n]; exact h, n⟩
theorem LiV.list {d : Addr} {H : Hp} {v : V} {l : List Int} (h : LiV d H v l) : ListV H v l := by
  obtain ⟨r, e, h, _⟩ := h
  exact ⟨r, e, h⟩
theorem Bears.erase {α : Type} [DecidableEq α] {R : V → α → Prop} {xs : List V} {l : List α} (h : Bears R xs l) (t : Nat) : Bears R (xs.eraseIdx t) (l.eraseIdx t) := by
  have hl := h.1
  refine ⟨by rw [List.length_eraseIdx, List.length_eraseIdx, hl], fun i a e => ?_⟩
  rw [List.getElem?_eraseIdx] at e
  rw [List.getElem?_eraseIdx]
  split at e
  · next c => rw [if_pos c]; exact h.2 _ _ e
  · next c => rw [if_neg c]; exact h.2 _ _ e
theorem cut_tail (x : Int) (l : List Int) : cutV (IL (x :: l)) (some 1) none = IL l := by
  rw [cut_from2 (by decide)]
  rfl
theorem sg_sq (t : Nat) : sg t * sg t = 1 := by
  unfold sg
  split <;> rfl
end My

/-! ## determinants: columns, turned tables, any two rows -/
namespace My
theorem sm_reord {f : Nat → Nat → Int} {n m : Nat} : sm n (fun i => sm m (fun j => f i j)) = sm m (fun j => sm n (fun i => f i j)) := sm_swap
/-- by the first column -/
theorem det_col : ∀ {n : Nat} {A : Mx}, det (n + 1) A = sm (n + 1) fun i => sg i * A i 0 * det n (fun r c => A (sk i r) (c + 1))
  | 0, A => rfl
  | n + 1, A => by
    have e1 : det (n + 2) A = sg 0 * A 0 0 * det (n + 1) (mn A 0) + sm (n + 1) fun j => sg (j + 1) * A 0 (j + 1) * det (n + 1) (mn A (j + 1)) := sm_first
    have e2 : sm (n + 2) (fun i => sg i * A i 0 * det (n + 1) (fun r c => A (sk i r) (c + 1))) = sg 0 * A 0 0 * det (n + 1) (fun r c => A (sk 0 r) (c + 1)) + sm (n + 1) fun i => sg (i + 1) * A (i + 1) 0 * det (n + 1) (fun r c => A (sk (i + 1) r) (c + 1)) := sm_first
    rw [e1, e2]
    have e3 : det (n + 1) (mn A 0) = det (n + 1) (fun r c => A (sk 0 r) (c + 1)) := det_congr fun r c _ _ => rfl
    rw [e3]
    refine congrArg (fun z : Int => sg 0 * A 0 0 * det (n + 1) (fun r c => A (sk 0 r) (c + 1)) + z) ?_
    -- what stays without two rows and two columns
    obtain ⟨D, hD⟩ : ∃ D : Nat → Nat → Int, D = fun i j => det n (fun r c => A (sk i r + 1) (sk (j + 1) (c + 1))) := ⟨_, rfl⟩
    have e4 : ∀ j, j < n + 1 → det (n + 1) (mn A (j + 1)) = sm (n + 1) fun i => sg i * A (i + 1) 0 * D i j := fun j _ => by
      rw [det_col, hD]
      rfl
    have e5 : ∀ i, i < n + 1 → det (n + 1) (fun r c => A (sk (i + 1) r) (c + 1)) = sm (n + 1) fun j => sg j * A 0 (j + 1) * D i j := fun i hi => by
      show sm (n + 1) (fun j => sg j * A (sk (i + 1) 0) (j + 1) * det n (mn (fun r c => A (sk (i + 1) r) (c + 1)) j)) = _
      refine sm_congr fun j _ => ?_
      rw [hD]
      show sg j * A (sk (i + 1) 0) (j + 1) * det n (mn (fun r c => A (sk (i + 1) r) (c + 1)) j) = sg j * A 0 (j + 1) * det n (fun r c => A (sk i r + 1) (sk (j + 1) (c + 1)))
      rw [show sk (i + 1) 0 = 0 from rfl]
      refine congrArg (sg j * A 0 (j + 1) * ·) (det_congr fun r c _ _ => ?_)
      show A (sk (i + 1) (r + 1)) (sk j c + 1) = A (sk i r + 1) (sk (j + 1) (c + 1))
      have f1 : sk (i + 1) (r + 1) = sk i r + 1 := by
        unfold sk
        by_cases h : r < i
        · rw [if_pos h, if_pos (by omega)]
        · rw [if_neg h, if_neg (by omega)]
      have f2 : sk j c + 1 = sk (j + 1) (c + 1) := by
        unfold sk
        by_cases h : c < j
        · rw [if_pos h, if_pos (by omega)]
        · rw [if_neg h, if_neg (by omega)]
      rw [f1, f2]
    have e6 : sm (n + 1) (fun j => sg (j + 1) * A 0 (j + 1) * det (n + 1) (mn A (j + 1))) = sm (n + 1) fun j => sm (n + 1) fun i => sg (j + 1) * A 0 (j + 1) * (sg i * A (i + 1) 0 * D i j) := sm_congr fun j hj => by rw [e4 j hj, sm_mul]
    have e7 : sm (n + 1) (fun i => sg (i + 1) * A (i + 1) 0 * det (n + 1) (fun r c => A (sk (i + 1) r) (c + 1))) = sm (n + 1) fun i => sm (n + 1) fun j => sg (i + 1) * A (i + 1) 0 * (sg j * A 0 (j + 1) * D i j) := sm_congr fun i hi => by rw [e5 i hi, sm_mul]
    rw [e6, e7, sm_reord]
    refine sm_congr fun i _ => sm_congr fun j _ => ?_
    rw [sg_succ, sg_succ]
    generalize D i j = d
    generalize A 0 (j + 1) = x
    generalize A (i + 1) 0 = y
    generalize sg i = s
    generalize sg j = u
    simp only [Int.neg_mul, Int.neg_inj]
    simp only [Int.mul_comm, Int.mul_left_comm, Int.mul_assoc]
/-- rows and columns exchanged -/
theorem det_T : ∀ {n : Nat} {A : Mx}, det n (fun i j => A j i) = det n A
  | 0, _ => rfl
  | n + 1, A => by
    rw [det_col (A := A)]
    refine sm_congr fun j _ => ?_
    show sg j * A j 0 * det n (fun i k => A (sk j k) (i + 1)) = sg j * A j 0 * det n (fun r c => A (sk j r) (c + 1))
    rw [← det_T (A := fun r c => A (sk j r) (c + 1))]
theorem det_two {n a b : Nat} {A : Mx} (ha : a < n) (hb : b < n) (hne : a ≠ b) (h : ∀ j, j < n → A a j = A b j) : det n A = 0 := by
  rcases Nat.lt_or_gt_of_ne hne with c | c
  · obtain ⟨d, rfl⟩ : ∃ d, b = a + d + 1 := ⟨b - a - 1, by omega⟩
    exact det_alike hb h
  · obtain ⟨d, rfl⟩ : ∃ d, a = b + d + 1 := ⟨a - b - 1, by omega⟩
    exact det_alike ha fun j hj => (h j hj).symm
/-- a row put in -/
def putr (A : Mx) (i : Nat) (x : Nat → Int) : Mx := fun r => if r = i then x else A r
theorem det_putr {n i : Nat} {A : Mx} {c : Int} {x y : Nat → Int} (hi : i < n) : det n (putr A i (fun j => c * x j + y j)) = c * det n (putr A i x) + det n (putr A i y) :=
  det_lin hi (fun r j _ _ hne => by unfold putr; rw [if_neg hne, if_neg hne, if_neg hne]; exact ⟨rfl, rfl⟩) (fun j _ => by unfold putr; rw [if_pos rfl, if_pos rfl, if_pos rfl])
theorem putr_own {A : Mx} {i : Nat} : putr A i (A i) = A := by
  funext r
  unfold putr
  by_cases h : r = i
  · rw [if_pos h, h]
  · rw [if_neg h]
theorem det_addr {n a b : Nat} {A : Mx} {c : Int} (ha : a < n) (hb : b < n) (hne : a ≠ b) : det n (putr A a (fun j => A a j + c * A b j)) = det n A := by
  have e : (fun j => A a j + c * A b j) = fun j => c * A b j + A a j := by funext j; omega
  rw [e, det_putr ha, putr_own, det_two ha hb hne (A := putr A a (A b)) fun j _ => ?_, Int.mul_zero, Int.zero_add]
  unfold putr
  rw [if_pos rfl, if_neg (Ne.symm hne)]
end My

/-! ## the tables of webs: a tie more -/
namespace My
theorem rot_sk (a i : Nat) : rotN 0 a (i + 1) = sk a i := by
  have r : rotN 0 a (i + 1) = if i + 1 < 0 then i + 1 else if i + 1 = 0 then 0 + a else if i + 1 ≤ 0 + a then i + 1 - 1 else i + 1 := rfl
  rw [if_neg (by omega), if_neg (by omega)] at r
  rw [r]
  unfold sk
  by_cases h : i < a
  · rw [if_pos h, if_pos (by omega)]
    omega
  · rw [if_neg h, if_neg (by omega)]
theorem sm_only {f : Nat → Int} {a : Nat} : ∀ {n : Nat}, a < n → (∀ j, j < n → j ≠ a → f j = 0) → sm n f = f a
  | 0, h, _ => absurd h (Nat.not_lt_zero _)
  | n + 1, h, h0 => by
    show sm n f + f n = f a
    by_cases c : a = n
    · rw [sm_none fun i hi => h0 i (by omega) (by omega), c, Int.zero_add]
    · rw [sm_only (n := n) (by omega) fun j hj hne => h0 j (by omega) hne, h0 n (by omega) (by omega), Int.add_zero]
/-- a row with one 1 alone, in its own column -/
theorem det_unit {n a : Nat} {A : Mx} (ha : a < n + 1) : det (n + 1) (putr A a (fun j => if j = a then 1 else 0)) = det n (fun i j => A (sk a i) (sk a j)) := by
  have e := det_rot (n := n + 1) (k := 0) (t := a) (A := putr A a (fun j => if j = a then 1 else 0)) (by omega)
  have r0 : rotN 0 a 0 = a := by
    show (if 0 < 0 then 0 else if 0 = 0 then 0 + a else _) = a
    rw [if_neg (by omega), if_pos rfl, Nat.zero_add]
  have top : det (n + 1) (fun i => putr A a (fun j => if j = a then 1 else 0) (rotN 0 a i)) = sg a * det n (fun i j => A (sk a i) (sk a j)) := by
    show sm (n + 1) (fun j => sg j * putr A a (fun j => if j = a then 1 else 0) (rotN 0 a 0) j * det n (mn (fun i => putr A a (fun j => if j = a then 1 else 0) (rotN 0 a i)) j)) = _
    rw [sm_only ha fun j _ hne => ?_]
    · rw [r0]
      have e1 : putr A a (fun j => if j = a then 1 else 0) a a = 1 := by unfold putr; rw [if_pos rfl, if_pos rfl]
      rw [e1, Int.mul_one]
      refine congrArg (sg a * ·) (det_congr fun i j _ _ => ?_)
      show putr A a (fun j => if j = a then 1 else 0) (rotN 0 a (i + 1)) (sk a j) = A (sk a i) (sk a j)
      rw [rot_sk]
      unfold putr
      rw [if_neg (by unfold sk; split <;> omega)]
    · rw [r0]
      have e1 : putr A a (fun j => if j = a then 1 else 0) a j = 0 := by unfold putr; rw [if_pos rfl, if_neg hne]
      rw [e1, Int.mul_zero, Int.zero_mul]
  rw [top] at e
  have h := congrArg (sg a * ·) e
  simp only [← Int.mul_assoc] at h
  rw [show sg a * sg a = 1 by unfold sg; split <;> rfl, Int.one_mul, Int.one_mul] at h
  exact h.symm
/-- w more in one place of the diagonal -/
theorem det_diag {n a : Nat} {A : Mx} {w : Int} (ha : a < n + 1) : det (n + 1) (fun i j => A i j + w * ((if i = a then 1 else 0) * (if j = a then 1 else 0))) = det (n + 1) A + w * det n (fun i j => A (sk a i) (sk a j)) := by
  have e : det (n + 1) (fun i j => A i j + w * ((if i = a then 1 else 0) * (if j = a then 1 else 0))) = det (n + 1) (putr A a (fun j => w * (fun j => if j = a then 1 else 0) j + A a j)) := det_congr fun i j _ _ => by
    unfold putr
    by_cases h : i = a
    · subst h
      rw [if_pos rfl, if_pos rfl, Int.one_mul]
      show A i j + w * (if j = i then 1 else 0) = w * (if j = i then 1 else 0) + A i j
      exact Int.add_comm ..
    · rw [if_neg h, if_neg h, Int.zero_mul, Int.mul_zero, Int.add_zero]
  rw [e, det_putr ha, putr_own, det_unit ha]
  omega
/-- where a tie begins and where it ends -/
def ind (u v i : Nat) : Int := (if i = u then 1 else 0) - (if i = v then 1 else 0)
/-- row b with row a, column b with column a -/
def fold2 (A : Mx) (a b : Nat) : Mx := fun i j => (A i j + (if i = b then A a j else 0)) + (if j = b then A i a + (if i = b then A a a else 0) else 0)
theorem det_fold2 {n a b : Nat} {A : Mx} (ha : a < n) (hb : b < n) (hne : a ≠ b) : det n (fold2 A a b) = det n A := by
  have e1 : det n A = det n (putr A b (fun j => A b j + 1 * A a j)) := (det_addr hb ha (Ne.symm hne)).symm
  obtain ⟨R, hR⟩ : ∃ R : Mx, R = putr A b (fun j => A b j + 1 * A a j) := ⟨_, rfl⟩
  have e2 : det n R = det n (putr (fun i j => R j i) b (fun j => (fun i j => R j i) b j + 1 * (fun i j => R j i) a j)) := by
    rw [det_addr (A := fun i j => R j i) hb ha (Ne.symm hne)]
    exact det_T.symm
  rw [e1, ← hR, e2, ← det_T (A := putr (fun i j => R j i) b (fun j => (fun i j => R j i) b j + 1 * (fun i j => R j i) a j))]
  refine det_congr fun i j _ _ => ?_
  have rv : ∀ r c, R r c = A r c + (if r = b then A a c else 0) := fun r c => by
    rw [hR]
    unfold putr
    by_cases h : r = b
    · rw [if_pos h, if_pos h, h]; omega
    · rw [if_neg h, if_neg h]; omega
  unfold fold2
  show _ = (putr (fun i j => R j i) b (fun j => R j b + 1 * R j a)) j i
  unfold putr
  by_cases h : j = b
  · rw [if_pos h, if_pos h, rv, rv, h]
    by_cases h2 : i = b
    · rw [if_pos h2, if_pos h2]; omega
    · rw [if_neg h2, if_neg h2]; omega
  · rw [if_neg h, if_neg h]
    show _ = R i j
    rw [rv]
    omega
/-- a tie between two of the places that stay -/
theorem det_tie {n a b : Nat} {A : Mx} {w : Int} (ha : a < n + 1) (hb : b < n + 1) (hne : a ≠ b) : det (n + 1) (fun i j => A i j + w * (ind a b i * ind a b j)) = det (n + 1) A + w * det n (fun i j => fold2 A a b (sk a i) (sk a j)) := by
  have e1 := det_fold2 (A := fun i j => A i j + w * (ind a b i * ind a b j)) ha hb hne
  have e2 : det (n + 1) (fold2 (fun i j => A i j + w * (ind a b i * ind a b j)) a b) = det (n + 1) (fun i j => fold2 A a b i j + w * ((if i = a then 1 else 0) * (if j = a then 1 else 0))) := det_congr fun i j _ _ => by
    have na : ¬ a = b := hne
    have nb : ¬ b = a := Ne.symm hne
    unfold fold2 ind
    by_cases hi : i = b
    · subst hi
      by_cases hj : j = i
      · subst hj
        simp [na, nb]
        omega
      · by_cases hj2 : j = a
        · subst hj2
          simp [na, nb, hj]
          omega
        · simp [na, nb, hj, hj2]
    · by_cases hi2 : i = a
      · subst hi2
        by_cases hj : j = b
        · subst hj
          simp [na, nb]
          omega
        · by_cases hj2 : j = i
          · subst hj2
            simp [na, nb]
          · simp [na, nb, hj, hj2]
      · by_cases hj : j = b
        · subst hj
          simp [na, nb, hi, hi2]
        · by_cases hj2 : j = a
          · subst hj2
            simp [na, nb, hi, hi2]
          · simp [na, nb, hi, hi2, hj, hj2]
  rw [← e1, e2, det_diag ha, det_fold2 ha hb hne]
end My

/-! ## the tables of webs tell their trees -/
namespace My
open PySem L2
abbrev Ed := Nat × Nat × Int
/-- the table of some ties with weights -/
def lapE : List Ed → Mx
  | [] => fun _ _ => 0
  | e :: E => fun i j => e.2.2 * (ind e.1 e.2.1 i * ind e.1 e.2.1 j) + lapE E i j
theorem lapE_snoc (E : List Ed) (e : Ed) (i j : Nat) : lapE (E ++ [e]) i j = lapE E i j + e.2.2 * (ind e.1 e.2.1 i * ind e.1 e.2.1 j) := by
  induction E with
  | nil => show _ + 0 = 0 + _; omega
  | cons f E ih =>
    show _ + lapE (E ++ [e]) i j = _ + lapE E i j + _
    rw [ih]
    omega
def edE (E : List Ed) (z : Int) : Nat × Nat := ((E.getD z.toNat (0, 0, 0)).1, (E.getD z.toNat (0, 0, 0)).2.1)
def wtE (E : List Ed) : List Int → Int
  | [] => 1
  | z :: T => (E.getD z.toNat (0, 0, 0)).2.2 * wtE E T
theorem wtE_app (E : List Ed) (S T : List Int) : wtE E (S ++ T) = wtE E S * wtE E T := by
  induction S with
  | nil => show _ = 1 * _; rw [Int.one_mul]; rfl
  | cons z S ih => show _ * wtE E (S ++ T) = _ * _ * _; rw [ih, Int.mul_assoc]
/-- a tree over the places 0 to k -/
def IsT (k : Nat) (E : List Ed) (T : List Int) : Prop := IsSet E.length T ∧ T.length = k ∧ ∀ i j, i < k + 1 → j < k + 1 → Conn (T.map (edE E)) i j
def TW (k : Nat) (E : List Ed) (s : Int) : Prop := ∃ L : List (List Int), L.Nodup ∧ (∀ T, T ∈ L ↔ IsT k E T) ∧ (L.map (wtE E)).sum = s
theorem getD_up {E : List Ed} {e : Ed} {z : Int} (h0 : 0 ≤ z) (h1 : z < (E.length : Int)) : (E ++ [e]).getD z.toNat (0, 0, 0) = E.getD z.toNat (0, 0, 0) := by
  rw [List.getD_eq_getElem?_getD, List.getD_eq_getElem?_getD, List.getElem?_append_left (by omega)]
theorem getD_last (E : List Ed) (e : Ed) : (E ++ [e]).getD (E.length : Int).toNat (0, 0, 0) = e := by
  rw [List.getD_eq_getElem?_getD, Int.toNat_natCast, List.getElem?_append_right (Nat.le_refl _), Nat.sub_self]
  rfl
theorem map_up {E : List Ed} {e : Ed} {T : List Int} (h : IsSet E.length T) : T.map (edE (E ++ [e])) = T.map (edE E) := List.map_congr_left fun z hz => by
  have := h.all z hz
  unfold edE
  rw [getD_up this.1 this.2]
theorem wt_up {E : List Ed} {e : Ed} {T : List Int} (h : ∀ z ∈ T, 0 ≤ z ∧ z < (E.length : Int)) : wtE (E ++ [e]) T = wtE E T := by
  induction T with
  | nil => rfl
  | cons z T ih =>
    have hz := h z List.mem_cons_self
    show _ * wtE (E ++ [e]) T = _ * wtE E T
    rw [getD_up hz.1 hz.2, ih fun y hy => h y (List.mem_cons_of_mem _ hy)]
theorem isT_up {k : Nat} {E : List Ed} {e : Ed} {T : List Int} (h : IsSet E.length T) : IsT k (E ++ [e]) T ↔ IsT k E T := by
  have h2 : IsSet (E ++ [e]).length T := by rw [List.length_append]; exact h.up
  constructor
  · rintro ⟨_, a, b⟩
    exact ⟨h, a, by rw [map_up h] at b; exact b⟩
  · rintro ⟨_, a, b⟩
    exact ⟨h2, a, by rw [map_up h]; exact b⟩
theorem map_snoc {E : List Ed} {e : Ed} {T : List Int} (h : IsSet E.length T) : (T ++ [(E.length : Int)]).map (edE (E ++ [e])) = T.map (edE E) ++ [(e.1, e.2.1)] := by
  rw [List.map_append, map_up h]
  show _ ++ [edE (E ++ [e]) (E.length : Int)] = _
  unfold edE
  rw [getD_last]
/-- label a goes to b, and is left out -/
def sh (a x : Nat) : Nat := if x < a then x else x - 1
def dl (a b x : Nat) : Nat := if x = a then sh a b else sh a x
theorem sh_sk (a y : Nat) : sh a (sk a y) = y := by
  unfold sk
  by_cases h : y < a
  · rw [if_pos h]
    unfold sh
    rw [if_pos h]
  · rw [if_neg h]
    unfold sh
    rw [if_neg (by omega)]
    omega
theorem sk_ne (a y : Nat) : sk a y ≠ a := by
  unfold sk
  split <;> omega
theorem sk_sh {a x : Nat} (h : x ≠ a) : sk a (sh a x) = x := by
  unfold sh
  by_cases c : x < a
  · rw [if_pos c]
    unfold sk
    rw [if_pos c]
  · rw [if_neg c]
    unfold sk
    rw [if_neg (by omega)]
    omega
theorem dl_sk (a b y : Nat) : dl a b (sk a y) = y := by
  unfold dl
  rw [if_neg (sk_ne a y), sh_sk]
theorem sh_inj {a x y : Nat} (hx : x ≠ a) (hy : y ≠ a) (h : sh a x = sh a y) : x = y := by
  have := congrArg (sk a) h
  rw [sk_sh hx, sk_sh hy] at this
  exact this
theorem dl_eq {a b x y : Nat} (hne : b ≠ a) (h : dl a b x = dl a b y) : x = y ∨ (x = a ∧ y = b) ∨ (x = b ∧ y = a) := by
  unfold dl at h
  by_cases hx : x = a
  · rw [if_pos hx] at h
    by_cases hy : y = a
    · exact .inl (hx.trans hy.symm)
    · rw [if_neg hy] at h
      exact .inr (.inl ⟨hx, (sh_inj hne hy h).symm⟩)
  · rw [if_neg hx] at h
    by_cases hy : y = a
    · rw [if_pos hy] at h
      exact .inr (.inr ⟨sh_inj hx hne h, hy⟩)
    · rw [if_neg hy] at h
      exact .inl (sh_inj hx hy h)
theorem dl_ab (a b : Nat) (hne : b ≠ a) : dl a b a = dl a b b := by
  unfold dl
  rw [if_pos rfl, if_neg hne]
theorem cdl_down {a b : Nat} {es : List (Nat × Nat)} {i j : Nat} (hne : b ≠ a) (c : Conn (es ++ [(a, b)]) i j) : Conn (es.map fun e => (dl a b e.1, dl a b e.2)) (dl a b i) (dl a b j) := by
  induction c with
  | refl i => exact .refl _
  | edge q =>
    rcases List.mem_append.mp q with q | q
    · exact .edge (List.mem_map.mpr ⟨_, q, rfl⟩)
    · have e := List.mem_singleton.mp q
      injection e with e1 e2
      rw [e1, e2, dl_ab a b hne]
      exact .refl _
  | symm _ ih => exact .symm ih
  | trans _ _ a b => exact .trans a b
theorem cdl_lift {a b : Nat} {es : List (Nat × Nat)} {u v : Nat} (hne : b ≠ a) (c : Conn (es.map fun e => (dl a b e.1, dl a b e.2)) u v) : ∀ i j, dl a b i = u → dl a b j = v → Conn (es ++ [(a, b)]) i j := by
  have he : Conn (es ++ [(a, b)]) a b := .edge (by simp)
  have same : ∀ i j, dl a b i = dl a b j → Conn (es ++ [(a, b)]) i j := fun i j e => by
    rcases dl_eq hne e with e | ⟨e1, e2⟩ | ⟨e1, e2⟩
    · rw [e]; exact .refl _
    · rw [e1, e2]; exact he
    · rw [e1, e2]; exact he.symm
  induction c with
  | refl u => exact fun i j e1 e2 => same i j (e1.trans e2.symm)
  | edge q =>
    intro i j e1 e2
    obtain ⟨⟨x, y⟩, hxy, e⟩ := List.mem_map.mp q
    injection e with x1 x2
    exact (same i x (e1.trans x1.symm)).trans (.trans (.edge (List.mem_append_left _ hxy)) (same y j (x2.trans e2.symm)))
  | symm _ ih => exact fun i j e1 e2 => (ih j i e2 e1).symm
  | @trans x y z _ _ ih1 ih2 => exact fun i j e1 e2 => (ih1 i (sk a y) e1 (dl_sk a b y)).trans (ih2 (sk a y) j (dl_sk a b y) e2)
theorem dl_lt {a b x k : Nat} (ha : a < k + 1) (hb : b < k + 2) (hne : b ≠ a) (hx : x < k + 2) : dl a b x < k + 1 := by
  unfold dl sh
  by_cases h : x = a
  · rw [if_pos h]
    split <;> omega
  · rw [if_neg h]
    split <;> omega
theorem cdl {a b k : Nat} {es : List (Nat × Nat)} (ha : a < k + 1) (hb : b < k + 2) (hne : b ≠ a) : (∀ i j, i < k + 2 → j < k + 2 → Conn (es ++ [(a, b)]) i j) ↔ ∀ i j, i < k + 1 → j < k + 1 → Conn (es.map fun e => (dl a b e.1, dl a b e.2)) i j := by
  constructor
  · intro c i j h1 h2
    have := cdl_down hne (c (sk a i) (sk a j) (sk_lt h1) (sk_lt h2))
    rw [dl_sk, dl_sk] at this
    exact this
  · exact fun c i j h1 h2 => cdl_lift hne (c _ _ (dl_lt ha hb hne h1) (dl_lt ha hb hne h2)) i j rfl rfl
/-- ties drawn together -/
def drE (a b : Nat) (E : List Ed) : List Ed := E.map fun e => (dl a b e.1, dl a b e.2.1, e.2.2)
theorem drE_get {a b : Nat} {E : List Ed} {z : Int} (h0 : 0 ≤ z) (h1 : z < (E.length : Int)) : (drE a b E).getD z.toNat (0, 0, 0) = (dl a b (E.getD z.toNat (0, 0, 0)).1, dl a b (E.getD z.toNat (0, 0, 0)).2.1, (E.getD z.toNat (0, 0, 0)).2.2) := by
  unfold drE
  rw [List.getD_eq_getElem?_getD, List.getD_eq_getElem?_getD, List.getElem?_map, List.getElem?_eq_getElem (by omega)]
  rfl
theorem drE_map {a b : Nat} {E : List Ed} {T : List Int} (h : IsSet E.length T) : T.map (edE (drE a b E)) = (T.map (edE E)).map fun e => (dl a b e.1, dl a b e.2) := by
  rw [List.map_map]
  refine List.map_congr_left fun z hz => ?_
  have := h.all z hz
  unfold edE
  rw [drE_get this.1 this.2]
  rfl
theorem drE_wt {a b : Nat} {E : List Ed} {T : List Int} (h : ∀ z ∈ T, 0 ≤ z ∧ z < (E.length : Int)) : wtE (drE a b E) T = wtE E T := by
  induction T with
  | nil => rfl
  | cons z T ih =>
    have hz := h z List.mem_cons_self
    show _ * wtE (drE a b E) T = _ * wtE E T
    rw [drE_get hz.1 hz.2, ih fun y hy => h y (List.mem_cons_of_mem _ hy)]
theorem isT_dr {k a b : Nat} {E : List Ed} {e : Ed} {T : List Int} (ha : a < k + 1) (hb : b < k + 2) (hne : b ≠ a) (he : (e.1 = a ∧ e.2.1 = b) ∨ (e.1 = b ∧ e.2.1 = a)) (h : IsSet E.length T) : IsT (k + 1) (E ++ [e]) (T ++ [(E.length : Int)]) ↔ IsT k (drE a b E) T := by
  have hl : (drE a b E).length = E.length := List.length_map ..
  have hc : (∀ i j, i < k + 2 → j < k + 2 → Conn ((T ++ [(E.length : Int)]).map (edE (E ++ [e]))) i j) ↔ ∀ i j, i < k + 2 → j < k + 2 → Conn (T.map (edE E) ++ [(a, b)]) i j := by
    rw [map_snoc h]
    rcases he with ⟨e1, e2⟩ | ⟨e1, e2⟩
    · rw [e1, e2]
    · rw [e1, e2]
      exact ⟨fun c i j x y => conn_flip (c i j x y), fun c i j x y => conn_flip (c i j x y)⟩
  have h2 : IsSet (E ++ [e]).length (T ++ [(E.length : Int)]) := by rw [List.length_append]; exact h.snoc
  constructor
  · rintro ⟨_, x, y⟩
    refine ⟨hl ▸ h, ?_, ?_⟩
    · rw [List.length_append, List.length_singleton] at x
      omega
    · rw [drE_map h]
      exact (cdl ha hb hne).mp (hc.mp y)
  · rintro ⟨_, x, y⟩
    rw [drE_map h] at y
    refine ⟨h2, by rw [List.length_append, List.length_singleton, x], hc.mpr ((cdl ha hb hne).mpr y)⟩
theorem isT_loop {k : Nat} {E : List Ed} {e : Ed} {T : List Int} (hE : ∀ f ∈ E, f.1 < k + 1 ∧ f.2.1 < k + 1) (he : e.1 = e.2.1) (h : IsSet E.length T) : ¬ IsT k (E ++ [e]) (T ++ [(E.length : Int)]) := by
  rintro ⟨_, x, y⟩
  rw [map_snoc h] at y
  have hcov : ∀ i j, i < k + 1 → j < k + 1 → Conn (T.map (edE E)) i j := fun i j hi hj => (y i j hi hj).lift fun f hf => by
    rcases List.mem_append.mp hf with q | q
    · exact .edge q
    · rw [List.mem_singleton.mp q, he]
      exact .refl _
  have hin : InN (k + 1) (T.map (edE E)) := fun f hf => by
    obtain ⟨z, hz, rfl⟩ := List.mem_map.mp hf
    have := h.all z hz
    unfold edE
    rw [List.getD_eq_getElem?_getD, List.getElem?_eq_getElem (by omega)]
    exact hE _ (List.getElem_mem _)
  have h2 := (cnt_conn (by omega) hin).mpr hcov
  have h3 := cnt_lms _ hin
  rw [List.length_map] at h3
  rw [List.length_append, List.length_singleton] at x
  omega
theorem tw_loop {k : Nat} {E : List Ed} {e : Ed} {s : Int} (hE : ∀ f ∈ E, f.1 < k + 1 ∧ f.2.1 < k + 1) (he : e.1 = e.2.1) (h : TW k E s) : TW k (E ++ [e]) s := by
  obtain ⟨L, a1, a2, a3⟩ := h
  refine ⟨L, a1, fun T => ?_, ?_⟩
  · rw [a2]
    constructor
    · exact fun h => (isT_up h.1).mpr h
    · intro h
      have hs := h.1
      rw [List.length_append] at hs
      rcases set_last hs with c | ⟨T', c, c2⟩
      · exact (isT_up c).mp h
      · exact absurd (c ▸ h) (isT_loop hE he c2)
  · rw [← a3]
    refine congrArg List.sum (List.map_congr_left fun T hT => wt_up ((a2 T).mp hT).1.all)
theorem sum_app (a b : List Int) : (a ++ b).sum = a.sum + b.sum := by
  induction a with
  | nil => rw [List.nil_append, List.sum_nil, Int.zero_add]
  | cons x a ih => rw [List.cons_append, List.sum_cons, List.sum_cons, ih]; omega
theorem sum_scale (w : Int) (l : List (List Int)) (f : List Int → Int) : (l.map fun T => f T * w).sum = w * (l.map f).sum := by
  induction l with
  | nil => rw [List.map_nil, List.map_nil, List.sum_nil, Int.mul_zero]
  | cons x l ih => rw [List.map_cons, List.map_cons, List.sum_cons, List.sum_cons, ih, Int.mul_add, Int.mul_comm]
theorem tw_part {k a b : Nat} {E : List Ed} {e : Ed} {s1 s2 : Int} (ha : a < k + 1) (hb : b < k + 2) (hne : b ≠ a) (he : (e.1 = a ∧ e.2.1 = b) ∨ (e.1 = b ∧ e.2.1 = a)) (h1 : TW (k + 1) E s1) (h2 : TW k (drE a b E) s2) : TW (k + 1) (E ++ [e]) (s1 + e.2.2 * s2) := by
  obtain ⟨L, a1, a2, a3⟩ := h1
  obtain ⟨M, b1, b2, b3⟩ := h2
  have hl : (drE a b E).length = E.length := List.length_map ..
  refine ⟨L ++ M.map (· ++ [(E.length : Int)]), List.nodup_append.mpr ⟨a1, ?_, fun x hx y hy c => ?_⟩, fun T => ?_, ?_⟩
  · exact List.Pairwise.map _ (fun x y h c => h (List.append_cancel_right c)) b1
  · obtain ⟨z, hz, c2⟩ := List.mem_map.mp hy
    have := ((a2 x).mp hx).1.all (E.length : Int) (by rw [c, ← c2]; simp)
    omega
  · rw [List.mem_append, a2, List.mem_map]
    constructor
    · rintro (h | ⟨T', hT, rfl⟩)
      · exact (isT_up h.1).mpr h
      · have := (b2 T').mp hT
        exact (isT_dr ha hb hne he (hl ▸ this.1)).mpr this
    · intro h
      have hs := h.1
      rw [List.length_append] at hs
      rcases set_last hs with c | ⟨T', c, c2⟩
      · exact .inl ((isT_up c).mp h)
      · exact .inr ⟨T', (b2 T').mpr ((isT_dr ha hb hne he c2).mp (c ▸ h)), c.symm⟩
  · rw [List.map_append, sum_app, List.map_map]
    have e1 : L.map (wtE (E ++ [e])) = L.map (wtE E) := List.map_congr_left fun T hT => wt_up ((a2 T).mp hT).1.all
    have e2 : M.map (wtE (E ++ [e]) ∘ (· ++ [(E.length : Int)])) = M.map fun T => wtE (drE a b E) T * e.2.2 := List.map_congr_left fun T hT => by
      have hs : IsSet E.length T := hl ▸ ((b2 T).mp hT).1
      show wtE (E ++ [e]) (T ++ [(E.length : Int)]) = _
      rw [wtE_app, wt_up hs.all, drE_wt hs.all]
      show _ * (((E ++ [e]).getD (E.length : Int).toNat (0, 0, 0)).2.2 * 1) = _
      rw [getD_last, Int.mul_one]
    rw [e1, e2, a3, sum_scale, b3]
end My

/-! ## the matrix-tree theorem -/
namespace My
open PySem L2
theorem ind_dl {a b u v i : Nat} (hne : b ≠ a) : ind (dl a b u) (dl a b v) i = ind u v (sk a i) + (if sk a i = b then ind u v a else 0) := by
  have key : ∀ x : Nat, ((if i = dl a b x then 1 else 0 : Int)) = (if sk a i = x then 1 else 0) + (if sk a i = b then (if a = x then 1 else 0) else 0) := fun x => by
    unfold dl
    by_cases hx : x = a
    · rw [if_pos hx, if_neg (show ¬ sk a i = x from hx ▸ sk_ne a i), Int.zero_add]
      by_cases h : sk a i = b
      · rw [if_pos h, if_pos hx.symm, if_pos]
        rw [← h, sh_sk]
      · rw [if_neg h, if_neg]
        intro e
        exact h (by rw [e, sk_sh hne])
    · rw [if_neg hx]
      have e2 : (if sk a i = b then (if a = x then 1 else 0 : Int) else 0) = 0 := by
        rw [if_neg (Ne.symm hx)]
        split <;> rfl
      rw [e2, Int.add_zero]
      by_cases h : sk a i = x
      · rw [if_pos h, if_pos]
        rw [← h, sh_sk]
      · rw [if_neg h, if_neg]
        intro e
        exact h (by rw [e, sk_sh hx])
  unfold ind
  rw [key u, key v]
  by_cases h : sk a i = b
  · rw [if_pos h, if_pos h, if_pos h]
    omega
  · rw [if_neg h, if_neg h, if_neg h]
    omega
theorem lapE_dr {a b : Nat} (hne : b ≠ a) (i j : Nat) : ∀ E : List Ed, lapE (drE a b E) i j = fold2 (lapE E) a b (sk a i) (sk a j)
  | [] => by
    show (0 : Int) = _
    unfold fold2 lapE
    by_cases h : sk a i = b
    · by_cases h2 : sk a j = b
      · rw [if_pos h, if_pos h2]; rfl
      · rw [if_pos h, if_neg h2]; rfl
    · by_cases h2 : sk a j = b
      · rw [if_neg h, if_pos h2]; rfl
      · rw [if_neg h, if_neg h2]; rfl
  | e :: E => by
    have ih := lapE_dr hne i j E
    show e.2.2 * (ind (dl a b e.1) (dl a b e.2.1) i * ind (dl a b e.1) (dl a b e.2.1) j) + lapE (drE a b E) i j = _
    rw [ih, ind_dl hne, ind_dl hne]
    unfold fold2
    show _ = (e.2.2 * (ind e.1 e.2.1 (sk a i) * ind e.1 e.2.1 (sk a j)) + lapE E (sk a i) (sk a j) + (if sk a i = b then e.2.2 * (ind e.1 e.2.1 a * ind e.1 e.2.1 (sk a j)) + lapE E a (sk a j) else 0)) + (if sk a j = b then (e.2.2 * (ind e.1 e.2.1 (sk a i) * ind e.1 e.2.1 a) + lapE E (sk a i) a) + (if sk a i = b then e.2.2 * (ind e.1 e.2.1 a * ind e.1 e.2.1 a) + lapE E a a else 0) else 0)
    generalize ind e.1 e.2.1 (sk a i) = x
    generalize ind e.1 e.2.1 (sk a j) = y
    generalize ind e.1 e.2.1 a = z
    generalize e.2.2 = w
    by_cases h : sk a i = b
    · by_cases h2 : sk a j = b
      · simp only [if_pos h, if_pos h2, Int.mul_add, Int.add_mul]
        omega
      · simp only [if_pos h, if_neg h2, Int.mul_add, Int.add_mul, Int.add_zero, Int.mul_zero]
        omega
    · by_cases h2 : sk a j = b
      · simp only [if_neg h, if_pos h2, Int.mul_add, Int.add_mul, Int.add_zero, Int.zero_mul]
        omega
      · simp only [if_neg h, if_neg h2, Int.add_zero]
theorem ind_swap (u v i : Nat) : ind v u i = - ind u v i := by
  unfold ind
  omega
theorem det_lap {k a b : Nat} {E : List Ed} {e : Ed} (ha : a < k + 1) (hb : b < k + 2) (hne : b ≠ a) (he : (e.1 = a ∧ e.2.1 = b) ∨ (e.1 = b ∧ e.2.1 = a)) : det (k + 1) (lapE (E ++ [e])) = det (k + 1) (lapE E) + e.2.2 * det k (lapE (drE a b E)) := by
  have e1 : det (k + 1) (lapE (E ++ [e])) = det (k + 1) (fun i j => lapE E i j + e.2.2 * (ind a b i * ind a b j)) := det_congr fun i j _ _ => by
    rw [lapE_snoc]
    rcases he with ⟨x, y⟩ | ⟨x, y⟩
    · rw [x, y]
    · rw [x, y, ind_swap a b i, ind_swap a b j, Int.neg_mul_neg]
  have e2 : det k (lapE (drE a b E)) = det k (fun i j => fold2 (lapE E) a b (sk a i) (sk a j)) := det_congr fun i j _ _ => lapE_dr hne i j E
  rw [e1, e2]
  by_cases hk : b < k + 1
  · exact det_tie ha hk (Ne.symm hne)
  · have e3 : det (k + 1) (fun i j => lapE E i j + e.2.2 * (ind a b i * ind a b j)) = det (k + 1) (fun i j => lapE E i j + e.2.2 * ((if i = a then 1 else 0) * (if j = a then 1 else 0))) := det_congr fun i j hi hj => by
      unfold ind
      rw [if_neg (show ¬ i = b by omega), if_neg (show ¬ j = b by omega), Int.sub_zero, Int.sub_zero]
    have e4 : det k (fun i j => fold2 (lapE E) a b (sk a i) (sk a j)) = det k (fun i j => lapE E (sk a i) (sk a j)) := det_congr fun i j hi hj => by
      have h1 := sk_lt (j := a) hi
      have h2 := sk_lt (j := a) hj
      unfold fold2
      rw [if_neg (show ¬ sk a i = b by omega), if_neg (show ¬ sk a j = b by omega), Int.add_zero, Int.add_zero]
    rw [e3, e4]
    exact det_diag ha
theorem lapE_loop {E : List Ed} {e : Ed} (he : e.1 = e.2.1) : lapE (E ++ [e]) = lapE E := by
  funext i j
  rw [lapE_snoc, he]
  unfold ind
  rw [Int.sub_self, Int.zero_mul, Int.mul_zero, Int.add_zero]
/-- the table tells the trees and their weights -/
theorem matrix_tree : ∀ (m k : Nat) (E : List Ed), E.length = m → (∀ e ∈ E, e.1 < k + 1 ∧ e.2.1 < k + 1) → TW k E (det k (lapE E))
  | 0, k, E, hm, _ => by
    obtain rfl := List.length_eq_zero_iff.mp hm
    cases k with
    | zero =>
      refine ⟨[[]], by simp, fun T => ?_, rfl⟩
      rw [List.mem_singleton]
      constructor
      · rintro rfl
        exact ⟨IsSet.nil _, rfl, fun i j hi hj => by
          have : i = j := by omega
          rw [this]
          exact .refl j⟩
      · intro h
        exact List.length_eq_zero_iff.mp h.2.1
    | succ k =>
      refine ⟨[], .nil, fun T => ⟨fun h => (by cases h), fun h => ?_⟩, ?_⟩
      · have h1 := h.1.len
        have h2 := h.2.1
        rw [List.length_nil] at h1
        omega
      · exact (det_row0 (i := 0) (by omega) fun j _ => rfl).symm
  | m + 1, k, E, hm, hE => by
    obtain ⟨E', e, rfl⟩ : ∃ E' e, E = E' ++ [e] := ⟨E.dropLast, E.getLast (fun h => by rw [h] at hm; cases hm), (List.dropLast_concat_getLast _).symm⟩
    have hm' : E'.length = m := by rw [List.length_append] at hm; simpa using hm
    have hE' : ∀ f ∈ E', f.1 < k + 1 ∧ f.2.1 < k + 1 := fun f hf => hE f (List.mem_append_left _ hf)
    have he := hE e (by simp)
    have ih := matrix_tree m k E' hm' hE'
    by_cases hl : e.1 = e.2.1
    · rw [lapE_loop hl]
      exact tw_loop hE' hl ih
    · obtain ⟨k', rfl⟩ : ∃ k', k = k' + 1 := ⟨k - 1, by omega⟩
      obtain ⟨a, b, ha, hb, hne, hab⟩ : ∃ a b, a < k' + 1 ∧ b < k' + 2 ∧ b ≠ a ∧ ((e.1 = a ∧ e.2.1 = b) ∨ (e.1 = b ∧ e.2.1 = a)) := by
        by_cases c : e.1 < k' + 1
        · exact ⟨e.1, e.2.1, c, he.2, fun h => hl h.symm, .inl ⟨rfl, rfl⟩⟩
        · exact ⟨e.2.1, e.1, by omega, he.1, hl, .inr ⟨rfl, rfl⟩⟩
      have ih2 := matrix_tree m k' (drE a b E') (by unfold drE; rw [List.length_map]; exact hm') fun f hf => by
        obtain ⟨g, hg, rfl⟩ := List.mem_map.mp hf
        have := hE' g hg
        exact ⟨dl_lt ha hb hne this.1, dl_lt ha hb hne this.2⟩
      rw [det_lap ha hb hne hab]
      exact tw_part ha hb hne hab ih ih2
/-! ### for webs -/
def edsOf (ps : List (Int × Int)) (ws : List Int) : List Ed := List.zipWith (fun p w => (p.1.toNat, p.2.toNat, w)) ps ws
theorem isT_web {n : Int} {ps : List (Int × Int)} {ws : List Int} {T : List Int} (h1 : 1 ≤ n) (hw : ws.length = ps.length) : IsT (n - 1).toNat (edsOf ps ws) T ↔ IsTree n ps T := by
  have hl : (edsOf ps ws).length = ps.length := by unfold edsOf; rw [List.length_zipWith]; omega
  have hm : IsSet ps.length T → T.map (edE (edsOf ps ws)) = endsOf ps T := fun hs => List.map_congr_left fun z hz => by
    have := hs.all z hz
    unfold edE edsOf
    rw [List.getD_eq_getElem?_getD, List.getElem?_zipWith, List.getElem?_eq_getElem (by omega), List.getElem?_eq_getElem (show z.toNat < ws.length by omega), List.getD_eq_getElem?_getD, List.getElem?_eq_getElem (by omega)]
    rfl
  unfold IsT IsTree
  rw [hl]
  constructor
  · rintro ⟨a, b, c⟩
    rw [hm a] at c
    exact ⟨a, by omega, fun i j hi hj => c i j (by omega) (by omega)⟩
  · rintro ⟨a, b, c⟩
    rw [hm a]
    exact ⟨a, by omega, fun i j hi hj => c i j (by omega) (by omega)⟩
theorem wt_one {E : List Ed} (h : ∀ e ∈ E, e.2.2 = 1) : ∀ {T : List Int}, (∀ z ∈ T, 0 ≤ z ∧ z < (E.length : Int)) → wtE E T = 1
  | [], _ => rfl
  | z :: T, hb => by
    have hz := hb z List.mem_cons_self
    show (E.getD z.toNat (0, 0, 0)).2.2 * wtE E T = 1
    rw [wt_one h fun y hy => hb y (List.mem_cons_of_mem _ hy), Int.mul_one, List.getD_eq_getElem?_getD, List.getElem?_eq_getElem (by omega)]
    exact h _ (List.getElem_mem _)
theorem sum_ones {l : List (List Int)} {f : List Int → Int} (h : ∀ T ∈ l, f T = 1) : (l.map f).sum = (l.length : Int) := by
  induction l with
  | nil => rfl
  | cons x l ih =>
    rw [List.map_cons, List.sum_cons, ih fun T hT => h T (List.mem_cons_of_mem _ hT), h x List.mem_cons_self, List.length_cons]
    omega
theorem eds_in {n : Int} {ps : List (Int × Int)} (g : GoodW n ps) (ws : List Int) : ∀ e ∈ edsOf ps ws, e.1 < (n - 1).toNat + 1 ∧ e.2.1 < (n - 1).toNat + 1 := fun e he => by
  unfold edsOf at he
  obtain ⟨i, hi⟩ := List.getElem?_of_mem he
  rw [List.getElem?_zipWith] at hi
  have g1 := g.1
  cases h1 : ps[i]? with
  | none => rw [h1] at hi; cases hi
  | some p =>
    cases h2 : ws[i]? with
    | none => rw [h1, h2] at hi; cases hi
    | some w =>
      rw [h1, h2] at hi
      obtain rfl := Option.some.inj hi
      obtain ⟨a, b, c, d⟩ := g.2.2.2 p (List.mem_of_getElem? h1)
      exact ⟨by show p.1.toNat < _; omega, by show p.2.toNat < _; omega⟩
/-- as many trees as the determinant says -/
theorem tree_det {n : Int} {ps : List (Int × Int)} (g : GoodW n ps) {L : List (List Int)} (hL : L.Nodup) (hm : ∀ l, l ∈ L ↔ IsTree n ps l) : det (n - 1).toNat (lapE (edsOf ps (List.replicate ps.length 1))) = (L.length : Int) := by
  have g1 := g.1
  have hw : (List.replicate ps.length (1 : Int)).length = ps.length := List.length_replicate
  obtain ⟨M, a1, a2, a3⟩ := matrix_tree _ (n - 1).toNat (edsOf ps (List.replicate ps.length 1)) rfl (eds_in g _)
  have hl : (edsOf ps (List.replicate ps.length 1)).length = ps.length := by unfold edsOf; rw [List.length_zipWith, hw]; omega
  have w1 : ∀ e ∈ edsOf ps (List.replicate ps.length (1 : Int)), e.2.2 = 1 := fun e he => by
    unfold edsOf at he
    obtain ⟨i, hi⟩ := List.getElem?_of_mem he
    rw [List.getElem?_zipWith] at hi
    cases h1 : ps[i]? with
    | none => rw [h1] at hi; cases hi
    | some p =>
      cases h2 : (List.replicate ps.length (1 : Int))[i]? with
      | none => rw [h1, h2] at hi; cases hi
      | some w =>
        rw [h1, h2] at hi
        obtain rfl := Option.some.inj hi
        exact List.eq_of_mem_replicate (List.mem_of_getElem? h2)
  rw [← a3, sum_ones fun T hT => wt_one w1 ((a2 T).mp hT).1.all]
  have hp : M.Perm L := (List.perm_ext_iff_of_nodup a1 hL).mpr fun l => by rw [a2, hm, isT_web g1 hw]
  rw [hp.length_eq]
end My

/-! ## o[i] += e, o a list -/
namespace L2
open PySem PySem.Spec PyProof.Rows
section
variable {X : Cx}
def rGetL (K : PySem.W.Frag) : V → V → Hp → VK → Prop := fun x y H Q => ∃ p xs i v, x = .ref p ∧ y = .int i ∧ SqL K H p xs ∧ 0 ≤ i ∧ xs[i.toNat]? = some v ∧ Q v H
theorem get_listK (K : PySem.W.Frag) (hk : X.K = K := by rfl) : PGet X (rGetL K) := by
  subst hk
  intro pins s σ H o i ov iv Q I ro ri h
  obtain ⟨p, xs, j, z, rfl, rfl, hq, h0, he, q⟩ := h
  cases ro
  obtain ⟨t, rfl⟩ := ri
  obtain ⟨its, r, pl, hz⟩ := I.list hq
  obtain ⟨w, ew, rw'⟩ := r.get he
  have hl := r.length
  have hn := line63
  have hlt := (List.getElem?_eq_some_iff.mp he).1
  exact wpAny_getItem_list pl.isList h0 (by omega) (by simpa using ew) ⟨z, H, I, rw', q⟩
end
end L2

/-! ## a table that is written into; loops over two lists -/
namespace My
open PySem L2
/-- a table of own rows at r, made since H0 -/
structure TabAt (H0 : Hp) (r : Addr) (n : Nat) (H : Hp) (ys : List V) (L : List (List Int)) : Prop where
  tab : H r = some (.lst ys)
  rows : Bears (LiV r H) ys L
  len : L.length = n
  all : ∀ l ∈ L, l.length = n
  nd : ys.Nodup
  new : ∀ A, V.ref A ∈ ys → H0 A = none
theorem TabAt.same {H0 H H' : Hp} {r : Addr} {n : Nat} {ys : List V} {L : List (List Int)} (s : Same H H') (h : TabAt H0 r n H ys L) : TabAt H0 r n H' ys L := ⟨s _ _ h.tab, h.rows.imp fun _ _ q => q.same s, h.len, h.all, h.nd, h.new⟩
theorem TabAt.at {H0 H : Hp} {r : Addr} {n : Nat} {ys : List V} {L : List (List Int)} (h : TabAt H0 r n H ys L) {i : Nat} (hi : i < n) : ∃ (A : Addr) (l : List Int), ys[i]? = some (.ref A) ∧ L[i]? = some l ∧ H A = some (.lst (IL l)) ∧ l.length = n ∧ H0 A = none ∧ A ≠ r := by
  have hl := h.len
  obtain ⟨l, e⟩ : ∃ l, L[i]? = some l := ⟨_, List.getElem?_eq_getElem (by omega)⟩
  obtain ⟨v, e1, A, rfl, e2, e3⟩ := h.rows.2 i l e
  exact ⟨A, l, e1, e, e2, h.all l (List.mem_of_getElem? e), h.new A (List.mem_of_getElem? e1), e3⟩
theorem TabAt.put {H0 H : Hp} {r : Addr} {n : Nat} {ys : List V} {L : List (List Int)} (h : TabAt H0 r n H ys L) {i : Nat} {A : Addr} {l l' : List Int} (e1 : ys[i]? = some (.ref A)) (e2 : L[i]? = some l) (e3 : A ≠ r) (hl : l'.length = n) : TabAt H0 r n (upd H A (.lst (IL l'))) ys (L.set i l') := by
  have hi := (List.getElem?_eq_some_iff.mp e2).1
  have hil := (List.getElem?_eq_some_iff.mp e1).1
  refine ⟨by rw [upd_ne (Ne.symm e3)]; exact h.tab, ⟨by rw [List.length_set]; exact h.rows.1, fun j m em => ?_⟩, by rw [List.length_set]; exact h.len, fun m hm => ?_, h.nd, h.new⟩
  · rw [List.getElem?_set] at em
    by_cases c : i = j
    · subst c
      rw [if_pos rfl, if_pos hi] at em
      obtain rfl := Option.some.inj em
      exact ⟨_, e1, A, rfl, upd_same, e3⟩
    · rw [if_neg c] at em
      obtain ⟨v, f1, B, rfl, f2, f3⟩ := h.rows.2 j m em
      refine ⟨_, f1, B, rfl, ?_, f3⟩
      rw [upd_ne]
      · exact f2
      · intro e
        rw [e] at f1
        exact c (nodup_get h.nd e1 f1)
  · rcases List.mem_or_eq_of_mem_set hm with e | e
    · exact h.all m e
    · rw [e]; exact hl
theorem fnL_put {L : List (List Int)} {l : List Int} {i j : Nat} {x : Int} (hi : L[i]? = some l) (hj : j < l.length) (a b : Nat) : fnL (L.set i (l.set j x)) a b = if a = i ∧ b = j then x else fnL L a b := by
  have hil := (List.getElem?_eq_some_iff.mp hi).1
  unfold fnL
  by_cases ha : a = i
  · subst ha
    have e1 : (L.set a (l.set j x)).getD a [] = l.set j x := by rw [List.getD_eq_getElem?_getD, List.getElem?_set, if_pos rfl, if_pos hil]; rfl
    have e2 : L.getD a [] = l := by rw [List.getD_eq_getElem?_getD, hi]; rfl
    rw [e1, e2]
    by_cases hb : b = j
    · subst hb
      rw [if_pos ⟨rfl, rfl⟩, List.getD_eq_getElem?_getD, List.getElem?_set, if_pos rfl, if_pos hj]
      rfl
    · rw [if_neg (fun h => hb h.2), List.getD_eq_getElem?_getD, List.getElem?_set, if_neg (Ne.symm hb), ← List.getD_eq_getElem?_getD]
  · have e1 : (L.set i (l.set j x)).getD a [] = L.getD a [] := by rw [List.getD_eq_getElem?_getD, List.getD_eq_getElem?_getD, List.getElem?_set, if_neg (Ne.symm ha)]
    rw [e1, if_neg (fun h => ha h.1)]
/-- the four numbers that a tie changes -/
theorem four {A : Mx} {u v : Nat} {w : Int} (hne : u ≠ v) (a b : Nat) {B C D E : Mx} (h1 : ∀ a b, B a b = if a = u ∧ b = u then A u u + w else A a b) (h2 : ∀ a b, C a b = if a = v ∧ b = v then B v v + w else B a b) (h3 : ∀ a b, D a b = if a = u ∧ b = v then C u v - w else C a b) (h4 : ∀ a b, E a b = if a = v ∧ b = u then D v u - w else D a b) : E a b = A a b + w * (ind u v a * ind u v b) := by
  have nv : ¬ v = u := Ne.symm hne
  unfold ind
  by_cases x1 : a = u
  · subst x1
    by_cases y1 : b = a
    · subst y1
      simp [h4, h3, h2, h1, hne, nv]
    · by_cases y2 : b = v
      · subst y2
        simp [h4, h3, h2, h1, hne, nv]
        omega
      · simp [h4, h3, h2, h1, hne, nv, y1, y2]
  · by_cases x2 : a = v
    · subst x2
      by_cases y1 : b = u
      · subst y1
        simp [h4, h3, h2, h1, hne, nv]
        omega
      · by_cases y2 : b = a
        · subst y2
          simp [h4, h3, h2, h1, hne, nv]
        · simp [h4, h3, h2, h1, hne, nv, y1, y2]
    · simp [h4, h3, h2, h1, hne, nv, x1, x2]
theorem eds_snoc {ps : List (Int × Int)} {ws : List Int} {i : Nat} {p : Int × Int} {w : Int} (hp : ps[i]? = some p) (hw : ws[i]? = some w) : edsOf (ps.take (i + 1)) (ws.take (i + 1)) = edsOf (ps.take i) (ws.take i) ++ [(p.1.toNat, p.2.toNat, w)] := by
  have h1 := (List.getElem?_eq_some_iff.mp hp).1
  have h2 := (List.getElem?_eq_some_iff.mp hw).1
  unfold edsOf
  rw [List.take_succ, List.take_succ, hp, hw]
  rw [List.zipWith_append (by rw [List.length_take, List.length_take]; omega)]
  rfl
end My

/-! ## one tie left out, wherever it stands -/
namespace My
open PySem L2
end My

/-! ## trees told back -/
namespace My
open PySem L2
end My

/-! ## two webs put together: their trees -/
namespace My
open PySem L2
theorem set_join {k l : Nat} {T S : List Int} (hT : IsSet k T) (hS : IsSet l S) : IsSet (k + l) (T ++ S.map (· + (k : Int))) := by
  obtain ⟨a1, a2⟩ := isSet_iff.mp hT
  obtain ⟨b1, b2⟩ := isSet_iff.mp hS
  refine isSet_iff.mpr ⟨fun x hx => ?_, List.pairwise_append.mpr ⟨a2, List.Pairwise.map _ (fun a b h => by omega) b2, fun x hx y hy => ?_⟩⟩
  · rcases List.mem_append.mp hx with e | e
    · have := a1 x e
      omega
    · obtain ⟨y, hy, rfl⟩ := List.mem_map.mp e
      have := b1 y hy
      omega
  · obtain ⟨w, hw, rfl⟩ := List.mem_map.mp hy
    have := a1 x hx
    have := b1 w hw
    omega
theorem set_split {k l : Nat} {U : List Int} (h : IsSet (k + l) U) : ∃ T S, U = T ++ S.map (· + (k : Int)) ∧ IsSet k T ∧ IsSet l S := by
  obtain ⟨a1, a2⟩ := isSet_iff.mp h
  have hT : IsSet k (U.filter fun x => decide (x < (k : Int))) := isSet_iff.mpr ⟨fun x hx => by
    obtain ⟨m1, m2⟩ := List.mem_filter.mp hx
    exact ⟨(a1 x m1).1, of_decide_eq_true m2⟩, a2.filter _⟩
  have hS : IsSet l ((U.filter fun x => decide (¬ x < (k : Int))).map (· - (k : Int))) := isSet_iff.mpr ⟨fun x hx => by
    obtain ⟨y, hy, rfl⟩ := List.mem_map.mp hx
    obtain ⟨m1, m2⟩ := List.mem_filter.mp hy
    have := a1 y m1
    have := of_decide_eq_true m2
    omega, List.Pairwise.map _ (fun a b h => by omega) (a2.filter _)⟩
  refine ⟨_, _, asc_ext a2 (isSet_iff.mp (set_join hT hS)).2 fun x => ?_, hT, hS⟩
  rw [List.mem_append, List.map_map]
  constructor
  · intro hx
    by_cases c : x < (k : Int)
    · exact .inl (List.mem_filter.mpr ⟨hx, decide_eq_true c⟩)
    · exact .inr (List.mem_map.mpr ⟨x, List.mem_filter.mpr ⟨hx, decide_eq_true c⟩, by show x - (k : Int) + (k : Int) = x; omega⟩)
  · rintro (hx | hx)
    · exact (List.mem_filter.mp hx).1
    · obtain ⟨y, hy, e⟩ := List.mem_map.mp hx
      have e : y - (k : Int) + (k : Int) = x := e
      have e2 : y = x := by omega
      exact e2 ▸ (List.mem_filter.mp hy).1
theorem set_join_inj {k l : Nat} {T S T' S' : List Int} (hT : IsSet k T) (hS : IsSet l S) (hT' : IsSet k T') (hS' : IsSet l S') (e : T ++ S.map (· + (k : Int)) = T' ++ S'.map (· + (k : Int))) : T = T' ∧ S = S' := by
  have key : ∀ {A B C D : List Int}, IsSet k A → IsSet l B → IsSet k C → IsSet l D → A ++ B.map (· + (k : Int)) = C ++ D.map (· + (k : Int)) → (∀ x, x ∈ A → x ∈ C) ∧ ∀ x, x ∈ B → x ∈ D := fun {A B C D} hA hB hC hD e => by
    constructor
    · intro x hx
      have h1 : x ∈ C ++ D.map (· + (k : Int)) := e ▸ List.mem_append_left _ hx
      rcases List.mem_append.mp h1 with q | q
      · exact q
      · obtain ⟨y, hy, e2⟩ := List.mem_map.mp q
        have := hA.all x hx
        have := hD.all y hy
        omega
    · intro x hx
      have h1 : x + (k : Int) ∈ C ++ D.map (· + (k : Int)) := e ▸ List.mem_append_right _ (List.mem_map.mpr ⟨x, hx, rfl⟩)
      rcases List.mem_append.mp h1 with q | q
      · have := hC.all _ q
        have := hB.all x hx
        omega
      · obtain ⟨y, hy, e2⟩ := List.mem_map.mp q
        have e3 : y = x := by omega
        exact e3 ▸ hy
  obtain ⟨p1, p2⟩ := key hT hS hT' hS' e
  obtain ⟨q1, q2⟩ := key hT' hS' hT hS e.symm
  exact ⟨asc_ext (isSet_iff.mp hT).2 (isSet_iff.mp hT').2 fun x => ⟨p1 x, q1 x⟩, asc_ext (isSet_iff.mp hS).2 (isSet_iff.mp hS').2 fun x => ⟨p2 x, q2 x⟩⟩
end My

/-! ## how many sets there are; two webs put together the other way round -/
namespace My
open PySem L2
theorem sets_many : ∀ {k : Nat} {L : List (List Int)}, L.Nodup → (∀ l ∈ L, IsSet k l) → L.length ≤ 2 ^ k
  | 0, L, hn, h => by
    have h0 : ∀ l ∈ L, l = [] := fun l hl => List.length_eq_zero_iff.mp (Nat.le_zero.mp (h l hl).len)
    match L, h0, hn with
    | [], _, _ => exact Nat.zero_le _
    | [_], _, _ => exact Nat.le_refl 1
    | x :: y :: M, h0, hn =>
      have h1 := h0 x List.mem_cons_self
      have h2 := h0 y (List.mem_cons_of_mem _ List.mem_cons_self)
      exact absurd (h1.trans h2.symm) ((List.pairwise_cons.mp hn).1 y List.mem_cons_self)
  | k + 1, L, hn, h => by
    have hA := sets_many (k := k) (L := L.filter fun l => decide (¬ (k : Int) ∈ l)) (hn.filter _) fun l hl => by
      obtain ⟨m1, m2⟩ := List.mem_filter.mp hl
      have hk := of_decide_eq_true m2
      obtain ⟨a1, a2⟩ := isSet_iff.mp (h l m1)
      refine isSet_iff.mpr ⟨fun x hx => ?_, a2⟩
      have h1 := a1 x hx
      have h2 : x ≠ (k : Int) := fun e => hk (e ▸ hx)
      omega
    have hB := sets_many (k := k) (L := (L.filter fun l => decide ((k : Int) ∈ l)).map fun l => wo l (k : Int)) (by
      refine List.pairwise_map.mpr ((hn.filter _).imp_of_mem fun {a b} ha hb hab e => hab ?_)
      obtain ⟨a1, a2⟩ := List.mem_filter.mp ha
      obtain ⟨b1, b2⟩ := List.mem_filter.mp hb
      refine asc_ext (isSet_iff.mp (h a a1)).2 (isSet_iff.mp (h b b1)).2 fun x => ?_
      by_cases c : x = (k : Int)
      · rw [c]
        exact ⟨fun _ => of_decide_eq_true b2, fun _ => of_decide_eq_true a2⟩
      · have e1 : x ∈ a ↔ x ∈ wo a (k : Int) := by rw [wo_mem]; exact ⟨fun h => ⟨h, c⟩, fun h => h.1⟩
        have e2 : x ∈ b ↔ x ∈ wo b (k : Int) := by rw [wo_mem]; exact ⟨fun h => ⟨h, c⟩, fun h => h.1⟩
        rw [e1, e2, e]) fun l hl => by
      obtain ⟨a, ha, rfl⟩ := List.mem_map.mp hl
      obtain ⟨a1, _⟩ := List.mem_filter.mp ha
      obtain ⟨b1, b2⟩ := isSet_iff.mp (h a a1)
      refine isSet_iff.mpr ⟨fun x hx => ?_, wo_lt _ b2⟩
      obtain ⟨c1, c2⟩ := wo_mem.mp hx
      have := b1 x c1
      omega
    rw [List.length_map] at hB
    have e : L.length = (L.filter fun l => decide ((k : Int) ∈ l)).length + (L.filter fun l => decide (¬ (k : Int) ∈ l)).length := by
      clear hA hB h hn
      induction L with
      | nil => rfl
      | cons a L ih =>
        rw [List.filter_cons, List.filter_cons]
        by_cases c : (k : Int) ∈ a
        · rw [if_pos (decide_eq_true c), if_neg (by simp [c]), List.length_cons, List.length_cons]
          omega
        · rw [if_neg (by simp [c]), if_pos (decide_eq_true c), List.length_cons, List.length_cons]
          omega
    rw [Nat.pow_succ]
    omega
end My

/-! ## the table of a set: its places ascend -/
namespace L2
open PySem
end L2

/-! ## an int put into a set, its table kept in order -/
namespace L2
open PySem PySem.Spec PyProof.Rows
section
variable {prog : Program} {w : World} {A : Around} {E : Value → Shared → Prop} {s : Shared}
end
end L2

/-! ## set(list of ints), its table kept in order -/
namespace L2
open PySem PySem.Spec PyProof.Rows
section
variable {prog : Program} {w : World} {A : Around} {R : Result → Shared → Prop} {I : Addr} {fp wr : List Addr} {G : Array GenState → Array GenState → Prop} {n : Nat} {P : Nat → Value → Prop} {St : Nat → Shared → Prop}
end
section
variable {prog : Program} {w : World} {A : Around} {E : Value → Shared → Prop} {s : Shared}
end
end L2

/-! ## the call set(list of ints) -/
namespace L2
open PySem PySem.Spec PyProof.Rows
section
variable {prog : Program} {w : World} {A : Around} {E : Value → Shared → Prop} {s : Shared}
end
end L2

/-! ## what a set's iterator tells -/
namespace L2
open PySem PySem.Spec PyProof.Rows
/-- a set's iterator: what goes first, how many were told, the set, its size and its epoch -/
def IsSi (h : Heap) (I a : Addr) (f : Value) (i n ep : Nat) : Prop := ∃ o, h.get? I = some o ∧ o.cls = .type "set_iterator" ∧ o.data = .fields #[f, rawInt (i : Int), .ref a, rawInt (n : Int), rawInt (ep : Int)]
theorem IsSi.keep {h h' : Heap} {I a : Addr} {f : Value} {i n ep : Nat} (x : IsSi h I a f i n ep) (e : ∀ o, h.get? I = some o → h'.get? I = some o) : IsSi h' I a f i n ep := let ⟨o, p, q⟩ := x; ⟨o, e _ p, q⟩
/-- what a set holds -/
def SetIs (h : Heap) (a : Addr) (es : Array (Int × Value)) (ep : Nat) (t : SetTable) : Prop := ∃ o, h.get? a = some o ∧ o.ExactSet ∧ o.data = .set es ep t
theorem SetIs.keep {h h' : Heap} {a : Addr} {es : Array (Int × Value)} {ep : Nat} {t : SetTable} (x : SetIs h a es ep t) (e : ∀ o, h.get? a = some o → h'.get? a = some o) : SetIs h' a es ep t := let ⟨o, p, q⟩ := x; ⟨o, e _ p, q⟩
section
variable {prog : Program} {w : World} {A : Around} {E : Value → Shared → Prop} {s : Shared}
end
end L2

/-! ## a set walked through -/
namespace L2
open PySem PySem.Spec PyProof.Rows
section
variable {prog : Program} {w : World} {A : Around} {E : Value → Shared → Prop} {s : Shared}
end
end L2

/-! ## a set walked through in a drawn order; its iterator made -/
namespace L2
open PySem PySem.Spec PyProof.Rows
section
variable {prog : Program} {w : World} {A : Around} {E : Value → Shared → Prop} {s : Shared}
def IsPl (h : Heap) (b : Addr) (pl : List Nat) : Prop := ∃ o n, h.get? b = some o ∧ o.data = .seq (pl.map fun (i : Nat) => rawInt (i : Int)).toArray n
theorem IsPl.keep {h h' : Heap} {b : Addr} {pl : List Nat} (x : IsPl h b pl) (e : ∀ o, h.get? b = some o → h'.get? b = some o) : IsPl h' b pl := let ⟨o, n, p, q⟩ := x; ⟨o, n, e _ p, q⟩
end
end L2

/-! ## sorted(set of ints) -/
namespace L2
open PySem PySem.Spec PyProof.Rows
section
variable {prog : Program} {w : World} {A B : Around} {E : Value → Shared → Prop} {s : Shared}
end
end L2

/-! ## a set's items as a list; sorted(set of ints) -/
namespace L2
open PySem PySem.Spec PyProof.Rows
section
variable {prog : Program} {w : World} {A : Around} {E : Value → Shared → Prop} {s : Shared}
end
end L2

/-! ## sorted(set(list of ints)) -/
namespace L2
open PySem PySem.Spec PyProof.Rows
theorem perm_of_len {m : List Int} : ∀ {l : List Int}, m.Nodup → l.length = m.length → (∀ x ∈ m, x ∈ l) → l.Perm m := by
  induction m with
  | nil => intro l _ h _; rw [List.length_eq_zero_iff.mp h]
  | cons x m ih =>
    intro l hn hl hs
    have hx := hs x List.mem_cons_self
    have hn' := List.nodup_cons.mp hn
    refine (List.perm_cons_erase hx).trans ((ih hn'.2 (by rw [List.length_erase_of_mem hx, hl]; rfl) fun y hy => ?_).cons x)
    have ne : y ≠ x := fun e => hn'.1 (by rw [← e]; exact hy)
    exact (List.mem_erase_of_ne ne).mpr (hs y (List.mem_cons_of_mem _ hy))
section
variable {prog : Program} {w : World} {A : Around} {E : Value → Shared → Prop} {s : Shared}
end
section
variable {X : Cx} {p p2 pos pos2 : Pos} {e : Expr} {t : TA}
end
end L2

/-! ## pieces drawn together: trees with some ties and without others -/
namespace My
open PySem L2
section
variable {n : Int} {ps : List (Int × Int)} {I O S : List Int} {f g : Nat → Nat} {k : Nat}
end
end My

/-! ## marks numbered in their order -/
namespace My
open PySem L2
section
variable {N : Nat} {es : List (Nat × Nat)} {F : List Int}
end
end My

/-! ## counts with and without, when a tie is left out or drawn together -/
namespace My
open PySem L2
end My

/-! ## counts that meet: by one tie, over all ties, turned about -/
namespace My
open PySem L2
end My

/-! ## a list out of another one, from its end -/
namespace My
open PySem L2
section
variable {K : PySem.W.Frag} {a : Addr} {xs : List V} {g : TG} {tt : TT} {te : TE} {o : Nat} {fr : List Nat} {σ : St} {H : Hp} {Q : VK}
end
end My

/-! ## the number of a tree: how many are less -/
namespace My
open PySem L2
theorem sub_len2 {α : Type} [DecidableEq α] : ∀ {l m : List α}, l.Nodup → (∀ x ∈ l, x ∈ m) → l.length ≤ m.length
  | [], _, _, _ => Nat.zero_le _
  | x :: l, m, hn, hs => by
    have hx := hs x List.mem_cons_self
    obtain ⟨h1, h2⟩ := List.nodup_cons.mp hn
    have := sub_len2 (m := m.erase x) h2 fun y hy => (List.mem_erase_of_ne fun e => h1 (by rw [← e]; exact hy)).mpr (hs y (List.mem_cons_of_mem _ hy))
    rw [List.length_erase_of_mem hx] at this
    have := List.length_pos_of_mem hx
    rw [List.length_cons]
    omega
end My

/-! ## a tree found by its number, tie by tie -/
namespace My
open PySem L2
section
variable {n : Int} {ps : List (Int × Int)} {I O : List Int} {i b c : Nat}
end
end My

/-! ## the number of a tree in the row of all -/
namespace My
open PySem L2
end My

/-! ## abs(int) -/
namespace L2
open PySem PySem.Spec PyProof.Rows
section
variable {X : Cx}
end
end L2

/-! ## a piece of a list -/
namespace My
open PySem L2
end My

/-! ## steps of a block told once; try: .. except W: without a name -/
namespace My
open PySem L2
theorem contS {s rest : TS} {D : Ends} {σ : L2.St} {H : Hp} (P : L2.St → Hp → Prop) (h1 : ∀ σ' H', P σ' H' → rest D σ' H') (h2 : ∀ K : L2.St → Hp → Prop, (∀ σ' H', P σ' H' → K σ' H') → s { D with nx := K } σ H) : tSeq s rest D σ H := h2 _ h1
end My
namespace L2
open PySem PySem.Spec PyProof.Rows
end L2

/-! ## tuple < tuple, of ints -/
namespace L2
open PySem PySem.Spec PyProof.Rows
section
variable {X : Cx}
end
end L2

/-! ## how many trees there can be; ranks and order; trees tie by tie -/
namespace My
open PySem L2
theorem cmb_len30 {m : Nat} (hm : m ≤ 30) : ∀ k, (cmb (m : Int) k).length ≤ 30 ^ k
  | 0 => Nat.le_refl 1
  | k + 1 => by
    have h1 := flat_len (m := m) (cmb (m : Int) k) fun s hs => (cmb_mem.mp hs).2
    have h2 := cmb_len30 hm k
    have h3 : m * (cmb (m : Int) k).length ≤ 30 * 30 ^ k := Nat.mul_le_mul hm h2
    rw [Nat.pow_succ, Nat.mul_comm]
    exact Nat.le_trans h1 h3
theorem tc_small {n : Int} {ps : List (Int × Int)} {c : Nat} (g : GoodW n ps) (h : TC n ps c) : c < 10 ^ 20 := by
  obtain ⟨L, hn, hm, rfl⟩ := h
  obtain ⟨g1, g2, g3, _⟩ := g
  refine Nat.lt_of_le_of_lt (m := 30 ^ 13) (Nat.le_trans (sub_len2 (m := cmb (ps.length : Int) (n - 1).toNat) hn fun x hx => cmb_mem.mpr ⟨?_, ((hm x).mp hx).1⟩) (Nat.le_trans (cmb_len30 (by omega) _) (Nat.pow_le_pow_right (by decide) (by omega)))) (by decide)
  have := ((hm x).mp hx).2.1
  omega
end My

/-! ## tuple <= tuple, of ints; a <= b <= c <= d <= e -/
namespace HT
open PySem PyProof.Rows
section
open PySem.SeqAt
open PySem.AutoSeq1 (wpAny_loadPart')
open PySem.MeetsSeq PySem.MeetsSeq2 PySem.MeetsSeq3
end
section
variable {prog : Program} {w : World} {A : Around} {E : Value → Shared → Prop} {s : Shared}
end
end HT
namespace L2
open PySem PySem.Spec PyProof.Rows
section
variable {X : Cx}
end
end L2

/-! ## webs made so that they hang together -/
namespace My
open PySem L2
end My

/-! ## a list whose own name is seen by a list within it -/
namespace L2
open PySem PySem.Spec PyProof.Rows
section
variable {M : Model} {A : Around} {E : Value → Shared → Prop} {s : Shared}
end
/-- as CompScope, with one own name xo that is seen by a list within -/
structure CompScopeD (sc0 : Scope) (N N' : List Str) (o : Nat) (fr : List Nat) (scope : Scope) (xo : Str) : Prop where
  kind : scope.kind = .function
  one : (scope.names.filter fun y => y.2 == .cell) = [(xo, .cell)]
  loc : (scope.names.all fun y => y.2 != .local || scope.names.lookup y.1 == some .local) = true
  free : (scope.names.all fun y => y.2 != .free || (y.1 != xo && (sc0.names.lookup y.1 == some .cell || sc0.names.lookup y.1 == some .free))) = true
  len : N'.length = o + fr.length
  sees : ((List.range fr.length).all fun j => match fr[j]? with
    | none => false
    | some y => match N[y]? with
      | none => false
      | some x => N'[o + j]? == some x && scope.names.lookup x == some .free) = true
section
variable {X : Cx} {pins : List (Addr × Obj)} {σ : St} {H : Hp} {s : Shared} {N' : List Str} {o : Nat} {fr : List Nat} {scope : Scope} {fp : List Addr} {xo : Str}
end

section
variable {xo : Str} {X : Cx} {N' : List Str} {o : Nat} {fr : List Nat} {scope : Scope} {elt tg iter : Expr} {ifs : List Expr} {pos : Pos} {wi : TI} {g : TG} {tt : TT} {te : TE}
end
end L2

/-! ## sums over trees: weights -/
namespace My
open PySem L2
/-- the product of the weights of some ties -/
def wtL (ws : List Int) : List Int → Int
  | [] => 1
  | z :: T => ws.getD z.toNat 0 * wtL ws T
/-- the sum over all trees -/
def WS (n : Int) (ps : List (Int × Int)) (ws : List Int) (s : Int) : Prop := ∃ L : List (List Int), L.Nodup ∧ (∀ T, T ∈ L ↔ IsTree n ps T) ∧ (L.map (wtL ws)).sum = s
theorem sum_permL {f : List Int → Int} {a b : List (List Int)} (h : a.Perm b) : (a.map f).sum = (b.map f).sum := by
  induction h with
  | nil => rfl
  | cons x _ ih => rw [List.map_cons, List.map_cons, List.sum_cons, List.sum_cons, ih]
  | swap x y l => rw [List.map_cons, List.map_cons, List.map_cons, List.map_cons, List.sum_cons, List.sum_cons, List.sum_cons, List.sum_cons]; omega
  | trans _ _ i1 i2 => exact i1.trans i2
theorem WS.uniq {n : Int} {ps : List (Int × Int)} {ws : List Int} {s t : Int} (h1 : WS n ps ws s) (h2 : WS n ps ws t) : s = t := by
  obtain ⟨L, l1, l2, l3⟩ := h1
  obtain ⟨M, m1, m2, m3⟩ := h2
  rw [← l3, ← m3]
  exact sum_permL ((List.perm_ext_iff_of_nodup l1 m1).mpr fun T => (l2 T).trans (m2 T).symm)
theorem wtE_wtL {ps : List (Int × Int)} {ws : List Int} (hw : ws.length = ps.length) : ∀ {T : List Int}, (∀ z ∈ T, 0 ≤ z ∧ z < (ps.length : Int)) → wtE (edsOf ps ws) T = wtL ws T
  | [], _ => rfl
  | z :: T, hb => by
    have hz := hb z List.mem_cons_self
    show ((edsOf ps ws).getD z.toNat (0, 0, 0)).2.2 * wtE (edsOf ps ws) T = ws.getD z.toNat 0 * wtL ws T
    rw [wtE_wtL hw fun y hy => hb y (List.mem_cons_of_mem _ hy)]
    have e : ((edsOf ps ws).getD z.toNat (0, 0, 0)).2.2 = ws.getD z.toNat 0 := by
      unfold edsOf
      rw [List.getD_eq_getElem?_getD, List.getElem?_zipWith, List.getElem?_eq_getElem (by omega), List.getElem?_eq_getElem (show z.toNat < ws.length by omega), List.getD_eq_getElem?_getD, List.getElem?_eq_getElem (by omega)]
      rfl
    rw [e]
theorem ws_det {n : Int} {ps : List (Int × Int)} {ws : List Int} (g : GoodW n ps) (hw : ws.length = ps.length) : WS n ps ws (det (n - 1).toNat (lapE (edsOf ps ws))) := by
  have g1 := g.1
  obtain ⟨M, a1, a2, a3⟩ := matrix_tree _ (n - 1).toNat (edsOf ps ws) rfl (eds_in g _)
  have hm : ∀ T, T ∈ M ↔ IsTree n ps T := fun T => by rw [a2 T, isT_web g1 hw]
  refine ⟨M, a1, hm, ?_⟩
  rw [← a3]
  exact congrArg List.sum (List.map_congr_left fun T hT => (wtE_wtL hw ((hm T).mp hT).1.all).symm)
/-- a table with bounded weights -/
theorem ind_absW (u v i : Nat) : (ind u v i).natAbs ≤ 1 := by
  unfold ind
  split <;> split <;> decide
theorem lap_absW {B : Nat} : ∀ {E : List Ed}, (∀ e ∈ E, e.2.2.natAbs ≤ B) → ∀ i j, (lapE E i j).natAbs ≤ E.length * B
  | [], _, i, j => Nat.zero_le _
  | e :: E, h, i, j => by
    have ih := lap_absW (fun f hf => h f (List.mem_cons_of_mem _ hf)) i j
    have h1 := ind_absW e.1 e.2.1 i
    have h2 := ind_absW e.1 e.2.1 j
    have h0 := h e List.mem_cons_self
    have h3 : (ind e.1 e.2.1 i * ind e.1 e.2.1 j).natAbs ≤ 1 := by rw [Int.natAbs_mul]; exact Nat.mul_le_mul h1 h2
    have h4 : (e.2.2 * (ind e.1 e.2.1 i * ind e.1 e.2.1 j)).natAbs ≤ B := by
      rw [Int.natAbs_mul]
      have := Nat.mul_le_mul h0 h3
      omega
    show (e.2.2 * (ind e.1 e.2.1 i * ind e.1 e.2.1 j) + lapE E i j).natAbs ≤ (e :: E).length * B
    have := Int.natAbs_add_le (e.2.2 * (ind e.1 e.2.1 i * ind e.1 e.2.1 j)) (lapE E i j)
    rw [List.length_cons, Nat.succ_mul]
    omega
end My

/-! ## for x, y in zip(list, tuple) -/
namespace L2
open PySem PySem.Spec PyProof.Rows
section
variable {prog : Program} {w : World} {A : Around} {E : Value → Shared → Prop} {s : Shared}
/-- a tuple's next one, asked by zip -/
theorem nxT_item {j t : Addr} {i : Nat} {us : Array Value} {u : Value} {Q : Value → Shared → Prop} (hj : s.heap.IsTupleIter j t i) (ht : s.heap.IsTuple t us) (hu : us[i]? = some u)
    (q : ∀ h', h'.IsTupleIter j t (i + 1) → Heap.SameBut j s.heap h' → Q u { s with heap := h' }) : wpAny (model prog w) A (Builtin.SmallTypes.nextOf (.ref j)) Q E s := by
  obtain ⟨o1, e1, c1, d1⟩ := id hj
  obtain ⟨o2, e2, _, n2, d2⟩ := ht
  unfold Builtin.SmallTypes.nextOf
  refine wpAny_bind (wpAny_callSpecial?_slot (name := Str.ofString "__next__") hj.typeIs F.slot_tuple_iterator_next (wpAny_call_entry F.slot_tuple_iterator_next hj.typeIs F.entry_tuple_iterator_next ?_ (F.args_tuple_iterator_next_1 _)))
  show wpAny _ _ (field (.ref j) 0 >>= _) _ _ s
  refine wpAny_bind (wpAny_field e1 d1 (x := .ref t) rfl ?_)
  rw [if_neg (show ¬ (Value.ref t == Value.none) = true from Bool.false_ne_true)]
  show wpAny _ _ (field (.ref j) 1 >>= _) _ _ s
  refine wpAny_bind (wpAny_field e1 d1 (x := .int i 0) rfl ?_)
  show wpAny _ _ (seqItems? (.ref t) >>= _) _ _ s
  refine wpAny_bind (wpAny_seqItems e2 d2 ?_)
  simp only [hu, Int.toNat_natCast]
  refine wpAny_bind (wpAny_setField e1 d1 (by simp) (wpAny_pure ⟨u, rfl, wpAny_pure (q _ ?_ (Heap.SameBut.update ..))⟩))
  refine ⟨_, Heap.get?_update_self _ e1 (Obj.isFreed_of_fields (Obj.data_mapFields d1 _)), (Obj.cls_mapFields ..).trans c1, ?_⟩
  rw [Obj.data_mapFields d1]
  simp [rawInt]
theorem nxT_end {j t : Addr} {i : Nat} {us : Array Value} {Q : Value → Shared → Prop} (hh : A.handled = none) (hj : s.heap.IsTupleIter j t i) (ht : s.heap.IsTuple t us) (hu : us[i]? = none)
    (q : ∀ h' e, Heap.ExtBut j s.heap h' → (∃ o, h'.get? e = some o ∧ o.cls = .type "StopIteration") → E (.ref e) { s with heap := h' }) : wpAny (model prog w) A (Builtin.SmallTypes.nextOf (.ref j)) Q E s := by
  obtain ⟨o1, e1, c1, d1⟩ := id hj
  obtain ⟨o2, e2, _, n2, d2⟩ := ht
  unfold Builtin.SmallTypes.nextOf
  refine wpAny_bind (wpAny_callSpecial?_slot (name := Str.ofString "__next__") hj.typeIs F.slot_tuple_iterator_next (wpAny_call_entry F.slot_tuple_iterator_next hj.typeIs F.entry_tuple_iterator_next ?_ (F.args_tuple_iterator_next_1 _)))
  show wpAny _ _ (field (.ref j) 0 >>= _) _ _ s
  refine wpAny_bind (wpAny_field e1 d1 (x := .ref t) rfl ?_)
  rw [if_neg (show ¬ (Value.ref t == Value.none) = true from Bool.false_ne_true)]
  show wpAny _ _ (field (.ref j) 1 >>= _) _ _ s
  refine wpAny_bind (wpAny_field e1 d1 (x := .int i 0) rfl ?_)
  show wpAny _ _ (seqItems? (.ref t) >>= _) _ _ s
  refine wpAny_bind (wpAny_seqItems e2 d2 ?_)
  simp only [hu, Int.toNat_natCast]
  refine wpAny_bind (wpAny_rule (wpAny_bind (wpAny_setField e1 d1 (by simp) (wpAny_bind (m := newExc (.type "StopIteration") []) ?_))))
  simp only [newTuple, newExc]
  refine wpAny_bind (wpAny_newObj_type (wpAny_bind (m := firstArgMember _ _) (wpAny_of_eq (a := Value.none) (by first | rfl | (simp only [firstArgMember]; rfl)) (wpAny_newObj_type ?_ (by size_fits)))) (by size_fits))
  unfold raiseNew
  refine wpAny_bind (wpAny_handled ?_)
  first
    | rw [hh]
    | rw [show A.in1.handled = none from hh]
  refine wpAny_bind (wpAny_pure (wpAny_throw (q _ _ (((Heap.SameBut.update ..).extBut.push _).push _) ⟨_, Heap.get?_push_size _ rfl, rfl⟩)))
/-- the next pair of a list and a tuple -/
theorem zipT_item {z P O i j l t : Addr} {k m : Nat} {xs us : Array Value} {x u a b : Value} {Q : Value → Shared → Prop} (D : ZipApart z P O i j l t) (y0 : IsZip s.heap z P O .none) (p0 : IsPair s.heap P (.ref i) (.ref j)) (o0 : IsPair s.heap O a b)
    (hi : s.heap.IsListIter i l k) (hj : s.heap.IsTupleIter j t m) (hl : s.heap.IsList l xs) (ht : s.heap.IsTuple t us) (hx : xs[k]? = some x) (hu : us[m]? = some u)
    (q : ∀ h', IsZip h' z P O (rawInt s.heap.objs.size) → IsPair h' O x u → h'.IsListIter i l (k + 1) → h'.IsTupleIter j t (m + 1) → IsPair h' s.heap.objs.size x u → h'.objs.size = s.heap.objs.size + 1 →
      (∀ c o, c ≠ z → c ≠ O → c ≠ i → c ≠ j → s.heap.get? c = some o → h'.get? c = some o) → Q (.ref s.heap.objs.size) { s with heap := h' }) :
    wpAny (model prog w) A (Builtin.«zip.__next__» ⟨[.ref z], []⟩) (fun r s' => ∃ v, r = .done (.ret v) ∧ Q v s') E s := by
  show wpAny _ _ (field (.ref z) 2 >>= _) _ E s
  refine wpAny_bind (wpAny_field y0 rfl (x := .bool false) rfl ?_)
  show wpAny _ _ (field (.ref z) 3 >>= _) _ E s
  refine wpAny_bind (wpAny_field y0 rfl (x := .ref P) rfl (wpAny_bind (wpAny_seqItems p0 rfl (wpAny_bind (m := Builtin.SmallTypes.ownedTupleIsFree (.ref z)) ?_))))
  unfold Builtin.SmallTypes.ownedTupleIsFree
  refine wpAny_bind (wpAny_field y0 rfl (x := .none) rfl (wpAny_pure ?_))
  simp only [if_true]
  refine wpAny_bind (wpAny_rule (wpAny_bind (wpAny_field y0 rfl (x := .ref O) rfl (wpAny_bind (wpAny_setField_rec y0 (by simp) fun g1 y1 w1 => wpAny_bind ?_)))))
  replace y1 : IsZip g1 z P O .ellipsis := y1
  simp only [List.forIn_cons, List.forIn_nil, List.zipIdx_cons, List.zipIdx_nil]
  refine wpAny_bind (wpAny_bind (wpAny_onRaise (wpAny_bind (m := Builtin.SmallTypes.nextOf (.ref i)) ?_)))
  refine wpAny_nextOf_list_item (hi.extBut w1.extBut D.i1z) (hl.extBut w1.extBut D.l1z) hx fun g2 i2 w2 => wpAny_pure ?_
  have o2 : IsPair g2 O a b := w2.extBut _ _ D.TOi1 (w1.extBut _ _ D.TOz o0)
  refine wpAny_bind (wpAny_seqItems o2 rfl (wpAny_bind (wpAny_updateSeq_pair o2 fun g3 o3 w3 => wpAny_bind (wpAny_letGo (wpAny_pure ?_)))))
  replace o3 : IsPair g3 O x b := o3
  refine wpAny_bind (wpAny_bind (wpAny_onRaise (wpAny_bind (m := Builtin.SmallTypes.nextOf (.ref j)) ?_)))
  refine nxT_item (((hj.extBut w1.extBut D.i2z).extBut w2.extBut D.i12.symm).extBut w3.extBut D.TOi2.symm) (((ht.extBut w1.extBut D.l2z).extBut w2.extBut D.l2i1).extBut w3.extBut D.l2TO) hu fun g4 j4 w4 => wpAny_pure ?_
  have o4 : IsPair g4 O x b := w4.extBut _ _ D.TOi2 o3
  refine wpAny_bind (wpAny_seqItems o4 rfl (wpAny_bind (wpAny_updateSeq_pair o4 fun g5 o5 w5 => wpAny_bind (wpAny_letGo (wpAny_pure (wpAny_pure ?_))))))
  replace o5 : IsPair g5 O x u := o5
  refine wpAny_bind (wpAny_seqItems o5 rfl (wpAny_bind (wpAny_newTuple ?_)))
  have sz : g5.objs.size = s.heap.objs.size := by rw [w5.1, w4.1, w3.1, w2.1, w1.1]
  have y5 : IsZip g5 z P O .ellipsis := w5.extBut _ _ D.TOz.symm (w4.extBut _ _ D.i2z.symm (w3.extBut _ _ D.TOz.symm (w2.extBut _ _ D.i1z.symm y1)))
  have kp : ∀ c o, c ≠ z → c ≠ O → c ≠ i → c ≠ j → s.heap.get? c = some o → g5.get? c = some o := fun c o c1 c2 c3 c4 e => w5.extBut _ _ c2 (w4.extBut _ _ c4 (w3.extBut _ _ c2 (w2.extBut _ _ c3 (w1.extBut _ _ c1 e))))
  have i5 : g5.IsListIter i l (k + 1) := ((i2.extBut w3.extBut D.TOi1.symm).extBut w4.extBut D.i12).extBut w5.extBut D.TOi1.symm
  have j5 : g5.IsTupleIter j t (m + 1) := j4.extBut w5.extBut D.TOi2.symm
  have lz : z < g5.objs.size := Heap.lt_size y5
  show wpAny _ _ (Builtin.SmallTypes.ownedTupleHandOut (.ref z) (.ref g5.objs.size) >>= _) _ E _
  refine wpAny_bind ?_
  unfold Builtin.SmallTypes.ownedTupleHandOut
  have y6 : IsZip (g5.push { cls := .type "tuple", data := .seq #[x, u] }) z P O .ellipsis := Heap.get?_push_of_some _ y5
  refine wpAny_bind (wpAny_setField_rec y6 (by simp) fun g7 y7 w7 => ?_)
  replace y7 : IsZip g7 z P O (rawInt g5.objs.size) := y7
  refine wpAny_setField_rec y7 (by simp) fun g8 y8 w8 => ?_
  replace y8 : IsZip g8 z P O (rawInt g5.objs.size) := y8
  have up : ∀ c o, c ≠ z → g5.get? c = some o → g8.get? c = some o := fun c o c1 e => w8.extBut _ _ c1 (w7.extBut _ _ c1 (Heap.get?_push_of_some _ e))
  have n8 : IsPair g8 g5.objs.size x u := w8.extBut _ _ (Nat.ne_of_gt lz) (w7.extBut _ _ (Nat.ne_of_gt lz) (Heap.get?_push_size _ rfl))
  have z8 : g8.objs.size = g5.objs.size + 1 := by rw [w8.1, w7.1, Heap.size_push]
  rw [sz] at y8 n8 z8
  refine wpAny_pure ⟨_, rfl, ?_⟩
  show Q (.ref g5.objs.size) _
  rw [sz]
  exact q g8 y8 (up _ _ D.TOz o5) (i5.at fun o e => up _ o D.i1z e) (j5.at fun o e => up _ o D.i2z e) n8 z8 fun c o c1 c2 c3 c4 e => up c o c1 (kp c o c1 c2 c3 c4 e)
theorem zipT_end {z P O i j l t : Addr} {k m : Nat} {xs us : Array Value} {a b : Value} {Q : Fin → Shared → Prop} (hh : A.handled = none) (D : ZipApart z P O i j l t) (y0 : IsZip s.heap z P O .none) (p0 : IsPair s.heap P (.ref i) (.ref j)) (o0 : IsPair s.heap O a b)
    (hi : s.heap.IsListIter i l k) (hj : s.heap.IsTupleIter j t m) (hl : s.heap.IsList l xs) (ht : s.heap.IsTuple t us) (hE : xs[k]? = none ∨ us[m]? = none)
    (q : ∀ h' e, (∀ c o, c ≠ z → c ≠ O → c ≠ i → c ≠ j → s.heap.get? c = some o → h'.get? c = some o) → (∃ o, h'.get? e = some o ∧ o.cls = .type "StopIteration") → E (.ref e) { s with heap := h' }) :
    wpAny (model prog w) A (Builtin.«zip.__next__» ⟨[.ref z], []⟩) Q E s := by
  show wpAny _ _ (field (.ref z) 2 >>= _) _ E s
  refine wpAny_bind (wpAny_field y0 rfl (x := .bool false) rfl ?_)
  show wpAny _ _ (field (.ref z) 3 >>= _) _ E s
  refine wpAny_bind (wpAny_field y0 rfl (x := .ref P) rfl (wpAny_bind (wpAny_seqItems p0 rfl (wpAny_bind (m := Builtin.SmallTypes.ownedTupleIsFree (.ref z)) ?_))))
  unfold Builtin.SmallTypes.ownedTupleIsFree
  refine wpAny_bind (wpAny_field y0 rfl (x := .none) rfl (wpAny_pure ?_))
  simp only [if_true]
  refine wpAny_bind (wpAny_rule (wpAny_bind (wpAny_field y0 rfl (x := .ref O) rfl (wpAny_bind (wpAny_setField_rec y0 (by simp) fun g1 y1 w1 => wpAny_bind ?_)))))
  replace y1 : IsZip g1 z P O .ellipsis := y1
  simp only [List.forIn_cons, List.forIn_nil, List.zipIdx_cons, List.zipIdx_nil]
  refine wpAny_bind (wpAny_bind (wpAny_onRaise (wpAny_bind (m := Builtin.SmallTypes.nextOf (.ref i)) ?_)))
  cases hx : xs[k]? with
  | none =>
    refine wpAny_nextOf_list_end hh (hi.extBut w1.extBut D.i1z) (hl.extBut w1.extBut D.l1z) hx fun g2 e w2 ⟨oe, he, ce⟩ => ?_
    have y2 : IsZip g2 z P O .ellipsis := w2 _ _ D.i1z.symm y1
    have ez : e ≠ z := by
      rintro rfl
      rw [y2] at he
      cases he
      simp at ce
    exact wpAny_setField_rec y2 (by simp) fun g3 _ w3 => q g3 e (fun c o c1 _ c3 _ r => w3.extBut _ _ c1 (w2 _ _ c3 (w1.extBut _ _ c1 r))) ⟨oe, w3.extBut _ _ ez he, ce⟩
  | some x =>
    have hu : us[m]? = none := hE.resolve_left (by rw [hx]; exact Option.some_ne_none x)
    refine wpAny_nextOf_list_item (hi.extBut w1.extBut D.i1z) (hl.extBut w1.extBut D.l1z) hx fun g2 i2 w2 => wpAny_pure ?_
    have o2 : IsPair g2 O a b := w2.extBut _ _ D.TOi1 (w1.extBut _ _ D.TOz o0)
    refine wpAny_bind (wpAny_seqItems o2 rfl (wpAny_bind (wpAny_updateSeq_pair o2 fun g3 o3 w3 => wpAny_bind (wpAny_letGo (wpAny_pure ?_)))))
    refine wpAny_bind (wpAny_bind (wpAny_onRaise (wpAny_bind (m := Builtin.SmallTypes.nextOf (.ref j)) ?_)))
    refine nxT_end hh (((hj.extBut w1.extBut D.i2z).extBut w2.extBut D.i12.symm).extBut w3.extBut D.TOi2.symm) (((ht.extBut w1.extBut D.l2z).extBut w2.extBut D.l2i1).extBut w3.extBut D.l2TO) hu fun g4 e w4 ⟨oe, he, ce⟩ => ?_
    have y4 : IsZip g4 z P O .ellipsis := w4 _ _ D.i2z.symm (w3.extBut _ _ D.TOz.symm (w2.extBut _ _ D.i1z.symm y1))
    have ez : e ≠ z := by
      rintro rfl
      rw [y4] at he
      cases he
      simp at ce
    exact wpAny_setField_rec y4 (by simp) fun g5 _ w5 => q g5 e (fun c o c1 c2 c3 c4 r => w5.extBut _ _ c1 (w4 _ _ c4 (w3.extBut _ _ c2 (w2.extBut _ _ c3 (w1.extBut _ _ c1 r))))) ⟨oe, w5.extBut _ _ ez he, ce⟩
theorem nextZT_item {z P O i j l t : Addr} {k m : Nat} {xs us : Array Value} {x u a b : Value} {Q : Option Value → Shared → Prop} (D : ZipApart z P O i j l t) (y0 : IsZip s.heap z P O .none) (p0 : IsPair s.heap P (.ref i) (.ref j)) (o0 : IsPair s.heap O a b)
    (hi : s.heap.IsListIter i l k) (hj : s.heap.IsTupleIter j t m) (hl : s.heap.IsList l xs) (ht : s.heap.IsTuple t us) (hx : xs[k]? = some x) (hu : us[m]? = some u)
    (q : ∀ h', IsZip h' z P O (rawInt s.heap.objs.size) → IsPair h' O x u → h'.IsListIter i l (k + 1) → h'.IsTupleIter j t (m + 1) → IsPair h' s.heap.objs.size x u → h'.objs.size = s.heap.objs.size + 1 →
      (∀ c o, c ≠ z → c ≠ O → c ≠ i → c ≠ j → s.heap.get? c = some o → h'.get? c = some o) → Q (some (.ref s.heap.objs.size)) { s with heap := h' }) : wpAny (model prog w) A (pyNext (.ref z)) Q E s := by
  have ty : s.TypeIs (.ref z) "zip" := ⟨_, y0, rfl⟩
  unfold pyNext
  refine wpAny_bind (wpAny_attempt (wpAny_callSpecial?_slot (name := Str.ofString "__next__") ty F.slot_zip_next (wpAny_call_entry F.slot_zip_next ty F.entry_zip_next ?_ (F.args_zip_next_1 _))))
  exact zipT_item D y0 p0 o0 hi hj hl ht hx hu fun h' b1 b2 b3 b4 b5 b6 b7 => wpAny_pure (q h' b1 b2 b3 b4 b5 b6 b7)
theorem nextZT_end {z P O i j l t : Addr} {k m : Nat} {xs us : Array Value} {a b : Value} {Q : Option Value → Shared → Prop} (hh : A.handled = none) (D : ZipApart z P O i j l t) (y0 : IsZip s.heap z P O .none) (p0 : IsPair s.heap P (.ref i) (.ref j)) (o0 : IsPair s.heap O a b)
    (hi : s.heap.IsListIter i l k) (hj : s.heap.IsTupleIter j t m) (hl : s.heap.IsList l xs) (ht : s.heap.IsTuple t us) (hE : xs[k]? = none ∨ us[m]? = none)
    (q : ∀ h', (∀ c o, c ≠ z → c ≠ O → c ≠ i → c ≠ j → s.heap.get? c = some o → h'.get? c = some o) → Q none { s with heap := h' }) : wpAny (model prog w) A (pyNext (.ref z)) Q E s := by
  have ty : s.TypeIs (.ref z) "zip" := ⟨_, y0, rfl⟩
  unfold pyNext
  refine wpAny_bind (wpAny_attempt (wpAny_callSpecial?_slot (name := Str.ofString "__next__") ty F.slot_zip_next (wpAny_call_entry F.slot_zip_next ty F.entry_zip_next ?_ (F.args_zip_next_1 _))))
  refine zipT_end hh D y0 p0 o0 hi hj hl ht hE fun h' e hk ⟨o, ho, co⟩ => ?_
  exact wpAny_bind (wpAny_isInstance (T := "StopIteration") (b := true) ⟨o, ho, co⟩ isSubtype_stop (wpAny_pure (q _ hk)))
end
/-- what zip(list, tuple) lays on the heap -/
def zH (h : Heap) (l t : Addr) : Heap :=
  ((((h.push { cls := .type "list_iterator", data := .fields #[.ref l, .int 0 0] }).push { cls := .type "tuple_iterator", data := .fields #[.ref t, .int 0 0] }).push { cls := .type "tuple", data := .seq #[.ref h.objs.size, .ref (h.objs.size + 1)] }).push { cls := .type "tuple", data := .seq #[.none, .none] }).push { cls := .type "zip", data := .fields #[.none, .bool false, .bool false, .ref (h.objs.size + 2), .ref (h.objs.size + 3)] }
theorem zipT_new (l t : Addr) (xs us : Array Value) :
    Meets (Builtin.«zip.__new__» ⟨[.type "zip", .ref l, .ref t], []⟩) (fun _ R s => s.heap.IsList l xs ∧ s.heap.IsTuple t us ∧ R (.ok (.ret (.ref (s.heap.objs.size + 4)))) { s with heap := zH s.heap l t }) :=
  .of_wp fun prog w A R s h => by
    obtain ⟨hp, g, d, tk, os⟩ := s
    obtain ⟨hl, ht, h⟩ := h
    have hsub := sub_zip
    have f1 : Heap.IsList (Shared.heap ⟨hp, g, d, tk, os⟩) l xs := hl
    have f2 : Heap.IsTuple (Shared.heap ⟨hp.push { cls := .type "list_iterator", data := .fields #[.ref l, .int 0 0] }, g, d, tk, os⟩) t us := Heap.IsTuple.push ht _
    wp_walk using wpAny_pyIter_list f1, wpAny_pyIter_tuple f2
    refine ⟨_, rfl, ?_⟩
    have e : ∀ (h : Heap) (o : Obj), (h.push o).objs.size = h.objs.size + 1 := fun h o => Heap.size_push ..
    simp only [e]
    exact h
end L2

/-! ## for x, y in zip(list, list or tuple) -/
namespace L2
open PySem PySem.Spec PyProof.Rows
/-- at turn i: a new pair of the list's and the tuple's i-th ones -/
def ItzT (K : PySem.W.Frag) (a b : Addr) : It :=
  ⟨fun i H => ∃ xs ys x y, SqL K H a xs ∧ SqT K H b ys ∧ xs[i]? = some x ∧ ys[i]? = some y, fun i H v H' => ∃ T x y, H T = none ∧ v = .ref T ∧ H' = upd H T (.tup [x, y]) ∧ (∀ xs, SqL K H a xs → xs[i]? = some x) ∧ ∀ ys, SqT K H b ys → ys[i]? = some y,
   fun i H => ∃ xs ys, SqL K H a xs ∧ SqT K H b ys ∧ (xs.length ≤ i ∨ ys.length ≤ i)⟩
theorem turn_zipT {P : Program} {w : World} {K : PySem.W.Frag} {elts : List Expr} {x1 : Nat} {pos : Pos} (a b z TI TO i1 i2 : Addr) (D : ZipApart z TI TO i1 i2 a b) :
    Turn P w K (.Tuple elts x1 pos) (ItzT K a b) [z, TI, TO, i1, i2] z (fun i h => IsZip h z TI TO .none ∧ IsPair h TI (.ref i1) (.ref i2) ∧ (∃ c d, IsPair h TO c d) ∧ h.IsListIter i1 a i ∧ h.IsTupleIter i2 b i) where
  mem := by simp
  obj := fun i h st c hc => by
    obtain ⟨hz, hTI, ⟨u, v, hTO⟩, ⟨o1, e1, _, d1⟩, ⟨o2, e2, _, d2⟩⟩ := st
    have hc' : c = z ∨ c = TI ∨ c = TO ∨ c = i1 ∨ c = i2 := by simpa using hc
    rcases hc' with rfl | rfl | rfl | rfl | rfl
    · exact ⟨_, hz, fun v q => by
        have q' : Data.fields _ = Data.cell v := q
        cases q'⟩
    · exact ⟨_, hTI, fun v q => by
        have q' : Data.seq _ _ = Data.cell v := q
        cases q'⟩
    · exact ⟨_, hTO, fun v q => by
        have q' : Data.seq _ _ = Data.cell v := q
        cases q'⟩
    · exact ⟨o1, e1, fun v q => by rw [d1] at q; cases q⟩
    · exact ⟨o2, e2, fun v q => by rw [d2] at q; cases q⟩
  keep := fun i h h' st k => by
    obtain ⟨hz, hTI, ⟨u, v, hTO⟩, h1, h2⟩ := st
    exact ⟨k z (by simp) _ hz, k TI (by simp) _ hTI, ⟨u, v, k TO (by simp) _ hTO⟩, h1.at fun o e => k i1 (by simp) o e, h2.at fun o e => k i2 (by simp) o e⟩
  item := by
    intro X hP hw hK hc i pins s σ H E I hf st hg
    subst hP hw hK
    obtain ⟨xs, ys, x, y, hq, hq2, hx, hy⟩ := hg
    obtain ⟨hz, hTI, ⟨u0, v0, hTO⟩, h1, h2⟩ := st
    obtain ⟨its, rv, p, _⟩ := I.list hq
    obtain ⟨u, hu, ru⟩ := rv.get hx
    obtain ⟨its2, rv2, p2, _⟩ := I.tuple hq2
    obtain ⟨v, hv, rv'⟩ := rv2.get hy
    have fz := hf z (by simp)
    have fTO := hf TO (by simp)
    have fi1 := hf i1 (by simp)
    have fi2 := hf i2 (by simp)
    have hT0 : H s.heap.objs.size = none := I.hok.fresh (Nat.le_refl _)
    refine nextZT_item D hz hTI hTO h1 h2 p.isList (show s.heap.IsTuple b its2.toArray from p2) (x := u) (u := v) (by simpa using hu) (by simpa using hv) fun h' a1 a2 a3 a4 a5 hsz hk => ?_
    have ltT : ∀ b ob, s.heap.get? b = some ob → b ≠ s.heap.objs.size := fun b ob z => Nat.ne_of_lt (Heap.lt_size z)
    have ltH : ∀ b ob, H b = some ob → b ≠ s.heap.objs.size := fun b ob z => Nat.ne_of_lt (I.hok.lt z)
    have nof : ∀ c ob, H c = some ob → c ≠ z ∧ c ≠ TO ∧ c ≠ i1 ∧ c ≠ i2 := fun c ob q => ⟨fun e => (by rw [e, fz.1] at q; cases q), fun e => (by rw [e, fTO.1] at q; cases q), fun e => (by rw [e, fi1.1] at q; cases q), fun e => (by rw [e, fi2.1] at q; cases q)⟩
    have hkc : ∀ c o, c ∉ [z, TO, i1, i2] → s.heap.get? c = some o → h'.get? c = some o := fun c o hcx q => hk c o (fun e => hcx (by simp [e])) (fun e => hcx (by simp [e])) (fun e => hcx (by simp [e])) (fun e => hcx (by simp [e])) q
    have I1 : Inv X pins σ (upd H s.heap.objs.size (.tup [x, y])) { s with heap := h' } := by
      refine I.step (g' := s.gens) (d' := s.drawn) (t' := s.toks) (ch := [z, TO, i1, i2]) (fun c hb => ?_) (fun c o _ _ hcx q _ => hkc c o hcx q) (fun c o _ _ hcx q _ => ⟨o.slots, hkc c o hcx q⟩)
        (fun c o _ q n => by rw [upd_ne (ltT c o q)]; exact n) (fun c o hcx q => ⟨o, hkc c o hcx q⟩) (fun c ys q => by rw [upd_ne (ltH c _ q)]; exact q) (fun c o v q => by rw [upd_ne (ltH c _ q)]; exact q)
        (fun c ps q => ⟨#[], by rw [upd_ne (ltH c _ q), q]; simp⟩) (fun m hm => ?_) (fun c v' q => ?_) I.bare
      · have hc' : c = z ∨ c = TO ∨ c = i1 ∨ c = i2 := by simpa using hb
        rcases hc' with rfl | rfl | rfl | rfl
        · exact ⟨fz.2.2.2.1, fz.2.1, fz.2.2.2.2.1, fz.2.2.2.2.2⟩
        · exact ⟨fTO.2.2.2.1, fTO.2.1, fTO.2.2.2.2.1, fTO.2.2.2.2.2⟩
        · exact ⟨fi1.2.2.2.1, fi1.2.1, fi1.2.2.2.2.1, fi1.2.2.2.2.2⟩
        · exact ⟨fi2.2.2.2.1, fi2.2.1, fi2.2.2.2.2.1, fi2.2.2.2.2.2⟩
      · obtain ⟨o, es, ep, ho', r⟩ := hm
        exact ⟨o, es, ep, hk _ o (Ne.symm fz.2.1) (Ne.symm fTO.2.1) (Ne.symm fi1.2.1) (Ne.symm fi2.2.1) ho', r⟩
      · by_cases hb : c = s.heap.objs.size
        · subst hb
          rw [upd_same] at q
          cases q
          exact ⟨by show 2 ≤ sizeLine; decide, [u, v], .cons ru (.cons rv' .nil), ⟨_, a5, rfl, _, rfl⟩⟩
        · rw [upd_ne hb] at q
          refine (I.hok c v' q).stay (fun e w' hc' q' => ?_) (fun e q => by rw [upd_ne (ltH e _ q)]; exact q) fun e ys q => by rw [upd_ne (ltH e _ q)]; exact q
          rcases hc' with rfl | hc'
          · have := nof e _ q
            exact hk e w' this.1 this.2.1 this.2.2.1 this.2.2.2 q'
          · have := nof e _ hc'
            exact hk e w' this.1 this.2.1 this.2.2.1 this.2.2.2 q'
    refine ⟨_, rfl, wpAny_letOwnedTupleGo_zip a1 fun h2 hz2 hs2 => ?_⟩
    have fT : z ≠ s.heap.objs.size := ltT z _ hz
    have I2 : Inv X pins σ (upd H s.heap.objs.size (.tup [x, y])) { s with heap := h2 } := Inv.turned (s := { s with heap := h' }) (h' := h2) (t' := s.toks) (it := z) I1 (fun b o hb q => hs2.extBut b o hb q) (by rw [upd_ne fT]; exact fz.1) fz.2.1 fz.2.2.2.1 fz.2.2.2.2.1 fz.2.2.2.2.2
    refine ⟨.ref s.heap.objs.size, _, I2, rfl, ⟨_, x, y, hT0, rfl, rfl, fun ys hy' => by rw [I.list_inj hy' hq]; exact hx, fun ys hy' => by rw [I.tuple_inj hy' hq2]; exact hy⟩,
      ⟨hz2, hs2.extBut _ _ D.TIz (hkc _ _ (by have := D.TIz; have := D.TITO; have := D.TIi1; have := D.TIi2; simp; exact ⟨D.TIz, D.TITO, D.TIi1, D.TIi2⟩) hTI), ⟨u, v, hs2.extBut _ _ D.TOz a2⟩, a3.at fun o q => hs2.extBut i1 o D.i1z q, a4.at fun o q => hs2.extBut i2 o D.i2z q⟩, fun c hc => ?_⟩
    have hc' : c = z ∨ c = TI ∨ c = TO ∨ c = i1 ∨ c = i2 := by simpa using hc
    have hn := (hf c hc).1
    rcases hc' with rfl | rfl | rfl | rfl | rfl
    · rw [upd_ne fT]; exact hn
    · rw [upd_ne (ltT _ _ hTI)]; exact hn
    · rw [upd_ne (ltT _ _ hTO)]; exact hn
    · obtain ⟨o, eo, _⟩ := h1
      rw [upd_ne (ltT _ o eo)]; exact hn
    · obtain ⟨o, eo, _⟩ := h2
      rw [upd_ne (ltT _ o eo)]; exact hn
  done := by
    intro X hP hw hK hc i pins s σ H E I hf st hg
    subst hP hw hK
    obtain ⟨xs, ys, hq, hq2, hend⟩ := hg
    obtain ⟨hz, hTI, ⟨u0, v0, hTO⟩, h1, h2⟩ := st
    obtain ⟨its, rv, p, _⟩ := I.list hq
    obtain ⟨its2, rv2, p2, _⟩ := I.tuple hq2
    have l1 := rv.length
    have l2 := rv2.length
    have fz := hf z (by simp)
    have fTO := hf TO (by simp)
    have fi1 := hf i1 (by simp)
    have fi2 := hf i2 (by simp)
    refine nextZT_end (I.ok.hd hc) D hz hTI hTO h1 h2 p.isList (show s.heap.IsTuple b its2.toArray from p2) (by
      rcases hend with e | e
      · exact .inl (by simp; omega)
      · exact .inr (by simp; omega)) fun h' hk => ⟨rfl, ?_⟩
    have hkc : ∀ c o, c ∉ [z, TO, i1, i2] → s.heap.get? c = some o → h'.get? c = some o := fun c o hcx q => hk c o (fun e => hcx (by simp [e])) (fun e => hcx (by simp [e])) (fun e => hcx (by simp [e])) (fun e => hcx (by simp [e])) q
    have nof : ∀ c ob, H c = some ob → c ≠ z ∧ c ≠ TO ∧ c ≠ i1 ∧ c ≠ i2 := fun c ob q => ⟨fun e => (by rw [e, fz.1] at q; cases q), fun e => (by rw [e, fTO.1] at q; cases q), fun e => (by rw [e, fi1.1] at q; cases q), fun e => (by rw [e, fi2.1] at q; cases q)⟩
    refine I.step (g' := s.gens) (d' := s.drawn) (t' := s.toks) (ch := [z, TO, i1, i2]) (fun c hb => ?_) (fun c o _ _ hcx q _ => hkc c o hcx q) (fun c o _ _ hcx q _ => ⟨o.slots, hkc c o hcx q⟩)
      (fun c o _ q n => n) (fun c o hcx q => ⟨o, hkc c o hcx q⟩) (fun c ys q => q) (fun c o v q => q)
      (fun c ps q => ⟨#[], by rw [q]; simp⟩) (fun m hm => ?_) (fun c v' q => ?_) I.bare
    · have hc' : c = z ∨ c = TO ∨ c = i1 ∨ c = i2 := by simpa using hb
      rcases hc' with rfl | rfl | rfl | rfl
      · exact ⟨fz.2.2.2.1, fz.2.1, fz.2.2.2.2.1, fz.2.2.2.2.2⟩
      · exact ⟨fTO.2.2.2.1, fTO.2.1, fTO.2.2.2.2.1, fTO.2.2.2.2.2⟩
      · exact ⟨fi1.2.2.2.1, fi1.2.1, fi1.2.2.2.2.1, fi1.2.2.2.2.2⟩
      · exact ⟨fi2.2.2.2.1, fi2.2.1, fi2.2.2.2.2.1, fi2.2.2.2.2.2⟩
    · obtain ⟨o, es, ep, ho', r⟩ := hm
      exact ⟨o, es, ep, hk _ o (Ne.symm fz.2.1) (Ne.symm fTO.2.1) (Ne.symm fi1.2.1) (Ne.symm fi2.2.1) ho', r⟩
    · refine (I.hok c v' q).stay (fun e w' hc' q' => ?_) (fun e q => q) fun e ys q => q
      rcases hc' with rfl | hc'
      · have := nof e _ q
        exact hk e w' this.1 this.2.1 this.2.2.1 this.2.2.2 q'
      · have := nof e _ hc'
        exact hk e w' this.1 this.2.1 this.2.2.1 this.2.2.2 q'
  self := fun _ _ _ _ _ st h => wpAny_pyIter_zip st.1 h
/-- at turn i: a new pair of the list's i-th one and that of a list or a tuple -/
def ItzK (K : PySem.W.Frag) (kd : Bool) (a b : Addr) : It := match kd with
  | false => Itz K a b
  | true => ItzT K a b
def iZipK (K : PySem.W.Frag) (ta : TA) : TI := fun σ H R => ta σ H fun vs H1 => ∃ a b kd, vs = [.ref a, .ref b] ∧ (∃ xs ys, SqL K H1 a xs ∧ My.SqK kd K H1 b ys) ∧ R (ItzK K kd a b) H1
section
variable {prog : Program} {w : World} {A : Around} {E : Value → Shared → Prop} {s : Shared}
theorem call_zipT {l t : Addr} {xs us : Array Value} {Q : Value → Shared → Prop} (hl : s.heap.IsList l xs) (ht : s.heap.IsTuple t us)
    (q : ∀ h', IsZip h' (s.heap.objs.size + 4) (s.heap.objs.size + 2) (s.heap.objs.size + 3) .none → IsPair h' (s.heap.objs.size + 2) (.ref s.heap.objs.size) (.ref (s.heap.objs.size + 1)) → IsPair h' (s.heap.objs.size + 3) .none .none →
      h'.IsListIter s.heap.objs.size l 0 → h'.IsTupleIter (s.heap.objs.size + 1) t 0 → (∀ c o, s.heap.get? c = some o → h'.get? c = some o) → Q (.ref (s.heap.objs.size + 4)) { s with heap := h' }) :
    wpAny (model prog w) A (call (.type "zip") [.ref l, .ref t]) Q E s := by
  refine callType_new F.called_zip (by decide) (F.typeCall_zip_2 _ _) (F.newCall_zip_2 _ _) (fun o => F.args_object_init_3 o _ _) F.entry_zip_new (zipT_new l t xs us) ⟨hl, ht, ?_⟩
  obtain ⟨h, eh⟩ : ∃ h, h = s.heap := ⟨_, rfl⟩
  rw [← eh] at q ⊢
  have at' : ∀ (g : Heap) (o : Obj) (n : Nat), g.objs.size = n → o.isFreed = false → (g.push o).get? n = some o := fun g o n e ho => by
    subst e
    exact Heap.get?_push_size _ ho
  have sz : ∀ (g : Heap) (o : Obj) (n : Nat), g.objs.size = n → (g.push o).objs.size = n + 1 := fun g o n e => by rw [Heap.size_push, e]
  have up : ∀ (g : Heap) (o o' : Obj) (c : Addr), g.get? c = some o → (g.push o').get? c = some o := fun g o o' c e => Heap.get?_push_of_some _ e
  have g0 : (zH h l t).get? h.objs.size = some { cls := .type "list_iterator", data := .fields #[.ref l, .int 0 0] } := up _ _ _ _ (up _ _ _ _ (up _ _ _ _ (up _ _ _ _ (at' _ _ _ rfl rfl))))
  have g1 : (zH h l t).get? (h.objs.size + 1) = some { cls := .type "tuple_iterator", data := .fields #[.ref t, .int 0 0] } := up _ _ _ _ (up _ _ _ _ (up _ _ _ _ (at' _ _ _ (sz _ _ _ rfl) rfl)))
  have g2 : IsPair (zH h l t) (h.objs.size + 2) (.ref h.objs.size) (.ref (h.objs.size + 1)) := up _ _ _ _ (up _ _ _ _ (at' _ _ _ (sz _ _ _ (sz _ _ _ rfl)) rfl))
  have g3 : IsPair (zH h l t) (h.objs.size + 3) .none .none := up _ _ _ _ (at' _ _ _ (sz _ _ _ (sz _ _ _ (sz _ _ _ rfl))) rfl)
  have g4 : IsZip (zH h l t) (h.objs.size + 4) (h.objs.size + 2) (h.objs.size + 3) .none := at' _ _ _ (sz _ _ _ (sz _ _ _ (sz _ _ _ (sz _ _ _ rfl)))) rfl
  exact ⟨⟨_, g4, rfl⟩, q _ g4 g2 g3 ⟨_, g0, rfl, rfl⟩ ⟨_, g1, rfl, rfl⟩ fun c o e => up _ _ _ _ (up _ _ _ _ (up _ _ _ _ (up _ _ _ _ (up _ _ _ _ e))))⟩
end
section
variable {X : Cx}
theorem pi_zipK (K : PySem.W.Frag) {elts : List Expr} {x1 : Nat} {tpos : Pos} {e f : Expr} {ta : TA} {p pos : Pos} (hg : Gl X "zip") (hm : X.mg "zip" = none) (ha : PA X [e, f] ta) (hs : starEach [e, f] X.env = (false, eval e X.env) :: starEach [f] X.env := by rfl) (hpl : (backTo pos (starEach [f] X.env)).any (·.1) = false := by rfl) (hk : X.K = K := by rfl) :
    PI X (.Tuple elts x1 tpos) (.Call (.Name "zip" p) [e, f] [] pos) (iZipK K ta) := by
  subst hk
  intro pins s σ H R I h
  refine Call_ (ld_blt I hg hm Boot.«zip» (PyProof.Rows.callWith_type1 (thn (ha pos pins s σ H _ I h) fun us s1 ⟨vs, H1, I1, r1, q1⟩ => ?_) hs hpl))
  obtain ⟨a, b, kd, ev, ⟨xs, ys, hq, hq2⟩, q⟩ := q1
  subst ev
  obtain ⟨u, u', rfl, ru, ru'⟩ := vals2 r1
  obtain rfl : u = Value.ref a := ru
  obtain rfl : u' = Value.ref b := ru'
  have key : ∀ n x y : Nat, x < n → y < n → ZipApart (n + 4) (n + 2) (n + 3) n (n + 1) x y := fun n x y h1 h2 => by constructor <;> (intro q; have q' : (_ : Nat) = _ := q; omega)
  have hfr : ∀ c ∈ [s1.heap.objs.size + 4, s1.heap.objs.size + 2, s1.heap.objs.size + 3, s1.heap.objs.size, s1.heap.objs.size + 1], s1.heap.objs.size ≤ c := fun c hc => by
    have hc' : c = s1.heap.objs.size + 4 ∨ c = s1.heap.objs.size + 2 ∨ c = s1.heap.objs.size + 3 ∨ c = s1.heap.objs.size ∨ c = s1.heap.objs.size + 1 := by simpa using hc
    rcases hc' with e | e | e | e | e <;> rw [e] <;> first | exact Nat.le_refl _ | exact Nat.le_add_right _ _
  obtain ⟨its, rv, pl, _⟩ := I1.list hq
  have lt1 : a < s1.heap.objs.size := let ⟨_, _, e, _⟩ := pl; Heap.lt_size e
  cases kd with
  | false =>
    obtain ⟨its2, rv2, pl2, _⟩ := I1.list hq2
    have lt2 : b < s1.heap.objs.size := let ⟨_, _, e, _⟩ := pl2; Heap.lt_size e
    have D := key _ _ _ lt1 lt2
    refine call_zip_2 pl.isList pl2.isList fun h' hz hTI hTO hi1 hi2 hsz hk => ?_
    refine wpAny_pyIter_zip (s := { s1 with heap := h' }) hz ?_
    exact ⟨s1.heap.objs.size + 4, [s1.heap.objs.size + 4, s1.heap.objs.size + 2, s1.heap.objs.size + 3, s1.heap.objs.size, s1.heap.objs.size + 1], _, _, H1, rfl, I1.kept (t' := s1.toks) hk, turn_zip a b _ _ _ _ _ D, ⟨hz, hTI, ⟨_, _, hTO⟩, hi1, hi2⟩, fun c hc => I1.fpOk (hfr c hc) (I1.hok.fresh (hfr c hc)), q⟩
  | true =>
    obtain ⟨its2, rv2, pl2, _⟩ := I1.tuple hq2
    have pT : s1.heap.IsTuple b its2.toArray := pl2
    have lt2 : b < s1.heap.objs.size := let ⟨_, e, _⟩ := pT; Heap.lt_size e
    have D := key _ _ _ lt1 lt2
    refine call_zipT pl.isList pT fun h' hz hTI hTO hi1 hi2 hk => ?_
    refine wpAny_pyIter_zip (s := { s1 with heap := h' }) hz ?_
    exact ⟨s1.heap.objs.size + 4, [s1.heap.objs.size + 4, s1.heap.objs.size + 2, s1.heap.objs.size + 3, s1.heap.objs.size, s1.heap.objs.size + 1], _, _, H1, rfl, I1.kept (t' := s1.toks) hk, turn_zipT a b _ _ _ _ _ D, ⟨hz, hTI, ⟨_, _, hTO⟩, hi1, hi2⟩, fun c hc => I1.fpOk (hfr c hc) (I1.hok.fresh (hfr c hc)), q⟩
end
end L2
namespace My
open PySem L2
theorem ItzK.go {K : PySem.W.Frag} {kd : Bool} {a b : Addr} {i : Nat} {H : Hp} {xs ys : List V} {x y : V} (h1 : SqL K H a xs) (h2 : SqK kd K H b ys) (hx : xs[i]? = some x) (hy : ys[i]? = some y) : (ItzK K kd a b).go i H := by
  cases kd <;> exact ⟨xs, ys, x, y, h1, h2, hx, hy⟩
theorem ItzK.stop {K : PySem.W.Frag} {kd : Bool} {a b : Addr} {i : Nat} {H : Hp} {xs ys : List V} (h1 : SqL K H a xs) (h2 : SqK kd K H b ys) (h : xs.length ≤ i) : (ItzK K kd a b).stop i H := by
  cases kd <;> exact ⟨xs, ys, h1, h2, .inl h⟩
theorem ItzK.yld {K : PySem.W.Frag} {kd : Bool} {a b : Addr} {i : Nat} {H H' : Hp} {v : V} {xs ys : List V} (h1 : SqL K H a xs) (h2 : SqK kd K H b ys) (h : (ItzK K kd a b).yld i H v H') : ∃ T x y, H T = none ∧ v = .ref T ∧ H' = upd H T (.tup [x, y]) ∧ xs[i]? = some x ∧ ys[i]? = some y := by
  cases kd with
  | false =>
    obtain ⟨T, x, y, a1, a2, a3, a4, a5⟩ := h
    exact ⟨T, x, y, a1, a2, a3, a4 _ h1, a5 _ h2⟩
  | true =>
    obtain ⟨T, x, y, a1, a2, a3, a4, a5⟩ := h
    exact ⟨T, x, y, a1, a2, a3, a4 _ h1, a5 _ h2⟩
theorem for_zipK {K : PySem.W.Frag} {kd : Bool} {a b : Addr} {xs ys : List V} {g : TG} {tb : TS} {D : Ends} {σ : St} {H : Hp} (hxy : xs.length = ys.length) (Pv : Nat → St → Hp → Prop) (h0 : Pv 0 σ H) (hl : ∀ i σ H, i ≤ xs.length → Pv i σ H → SqL K H a xs ∧ SqK kd K H b ys)
    (hs : ∀ (i : Nat) x y σ H (p : Addr), H p = none → xs[i]? = some x → ys[i]? = some y → Pv i σ H → g (.ref p) σ (upd H p (.tup [x, y])) fun σ2 H2 => tb { D with nx := Pv (i + 1), ct := Pv (i + 1), bk := D.nx } σ2 H2) (hd : ∀ σ H, Pv xs.length σ H → D.nx σ H) :
    ∃ W : Nat → Nat → St → Hp → Prop, (∃ m, W 0 m σ H) ∧ ∀ i m σ H, W i m σ H →
      ((ItzK K kd a b).stop i H ∧ D.nx σ H) ∨ ((ItzK K kd a b).go i H ∧ ∃ N : St → Hp → Prop, (∀ σ' H', N σ' H' → ∃ m', m' < m ∧ W (i + 1) m' σ' H') ∧ ∀ x H', (ItzK K kd a b).yld i H x H' → g x σ H' fun σ2 H2 => tb { D with nx := N, ct := N, bk := D.nx } σ2 H2) := by
  refine ⟨fun i m σ H => m = xs.length - i ∧ i ≤ xs.length ∧ Pv i σ H, ⟨xs.length, by simp, Nat.zero_le _, h0⟩, ?_⟩
  rintro i m σ H ⟨rfl, hi, p⟩
  obtain ⟨q, q2⟩ := hl i σ H hi p
  by_cases hlt : i < xs.length
  · refine .inr ⟨ItzK.go q q2 (List.getElem?_eq_getElem hlt) (List.getElem?_eq_getElem (by omega)), Pv (i + 1), fun σ' H' p' => ⟨xs.length - (i + 1), by omega, rfl, hlt, p'⟩, fun x H' hy => ?_⟩
    obtain ⟨T, u, v, hT, ex, eH, hu, hv⟩ := ItzK.yld q q2 hy
    subst ex eH
    exact hs i u v σ H T hT hu hv p
  · have e : i = xs.length := by omega
    subst e
    exact .inl ⟨ItzK.stop q q2 (Nat.le_refl _), hd σ H p⟩
end My

/-! ## trees sorted by the ties of a set: numbers as figures of a sum -/
namespace My
open PySem L2
/-- the number with these figures, the first one the least -/
def ev (b : Int) : List Int → Int
  | [] => 0
  | d :: l => d + b * ev b l
theorem ev_zero (b : Int) (n : Nat) : ev b (List.replicate n 0) = 0 := by
  induction n with
  | zero => rfl
  | succ n ih => show 0 + b * ev b (List.replicate n 0) = 0; rw [ih, Int.mul_zero]; rfl
theorem ev_bump (b : Int) : ∀ (l : List Int) (c : Nat), c < l.length → ev b (l.set c (l.getD c 0 + 1)) = ev b l + b ^ c
  | [], c, h => absurd h (Nat.not_lt_zero _)
  | d :: l, 0, _ => by
    show d + 1 + b * ev b l = d + b * ev b l + b ^ 0
    rw [Int.pow_zero]
    omega
  | d :: l, c + 1, h => by
    show d + b * ev b (l.set c (l.getD c 0 + 1)) = d + b * ev b l + b ^ (c + 1)
    rw [ev_bump b l c (Nat.lt_of_succ_lt_succ h), Int.mul_add, Int.pow_succ, Int.mul_comm b (b ^ c)]
    omega
theorem ev_mod {b d v : Int} (h0 : 0 ≤ d) (h1 : d < b) : (d + b * v) % b = d := by
  rw [Int.add_mul_emod_self_left]
  exact Int.emod_eq_of_lt h0 h1
theorem ev_div {b d v : Int} (h0 : 0 ≤ d) (h1 : d < b) : (d + b * v) / b = v := by
  rw [Int.add_mul_ediv_left _ _ (by omega), Int.ediv_eq_zero_of_lt h0 h1, Int.zero_add]
theorem ev_drop {b : Int} {l : List Int} {i : Nat} {d : Int} (h : l[i]? = some d) : ev b (l.drop i) = d + b * ev b (l.drop (i + 1)) := by
  obtain ⟨hi, e⟩ := List.getElem?_eq_some_iff.mp h
  rw [List.drop_eq_getElem_cons hi, e]
  rfl
/-- how many ties of the set a tree has -/
def cS (S T : List Int) : Nat := (T.filter fun z => decide (z ∈ S)).length
theorem cS_le (S T : List Int) : cS S T ≤ T.length := List.length_filter_le ..
/-- one more of the sort of this tree -/
def bmp (S : List Int) (l : List Int) (T : List Int) : List Int := l.set (cS S T) (l.getD (cS S T) 0 + 1)
/-- the trees of each sort counted -/
def srts (n : Nat) (S : List Int) (L : List (List Int)) : List Int := L.foldl (bmp S) (List.replicate n 0)
theorem srts_len (n : Nat) (S : List Int) (L : List (List Int)) : (srts n S L).length = n := by
  unfold srts
  have h : ∀ (L : List (List Int)) (l : List Int), (L.foldl (bmp S) l).length = l.length := by
    intro L
    induction L with
    | nil => intro l; rfl
    | cons T L ih => intro l; rw [List.foldl_cons, ih]; exact List.length_set
  rw [h, List.length_replicate]
theorem srts_snoc (n : Nat) (S : List Int) (L : List (List Int)) (T : List Int) : srts n S (L ++ [T]) = bmp S (srts n S L) T := by
  unfold srts
  rw [List.foldl_append]
  rfl
theorem srts_nil (n : Nat) (S : List Int) : srts n S [] = List.replicate n 0 := rfl
theorem sum_snocI (l : List Int) (x : Int) : (l ++ [x]).sum = l.sum + x := by
  induction l with
  | nil => show x + 0 = 0 + x; omega
  | cons y l ih => show y + (l ++ [x]).sum = y + l.sum + x; omega
theorem list_end {α : Type} {P : List α → Prop} (h0 : P []) (h1 : ∀ l x, P l → P (l ++ [x])) (l : List α) : P l := by
  have h : ∀ r : List α, P r.reverse := by
    intro r
    induction r with
    | nil => exact h0
    | cons x r ih => rw [List.reverse_cons]; exact h1 _ _ ih
  have := h l.reverse
  rwa [List.reverse_reverse] at this
theorem srts_ev (b : Int) (n : Nat) (S : List Int) (L : List (List Int)) (h : ∀ T ∈ L, T.length < n) : ev b (srts n S L) = (L.map fun T => b ^ cS S T).sum := by
  revert h
  refine list_end (P := fun L => (∀ T ∈ L, T.length < n) → ev b (srts n S L) = (L.map fun T => b ^ cS S T).sum) (fun _ => ev_zero b n) (fun L T ih h => ?_) L
  rw [srts_snoc, List.map_append, List.map_singleton, sum_snocI, ← ih fun T hT => h T (List.mem_append_left _ hT)]
  exact ev_bump b _ _ (by rw [srts_len]; exact Nat.lt_of_le_of_lt (cS_le S T) (h T (by simp)))
theorem srts_in (n : Nat) (S : List Int) (L : List (List Int)) : ∀ x ∈ srts n S L, 0 ≤ x ∧ x ≤ (L.length : Int) := by
  refine list_end (P := fun L => ∀ x ∈ srts n S L, 0 ≤ x ∧ x ≤ (L.length : Int)) (fun x hx => ?_) (fun L T ih x hx => ?_) L
  · rw [List.eq_of_mem_replicate hx]
    exact ⟨Int.le_refl _, Int.le_refl _⟩
  · rw [srts_snoc] at hx
    rw [List.length_append]
    show 0 ≤ x ∧ x ≤ ((L.length + 1 : Nat) : Int)
    rcases List.mem_or_eq_of_mem_set hx with e | e
    · have := ih x e
      omega
    · have g : ∀ c, 0 ≤ (srts n S L).getD c 0 ∧ (srts n S L).getD c 0 ≤ (L.length : Int) := fun c => by
        rw [List.getD_eq_getElem?_getD]
        cases hz : (srts n S L)[c]? with
        | none => exact ⟨Int.le_refl _, Int.natCast_nonneg _⟩
        | some y => exact ih y (List.mem_of_getElem? hz)
      have := g (cS S T)
      omega
/-- weights that tell the ties of a set -/
def wS (b : Int) (S : List Int) (m : Nat) : List Int := (List.range m).map fun i => if ((i : Nat) : Int) ∈ S then b else 1
theorem wS_len (b : Int) (S : List Int) (m : Nat) : (wS b S m).length = m := by
  unfold wS
  rw [List.length_map, List.length_range]
theorem wS_at {b : Int} {S : List Int} {m : Nat} {z : Int} (h0 : 0 ≤ z) (h1 : z < (m : Int)) : (wS b S m).getD z.toNat 0 = if z ∈ S then b else 1 := by
  have h : (wS b S m)[z.toNat]? = some (if z ∈ S then b else 1) := by
    unfold wS
    rw [List.getElem?_map, List.getElem?_range (by omega)]
    show some (if ((z.toNat : Nat) : Int) ∈ S then b else 1) = _
    rw [Int.toNat_of_nonneg h0]
  rw [List.getD_eq_getElem?_getD, h]
  rfl
theorem wS_wt (b : Int) (S : List Int) (m : Nat) : ∀ T : List Int, (∀ z ∈ T, 0 ≤ z ∧ z < (m : Int)) → wtL (wS b S m) T = b ^ cS S T
  | [], _ => by show (1 : Int) = b ^ 0; rw [Int.pow_zero]
  | z :: T, h => by
    obtain ⟨z0, z1⟩ := h z (by simp)
    show (wS b S m).getD z.toNat 0 * wtL (wS b S m) T = _
    rw [wS_at z0 z1, wS_wt b S m T fun y hy => h y (by simp [hy])]
    unfold cS
    by_cases hz : z ∈ S
    · rw [if_pos hz, List.filter_cons_of_pos (by simpa using hz), List.length_cons, Int.pow_succ, Int.mul_comm]
    · rw [if_neg hz, List.filter_cons_of_neg (by simpa using hz), Int.one_mul]
/-- the sum over all trees with such weights has the sorts for figures -/
theorem ws_srts {n : Int} {ps : List (Int × Int)} {L : List (List Int)} (b : Int) (S : List Int) (hn : L.Nodup) (hm : ∀ T, T ∈ L ↔ IsTree n ps T) : WS n ps (wS b S ps.length) (ev b (srts n.toNat S L)) := by
  refine ⟨L, hn, hm, ?_⟩
  rw [srts_ev b n.toNat S L fun T hT => ?_]
  · congr 1
    refine List.map_congr_left fun T hT => ?_
    obtain ⟨h1, _⟩ := (hm T).mp hT
    exact wS_wt b S ps.length T (isSet_iff.mp h1).1
  · obtain ⟨_, h2, _⟩ := (hm T).mp hT
    omega
end My

/-! ## one more place, tied to each with the same weight -/
namespace My
open PySem L2
/-- ties of the first m places with a further one -/
def starE (n : Nat) (t : Int) (m : Nat) : List Ed := (List.range m).map fun i => (i, n, t)
theorem starE_succ (n : Nat) (t : Int) (m : Nat) : starE n t (m + 1) = starE n t m ++ [(m, n, t)] := by
  unfold starE
  rw [List.range_succ, List.map_append]
  rfl
theorem lap_star (E : List Ed) (n : Nat) (t : Int) : ∀ m, m ≤ n → ∀ i j, i < n → j < n → lapE (E ++ starE n t m) i j = lapE E i j + if i = j ∧ i < m then t else 0
  | 0, _, i, j, _, _ => by
    rw [if_neg (fun h => Nat.not_lt_zero _ h.2), Int.add_zero]
    exact congrArg (fun E => lapE E i j) (List.append_nil E)
  | m + 1, hm, i, j, hi, hj => by
    rw [starE_succ, ← List.append_assoc, lapE_snoc, lap_star E n t m (by omega) i j hi hj, Int.add_assoc]
    congr 1
    show (if i = j ∧ i < m then t else 0) + t * (ind m n i * ind m n j) = _
    have hind : ∀ a, a < n → ind m n a = if a = m then 1 else 0 := fun a ha => by
      unfold ind
      rw [if_neg (show ¬ a = n by omega)]
      split <;> rfl
    rw [hind i hi, hind j hj]
    by_cases e1 : i = m
    · by_cases e2 : j = m
      · rw [if_pos e1, if_pos e2, if_neg (by omega), if_pos (by omega), Int.mul_one, Int.mul_one, Int.zero_add]
      · rw [if_pos e1, if_neg e2, if_neg (by omega), if_neg (by omega), Int.mul_zero, Int.mul_zero, Int.zero_add]
    · rw [if_neg e1, Int.zero_mul, Int.mul_zero, Int.add_zero]
      by_cases e2 : i = j ∧ i < m
      · rw [if_pos e2, if_pos (by omega)]
      · rw [if_neg e2, if_neg (by omega)]
/-- the table with t more on its diagonal tells the sum over the trees of the web with one more place -/
theorem forest_det {k : Nat} {E : List Ed} (t : Int) (h : ∀ e ∈ E, e.1 < k ∧ e.2.1 < k) : TW k (E ++ starE k t k) (det k fun i j => lapE E i j + if i = j then t else 0) := by
  have h2 := matrix_tree _ k (E ++ starE k t k) rfl fun e he => by
    rcases List.mem_append.mp he with h1 | h1
    · have := h e h1
      omega
    · obtain ⟨i, hi, rfl⟩ := List.mem_map.mp h1
      have := List.mem_range.mp hi
      exact ⟨by show i < k + 1; omega, by show k < k + 1; omega⟩
  have e : det k (lapE (E ++ starE k t k)) = det k fun i j => lapE E i j + if i = j then t else 0 := det_congr fun i j hi hj => by
    rw [lap_star E k t k (Nat.le_refl _) i j hi hj]
    by_cases e : i = j
    · rw [if_pos ⟨e, hi⟩, if_pos e]
    · rw [if_neg (fun h => e h.1), if_neg e]
  rw [← e]
  exact h2
end My

/-! ## the trees of the web with one more place, sorted by the ties at that place -/
namespace My
open PySem L2
/-- the numbers of the further place's ties -/
def stS (m n : Nat) : List Int := (List.range n).map fun i => ((m + i : Nat) : Int)
theorem stS_mem {m n : Nat} {z : Int} : z ∈ stS m n ↔ (m : Int) ≤ z ∧ z < (m + n : Int) := by
  unfold stS
  rw [List.mem_map]
  constructor
  · rintro ⟨i, hi, rfl⟩
    have := List.mem_range.mp hi
    omega
  · rintro ⟨h0, h1⟩
    exact ⟨(z - m).toNat, List.mem_range.mpr (by omega), by omega⟩
theorem starE_len (n : Nat) (t : Int) (m : Nat) : (starE n t m).length = m := by
  unfold starE
  rw [List.length_map, List.length_range]
theorem star_at {E : List Ed} {n : Nat} {t : Int} {z : Int} (h0 : 0 ≤ z) (h1 : z < (E.length + n : Int)) : (E ++ starE n t n).getD z.toNat (0, 0, 0) = if z ∈ stS E.length n then (z.toNat - E.length, n, t) else E.getD z.toNat (0, 0, 0) := by
  rw [List.getD_eq_getElem?_getD]
  by_cases h : z ∈ stS E.length n
  · rw [if_pos h]
    have hz := stS_mem.mp h
    rw [List.getElem?_append_right (by omega)]
    unfold starE
    rw [List.getElem?_map, List.getElem?_range (by omega)]
    rfl
  · rw [if_neg h]
    have hz : z < (E.length : Int) := Int.not_le.mp fun h2 => h (stS_mem.mpr ⟨h2, h1⟩)
    rw [List.getElem?_append_left (by omega), List.getD_eq_getElem?_getD]
theorem star_wt {E : List Ed} {n : Nat} {t : Int} (hE : ∀ e ∈ E, e.2.2 = 1) : ∀ {T : List Int}, (∀ z ∈ T, 0 ≤ z ∧ z < (E.length + n : Int)) → wtE (E ++ starE n t n) T = t ^ cS (stS E.length n) T
  | [], _ => by show (1 : Int) = t ^ 0; rw [Int.pow_zero]
  | z :: T, h => by
    obtain ⟨z0, z1⟩ := h z (by simp)
    show ((E ++ starE n t n).getD z.toNat (0, 0, 0)).2.2 * wtE (E ++ starE n t n) T = _
    rw [star_at z0 z1, star_wt hE fun y hy => h y (by simp [hy])]
    unfold cS
    by_cases hz : z ∈ stS E.length n
    · rw [if_pos hz, List.filter_cons_of_pos (by simpa using hz), List.length_cons, Int.pow_succ, Int.mul_comm]
    · have hlt : z < (E.length : Int) := Int.not_le.mp fun h2 => hz (stS_mem.mpr ⟨h2, z1⟩)
      have e1 : (E.getD z.toNat (0, 0, 0)).2.2 = 1 := by
        rw [List.getD_eq_getElem?_getD, List.getElem?_eq_getElem (show z.toNat < E.length by omega)]
        exact hE _ (List.getElem_mem ..)
      rw [if_neg hz, List.filter_cons_of_neg (by simpa using hz), e1, Int.one_mul]
theorem ev_one : ∀ l : List Int, ev 1 l = l.sum
  | [] => rfl
  | d :: l => by show d + 1 * ev 1 l = d + l.sum; rw [Int.one_mul, ev_one l]
theorem le_sum : ∀ {l : List Int}, (∀ x ∈ l, 0 ≤ x) → (0 ≤ l.sum ∧ ∀ x ∈ l, x ≤ l.sum)
  | [], _ => ⟨Int.le_refl _, fun x h => by cases h⟩
  | d :: l, h => by
    obtain ⟨i1, i2⟩ := le_sum fun x hx => h x (List.mem_cons_of_mem _ hx)
    have hd := h d (by simp)
    have e : (d :: l).sum = d + l.sum := rfl
    rw [e]
    refine ⟨by omega, fun x hx => ?_⟩
    rcases List.mem_cons.mp hx with r | r
    · omega
    · have := i2 x r
      omega
end My

/-! ## list.count -/
namespace L2
open PySem PySem.Spec PyProof.Rows
section
variable {X : Cx}
end
end L2

/-! ## forests with a chosen place of each piece -/
namespace My
open PySem L2
/-- all sets of m numbers, by number -/
def subs : Nat → List (List Int)
  | 0 => [[]]
  | m + 1 => subs m ++ (subs m).map (· ++ [(m : Int)])
theorem subs_mem : ∀ {m : Nat} {F : List Int}, F ∈ subs m ↔ IsSet m F
  | 0, F => by
    show F ∈ [[]] ↔ _
    rw [List.mem_singleton]
    constructor
    · rintro rfl; exact IsSet.nil _
    · intro h; exact List.length_eq_zero_iff.mp (Nat.le_zero.mp h.len)
  | m + 1, F => by
    show F ∈ subs m ++ (subs m).map (· ++ [(m : Int)]) ↔ _
    rw [List.mem_append, List.mem_map, subs_mem]
    constructor
    · rintro (h | ⟨G, h, rfl⟩)
      · exact h.up
      · exact (subs_mem.mp h).snoc
    · intro h
      rcases set_last h with c | ⟨G, e, c⟩
      · exact .inl c
      · exact .inr ⟨G, subs_mem.mpr c, e.symm⟩
theorem subs_nodup : ∀ m, (subs m).Nodup
  | 0 => by show [[]].Nodup; simp
  | m + 1 => by
    refine List.nodup_append.mpr ⟨subs_nodup m, List.Pairwise.map _ (fun x y h c => h (List.append_cancel_right c)) (subs_nodup m), fun x hx y hy c => ?_⟩
    obtain ⟨z, hz, c2⟩ := List.mem_map.mp hy
    have := (subs_mem.mp hx).all (m : Int) (by rw [c, ← c2]; simp)
    omega
/-- places of the first p with these marks, each once -/
def trs (M : List Int) : Nat → List Int → List (List Int)
  | 0, P => if P = [] then [[]] else []
  | p + 1, P => trs M p P ++ (if mk M p ∈ P then (trs M p (P.erase (mk M p))).map (· ++ [(p : Int)]) else [])
theorem trs_mem {M : List Int} : ∀ {p : Nat} {P R : List Int}, R ∈ trs M p P ↔ IsSet p R ∧ (R.map fun z => mk M z.toNat).Perm P
  | 0, P, R => by
    show R ∈ (if P = [] then [[]] else []) ↔ _
    by_cases h : P = []
    · rw [if_pos h, List.mem_singleton, h]
      constructor
      · rintro rfl; exact ⟨IsSet.nil _, .rfl⟩
      · rintro ⟨h, _⟩; exact List.length_eq_zero_iff.mp (Nat.le_zero.mp h.len)
    · rw [if_neg h]
      constructor
      · intro h; cases h
      · rintro ⟨h1, h2⟩
        have e := List.length_eq_zero_iff.mp (Nat.le_zero.mp h1.len)
        subst e
        exact absurd (List.nil_perm.mp h2) h
  | p + 1, P, R => by
    show R ∈ trs M p P ++ _ ↔ _
    rw [List.mem_append, trs_mem]
    constructor
    · rintro (⟨a, b⟩ | h)
      · exact ⟨a.up, b⟩
      · by_cases c : mk M p ∈ P
        · rw [if_pos c, List.mem_map] at h
          obtain ⟨G, hG, rfl⟩ := h
          obtain ⟨a, b⟩ := trs_mem.mp hG
          refine ⟨a.snoc, ?_⟩
          rw [List.map_append]
          refine (List.perm_append_singleton _ _).trans ?_
          show (mk M (p : Int).toNat :: _).Perm P
          rw [Int.toNat_natCast]
          exact List.cons_perm_iff_perm_erase.mpr ⟨c, b⟩
        · rw [if_neg c] at h; cases h
    · rintro ⟨a, b⟩
      rcases set_last a with c | ⟨G, e, c⟩
      · exact .inl ⟨c, b⟩
      · subst e
        rw [List.map_append] at b
        have b2 := (List.perm_append_singleton _ _).symm.trans b
        have b3 : (mk M p :: G.map fun z => mk M z.toNat).Perm P := by
          have e : (fun z : Int => mk M z.toNat) (p : Int) = mk M p := by show mk M (p : Int).toNat = _; rw [Int.toNat_natCast]
          rw [← e]; exact b2
        obtain ⟨d1, d2⟩ := List.cons_perm_iff_perm_erase.mp b3
        rw [if_pos d1]
        exact .inr (List.mem_map.mpr ⟨G, trs_mem.mpr ⟨c, d2⟩, rfl⟩)
theorem trs_nodup (M : List Int) : ∀ (p : Nat) (P : List Int), (trs M p P).Nodup
  | 0, P => by show (if P = [] then [[]] else []).Nodup; split <;> simp
  | p + 1, P => by
    refine List.nodup_append.mpr ⟨trs_nodup M p P, ?_, fun x hx y hy c => ?_⟩
    · split
      · exact List.Pairwise.map _ (fun x y h c => h (List.append_cancel_right c)) (trs_nodup M p _)
      · exact .nil
    · split at hy
      · obtain ⟨z, hz, c2⟩ := List.mem_map.mp hy
        have := (trs_mem.mp hx).1.all (p : Int) (by rw [c, ← c2]; simp)
        omega
      · cases hy
/-- the product of all -/
def pdt : List Int → Int
  | [] => 1
  | x :: l => x * pdt l
theorem pdt_perm {a b : List Int} (h : a.Perm b) : pdt a = pdt b := by
  induction h with
  | nil => rfl
  | cons x _ ih => show x * _ = x * _; rw [ih]
  | swap x y l => show y * (x * _) = x * (y * _); rw [← Int.mul_assoc, ← Int.mul_assoc, Int.mul_comm y x]
  | trans _ _ h1 h2 => exact h1.trans h2
theorem pdt_nonneg : ∀ {l : List Int}, (∀ x ∈ l, 0 ≤ x) → 0 ≤ pdt l
  | [], _ => by show (0 : Int) ≤ 1; decide
  | x :: l, h => Int.mul_nonneg (h x List.mem_cons_self) (pdt_nonneg fun y hy => h y (List.mem_cons_of_mem _ hy))
/-- how many of the first p have this mark -/
def cM (M : List Int) (p : Nat) (x : Int) : Int := ((M.take p).count x : Nat)
theorem cM_succ {M : List Int} {p : Nat} (h : p < M.length) (x : Int) : cM M (p + 1) x = cM M p x + if mk M p = x then 1 else 0 := by
  unfold cM
  rw [List.take_succ, mk_some h, List.count_append]
  show ((_ + List.count x [mk M p] : Nat) : Int) = _
  rw [List.count_singleton]
  by_cases c : mk M p = x
  · rw [if_pos c, if_pos (by simpa using c)]; omega
  · rw [if_neg c, if_neg (by simpa using c)]; omega
theorem trs_len {M : List Int} : ∀ {p : Nat} {P : List Int}, p ≤ M.length → P.Nodup → ((trs M p P).length : Int) = pdt (P.map (cM M p))
  | 0, P, _, _ => by
    show ((if P = [] then [[]] else [] : List (List Int)).length : Int) = _
    cases P with
    | nil => rfl
    | cons x P =>
      rw [if_neg (by simp)]
      show (0 : Int) = cM M 0 x * _
      rw [show cM M 0 x = 0 from rfl, Int.zero_mul]
  | p + 1, P, h, hP => by
    show ((trs M p P ++ _).length : Int) = _
    rw [List.length_append, Int.natCast_add, trs_len (by omega) hP]
    by_cases c : mk M p ∈ P
    · rw [if_pos c, List.length_map, trs_len (by omega) (hP.erase _)]
      have q := List.perm_cons_erase c
      rw [pdt_perm (q.map (cM M p)), pdt_perm (q.map (cM M (p + 1)))]
      show cM M p (mk M p) * pdt _ + pdt _ = cM M (p + 1) (mk M p) * pdt _
      have e : (P.erase (mk M p)).map (cM M (p + 1)) = (P.erase (mk M p)).map (cM M p) := List.map_congr_left fun x hx => by
        rw [cM_succ (by omega), if_neg, Int.add_zero]
        intro e
        exact (List.Nodup.mem_erase_iff hP).mp hx |>.1 e.symm
      rw [e, cM_succ (by omega), if_pos rfl, Int.add_mul, Int.one_mul]
    · rw [if_neg c]
      show _ + (0 : Int) = _
      rw [Int.add_zero]
      congr 1
      refine List.map_congr_left fun x hx => ?_
      rw [cM_succ (by omega), if_neg (fun e : mk M p = x => c (e.symm ▸ hx)), Int.add_zero]
/-- the marks, each once -/
def mks (M : List Int) : List Int := (fstA M M.length).map (mk M)
theorem mks_mem {M : List Int} {x : Int} : x ∈ mks M ↔ ∃ i, i < M.length ∧ mk M i = x := by
  unfold mks fstA
  rw [List.mem_map]
  constructor
  · rintro ⟨p, hp, e⟩
    exact ⟨p, List.mem_range.mp (List.mem_filter.mp hp).1, e⟩
  · rintro ⟨i, hi, e⟩
    obtain ⟨p, p1, p2, p3⟩ := fst_ex M (i := i)
    exact ⟨p, List.mem_filter.mpr ⟨List.mem_range.mpr (by omega), p3⟩, p2.trans e⟩
theorem mks_nodup (M : List Int) : (mks M).Nodup := by
  unfold mks fstA
  refine List.pairwise_map.mpr ?_
  refine List.Pairwise.imp_of_mem (R := (· ≠ ·)) (fun {a b} ha hb h e => h (fst_uniq (List.mem_filter.mp ha).2 (List.mem_filter.mp hb).2 e)) ?_
  exact List.Pairwise.filter _ List.nodup_range
theorem mks_len (M : List Int) : (mks M).length = cnt M := List.length_map ..
theorem mem_mk {M : List Int} {x : Int} : x ∈ M ↔ ∃ i, i < M.length ∧ mk M i = x := by
  constructor
  · intro h
    obtain ⟨i, hi, e⟩ := List.mem_iff_getElem.mp h
    refine ⟨i, hi, ?_⟩
    have := mk_some hi
    rw [List.getElem?_eq_getElem hi, e] at this
    exact (Option.some.inj this).symm
  · rintro ⟨i, hi, rfl⟩
    exact List.mem_of_getElem? (mk_some hi)
/-- each tie makes one piece less, or none -/
theorem cnt_low {n : Nat} : ∀ es : List (Nat × Nat), InN n es → n ≤ cnt (lms n es) + es.length := by
  refine snoc_ind (fun _ => ?_) fun es e ih h => ?_
  · show n ≤ cnt ((List.range n).map _) + 0
    rw [cnt_range]
    exact Nat.le_refl _
  · obtain ⟨h1, h2, h3⟩ := h.snoc
    have i1 := ih h1
    rw [lms_snoc, List.length_append]
    show _ ≤ _ + (_ + 1)
    by_cases c : mk (lms n es) e.1 = mk (lms n es) e.2
    · unfold lm
      rw [if_neg (by simpa using c)]
      omega
    · have := cnt_step (m := lms n es) (by rw [lms_length]; exact h2) (by rw [lms_length]; exact h3) c
      omega
end My

/-! ## the trees of the web with one more place, by their ties of the web -/
namespace My
open PySem L2
theorem star_ends {E : List Ed} {n : Nat} {t : Int} {F R : List Int} (hF : IsSet E.length F) (hR : IsSet n R) : (F ++ R.map (· + (E.length : Int))).map (edE (E ++ starE n t n)) = F.map (edE E) ++ R.map fun z => (z.toNat, n) := by
  rw [List.map_append, List.map_map]
  congr 1
  · refine List.map_congr_left fun z hz => ?_
    have h := hF.all z hz
    unfold edE
    rw [star_at h.1 (by omega), if_neg fun c => by have := stS_mem.mp c; omega]
  · refine List.map_congr_left fun z hz => ?_
    have h := hR.all z hz
    show edE (E ++ starE n t n) (z + (E.length : Int)) = _
    unfold edE
    rw [star_at (by omega) (by omega), if_pos (stS_mem.mpr ⟨by omega, by omega⟩)]
    show ((z + (E.length : Int)).toNat - E.length, n) = _
    rw [show (z + (E.length : Int)).toNat - E.length = z.toNat by omega]
theorem conn_stays {es : List (Nat × Nat)} {φ : Nat → Prop} (h : ∀ e ∈ es, (φ e.1 ↔ φ e.2)) {i j : Nat} (c : Conn es i j) : φ i ↔ φ j := by
  induction c with
  | refl i => exact Iff.rfl
  | edge q => exact h _ q
  | symm _ ih => exact ih.symm
  | trans _ _ i1 i2 => exact i1.trans i2
/-- a tree is a forest and one place of each of its pieces -/
theorem star_tree {E : List Ed} {n : Nat} {t : Int} {F R : List Int} (hE : ∀ e ∈ E, e.1 < n ∧ e.2.1 < n) (hF : IsSet E.length F) (hR : IsSet n R) : IsT n (E ++ starE n t n) (F ++ R.map (· + (E.length : Int))) ↔ cnt (lms n (F.map (edE E))) + F.length = n ∧ (R.map fun z => mk (lms n (F.map (edE E))) z.toNat).Perm (mks (lms n (F.map (edE E)))) := by
  have hin : InN n (F.map (edE E)) := fun e he => by
    obtain ⟨z, hz, rfl⟩ := List.mem_map.mp he
    have h := hF.all z hz
    have e1 : E.getD z.toNat (0, 0, 0) = E[z.toNat]'(by omega) := by rw [List.getD_eq_getElem?_getD, List.getElem?_eq_getElem (by omega)]; rfl
    unfold edE
    rw [e1]
    exact hE _ (List.getElem_mem _)
  have hl : (lms n (F.map (edE E))).length = n := lms_length _ _
  have low := cnt_low _ hin
  have edge := lms_edge _ hin
  have iff2 : ∀ i j, i < n → j < n → (mk (lms n (F.map (edE E))) i = mk (lms n (F.map (edE E))) j ↔ Conn (F.map (edE E)) i j) := fun i j hi hj => lms_iff hin hi hj
  rw [List.length_map] at low
  unfold IsT
  rw [star_ends hF hR, List.length_append, List.length_append, List.length_map, starE_len]
  generalize lms n (F.map (edE E)) = M at *
  have lM := mks_len M
  constructor
  · rintro ⟨_, h2, h3⟩
    have sub : ∀ x ∈ mks M, x ∈ R.map fun z => mk M z.toNat := fun x hx => by
      obtain ⟨i, hi, e⟩ := mks_mem.mp hx
      rw [hl] at hi
      refine Classical.byContradiction fun no => ?_
      have st := conn_stays (φ := fun j => j < n ∧ mk M j = x) (fun e he => by
        rcases List.mem_append.mp he with c | c
        · have := hin e c
          have := edge e c
          constructor
          · rintro ⟨_, q⟩; exact ⟨by omega, by rw [← this]; exact q⟩
          · rintro ⟨_, q⟩; exact ⟨by omega, by rw [this]; exact q⟩
        · obtain ⟨z, hz, rfl⟩ := List.mem_map.mp c
          constructor
          · rintro ⟨_, q⟩; exact absurd (List.mem_map.mpr ⟨z, hz, q⟩) no
          · rintro ⟨q, _⟩; exact absurd q (Nat.lt_irrefl _)) (h3 i n (by omega) (by omega))
      exact absurd (st.mp ⟨hi, e⟩).1 (Nat.lt_irrefl _)
    have le : (mks M).length ≤ (R.map fun z => mk M z.toNat).length := sub_len (mks_nodup M) sub
    rw [List.length_map] at le
    refine ⟨by omega, perm_of_len (mks_nodup M) (by rw [List.length_map]; omega) sub⟩
  · rintro ⟨h1, h2⟩
    have el := h2.length_eq
    rw [List.length_map] at el
    refine ⟨set_join hF hR, by omega, ?_⟩
    have key : ∀ i, i < n + 1 → Conn (F.map (edE E) ++ R.map fun z => (z.toNat, n)) i n := fun i hi => by
      by_cases c : i = n
      · rw [c]; exact .refl _
      · have hi : i < n := by omega
        obtain ⟨z, hz, e⟩ := List.mem_map.mp (h2.mem_iff.mpr (mks_mem.mpr ⟨i, by omega, rfl⟩))
        have hz2 := hR.all z hz
        have c1 := (iff2 z.toNat i (by omega) hi).mp e
        exact (Conn.mono (fun e h => List.mem_append_left _ h) c1.symm).trans (.edge (List.mem_append_right _ (List.mem_map.mpr ⟨z, hz, rfl⟩)))
    exact fun i j hi hj => (key i hi).trans (key j hj).symm
theorem TW.uniq {k : Nat} {E : List Ed} {s u : Int} (h1 : TW k E s) (h2 : TW k E u) : s = u := by
  obtain ⟨L, a1, a2, rfl⟩ := h1
  obtain ⟨M, b1, b2, rfl⟩ := h2
  exact sum_permL ((List.perm_ext_iff_of_nodup a1 b1).mpr fun l => by rw [a2, b2])
theorem sum_flat {α : Type} (f : α → List (List Int)) (g : List Int → Int) : ∀ L : List α, ((L.flatMap f).map g).sum = (L.map fun x => ((f x).map g).sum).sum
  | [] => rfl
  | x :: L => by
    rw [List.flatMap_cons, List.map_append, sum_app, sum_flat f g L]
    rfl
theorem sum_const {f : List Int → Int} {c : Int} : ∀ {L : List (List Int)}, (∀ T ∈ L, f T = c) → (L.map f).sum = c * (L.length : Int)
  | [], _ => by show (0 : Int) = c * 0; rw [Int.mul_zero]
  | x :: L, h => by
    rw [List.map_cons, List.sum_cons, sum_const fun T hT => h T (List.mem_cons_of_mem _ hT), h x List.mem_cons_self, List.length_cons, Int.natCast_add, Int.mul_add]
    show c + _ = _ + c * 1
    omega
/-- the marks of the places over some ties -/
abbrev mF (n : Nat) (E : List Ed) (F : List Int) : List Int := lms n (F.map (edE E))
/-- how many choices there are of one place of each piece, if there is no ring -/
def wF (n : Nat) (E : List Ed) (F : List Int) : Int := if cnt (mF n E F) + F.length = n then pdt ((mks (mF n E F)).map (cM (mF n E F) n)) else 0
theorem wF_nonneg (n : Nat) (E : List Ed) (F : List Int) : 0 ≤ wF n E F := by
  unfold wF
  split
  · refine pdt_nonneg fun x hx => ?_
    obtain ⟨y, _, rfl⟩ := List.mem_map.mp hx
    exact Int.natCast_nonneg _
  · exact Int.le_refl _
theorem cS_star {m n : Nat} {F R : List Int} (hF : IsSet m F) (hR : IsSet n R) : cS (stS m n) (F ++ R.map (· + (m : Int))) = R.length := by
  unfold cS
  rw [List.filter_append, List.length_append]
  have e1 : F.filter (fun z => decide (z ∈ stS m n)) = [] := List.filter_eq_nil_iff.mpr fun z hz c => by
    have h := hF.all z hz
    have := stS_mem.mp (of_decide_eq_true c)
    omega
  have e2 : (R.map (· + (m : Int))).filter (fun z => decide (z ∈ stS m n)) = R.map (· + (m : Int)) := List.filter_eq_self.mpr fun z hz => by
    obtain ⟨y, hy, rfl⟩ := List.mem_map.mp hz
    have h := hR.all y hy
    exact decide_eq_true (stS_mem.mpr ⟨by omega, by omega⟩)
  rw [e1, e2, List.length_map]
  exact Nat.zero_add _
/-- the sum over the trees of the greater web, by their ties of the web -/
theorem star_sum {E : List Ed} {n : Nat} (t : Int) (hE : ∀ e ∈ E, e.1 < n ∧ e.2.1 < n) (h1 : ∀ e ∈ E, e.2.2 = 1) : TW n (E ++ starE n t n) ((subs E.length).map fun F => wF n E F * t ^ cnt (mF n E F)).sum := by
  obtain ⟨f, hf⟩ : ∃ f : List Int → List (List Int), f = fun F => if cnt (mF n E F) + F.length = n then (trs (mF n E F) n (mks (mF n E F))).map fun R => F ++ R.map (· + (E.length : Int)) else [] := ⟨_, rfl⟩
  have fm : ∀ F T, IsSet E.length F → (T ∈ f F ↔ ∃ R, IsSet n R ∧ T = F ++ R.map (· + (E.length : Int)) ∧ IsT n (E ++ starE n t n) T) := fun F T hF => by
    rw [hf]
    show T ∈ (if _ then _ else _) ↔ _
    constructor
    · intro h
      split at h
      · rename_i c
        obtain ⟨R, hR, rfl⟩ := List.mem_map.mp h
        obtain ⟨r1, r2⟩ := trs_mem.mp hR
        exact ⟨R, r1, rfl, (star_tree hE hF r1).mpr ⟨c, r2⟩⟩
      · cases h
    · rintro ⟨R, r1, rfl, h⟩
      obtain ⟨c, r2⟩ := (star_tree hE hF r1).mp h
      rw [if_pos c]
      exact List.mem_map.mpr ⟨R, trs_mem.mpr ⟨r1, r2⟩, rfl⟩
  refine ⟨(subs E.length).flatMap f, ?_, fun T => ?_, ?_⟩
  · unfold List.Nodup
    rw [List.pairwise_flatMap]
    refine ⟨fun F hF => ?_, List.Pairwise.imp_of_mem (R := (· ≠ ·)) (fun {F G} hF hG hne x hx y hy e => ?_) (subs_nodup _)⟩
    · rw [hf]
      show List.Pairwise _ (if _ then _ else _)
      split
      · refine List.pairwise_map.mpr (List.Pairwise.imp_of_mem (R := (· ≠ ·)) (fun {a b} ha hb h e => h ?_) (trs_nodup _ _ _))
        exact (set_join_inj (subs_mem.mp hF) (trs_mem.mp ha).1 (subs_mem.mp hF) (trs_mem.mp hb).1 e).2
      · exact .nil
    · obtain ⟨R, r1, r2, _⟩ := (fm F x (subs_mem.mp hF)).mp hx
      obtain ⟨S, s1, s2, _⟩ := (fm G y (subs_mem.mp hG)).mp hy
      exact hne (set_join_inj (subs_mem.mp hF) r1 (subs_mem.mp hG) s1 (by rw [← r2, ← s2, e])).1
  · rw [List.mem_flatMap]
    constructor
    · rintro ⟨F, hF, hT⟩
      obtain ⟨R, _, _, h⟩ := (fm F T (subs_mem.mp hF)).mp hT
      exact h
    · intro h
      have hs := h.1
      rw [List.length_append, starE_len] at hs
      obtain ⟨F, R, e, hF, hR⟩ := set_split hs
      exact ⟨F, subs_mem.mpr hF, (fm F T hF).mpr ⟨R, hR, e, h⟩⟩
  · rw [sum_flat]
    refine congrArg List.sum (List.map_congr_left fun F hF => ?_)
    have hF := subs_mem.mp hF
    rw [hf]
    show ((if _ then _ else _ : List (List Int)).map _).sum = _
    unfold wF
    by_cases c : cnt (mF n E F) + F.length = n
    · rw [if_pos c, if_pos c, sum_const (c := t ^ cnt (mF n E F)) fun T hT => ?_, List.length_map, trs_len (by rw [lms_length]; exact Nat.le_refl _) (mks_nodup _), Int.mul_comm]
      obtain ⟨R, hR, rfl⟩ := List.mem_map.mp hT
      obtain ⟨r1, r2⟩ := trs_mem.mp hR
      rw [star_wt h1 fun z hz => by have := (set_join hF r1).all z hz; omega, cS_star hF r1]
      have := r2.length_eq
      rw [List.length_map, mks_len] at this
      rw [this]
    · rw [if_neg c, if_neg c, Int.zero_mul]
      rfl
/-- one set of ties counted -/
def addF (n : Nat) (E : List Ed) (l : List Int) (F : List Int) : List Int := if cnt (mF n E F) + F.length = n then l.set (cnt (mF n E F)) (l.getD (cnt (mF n E F)) 0 + wF n E F) else l
def dueF (n : Nat) (E : List Ed) (L : List (List Int)) : List Int := L.foldl (addF n E) (List.replicate (n + 1) 0)
theorem dueF_snoc (n : Nat) (E : List Ed) (L : List (List Int)) (F : List Int) : dueF n E (L ++ [F]) = addF n E (dueF n E L) F := by
  unfold dueF
  rw [List.foldl_append]
  rfl
theorem addF_len (n : Nat) (E : List Ed) (l F : List Int) : (addF n E l F).length = l.length := by
  unfold addF
  split
  · exact List.length_set
  · rfl
theorem dueF_len (n : Nat) (E : List Ed) (L : List (List Int)) : (dueF n E L).length = n + 1 := by
  refine list_end (P := fun L => (dueF n E L).length = n + 1) (List.length_replicate ..) (fun L F ih => ?_) L
  rw [dueF_snoc, addF_len, ih]
theorem ev_put (b w : Int) : ∀ (l : List Int) (c : Nat), c < l.length → ev b (l.set c (l.getD c 0 + w)) = ev b l + w * b ^ c
  | [], c, h => absurd h (Nat.not_lt_zero _)
  | d :: l, 0, _ => by
    show d + w + b * ev b l = d + b * ev b l + w * b ^ 0
    rw [Int.pow_zero]
    omega
  | d :: l, c + 1, h => by
    show d + b * ev b (l.set c (l.getD c 0 + w)) = d + b * ev b l + w * b ^ (c + 1)
    have e : b * (w * b ^ c) = w * b ^ (c + 1) := by rw [Int.pow_succ, ← Int.mul_assoc, Int.mul_comm b w, Int.mul_assoc, Int.mul_comm b]
    rw [ev_put b w l c (Nat.lt_of_succ_lt_succ h), Int.mul_add, e]
    omega
theorem dueF_ev (n : Nat) (E : List Ed) (t : Int) (L : List (List Int)) : ev t (dueF n E L) = (L.map fun F => wF n E F * t ^ cnt (mF n E F)).sum := by
  refine list_end (P := fun L => ev t (dueF n E L) = (L.map fun F => wF n E F * t ^ cnt (mF n E F)).sum) (ev_zero t _) (fun L F ih => ?_) L
  rw [dueF_snoc, List.map_append, List.map_singleton, sum_snocI, ← ih]
  unfold addF
  split
  · rename_i c
    exact ev_put t _ _ _ (by rw [dueF_len]; omega)
  · rename_i c
    unfold wF
    rw [if_neg c, Int.zero_mul, Int.add_zero]
theorem dueF_in (n : Nat) (E : List Ed) (L : List (List Int)) : ∀ x ∈ dueF n E L, 0 ≤ x := by
  refine list_end (P := fun L => ∀ x ∈ dueF n E L, 0 ≤ x) (fun x hx => ?_) (fun L F ih x hx => ?_) L
  · rw [List.eq_of_mem_replicate hx]
    exact Int.le_refl _
  · rw [dueF_snoc] at hx
    unfold addF at hx
    split at hx
    · rcases List.mem_or_eq_of_mem_set hx with e | e
      · exact ih x e
      · have g : 0 ≤ (dueF n E L).getD (cnt (mF n E F)) 0 := by
          rw [List.getD_eq_getElem?_getD]
          cases hz : (dueF n E L)[cnt (mF n E F)]? with
          | none => exact Int.le_refl _
          | some y => exact ih y (List.mem_of_getElem? hz)
        have := wF_nonneg n E F
        omega
    · exact ih x hx
/-- the determinants for all t have these figures -/
theorem due_det {k : Nat} {E : List Ed} (t : Int) (h : ∀ e ∈ E, e.1 < k ∧ e.2.1 < k) (hE : ∀ e ∈ E, e.2.2 = 1) : (det k fun i j => lapE E i j + if i = j then t else 0) = ev t (dueF k E (subs E.length)) := by
  rw [dueF_ev]
  exact (forest_det t h).uniq (star_sum t h hE)
end My

/-! ## the web whose trees are the cheapest ones -/
namespace My
open PySem L2
/-! ### marks: each the least place of its piece -/
section
variable {n : Nat} {es : List (Nat × Nat)} (h : InN n es)
include h
end
/-! ### the ties of the web by their lengths -/
abbrev lnz (ls : List Int) (z : Int) : Int := ls.getD z.toNat 0
def lwS (ls : List Int) (x : Int) : List Int := (rgL ls.length).filter fun z => decide (lnz ls z < x)
/-- the marks below and up to a length -/
def mA (N : Nat) (ps : List (Int × Int)) (ls : List Int) (x : Int) : List Int := pms N (endsOf ps (lwS ls x))
section
variable {n : Int} {ps : List (Int × Int)} {ls T : List Int} (g : GoodW n ps) (hl : ls.length = ps.length)
include g hl
end
end My

/-! ## sums that meet: sorts turned, forests of few and of all pieces, weights scaled -/
namespace My
open PySem L2
theorem srts_eq (n : Nat) (S : List Int) (L : List (List Int)) : srts n S L = (List.range n).map fun c => ((L.countP fun T => decide (cS S T = c) : Nat) : Int) := by
  refine list_end (P := fun L => srts n S L = (List.range n).map fun c => ((L.countP fun T => decide (cS S T = c) : Nat) : Int)) ?_ (fun L T ih => ?_) L
  · refine List.ext_getElem? fun i => ?_
    rw [srts_nil, List.getElem?_map]
    by_cases c : i < n
    · rw [List.getElem?_range c, List.getElem?_replicate, if_pos c]
      rfl
    · rw [List.getElem?_eq_none (by rw [List.length_replicate]; omega), List.getElem?_eq_none (by rw [List.length_range]; omega)]
      rfl
  · rw [srts_snoc]
    unfold bmp
    have hg : ∀ c, c < n → (srts n S L).getD c 0 = ((L.countP fun T => decide (cS S T = c) : Nat) : Int) := fun c hc => by
      rw [ih, List.getD_eq_getElem?_getD, List.getElem?_map, List.getElem?_range hc]
      rfl
    refine List.ext_getElem? fun i => ?_
    rw [List.getElem?_map]
    by_cases c : i < n
    · rw [List.getElem?_range c]
      show _ = some (((L ++ [T]).countP _ : Nat) : Int)
      rw [List.countP_append, List.countP_singleton]
      by_cases d : cS S T = i
      · rw [d, List.getElem?_set_self (by rw [srts_len]; exact c), hg i c, if_pos (by simp)]
        rfl
      · rw [List.getElem?_set_ne d, if_neg (by simpa using d), Nat.add_zero, ih, List.getElem?_map, List.getElem?_range c]
        rfl
    · rw [List.getElem?_eq_none (by rw [List.length_set, srts_len]; omega), List.getElem?_eq_none (by rw [List.length_range]; omega)]
      rfl
/-- the other ties tell the same sorts, turned -/
theorem srts_rev {n : Nat} {S O : List Int} {L : List (List Int)} (h : ∀ T ∈ L, cS S T + cS O T + 1 = n) : srts n O L = (srts n S L).reverse := by
  rw [srts_eq, srts_eq]
  refine List.ext_getElem? fun i => ?_
  by_cases c : i < n
  · rw [List.getElem?_reverse (by rw [List.length_map, List.length_range]; exact c), List.length_map, List.length_range, List.getElem?_map, List.getElem?_map, List.getElem?_range c, List.getElem?_range (by omega)]
    refine congrArg some (congrArg Int.ofNat (List.countP_congr fun T hT => ?_))
    have := h T hT
    rw [decide_eq_true_iff, decide_eq_true_iff]
    omega
  · rw [List.getElem?_eq_none (by rw [List.length_map, List.length_range]; omega), List.getElem?_eq_none (by rw [List.length_reverse, List.length_map, List.length_range]; omega)]
theorem cS_other {m : Nat} {S T O : List Int} (hT : ∀ z ∈ T, 0 ≤ z ∧ z < (m : Int)) (hO : ∀ z, 0 ≤ z → z < (m : Int) → (z ∈ O ↔ z ∉ S)) : cS S T + cS O T = T.length := by
  unfold cS
  induction T with
  | nil => rfl
  | cons z T ih =>
    have i := ih fun y hy => hT y (List.mem_cons_of_mem _ hy)
    obtain ⟨z0, z1⟩ := hT z List.mem_cons_self
    have o := hO z z0 z1
    rw [List.length_cons]
    by_cases c : z ∈ S
    · rw [List.filter_cons_of_pos (by simpa using c), List.filter_cons_of_neg (by simpa using fun h => (o.mp h) c), List.length_cons]
      omega
    · rw [List.filter_cons_of_neg (by simpa using c), List.filter_cons_of_pos (by simpa using o.mpr c), List.length_cons]
      omega
theorem srts_sum {n : Nat} {S : List Int} {L : List (List Int)} (h : ∀ T ∈ L, T.length < n) : (srts n S L).sum = (L.length : Int) := by
  rw [← ev_one, srts_ev 1 n S L h, sum_ones fun T _ => Int.one_pow]
theorem ev_snoc (b x : Int) : ∀ l : List Int, ev b (l ++ [x]) = ev b l + x * b ^ l.length
  | [] => by show x + b * 0 = 0 + x * b ^ 0; rw [Int.mul_zero, Int.pow_zero]; omega
  | d :: l => by
    show d + b * ev b (l ++ [x]) = d + b * ev b l + x * b ^ (l.length + 1)
    have e : b * (x * b ^ l.length) = x * b ^ (l.length + 1) := by rw [Int.pow_succ, ← Int.mul_assoc, Int.mul_comm b x, Int.mul_assoc, Int.mul_comm b]
    rw [ev_snoc b x l, Int.mul_add, e]
    omega
/-- the sum of the figures times the powers -/
def pws (b : Int) (l : List Int) (i : Nat) : List Int := (List.range i).map fun k => l.getD k 0 * b ^ k
theorem pws_len (b : Int) (l : List Int) (i : Nat) : (pws b l i).length = i := by unfold pws; rw [List.length_map, List.length_range]
theorem pws_snoc (b : Int) (l : List Int) (i : Nat) : pws b l (i + 1) = pws b l i ++ [l.getD i 0 * b ^ i] := by unfold pws; rw [List.range_succ, List.map_append]; rfl
theorem pws_sum (b : Int) (l : List Int) : ∀ i, i ≤ l.length → (pws b l i).sum = ev b (l.take i)
  | 0, _ => rfl
  | i + 1, h => by
    have hi : l[i]? = some (l.getD i 0) := by rw [List.getD_eq_getElem?_getD, List.getElem?_eq_getElem (by omega)]; rfl
    rw [pws_snoc, sum_snocI, pws_sum b l i (by omega), List.take_succ, hi]
    show _ = ev b (l.take i ++ [_])
    rw [ev_snoc, List.length_take, Nat.min_eq_left (by omega)]
/-! ### forests of no, of one and of all pieces -/
theorem dueF_at (n : Nat) (E : List Ed) {c : Nat} (hc : c ≤ n) (L : List (List Int)) : (dueF n E L).getD c 0 = (L.map fun F => if cnt (mF n E F) = c ∧ cnt (mF n E F) + F.length = n then wF n E F else 0).sum := by
  refine list_end (P := fun L => (dueF n E L).getD c 0 = (L.map fun F => if cnt (mF n E F) = c ∧ cnt (mF n E F) + F.length = n then wF n E F else 0).sum) ?_ (fun L F ih => ?_) L
  · show (List.replicate (n + 1) (0 : Int)).getD c 0 = 0
    rw [List.getD_eq_getElem?_getD, List.getElem?_replicate, if_pos (by omega)]
    rfl
  · rw [dueF_snoc, List.map_append, List.map_singleton, sum_snocI, ← ih]
    unfold addF
    by_cases h : cnt (mF n E F) + F.length = n
    · rw [if_pos h]
      by_cases d : cnt (mF n E F) = c
      · rw [if_pos ⟨d, h⟩, d, List.getD_eq_getElem?_getD, List.getElem?_set_self (by rw [dueF_len]; omega)]
        rfl
      · rw [if_neg (fun q => d q.1), Int.add_zero, List.getD_eq_getElem?_getD, List.getElem?_set_ne d, List.getD_eq_getElem?_getD]
    · rw [if_neg h, if_neg (fun q => h q.2), Int.add_zero]
theorem sum_pick {α : Type} {p : α → Prop} [DecidablePred p] {f : α → Int} {k : Int} (h : ∀ x, p x → f x = k) : ∀ L : List α, (L.map fun x => if p x then f x else 0).sum = k * ((L.filter fun x => decide (p x)).length : Int)
  | [] => by show (0 : Int) = k * 0; rw [Int.mul_zero]
  | x :: L => by
    rw [List.map_cons, List.sum_cons, sum_pick h L]
    by_cases c : p x
    · rw [if_pos c, h x c, List.filter_cons_of_pos (by simpa using c), List.length_cons, Int.natCast_add, Int.mul_add]
      show k + _ = _ + k * 1
      omega
    · rw [if_neg c, List.filter_cons_of_neg (by simpa using c)]
      omega
theorem cnt_least {M : List Int} (h : 1 ≤ M.length) : 1 ≤ cnt M := by
  rw [← mks_len]
  exact List.length_pos_of_mem (mks_mem.mpr ⟨0, by omega, rfl⟩)
theorem due_none {n : Nat} (E : List Ed) (h : 1 ≤ n) (L : List (List Int)) : (dueF n E L).getD 0 0 = 0 := by
  rw [dueF_at n E (Nat.zero_le _), sum_pick (k := 0) fun F hF => ?_, Int.zero_mul]
  have := cnt_least (M := mF n E F) (by rw [lms_length]; exact h)
  omega
theorem count_same {M : List Int} {x : Int} (h : ∀ y ∈ M, y = x) : M.count x = M.length := List.count_eq_length.mpr fun y hy => (h y hy).symm
theorem wF_one {n : Nat} {E : List Ed} {F : List Int} (h : 1 ≤ n) (h1 : cnt (mF n E F) = 1) (h2 : cnt (mF n E F) + F.length = n) : wF n E F = (n : Int) := by
  unfold wF
  rw [if_pos h2]
  have lM : (mF n E F).length = n := lms_length _ _
  generalize mF n E F = M at *
  have same := (cnt_one (M := M) (by omega)).mp h1
  have l1 : (mks M).length = 1 := (mks_len M).trans h1
  obtain ⟨x, hx⟩ := List.length_eq_one_iff.mp l1
  rw [hx]
  show cM M n x * 1 = _
  rw [Int.mul_one]
  unfold cM
  rw [← lM, List.take_length, count_same fun y hy => ?_]
  have q : y ∈ mks M := mks_mem.mpr (mem_mk.mp hy)
  rw [hx] at q
  exact List.mem_singleton.mp q
theorem pdt_ones : ∀ {l : List Int}, (∀ x ∈ l, x = 1) → pdt l = 1
  | [], _ => rfl
  | x :: l, h => by
    show x * pdt l = 1
    rw [h x List.mem_cons_self, pdt_ones fun y hy => h y (List.mem_cons_of_mem _ hy)]
    rfl
theorem wF_nil (n : Nat) (E : List Ed) : wF n E [] = 1 := by
  unfold wF
  have e : mF n E [] = (List.range n).map fun (i : Nat) => (i : Int) := rfl
  have l : (mF n E []).length = n := lms_length _ _
  rw [if_pos (by rw [e, cnt_range]; rfl)]
  refine pdt_ones fun x hx => ?_
  obtain ⟨y, hy, rfl⟩ := List.mem_map.mp hx
  obtain ⟨i, hi, hy2⟩ := mks_mem.mp hy
  have hm : y ∈ mF n E [] := mem_mk.mpr ⟨i, hi, hy2⟩
  unfold cM
  rw [List.take_of_length_le (by rw [l]; exact Nat.le_refl _)]
  have nd : (mF n E []).Nodup := by
    rw [e]
    exact List.Pairwise.map _ (fun a b (h : a ≠ b) c => h (by omega)) List.nodup_range
  rw [nd.count, if_pos hm]
  rfl
theorem due_all {n m : Nat} (E : List Ed) : (dueF n E (subs m)).getD n 0 = 1 := by
  rw [dueF_at n E (Nat.le_refl _), sum_pick (k := 1) fun F hF => ?_, Int.one_mul]
  · have e : (subs m).filter (fun F => decide (cnt (mF n E F) = n ∧ cnt (mF n E F) + F.length = n)) = (subs m).filter fun F => F == [] := List.filter_congr fun F hF => by
      rw [Bool.eq_iff_iff, decide_eq_true_iff, beq_iff_eq]
      constructor
      · rintro ⟨a, b⟩
        exact List.length_eq_zero_iff.mp (by omega)
      · rintro rfl
        have : cnt (mF n E []) = n := cnt_range n
        exact ⟨this, this⟩
    rw [e, ← List.countP_eq_length_filter]
    show (((subs m).count [] : Nat) : Int) = 1
    rw [(subs_nodup m).count, if_pos (subs_mem.mpr (IsSet.nil _))]
    rfl
  · have : F = [] := List.length_eq_zero_iff.mp (by omega)
    rw [this]
    exact wF_nil n E
theorem due_one {n : Int} {ps : List (Int × Int)} {c : Nat} (g : GoodW n ps) (h : TC n ps c) : (dueF n.toNat (edsOf ps (List.replicate ps.length 1)) (subs ps.length)).getD 1 0 = (c : Int) * n := by
  obtain ⟨L, l1, l2, rfl⟩ := h
  obtain ⟨g1, g2, g3, g4⟩ := id g
  rw [dueF_at _ _ (by omega), sum_pick (k := n) fun F hF => ?_, Int.mul_comm]
  · congr 2
    refine (List.Perm.length_eq ((List.perm_ext_iff_of_nodup ((subs_nodup _).filter _) l1).mpr fun F => ?_))
    rw [List.mem_filter, subs_mem, decide_eq_true_iff, l2]
    have hm : IsSet ps.length F → F.map (edE (edsOf ps (List.replicate ps.length 1))) = endsOf ps F := fun hs => List.map_congr_left fun z hz => by
      have := hs.all z hz
      unfold edE edsOf
      rw [List.getD_eq_getElem?_getD, List.getElem?_zipWith, List.getElem?_eq_getElem (by omega), List.getElem?_eq_getElem (show z.toNat < (List.replicate ps.length (1 : Int)).length by rw [List.length_replicate]; omega), List.getD_eq_getElem?_getD, List.getElem?_eq_getElem (by omega)]
      rfl
    constructor
    · rintro ⟨a, b, d⟩
      have b2 : cnt (lms n.toNat (endsOf ps F)) = 1 := by rw [← hm a]; exact b
      refine ⟨a, by omega, fun i j hi hj => (lms_iff (ends_in g a.all) hi hj).mp ((cnt_one (by rw [lms_length]; omega)).mp b2 i j (by rw [lms_length]; exact hi) (by rw [lms_length]; exact hj))⟩
    · rintro ⟨a, b, d⟩
      have b2 : cnt (mF n.toNat (edsOf ps (List.replicate ps.length 1)) F) = 1 := by
        show cnt (lms _ _) = 1
        rw [hm a]
        exact (cnt_one (by rw [lms_length]; omega)).mpr fun i j hi hj => (lms_iff (ends_in g a.all) (by rw [lms_length] at hi; exact hi) (by rw [lms_length] at hj; exact hj)).mpr (d i j (by rw [lms_length] at hi; exact hi) (by rw [lms_length] at hj; exact hj))
      exact ⟨a, b2, by omega⟩
  · rw [wF_one (by omega) hF.1 hF.2]
    omega
/-! ### the web with one more place, and weights scaled -/
def rays (n : Nat) (k : Nat) : List (Int × Int) := (List.range k).map fun (i : Nat) => ((i : Int), (n : Int))
theorem rays_len (n k : Nat) : (rays n k).length = k := by unfold rays; rw [List.length_map, List.length_range]
theorem rays_eds {ps : List (Int × Int)} {n : Nat} {t : Int} : edsOf (ps ++ rays n n) (List.replicate ps.length 1 ++ List.replicate n t) = edsOf ps (List.replicate ps.length 1) ++ starE n t n := by
  unfold edsOf
  rw [List.zipWith_append (by rw [List.length_replicate])]
  congr 1
  unfold starE rays
  refine List.ext_getElem? fun i => ?_
  rw [List.getElem?_zipWith, List.getElem?_map, List.getElem?_map, List.getElem?_replicate]
  by_cases c : i < n
  · rw [List.getElem?_range c, if_pos c]
    rfl
  · rw [List.getElem?_eq_none (l := List.range n) (by rw [List.length_range]; omega), if_neg c]
    rfl
theorem rays_good {n : Int} {ps : List (Int × Int)} (g : GoodW n ps) (h1 : n < 14) (h2 : (ps.length : Int) + n ≤ 30) : GoodW (n + 1) (ps ++ rays n.toNat n.toNat) := by
  obtain ⟨g1, g2, g3, g4⟩ := g
  refine ⟨by omega, by omega, by rw [List.length_append, rays_len]; omega, fun p hp => ?_⟩
  rcases List.mem_append.mp hp with c | c
  · have := g4 p c
    omega
  · unfold rays at c
    obtain ⟨i, hi, rfl⟩ := List.mem_map.mp c
    have := List.mem_range.mp hi
    show 0 ≤ (i : Int) ∧ (i : Int) < n + 1 ∧ 0 ≤ (n.toNat : Int) ∧ (n.toNat : Int) < n + 1
    omega
theorem star_ws {n : Int} {ps : List (Int × Int)} (t : Int) (g : GoodW n ps) : WS (n + 1) (ps ++ rays n.toNat n.toNat) (List.replicate ps.length 1 ++ List.replicate n.toNat t) (ev t (dueF n.toNat (edsOf ps (List.replicate ps.length 1)) (subs ps.length))) := by
  obtain ⟨g1, g2, g3, g4⟩ := id g
  have el : (edsOf ps (List.replicate ps.length (1 : Int))).length = ps.length := by
    unfold edsOf
    rw [List.length_zipWith, List.length_replicate]
    omega
  have w1 : ∀ e ∈ edsOf ps (List.replicate ps.length (1 : Int)), e.2.2 = 1 := fun e he => by
    unfold edsOf at he
    obtain ⟨i, hi⟩ := List.getElem?_of_mem he
    rw [List.getElem?_zipWith] at hi
    cases h1 : ps[i]? with
    | none => rw [h1] at hi; cases hi
    | some p =>
      cases h2 : (List.replicate ps.length (1 : Int))[i]? with
      | none => rw [h1, h2] at hi; cases hi
      | some w =>
        rw [h1, h2] at hi
        obtain rfl := Option.some.inj hi
        exact List.eq_of_mem_replicate (List.mem_of_getElem? h2)
  have h := star_sum t (E := edsOf ps (List.replicate ps.length 1)) (n := n.toNat) (fun e he => by have := eds_in g _ e he; omega) w1
  rw [el, ← dueF_ev, ← rays_eds] at h
  obtain ⟨L, a1, a2, a3⟩ := h
  have hw : (List.replicate ps.length (1 : Int) ++ List.replicate n.toNat t).length = (ps ++ rays n.toNat n.toNat).length := by rw [List.length_append, List.length_append, List.length_replicate, List.length_replicate, rays_len]
  have hm : ∀ T, T ∈ L ↔ IsTree (n + 1) (ps ++ rays n.toNat n.toNat) T := fun T => by
    rw [a2 T, ← isT_web (n := n + 1) (by omega) hw, show (n + 1 - 1).toNat = n.toNat by omega]
  refine ⟨L, a1, hm, ?_⟩
  rw [← a3]
  exact congrArg List.sum (List.map_congr_left fun T hT => (wtE_wtL hw ((hm T).mp hT).1.all).symm)
theorem wtL_scale {ws : List Int} (c : Int) : ∀ {T : List Int}, (∀ z ∈ T, 0 ≤ z ∧ z < (ws.length : Int)) → wtL (ws.map (· * c)) T = wtL ws T * c ^ T.length
  | [], _ => by show (1 : Int) = 1 * c ^ 0; rw [Int.pow_zero]; rfl
  | z :: T, h => by
    obtain ⟨z0, z1⟩ := h z List.mem_cons_self
    show (ws.map (· * c)).getD z.toNat 0 * wtL (ws.map (· * c)) T = ws.getD z.toNat 0 * wtL ws T * c ^ (T.length + 1)
    rw [wtL_scale c fun y hy => h y (List.mem_cons_of_mem _ hy)]
    have e : (ws.map (· * c)).getD z.toNat 0 = ws.getD z.toNat 0 * c := by
      rw [List.getD_eq_getElem?_getD, List.getElem?_map, List.getD_eq_getElem?_getD, List.getElem?_eq_getElem (by omega)]
      rfl
    rw [e, Int.pow_succ]
    generalize ws.getD z.toNat 0 = p
    generalize wtL ws T = q
    generalize c ^ T.length = r
    rw [Int.mul_assoc, Int.mul_assoc, Int.mul_comm c (q * r), Int.mul_assoc]
theorem ws_scale {n : Int} {ps : List (Int × Int)} {ws : List Int} {s : Int} (c : Int) (hw : ws.length = ps.length) (h : WS n ps ws s) : WS n ps (ws.map (· * c)) (s * c ^ (n - 1).toNat) := by
  obtain ⟨L, a1, a2, rfl⟩ := h
  refine ⟨L, a1, a2, ?_⟩
  have e : L.map (wtL (ws.map (· * c))) = L.map fun T => wtL ws T * c ^ (n - 1).toNat := List.map_congr_left fun T hT => by
    have ht := (a2 T).mp hT
    rw [wtL_scale c fun z hz => by have := ht.1.all z hz; omega]
    congr 2
    have := ht.2.1
    omega
  rw [e, sum_scale, Int.mul_comm]
theorem ws_ones {n : Int} {ps : List (Int × Int)} {c : Nat} (h : TC n ps c) : WS n ps (List.replicate ps.length 1) (c : Int) := by
  obtain ⟨L, a1, a2, rfl⟩ := h
  refine ⟨L, a1, a2, sum_ones fun T hT => ?_⟩
  have hs := ((a2 T).mp hT).1.all
  clear hT
  induction T with
  | nil => rfl
  | cons z T ih =>
    have hz := hs z List.mem_cons_self
    show (List.replicate ps.length (1 : Int)).getD z.toNat 0 * wtL _ T = 1
    rw [ih fun y hy => hs y (List.mem_cons_of_mem _ hy), List.getD_eq_getElem?_getD, List.getElem?_replicate, if_pos (by omega)]
    rfl
end My

/-! ## sum of a tuple of ints -/
namespace L2
open PySem PySem.Spec PyProof.Rows
section
variable {prog : Program} {w : World} {A : Around} {E : Value → Shared → Prop} {s : Shared} {l : Addr} {xs : Array (Int × Tok)}
theorem sum_intTup {Q : Value → Shared → Prop} (hh : A.handled = none) (hl : s.heap.IsTuple l (intItems xs))
    (h : ∀ h' tk t', (∀ b o, s.heap.get? b = some o → h'.get? b = some o) → Q (.int (preSum (numAt xs) xs.size) t') { s with heap := h', toks := tk }) :
    wpAny (model prog w) A (call (.builtin "sum") [.ref l]) Q E s := by
  refine call_sum_walkG (iter_intTup hl fun s₂ e st hfp hlI => ?_)
  subst e
  refine ⟨_, _, _, _, _, _, numAt xs, rfl, Walks.tuple (A := A.in1) hh _ l hlI (intItems xs), st, hfp, (fun _ _ => intItems_at), fun h' tk t' hk => ?_⟩
  have := h h' tk t' (old_keptT hk)
  simpa [intItems] using this
end
section
variable {X : Cx}
theorem call_sumTI (K : PySem.W.Frag) (hc : X.calm = true) (hk : X.K = K := by rfl) : CallR X (.builtin "sum") (fun xs H Q => ∃ (p : Addr) (ns : List Int), xs = [.ref p] ∧ SqT K H p (ns.map V.int) ∧ Q (.int ns.sum) H) := by
  subst hk
  intro pins s σ H xs us Q I r h
  obtain ⟨p, ns, rfl, hq, q⟩ := h
  obtain ⟨u, rfl, ru⟩ := vals1 r
  obtain rfl : u = Value.ref p := ru
  obtain ⟨its, rv, pl, hz⟩ := I.tuple hq
  have hi := ints_of_vals rv
  have hall := hi.allInts
  obtain ⟨xs, ex⟩ := hall.items
  have hl : s.heap.IsTuple p its.toArray := pl
  rw [ex] at hl
  refine sum_intTup (I.ok.hd hc) hl fun h' tk t' hk => ?_
  have e1 : preSum (numAt xs) xs.size = ns.sum := by
    have e2 := hi.numsOf
    rw [show its = its.toArray.toList from rfl, ex, nums_intItems] at e2
    rw [preSum_eq, List.take_of_length_le (by simp), ← e2]
  exact ⟨.int ns.sum, H, I.kept hk, ⟨t', by rw [e1]⟩, q⟩
end
end L2

namespace My
open PySem L2
def top (i : Nat) : Stmt := PySem.Challenge.pw_spanrow_k73_whole_sums_meet.main.body.getD i (.Pass ⟨0, 0, 0, 0⟩)
abbrev s_refuse_not_square : Stmt := top 8
abbrev s_row_taken_off : Stmt := top 9
abbrev s_first_with_some : Stmt := top 10
abbrev s_determinant : Stmt := top 11
abbrev s_row_without : Stmt := top 12
abbrev s_table_without : Stmt := top 13
abbrev s_refuse_bad_web : Stmt := top 18
abbrev s_Web___init : Stmt := inClass (top 17) 0
abbrev s_is_place : Stmt := top 19
abbrev s_is_tie : Stmt := top 20
abbrev s_is_set : Stmt := top 22
abbrev s_made_set : Stmt := top 23
abbrev s_refuse_bad_row : Stmt := top 21
abbrev s_weighted_table : Stmt := top 25
abbrev s_pull_table : Stmt := top 26
abbrev s_tree_count : Stmt := top 27
abbrev s_tree_sum : Stmt := top 29
abbrev s_factors_of : Stmt := top 30
abbrev s_sorts_of : Stmt := top 31
abbrev s_sorts_at : Stmt := top 32
abbrev s_forest_sum : Stmt := top 33
abbrev s_rooted_forests : Stmt := top 34
abbrev s_law_cell : Stmt := top 36
abbrev s_law_mixed : Stmt := top 37
abbrev s_law_draws : Stmt := top 38
abbrev s_law_ties : Stmt := top 39
abbrev s_law_web : Stmt := top 40
abbrev s_law_some : Stmt := top 41
abbrev s_law_weights : Stmt := top 42
abbrev s_law_power : Stmt := top 43
abbrev s_law_sorts_good : Stmt := top 44
abbrev s_law_forests_good : Stmt := top 45
abbrev s_law : Stmt := top 46
structure Adr where
  a_refuse_not_square : Addr
  d_refuse_not_square : FuncData
  a_row_taken_off : Addr
  d_row_taken_off : FuncData
  a_first_with_some : Addr
  d_first_with_some : FuncData
  a_determinant : Addr
  d_determinant : FuncData
  a_row_without : Addr
  d_row_without : FuncData
  a_table_without : Addr
  d_table_without : FuncData
  a_refuse_bad_web : Addr
  d_refuse_bad_web : FuncData
  a_Web___init : Addr
  d_Web___init : FuncData
  a_is_place : Addr
  d_is_place : FuncData
  a_is_tie : Addr
  d_is_tie : FuncData
  a_is_set : Addr
  d_is_set : FuncData
  a_made_set : Addr
  d_made_set : FuncData
  a_refuse_bad_row : Addr
  d_refuse_bad_row : FuncData
  a_weighted_table : Addr
  d_weighted_table : FuncData
  a_pull_table : Addr
  d_pull_table : FuncData
  a_tree_count : Addr
  d_tree_count : FuncData
  a_tree_sum : Addr
  d_tree_sum : FuncData
  a_factors_of : Addr
  d_factors_of : FuncData
  a_sorts_of : Addr
  d_sorts_of : FuncData
  a_sorts_at : Addr
  d_sorts_at : FuncData
  a_forest_sum : Addr
  d_forest_sum : FuncData
  a_rooted_forests : Addr
  d_rooted_forests : FuncData
  a_law_cell : Addr
  d_law_cell : FuncData
  a_law_mixed : Addr
  d_law_mixed : FuncData
  a_law_draws : Addr
  d_law_draws : FuncData
  a_law_ties : Addr
  d_law_ties : FuncData
  a_law_web : Addr
  d_law_web : FuncData
  a_law_some : Addr
  d_law_some : FuncData
  a_law_weights : Addr
  d_law_weights : FuncData
  a_law_power : Addr
  d_law_power : FuncData
  a_law_sorts_good : Addr
  d_law_sorts_good : FuncData
  a_law_forests_good : Addr
  d_law_forests_good : FuncData
  a_law : Addr
  d_law : FuncData
  A_Web : Addr
  A_WebError : Addr
  A_NotSquare : Addr
  A_BadRow : Addr
  A_BadSet : Addr
  A_NoSuch : Addr
structure Txt (K : PySem.W.Frag) (mg : Str → Option Value) (t : Adr) : Prop where
  f_refuse_not_square : Fun K "refuse_not_square" "refuse_not_square" s_refuse_not_square t.a_refuse_not_square t.d_refuse_not_square
  b_refuse_not_square : Binds K t.d_refuse_not_square ["table"] []
  m_refuse_not_square : mg "refuse_not_square" = some (.ref t.a_refuse_not_square)
  f_row_taken_off : Fun K "row_taken_off" "row_taken_off" s_row_taken_off t.a_row_taken_off t.d_row_taken_off
  b_row_taken_off : Binds K t.d_row_taken_off ["row", "pivot", "last"] []
  m_row_taken_off : mg "row_taken_off" = some (.ref t.a_row_taken_off)
  f_first_with_some : Fun K "first_with_some" "first_with_some" s_first_with_some t.a_first_with_some t.d_first_with_some
  b_first_with_some : Binds K t.d_first_with_some ["rows"] []
  m_first_with_some : mg "first_with_some" = some (.ref t.a_first_with_some)
  f_determinant : Fun K "determinant" "determinant" s_determinant t.a_determinant t.d_determinant
  b_determinant : Binds K t.d_determinant ["table"] []
  m_determinant : mg "determinant" = some (.ref t.a_determinant)
  f_row_without : Fun K "row_without" "row_without" s_row_without t.a_row_without t.d_row_without
  b_row_without : Binds K t.d_row_without ["row", "number"] []
  m_row_without : mg "row_without" = some (.ref t.a_row_without)
  f_table_without : Fun K "table_without" "table_without" s_table_without t.a_table_without t.d_table_without
  b_table_without : Binds K t.d_table_without ["table", "number"] []
  m_table_without : mg "table_without" = some (.ref t.a_table_without)
  f_refuse_bad_web : Fun K "refuse_bad_web" "refuse_bad_web" s_refuse_bad_web t.a_refuse_bad_web t.d_refuse_bad_web
  b_refuse_bad_web : Binds K t.d_refuse_bad_web ["places", "ties"] []
  m_refuse_bad_web : mg "refuse_bad_web" = some (.ref t.a_refuse_bad_web)
  f_Web___init : Fun K "__init__" "Web.__init__" s_Web___init t.a_Web___init t.d_Web___init
  b_Web___init : Binds K t.d_Web___init ["self", "places", "ties"] []
  f_is_place : Fun K "is_place" "is_place" s_is_place t.a_is_place t.d_is_place
  b_is_place : Binds K t.d_is_place ["web", "number"] []
  m_is_place : mg "is_place" = some (.ref t.a_is_place)
  f_is_tie : Fun K "is_tie" "is_tie" s_is_tie t.a_is_tie t.d_is_tie
  b_is_tie : Binds K t.d_is_tie ["web", "number"] []
  m_is_tie : mg "is_tie" = some (.ref t.a_is_tie)
  f_is_set : Fun K "is_set" "is_set" s_is_set t.a_is_set t.d_is_set
  b_is_set : Binds K t.d_is_set ["web", "ties"] []
  m_is_set : mg "is_set" = some (.ref t.a_is_set)
  f_made_set : Fun K "made_set" "made_set" s_made_set t.a_made_set t.d_made_set
  b_made_set : Binds K t.d_made_set ["web", "ties"] []
  m_made_set : mg "made_set" = some (.ref t.a_made_set)
  f_refuse_bad_row : Fun K "refuse_bad_row" "refuse_bad_row" s_refuse_bad_row t.a_refuse_bad_row t.d_refuse_bad_row
  b_refuse_bad_row : Binds K t.d_refuse_bad_row ["web", "numbers"] []
  m_refuse_bad_row : mg "refuse_bad_row" = some (.ref t.a_refuse_bad_row)
  f_weighted_table : Fun K "weighted_table" "weighted_table" s_weighted_table t.a_weighted_table t.d_weighted_table
  b_weighted_table : Binds K t.d_weighted_table ["web", "weights"] []
  m_weighted_table : mg "weighted_table" = some (.ref t.a_weighted_table)
  f_pull_table : Fun K "pull_table" "pull_table" s_pull_table t.a_pull_table t.d_pull_table
  b_pull_table : Binds K t.d_pull_table ["web"] []
  m_pull_table : mg "pull_table" = some (.ref t.a_pull_table)
  f_tree_count : Fun K "tree_count" "tree_count" s_tree_count t.a_tree_count t.d_tree_count
  b_tree_count : Binds K t.d_tree_count ["web"] []
  m_tree_count : mg "tree_count" = some (.ref t.a_tree_count)
  f_tree_sum : Fun K "tree_sum" "tree_sum" s_tree_sum t.a_tree_sum t.d_tree_sum
  b_tree_sum : Binds K t.d_tree_sum ["web", "weights"] []
  m_tree_sum : mg "tree_sum" = some (.ref t.a_tree_sum)
  f_factors_of : Fun K "factors_of" "factors_of" s_factors_of t.a_factors_of t.d_factors_of
  b_factors_of : Binds K t.d_factors_of ["number", "base", "many"] []
  m_factors_of : mg "factors_of" = some (.ref t.a_factors_of)
  f_sorts_of : Fun K "sorts_of" "sorts_of" s_sorts_of t.a_sorts_of t.d_sorts_of
  b_sorts_of : Binds K t.d_sorts_of ["web", "ties"] []
  m_sorts_of : mg "sorts_of" = some (.ref t.a_sorts_of)
  f_sorts_at : Fun K "sorts_at" "sorts_at" s_sorts_at t.a_sorts_at t.d_sorts_at
  b_sorts_at : Binds K t.d_sorts_at ["web", "place"] []
  m_sorts_at : mg "sorts_at" = some (.ref t.a_sorts_at)
  f_forest_sum : Fun K "forest_sum" "forest_sum" s_forest_sum t.a_forest_sum t.d_forest_sum
  b_forest_sum : Binds K t.d_forest_sum ["web", "root_weight"] []
  m_forest_sum : mg "forest_sum" = some (.ref t.a_forest_sum)
  f_rooted_forests : Fun K "rooted_forests" "rooted_forests" s_rooted_forests t.a_rooted_forests t.d_rooted_forests
  b_rooted_forests : Binds K t.d_rooted_forests ["web"] []
  m_rooted_forests : mg "rooted_forests" = some (.ref t.a_rooted_forests)
  f_law_cell : Fun K "_law_cell" "_law_cell" s_law_cell t.a_law_cell t.d_law_cell
  b_law_cell : Binds K t.d_law_cell ["script", "k"] []
  m_law_cell : mg "_law_cell" = some (.ref t.a_law_cell)
  f_law_mixed : Fun K "_law_mixed" "_law_mixed" s_law_mixed t.a_law_mixed t.d_law_mixed
  b_law_mixed : Binds K t.d_law_mixed ["cell", "k"] []
  m_law_mixed : mg "_law_mixed" = some (.ref t.a_law_mixed)
  f_law_draws : Fun K "_law_draws" "_law_draws" s_law_draws t.a_law_draws t.d_law_draws
  b_law_draws : Binds K t.d_law_draws ["script", "start", "count", "way"] []
  m_law_draws : mg "_law_draws" = some (.ref t.a_law_draws)
  f_law_ties : Fun K "_law_ties" "_law_ties" s_law_ties t.a_law_ties t.d_law_ties
  b_law_ties : Binds K t.d_law_ties ["draws", "places", "hang"] []
  m_law_ties : mg "_law_ties" = some (.ref t.a_law_ties)
  f_law_web : Fun K "_law_web" "_law_web" s_law_web t.a_law_web t.d_law_web
  b_law_web : Binds K t.d_law_web ["script", "most", "count"] []
  m_law_web : mg "_law_web" = some (.ref t.a_law_web)
  f_law_some : Fun K "_law_some" "_law_some" s_law_some t.a_law_some t.d_law_some
  b_law_some : Binds K t.d_law_some ["cell", "count"] []
  m_law_some : mg "_law_some" = some (.ref t.a_law_some)
  f_law_weights : Fun K "_law_weights" "_law_weights" s_law_weights t.a_law_weights t.d_law_weights
  b_law_weights : Binds K t.d_law_weights ["script", "count"] []
  m_law_weights : mg "_law_weights" = some (.ref t.a_law_weights)
  f_law_power : Fun K "_law_power" "_law_power" s_law_power t.a_law_power t.d_law_power
  b_law_power : Binds K t.d_law_power ["number", "count"] []
  m_law_power : mg "_law_power" = some (.ref t.a_law_power)
  f_law_sorts_good : Fun K "_law_sorts_good" "_law_sorts_good" s_law_sorts_good t.a_law_sorts_good t.d_law_sorts_good
  b_law_sorts_good : Binds K t.d_law_sorts_good ["web", "places", "count", "many", "some", "number"] []
  m_law_sorts_good : mg "_law_sorts_good" = some (.ref t.a_law_sorts_good)
  f_law_forests_good : Fun K "_law_forests_good" "_law_forests_good" s_law_forests_good t.a_law_forests_good t.d_law_forests_good
  b_law_forests_good : Binds K t.d_law_forests_good ["places", "ties", "number"] []
  m_law_forests_good : mg "_law_forests_good" = some (.ref t.a_law_forests_good)
  f_law : Fun K "law" "law" s_law t.a_law t.d_law
  b_law : Binds K t.d_law ["script"] []
  m_law : mg "law" = some (.ref t.a_law)
  c_Web : mg "Web" = some (.ref t.A_Web)
  cl_Web : Cls K t.A_Web
  k_Web : Mk K t.A_Web t.a_Web___init
  n_Web_places : NoAttr K t.A_Web "places"
  n_Web_ties : NoAttr K t.A_Web "ties"
  c_WebError : mg "WebError" = some (.ref t.A_WebError)
  c_NotSquare : mg "NotSquare" = some (.ref t.A_NotSquare)
  c_BadRow : mg "BadRow" = some (.ref t.A_BadRow)
  c_BadSet : mg "BadSet" = some (.ref t.A_BadSet)
  c_NoSuch : mg "NoSuch" = some (.ref t.A_NoSuch)
  x_NotSquare : XCls K (t.A_NotSquare)
  x_BadRow : XCls K (t.A_BadRow)
  x_BadSet : XCls K (t.A_BadSet)
  x_NoSuch : XCls K (t.A_NoSuch)
  em_NotSquare : PySem.W.exmOne K (.ref (t.A_NotSquare)) (.ref (t.A_WebError)) = some true
  em_BadRow : PySem.W.exmOne K (.ref (t.A_BadRow)) (.ref (t.A_WebError)) = some true
  em_BadSet : PySem.W.exmOne K (.ref (t.A_BadSet)) (.ref (t.A_WebError)) = some true
  em_NoSuch : PySem.W.exmOne K (.ref (t.A_NoSuch)) (.ref (t.A_WebError)) = some true
  g_MOST_PLACES : ∃ tk, mg "MOST_PLACES" = some (.int 14 tk)
  g_MOST_TIES : ∃ tk, mg "MOST_TIES" = some (.int 30 tk)
  n_enumerate : mg "enumerate" = none
  n_len : mg "len" = none
  n_list : mg "list" = none
  n_max : mg "max" = none
  n_min : mg "min" = none
  n_range : mg "range" = none
  n_reversed : mg "reversed" = none
  n_sum : mg "sum" = none
  n_tuple : mg "tuple" = none
  n_zip : mg "zip" = none
end My
namespace My
open PySem L2 PyProof.Rows
set_option maxHeartbeats 4000000
def sp_refuse_not_square (K : PySem.W.Frag) (N : Addr) : Sp := fun vs H Q E => ∃ (a : Addr) (kd : Bool) (xs : List V) (L : List (List Int)), vs = [.ref a] ∧ SqK kd K H a xs ∧ Bears (RowV K H) xs L ∧
  ((∀ l ∈ L, l.length = L.length) → Q .non H) ∧ (¬ (∀ l ∈ L, l.length = L.length) → E (.ref N) none H)
section
variable {P : Program} {w : World} {K : PySem.W.Frag} {mg : Str → Option Value} {base : Heap} {t : Adr}
theorem sc_refuse_not_square : FnScope ["table", "row"] ["table"] (defScope s_refuse_not_square) := ⟨rfl, rfl, rfl, by decide +kernel, rfl, by decide +kernel, by decide +kernel⟩
theorem ok_refuse_not_square (T : Txt K mg t) : FnOk P w K mg base (CXW P w) 1 t.a_refuse_not_square t.d_refuse_not_square ["table"] (sp_refuse_not_square K t.A_NotSquare) := by
  refine T.f_refuse_not_square.okX sc_refuse_not_square (fun vs H Q E h => ?_) (fun cdv A outer s H vs Q E hr h => ?_)
  · obtain ⟨a, kd, xs, L, rfl, _⟩ := h
    rfl
  · obtain ⟨a, kd, xs, L, rfl, hS, hB, q, qe⟩ := h
    refine ⟨_, (pss_one (ps_for PassesOwn.leaving rfl (pi_seqK K (pv 0)) (pg_name (i := 1) sc_refuse_not_square.nd rfl (Or.inl rfl))
      (pss_one (ps_if (pt_cmpR op_ne (pe_callB (call_lenK K) (by rfl) T.n_len Boot.«len» (pa_cons (pv 1) pa_nil)) (pe_callB (call_lenK K) (by rfl) T.n_len Boot.«len» (pa_cons (pv 0) pa_nil)) (nomark _))
      (pss_one (ps_raise T.x_NotSquare T.c_NotSquare (pa_cons pe_str pa_nil)))
      pss_nil)))), ?_⟩
    have hxl := hB.1
    refine ⟨_, rfl, a, rfl, for_seq (K := K) (k := kd) (a := a) (xs := xs) (fun i σ H2 => ∃ v1, σ = [some (.ref a), v1] ∧ H2 = H ∧ ∀ l ∈ L.take i, l.length = L.length) ⟨none, rfl, rfl, fun l h => (by cases h)⟩ (fun i σ H2 _ ⟨_, _, e, _⟩ => e ▸ hS) ?_ ?_⟩
    · rintro i v σ H2 hi ⟨v1, rfl, rfl, hall⟩
      obtain ⟨l, hl, r, k, rfl, hr⟩ := hB.at hi
      refine nm ?_
      refine ⟨_, rfl, r, _, rfl, hr.or, _, rfl, a, xs, rfl, hS.or, rfl, _, rfl, ?_⟩
      rw [il_length, dec_int]
      refine itn2 (fun e => ?_) (fun e => ?_)
      · refine ⟨_, rfl, rfl, fun m hm => ?_⟩
        rw [List.take_succ, hl] at hm
        rcases List.mem_append.mp hm with h | h
        · exact hall m h
        · have hm' : m = l := by simpa using h
          rw [hm']
          omega
      · exact ⟨by show 1 ≤ sizeLine; decide, qe fun h => e (by rw [h l (List.mem_of_getElem? hl), hxl])⟩
    · rintro σ H2 ⟨v1, rfl, rfl, hall⟩
      rw [hxl, List.take_length] at hall
      exact q hall
end
end My
namespace My
open PySem L2 PyProof.Rows
set_option maxHeartbeats 4000000
/-- a row once the pivot is taken off -/
def sp_row_taken_off (K : PySem.W.Frag) : Sp := fun vs H Q _ => ∃ (r p : Addr) (x y last : Int) (l q : List Int), vs = [.ref r, .ref p, .int last] ∧ SqL K H r (IL (x :: l)) ∧ SqL K H p (IL (y :: q)) ∧ l.length = q.length ∧ l.length ≤ 1000 ∧ last ≠ 0 ∧ last.natAbs < 2 ^ 9000 ∧
  (∀ z ∈ x :: l, z.natAbs < 2 ^ 9000) ∧ (∀ z ∈ y :: q, z.natAbs < 2 ^ 9000) ∧ ∀ (c : Addr) (H' : Hp), Same H H' → H c = none → H' c = some (.lst (IL (tkn y q last (x :: l)))) → Q (.ref c) H'
section
variable {P : Program} {w : World} {K : PySem.W.Frag} {mg : Str → Option Value} {base : Heap} {t : Adr}
theorem sc_row_taken_off : FnScope ["row", "pivot", "last"] ["row", "pivot", "last"] (defScope s_row_taken_off) := ⟨rfl, rfl, rfl, by decide +kernel, rfl, by decide +kernel, by decide +kernel⟩
theorem ok_row_taken_off (T : Txt K mg t) : FnOk P w K mg base CX0 1 t.a_row_taken_off t.d_row_taken_off ["row", "pivot", "last"] (sp_row_taken_off K) := by
  refine T.f_row_taken_off.ok sc_row_taken_off (fun vs H Q E h => ?_) (fun cdv A outer s H vs Q E hr h => ?_)
  · obtain ⟨r, p, x, y, last, l, q, rfl, _⟩ := h
    rfl
  · obtain ⟨r, p, x, y, last, l, q', rfl, hR, hP, hlq, hl, l0, l1, hx, hy, q⟩ := h
    refine ⟨_, (pss_one (ps_ret (pe_lc rfl (sc0 := defScope s_row_taken_off) (N0 := ["row", "pivot", "last"]) (N' := ["own", "other", "pivot", "row", "last"]) (o := 2) (fr := [1, 0, 2]) ⟨rfl, by decide +kernel, by decide +kernel, by decide +kernel, rfl, by decide +kernel⟩ (pi_zip K rfl T.n_zip (pa_cons (pe_slice (sl_listK K) (pv 0) (po_some pe_int) po_none) (pa_cons (pe_slice (sl_listK K) (pv 1) (po_some pe_int) po_none) pa_nil))) (own_tup (own_cons (by decide) (own_cons (by decide) own_nil))) (fun _ _ _ _ => (pg_tupK (n := 2) K rfl (pgs_cons (pg_name (i := 0) (show List.Nodup (["own", "other", "pivot", "row", "last"] : List Str) by decide +kernel) rfl (Or.inl rfl)) (pgs_cons (pg_name (i := 1) (show List.Nodup (["own", "other", "pivot", "row", "last"] : List Str) by decide +kernel) rfl (Or.inl rfl)) pgs_nil)))) (fun _ _ _ _ => pts_nil) (fun _ _ _ _ => (pe_op op_fdivL (pe_op op_sub (pe_op op_mulL (pe_ix (ix_listK K) (pv 2) pe_int (fun _ _ => rfl)) (pv 0)) (pe_op op_mulL (pe_ix (ix_listK K) (pv 3) pe_int (fun _ _ => rfl)) (pv 1))) (pv 4)))))), ?_⟩
    refine ⟨_, rfl, _, rfl, r, _, rfl, hR, fun p1 hp1 => ?_⟩
    rw [cut_tail]
    have s1 := same_at (o := .lst (IL l)) hp1
    refine ⟨_, rfl, _, rfl, p, _, rfl, s1.seq hP, fun p2 hp2 => ?_⟩
    rw [cut_tail]
    have s2 := same_at (o := .lst (IL q')) hp2
    have s12 := s1.trans s2
    have h1 := s2 _ _ (upd_same (H := H) (a := p1) (o := .lst (IL l)))
    have h2 : (upd (upd H p1 (.lst (IL l))) p2 (.lst (IL q'))) p2 = some (.lst (IL q')) := upd_same
    generalize upd (upd H p1 (.lst (IL l))) p2 (.lst (IL q')) = H2 at *
    refine ⟨p1, p2, rfl, ⟨_, _, SqL.of h1, SqL.of h2⟩, lc_zip (K := K) (a := p1) (b := p2) (xs := IL l) (ys := IL q') (fun i zs H3 => Same H2 H3 ∧ i ≤ l.length ∧ zs = IL ((tkn y q' last (x :: l)).take i)) ⟨Same.refl _, Nat.zero_le _, rfl⟩ (by rw [il_length, il_length]; exact hlq) (small60' (by rw [il_length]; omega))
      (fun i zs H3 hi ⟨e, hi2, ez⟩ => ⟨SqL.of (e _ _ h1), SqL.of (e _ _ h2), by rw [ez, il_length, List.length_take]; omega⟩) ?_ ?_⟩
    · rintro i u v zs H3 pt hpt hu hv ⟨s3, hil, rfl⟩ S hSS
      obtain ⟨own, rfl, ho⟩ := il_get hu
      obtain ⟨oth, rfl, ht⟩ := il_get hv
      have hil' := (List.getElem?_eq_some_iff.mp ho).1
      have s4 := same_at (o := .tup [.int own, .int oth]) hpt
      refine ⟨pt, _, rfl, SqT.of upd_same, rfl, _, _, rfl, _, _, rfl, rfl, ?_⟩
      have s34 := s12.trans (s3.trans s4)
      have a1 := hy y List.mem_cons_self
      have a2 := hx own (List.mem_cons_of_mem _ (List.mem_of_getElem? ho))
      have a3 := hx x List.mem_cons_self
      have a4 := hy oth (List.mem_cons_of_mem _ (List.mem_of_getElem? ht))
      refine ⟨_, rfl, p, _, 0, .int y, rfl, rfl, s34.seq hP, atI_of (n := 0) rfl rfl, _, rfl, _, _, rfl, rfl, ⟨a1, a2⟩, _, rfl, r, _, 0, .int x, rfl, rfl, s34.seq hR, atI_of (n := 0) rfl rfl, _, rfl, _, _, rfl, rfl, ⟨a3, a4⟩, _, _, rfl, rfl, _, rfl, _, _, rfl, rfl, ⟨l0, l1⟩, ?_⟩
      refine hSS _ _ ⟨s3.trans s4, hil', ?_⟩
      have e : (tkn y q' last (x :: l))[i]? = some ((y * own - x * oth).fdiv last) := by
        show (List.zipWith _ l q')[i]? = _
        rw [List.getElem?_zipWith, ho, ht]
        rfl
      rw [List.take_succ, e]
      exact (il_snoc _ _).symm
    · rintro zs H3 ⟨s3, _, rfl⟩ c hc
      rw [il_length, List.take_of_length_le (by rw [tkn_len (by rw [List.length_cons, hlq])]; omega)]
      exact q c _ (s12.trans (s3.trans (same_at hc))) ((s12.trans s3).free hc) upd_same
end
end My
namespace My
open PySem L2 PyProof.Rows
set_option maxHeartbeats 4000000
/-- the first row that does not begin with nought -/
def sp_first_with_some (K : PySem.W.Frag) : Sp := fun vs H Q _ => ∃ (a : Addr) (ys : List V) (R : List (List Int)), vs = [.ref a] ∧ SqL K H a ys ∧ Bears (ListV H) ys R ∧ (∀ l ∈ R, 0 < l.length) ∧
  (∀ H' : Hp, Same H H' → (∀ i, i < R.length → fnL R i 0 = 0) → Q .non H') ∧ (∀ (t : Nat) (H' : Hp), Same H H' → t < R.length → fnL R t 0 ≠ 0 → Q (.int t) H')
section
variable {P : Program} {w : World} {K : PySem.W.Frag} {mg : Str → Option Value} {base : Heap} {t : Adr}
theorem sc_first_with_some : FnScope ["rows", "at", "row"] ["rows"] (defScope s_first_with_some) := ⟨rfl, rfl, rfl, by decide +kernel, rfl, by decide +kernel, by decide +kernel⟩
theorem ok_first_with_some (T : Txt K mg t) : FnOk P w K mg base CX0 1 t.a_first_with_some t.d_first_with_some ["rows"] (sp_first_with_some K) := by
  refine T.f_first_with_some.ok sc_first_with_some (fun vs H Q E h => ?_) (fun cdv A outer s H vs Q E hr h => ?_)
  · obtain ⟨a, ys, R, rfl, _⟩ := h
    rfl
  · obtain ⟨a, ys, R, rfl, hS, hB, hp, q0, q1⟩ := h
    refine ⟨_, (pss_cons (ps_for PassesOwn.never rfl (pi_enumK K rfl T.n_enumerate (pa_cons (pv 0) pa_nil)) (pg_tupK (n := 2) K rfl (pgs_cons (pg_name (i := 1) sc_first_with_some.nd rfl (Or.inl rfl)) (pgs_cons (pg_name (i := 2) sc_first_with_some.nd rfl (Or.inl rfl)) pgs_nil)))
      (pss_one (ps_if (pt_cmpR op_ne (pe_ix (ix_listK K) (pv 2) pe_int (fun _ _ => rfl)) pe_int (nomark _))
      (pss_one (ps_ret (pv 1)))
      pss_nil)))
      (pss_one (ps_ret pe_non))), ?_⟩
    have hyl := hB.1
    refine ⟨_, rfl, a, rfl, ⟨_, hS⟩, for_enum (K := K) (a := a) (xs := ys) (fun i σ H2 => ∃ v1 v2, σ = [some (.ref a), v1, v2] ∧ Same H H2 ∧ ∀ j, j < i → fnL R j 0 = 0) ⟨none, none, rfl, Same.refl _, fun j h => absurd h (Nat.not_lt_zero _)⟩ (fun i σ H2 _ ⟨_, _, _, e, _⟩ => e.seq hS) ?_ ?_⟩
    · rintro i v σ H2 pt hpt hi ⟨v1, v2, rfl, s2, hz⟩
      obtain ⟨l, hl, r, rfl, hr⟩ := hB.at hi
      have hlp := hp l (List.mem_of_getElem? hl)
      obtain ⟨x, l', rfl⟩ : ∃ x l', l = x :: l' := by
        cases l with
        | nil => exact absurd hlp (Nat.lt_irrefl 0)
        | cons x l' => exact ⟨x, l', rfl⟩
      have e0 : fnL R i 0 = x := fnL_at hl rfl
      have s3 := s2.trans (same_at (o := .tup [.int i, .ref r]) hpt)
      refine ⟨pt, _, rfl, SqT.of upd_same, rfl, _, _, rfl, _, _, rfl, rfl, ?_⟩
      generalize upd H2 pt (.tup [.int i, .ref r]) = H3 at *
      refine ⟨_, rfl, r, _, 0, .int x, rfl, rfl, SqL.of (s3 _ _ hr), atI_of (n := 0) rfl rfl, rfl, _, rfl, ?_⟩
      rw [dec_int]
      refine itn2 (fun e => ?_) (fun e => ?_)
      · refine ⟨_, _, rfl, s3, fun j hj => ?_⟩
        by_cases c : j = i
        · rw [c, e0, e]
        · exact hz j (by omega)
      · exact ⟨_, rfl, q1 i H3 s3 (by have := (List.getElem?_eq_some_iff.mp hl).1; exact this) (by rw [e0]; exact e)⟩
    · rintro σ H2 ⟨v1, v2, rfl, s2, hz⟩
      exact q0 H2 s2 fun i hi => hz i (by omega)
end
end My
namespace My
open PySem L2 PyProof.Rows
set_option maxHeartbeats 4000000
def sp_determinant (K : PySem.W.Frag) (N : Addr) : Sp := fun vs H Q E => ∃ (a : Addr) (kd : Bool) (xs : List V) (L : List (List Int)), vs = [.ref a] ∧ SqK kd K H a xs ∧ Bears (RowV K H) xs L ∧ L.length ≤ 16 ∧ (∀ i j, i < L.length → j < L.length → (fnL L i j).natAbs ≤ 2 ^ 400) ∧
  ((∀ l ∈ L, l.length = L.length) → ∀ H' : Hp, Same H H' → Q (.int (det L.length (fnL L))) H') ∧ (¬ (∀ l ∈ L, l.length = L.length) → ∀ H' : Hp, Same H H' → E (.ref N) none H')
theorem contS5 {s rest : TS} {D : Ends} {σ : L2.St} {H : Hp} (P : L2.St → Hp → Prop) (h1 : ∀ σ' H', P σ' H' → rest D σ' H') (h2 : ∀ K : L2.St → Hp → Prop, (∀ σ' H', P σ' H' → K σ' H') → s { D with nx := K } σ H) : tSeq s rest D σ H := h2 _ h1
section
variable {P : Program} {w : World} {K : PySem.W.Frag} {mg : Str → Option Value} {base : Heap} {t : Adr}
theorem sc_determinant : FnScope ["table", "rows", "sign", "last", "at", "pivot"] ["table"] (defScope s_determinant) := ⟨rfl, rfl, rfl, by decide +kernel, rfl, by decide +kernel, by decide +kernel⟩
theorem ok_determinant (T : Txt K mg t) : FnOk P w K mg base (CXW P w) 2 t.a_determinant t.d_determinant ["table"] (sp_determinant K t.A_NotSquare) := by
  refine T.f_determinant.okX sc_determinant (fun vs H Q E h => ?_) (fun cdv A outer s H vs Q E hr h => ?_)
  · obtain ⟨a, kd, xs, L, rfl, _⟩ := h
    rfl
  · obtain ⟨a, kd, xs, L, rfl, hS, hB, hL16, hA0, q, qe⟩ := h
    refine ⟨_, (pss_cons (ps_expr (pe_call (ok_refuse_not_square T) (hr.mono (by decide)) rfl T.m_refuse_not_square T.f_refuse_not_square.kp T.b_refuse_not_square .nil pxs (pa_cons (pv 0) pa_nil)))
      (pss_cons (ps_lc (i := 1) rfl sc_determinant.nd rfl rfl (sc0 := defScope s_determinant) (N0 := ["table", "rows", "sign", "last", "at", "pivot"]) (N' := ["row"]) (o := 1) (fr := []) ⟨rfl, by decide +kernel, by decide +kernel, by decide +kernel, rfl, by decide +kernel⟩ (pi_seqK K (pv 0)) (own_name (by decide)) (fun _ _ _ _ => (pg_name (i := 0) (show List.Nodup (["row"] : List Str) by decide +kernel) rfl (Or.inl rfl))) (fun _ _ _ _ => pts_nil) (fun _ _ _ _ => (pe_callTy (call_listK K) (by rfl) T.n_list Boot.«list» (pa_cons (pv 0) pa_nil))))
      (pss_cons (ps_set (i := 2) sc_determinant.nd rfl (Or.inl rfl) pe_int)
      (pss_cons (ps_set (i := 3) sc_determinant.nd rfl (Or.inr rfl) pe_int)
      (pss_cons (ps_while PassesOwn.leaving (pt_cmpR op_gt (pe_callB (call_lenK K) (by rfl) T.n_len Boot.«len» (pa_cons (pv 1) pa_nil)) pe_int (nomark _))
      (pss_cons (ps_set (i := 4) sc_determinant.nd rfl (Or.inl rfl) (pe_call (ok_first_with_some T) (hr.mono (by decide)) rfl T.m_first_with_some T.f_first_with_some.kp T.b_first_with_some .nil pass0 (pa_cons (pv 1) pa_nil)))
      (pss_cons (ps_if (pt_cmpR op_isN (pv 4) pe_non (nomark _))
      (pss_one (ps_ret pe_int))
      pss_nil)
      (pss_cons (ps_if (pt_cmpR op_eq (pe_op op_mod (pv 4) pe_int) pe_int (nomark _))
      (pss_one (ps_set (i := 2) sc_determinant.nd rfl (Or.inl rfl) (pe_un un_neg (pv 2))))
      pss_nil)
      (pss_cons (ps_set (i := 5) sc_determinant.nd rfl (Or.inr rfl) (pe_bmK K PySem.F.plainAttrs_list PySem.F.slot_list_pop PySem.F.type_list_pop mt_popAt (pv 1) (pa_cons (pv 4) pa_nil)))
      (pss_cons (ps_lc (i := 1) rfl sc_determinant.nd rfl rfl (sc0 := defScope s_determinant) (N0 := ["table", "rows", "sign", "last", "at", "pivot"]) (N' := ["row", "pivot", "last"]) (o := 1) (fr := [5, 3]) ⟨rfl, by decide +kernel, by decide +kernel, by decide +kernel, rfl, by decide +kernel⟩ (pi_listK K (pv 1)) (own_name (by decide)) (fun _ _ _ _ => (pg_name (i := 0) (show List.Nodup (["row", "pivot", "last"] : List Str) by decide +kernel) rfl (Or.inl rfl))) (fun _ _ _ _ => pts_nil) (fun _ _ _ _ => (pe_call (ok_row_taken_off T) (hr.mono (by decide)) rfl T.m_row_taken_off T.f_row_taken_off.kp T.b_row_taken_off .nil pass0 (pa_cons (pv 0) (pa_cons (pv 1) (pa_cons (pv 2) pa_nil))))))
      (pss_one (ps_set (i := 3) sc_determinant.nd rfl (Or.inr rfl) (pe_ix (ix_listK K) (pv 5) pe_int (fun _ _ => rfl))))))))))
      (pss_one (ps_ret (pe_op op_mulL (pv 2) (pv 3))))))))), ?_⟩
    have hxl := hB.1
    refine ⟨_, rfl, a, kd, xs, L, rfl, hS, hB, fun hsq => ?_, fun h => qe h H (Same.refl H)⟩
    have q := q hsq
    obtain ⟨n, hn⟩ : ∃ n, n = L.length := ⟨_, rfl⟩
    rw [← hn] at q hsq hA0 hL16
    -- rows
    refine ⟨_, rfl, a, rfl, lc_seq (K := K) (k := kd) (a := a) (xs := xs) (fun i zs H2 => Same H H2 ∧ i ≤ xs.length ∧ Bears (ListV H2) zs (L.take i)) ⟨Same.refl _, Nat.zero_le _, ⟨rfl, fun i l e => by simp at e⟩⟩ (small60' (by omega)) (fun i zs H2 hi ⟨e, hi2, ez⟩ => ⟨hS.same e, by rw [ez.1, List.length_take]; omega⟩) ?_ ?_⟩
    · rintro i v zs H2 hi ⟨s2, hil, hZ⟩ S hSS
      obtain ⟨l, hl, r, k, rfl, hr⟩ := hB.at hi
      have hil' := (List.getElem?_eq_some_iff.mp hi).1
      refine nm ?_
      refine ⟨_, rfl, r, _, rfl, (hr.same s2).or, fun c hc => hSS _ _ ⟨s2.trans (same_at hc), hil', ?_⟩⟩
      rw [List.take_succ, hl]
      refine (hZ.imp fun _ _ ⟨r', e, h⟩ => ⟨r', e, same_at hc _ _ h⟩).snoc ⟨c, rfl, upd_same⟩
    rintro zs H2 ⟨s2, _, hZ⟩ rA hrA
    rw [hxl, List.take_length] at hZ
    have s3 := s2.trans (same_at (o := .lst zs) hrA)
    -- while
    refine ⟨fun m σ H4 => ∃ (A : Mx) (k : Nat) (rA : Addr) (ys : List V) (R : List (List Int)) (sgn last : Int) (v4 v5 : Option V), σ = [some (.ref a), some (.ref rA), some (.int sgn), some (.int last), v4, v5] ∧ Same H H4 ∧ H rA = none ∧ H4 rA = some (.lst ys) ∧ Bears (LiV rA H4) ys R ∧ R.length = m ∧ (∀ l ∈ R, l.length = m) ∧ k + m = n ∧ Bar A k m (fnL R) last ∧ det n (fnL L) = sgn * det n A ∧ (∀ i j, i < n → j < n → (A i j).natAbs ≤ 2 ^ 400) ∧ (m = 0 → last = det n A) ∧ (sgn = 1 ∨ sgn = -1) ∧ last.natAbs < 2 ^ 9000, ⟨n, fnL L, 0, rA, zs, L, 1, 1, none, none, rfl, s3, s2.free hrA, upd_same, ?_, hn.symm, hsq, by omega, bar_start _ _, by omega, hA0, fun e => by rw [e]; rfl, .inl rfl, Nat.one_lt_two_pow (by decide)⟩, ?_⟩
    · exact hZ.imp fun v l ⟨r, e, h⟩ => ⟨r, e, same_at hrA _ _ h, ne_of_none h hrA⟩
    rintro m σ H4 ⟨A, k, rA, ys, R, sgn, last, v4, v5, rfl, s4, hr0, hr4, hR, hRm, hRl, hkm, hBar, hdet, hAb, hfin, hsg, hlb⟩
    have hyl := hR.1
    refine ⟨_, rfl, rA, ys, rfl, .inl (SqL.of hr4), _, _, rfl, rfl, _, rfl, ?_⟩
    refine itd2 (fun hpos => ?_) (fun hpos => ?_)
    · obtain ⟨M, rfl⟩ : ∃ M, m = M + 1 := ⟨m - 1, by omega⟩
      refine ⟨_, fun σ' H' h => ⟨M, Nat.lt_succ_self M, h⟩, ?_⟩
      have hsm : ∀ l ∈ R, ∀ z ∈ l, z.natAbs < 2 ^ 9000 := fun l hl z hz => by
        obtain ⟨i, hi⟩ := List.getElem?_of_mem hl
        obtain ⟨j, hj⟩ := List.getElem?_of_mem hz
        have h1 := (List.getElem?_eq_some_iff.mp hi).1
        have h2 := (List.getElem?_eq_some_iff.mp hj).1
        have h3 := hRl l hl
        have := bar_small hBar hkm hL16 hAb (i := i) (j := j) (by omega) (by omega)
        rw [fnL_at hi hj] at this
        exact this
      refine ⟨_, rfl, rA, ys, R, rfl, SqL.of hr4, hR.imp fun _ _ h => h.list, fun l hl => by rw [hRl l hl]; omega, fun H5 s5 h0 => ?_, fun t H5 s5 ht hne => ?_⟩
      · refine ⟨_, rfl, rfl, _, rfl, ?_⟩
        refine itd (c := V.non = V.non) rfl ?_
        have z : det n A = 0 := by
          have := bar_none hBar fun i hi => h0 i (by omega)
          rw [show k + M + 1 = n by omega] at this
          exact this
        rw [hdet, z, Int.mul_zero] at q
        exact q H5 (s4.trans s5)
      refine ⟨_, rfl, rfl, _, rfl, ?_⟩
      refine itdn (c := V.int (t : Int) = V.non) (fun z => nomatch z) ?_
      refine nm ?_
      dsimp only
      refine contS5 (fun σ H6 => ∃ sgn' : Int, H6 = H5 ∧ σ = [some (.ref a), some (.ref rA), some (.int sgn'), some (.int last), some (.int t), v5] ∧ sgn' = sgn * sg t) ?_ ?_
      · rintro σ H6 ⟨sgn', rfl, rfl, hsgn⟩
        have hr6 := s5 _ _ hr4
        have hR6 := hR.imp fun _ _ h => h.same s5
        obtain ⟨l, hl⟩ : ∃ l, R[t]? = some l := ⟨_, List.getElem?_eq_getElem ht⟩
        have hll := hRl l (List.mem_of_getElem? hl)
        obtain ⟨y, p', rfl⟩ : ∃ y p', l = y :: p' := by
          cases l with
          | nil => cases hll
          | cons y p' => exact ⟨y, p', rfl⟩
        have hpl : p'.length = M := by rw [List.length_cons] at hll; omega
        obtain ⟨v, hv, pA, rfl, hpA, hpn⟩ := hR6.2 t _ hl
        have hy0 : y ≠ 0 := by rw [fnL_at hl rfl] at hne; exact hne
        -- pivot
        refine ⟨_, rfl, .inl ⟨rfl, _, SqL.of hr6⟩, _, rfl, rA, ys, (t : Int), t, .ref pA, rfl, rfl, hr6, by omega, by omega, by rw [seq_ix (by omega) (by omega), Int.toNat_natCast], hv, ?_⟩
        have hpA7 : (upd H6 rA (.lst (ys.eraseIdx t))) pA = some (.lst (IL (y :: p'))) := by rw [upd_ne hpn]; exact hpA
        have s7 : Same H (upd H6 rA (.lst (ys.eraseIdx t))) := same_upd hr0 (s4.trans s5)
        have hR7 : Bears (LiV rA (upd H6 rA (.lst (ys.eraseIdx t)))) (ys.eraseIdx t) (R.eraseIdx t) := (hR6.erase t).imp fun _ _ h => h.mut
        have hr7 : (upd H6 rA (.lst (ys.eraseIdx t))) rA = some (.lst (ys.eraseIdx t)) := upd_same
        generalize upd H6 rA (.lst (ys.eraseIdx t)) = H7 at *
        have eRl : (R.eraseIdx t).length = M := by rw [List.length_eraseIdx, if_pos ht]; omega
        have hRl7 : ∀ l ∈ R.eraseIdx t, l.length = M + 1 := fun l h => hRl l (List.mem_of_mem_eraseIdx h)
        have hy7 := hR7.1
        -- rows
        refine ⟨_, rfl, rA, rfl, ⟨_, SqL.of hr7⟩, lc_list (K := K) (a := rA) (xs := ys.eraseIdx t) (fun i zs H8 => Same H7 H8 ∧ i ≤ (ys.eraseIdx t).length ∧ Bears (ListV H8) zs (((R.eraseIdx t).take i).map (tkn y p' last))) ⟨Same.refl _, Nat.zero_le _, ⟨rfl, fun i l e => by simp at e⟩⟩ (small60' (by omega)) (fun i zs H8 hi ⟨e, hi2, ez⟩ => ⟨SqL.of (e _ _ hr7), by rw [ez.1, List.length_map, List.length_take]; omega⟩) ?_ ?_⟩
        · rintro i v zs H8 hi ⟨s8, hil, hZ8⟩ S hSS
          obtain ⟨l, hli, r, rfl, hr, _⟩ := hR7.at hi
          have hil' := (List.getElem?_eq_some_iff.mp hi).1
          have hl2 := hRl7 l (List.mem_of_getElem? hli)
          obtain ⟨x, l', rfl⟩ : ∃ x l', l = x :: l' := by
            cases l with
            | nil => cases hl2
            | cons x l' => exact ⟨x, l', rfl⟩
          have hl' : l'.length = M := by rw [List.length_cons] at hl2; omega
          refine nm ?_
          refine ⟨_, rfl, _, rfl, _, rfl, r, pA, x, y, last, l', p', rfl, SqL.of (s8 _ _ hr), SqL.of (s8 _ _ hpA7), by omega, by omega, hBar.1, hlb, hsm _ (List.mem_of_mem_eraseIdx (List.mem_of_getElem? hli)), hsm _ (List.mem_of_getElem? hl), fun c H9 s9 hc0 hc => hSS _ _ ⟨s8.trans s9, hil', ?_⟩⟩
          rw [List.take_succ, hli, List.map_append]
          exact (hZ8.imp fun _ _ ⟨r', e, h⟩ => ⟨r', e, s9 _ _ h⟩).snoc ⟨c, rfl, hc⟩
        rintro zs H8 ⟨s8, _, hZ8⟩ cA hcA
        rw [hy7, List.take_length] at hZ8
        have s9 := same_at (o := .lst zs) hcA
        -- last
        refine ⟨_, rfl, pA, _, 0, .int y, rfl, rfl, SqL.of (s9 _ _ (s8 _ _ hpA7)), atI_of (n := 0) rfl rfl, ?_⟩
        have hb1 : Bar (fun i => A (rotN k t i)) k (M + 1) (fnL ((y :: p') :: R.eraseIdx t)) last := by
          rw [rot_fnL hl]
          exact bar_rot hBar (by omega)
        have hb2 : Bar (fun i => A (rotN k t i)) (k + 1) M (fnL ((R.eraseIdx t).map (tkn y p' last))) y := bar_step hb1 hy0 fun i j hi hj => tkn_fnL hpl eRl hRl7 hi hj
        have hdr := det_rot (n := n) (k := k) (t := t) (A := A) (by omega)
        refine ⟨fun i => A (rotN k t i), k + 1, cA, zs, (R.eraseIdx t).map (tkn y p' last), sgn', y, _, _, rfl, s7.trans (s8.trans s9), (s7.trans s8).free hcA, upd_same, ?_, by rw [List.length_map]; exact eRl, fun l h => ?_, by omega, hb2, ?_, fun i j hi hj => hAb _ _ ?_ hj, fun e0 => ?_, ?_, hsm _ (List.mem_of_getElem? hl) y List.mem_cons_self⟩
        · exact hZ8.imp fun v l ⟨r, e, h⟩ => ⟨r, e, s9 _ _ h, ne_of_none h hcA⟩
        · obtain ⟨l0, h0, rfl⟩ := List.mem_map.mp h
          rw [tkn_len (by rw [hRl7 l0 h0, hpl]), hpl]
        · rw [hdr, hdet, hsgn, Int.mul_assoc, ← Int.mul_assoc (sg t), sg_sq, Int.one_mul]
        · unfold rotN
          split
          · omega
          · split
            · omega
            · split <;> omega
        · subst e0
          have := bar_end hb1
          rw [show k + 1 = n by omega] at this
          exact this
        · rw [hsgn]
          have hst : sg t = 1 ∨ sg t = -1 := by
            unfold sg
            split
            · exact .inl rfl
            · exact .inr rfl
          rcases hsg with e | e <;> rcases hst with f | f <;> rw [e, f]
          · exact .inl rfl
          · exact .inr rfl
          · exact .inr rfl
          · exact .inl rfl
      · intro Kn hK
        refine ⟨_, rfl, _, _, rfl, rfl, (by show (0 : Int) < 2; decide), rfl, _, rfl, ?_⟩
        rw [dec_int]
        refine itd2 (fun h1 => ?_) (fun h1 => ?_)
        · refine ⟨_, rfl, _, rfl, hK _ _ ⟨-sgn, rfl, rfl, ?_⟩⟩
          have e : sg t = -1 := by unfold sg; rw [if_neg (by omega)]
          rw [e]
          omega
        · refine hK _ _ ⟨sgn, rfl, rfl, ?_⟩
          have e : sg t = 1 := by unfold sg; rw [if_pos (by omega)]
          rw [e]
          omega
    · have hm0 : m = 0 := by omega
      refine ⟨_, rfl, _, rfl, _, _, rfl, rfl, ⟨?_, hlb⟩, ?_⟩
      · rcases hsg with e | e <;> rw [e] <;> exact Nat.one_lt_two_pow (by decide)
      · rw [hfin hm0] at *
        rw [hdet] at q
        exact q H4 s4
end
end My
namespace My
open PySem L2 PyProof.Rows
set_option maxHeartbeats 4000000
/-- a row without one of its numbers -/
def sp_row_without (K : PySem.W.Frag) : Sp := fun vs H Q _ => ∃ (a : Addr) (l : List Int) (i : Nat), vs = [.ref a, .int i] ∧ SqL K H a (IL l) ∧ l.length ≤ 1000 ∧ ∀ (r : Addr) (H' : Hp), Same H H' → H r = none → H' r = some (.lst (IL (cutz l i))) → Q (.ref r) H'
theorem il_cutz2 (l : List Int) (z : Int) : cutz (IL l) z = IL (cutz l z) := by
  unfold cutz
  show (l.map V.int).take _ ++ (l.map V.int).drop _ = (l.take _ ++ l.drop _).map V.int
  rw [List.map_append, List.map_take, List.map_drop]
section
variable {P : Program} {w : World} {K : PySem.W.Frag} {mg : Str → Option Value} {base : Heap} {t : Adr}
theorem sc_row_without : FnScope ["row", "number"] ["row", "number"] (defScope s_row_without) := ⟨rfl, rfl, rfl, by decide +kernel, rfl, by decide +kernel, by decide +kernel⟩
theorem ok_row_without (T : Txt K mg t) : FnOk P w K mg base CX0 1 t.a_row_without t.d_row_without ["row", "number"] (sp_row_without K) := by
  refine T.f_row_without.ok sc_row_without (fun vs H Q E h => ?_) (fun cdv A outer s H vs Q E hr h => ?_)
  · obtain ⟨a, l, i, rfl, _⟩ := h
    rfl
  · obtain ⟨a, l, i, rfl, hA, hl, q⟩ := h
    refine ⟨_, (pss_one (ps_ret (pe_op op_cat (pe_callTy (call_listK K) (by rfl) T.n_list Boot.«list» (pa_cons (pe_slice (sl_listK K) (pv 0) po_none (po_some (pv 1))) pa_nil)) (pe_callTy (call_listK K) (by rfl) T.n_list Boot.«list» (pa_cons (pe_slice (sl_listK K) (pv 0) (po_some (pe_op op_add (pv 1) pe_int)) po_none) pa_nil))))), ?_⟩
    refine ⟨_, rfl, _, rfl, (i : Int), rfl, a, _, rfl, hA, fun p1 hp1 => ?_⟩
    have u1 := same_at (o := .lst (cutV (IL l) none (some (i : Int)))) hp1
    refine ⟨p1, _, rfl, .inl (SqL.of upd_same), fun p2 hp2 => ?_⟩
    have u2 := same_at (o := .lst (cutV (IL l) none (some (i : Int)))) hp2
    refine ⟨_, rfl, _, rfl, _, _, rfl, rfl, _, rfl, a, _, rfl, (u1.trans u2).seq hA, fun p3 hp3 => ?_⟩
    have u3 := same_at (o := .lst (cutV (IL l) (some ((i : Int) + 1)) none)) hp3
    refine ⟨p3, _, rfl, .inl (SqL.of upd_same), fun p4 hp4 => ?_⟩
    have u4 := same_at (o := .lst (cutV (IL l) (some ((i : Int) + 1)) none)) hp4
    have c1 := cutV_length (IL l) none (some (i : Int))
    have c2 := cutV_length (IL l) (some ((i : Int) + 1)) none
    rw [il_length] at c1 c2
    refine ⟨p2, p4, _, _, rfl, rfl, (u3.trans u4) _ _ upd_same, upd_same, small60 (by omega), fun p5 hp5 => ?_⟩
    have u14 := u1.trans (u2.trans (u3.trans u4))
    refine q p5 _ (u14.trans (same_at hp5)) (u14.free hp5) ?_
    rw [upd_same, cut_z (by omega), il_cutz2]
end
end My
namespace My
open PySem L2 PyProof.Rows
set_option maxHeartbeats 4000000
/-- a table without one row and one column -/
def sp_table_without (K : PySem.W.Frag) : Sp := fun vs H Q _ => ∃ (a : Addr) (ys : List V) (L : List (List Int)) (i : Nat), vs = [.ref a, .int i] ∧ SqL K H a ys ∧ Bears (ListV H) ys L ∧ L.length ≤ 1000 ∧ (∀ l ∈ L, l.length ≤ 1000) ∧ i < L.length ∧
  ∀ (r : Addr) (zs : List V) (H' : Hp), Same H H' → H' r = some (.lst zs) → Bears (ListV H') zs ((cutz L i).map fun l => cutz l (i : Int)) → Q (.ref r) H'
theorem cutz_take {α : Type} {l : List α} {i j : Nat} {x : α} (hx : l[j]? = some x) : cutz (l.take (j + 1)) (i : Int) = cutz (l.take j) (i : Int) ++ (if j = i then [] else [x]) := by
  have hj := (List.getElem?_eq_some_iff.mp hx).1
  have e : l.take (j + 1) = l.take j ++ [x] := by rw [List.take_succ, hx]; rfl
  have hl : (l.take j).length = j := by rw [List.length_take]; omega
  have short : ∀ m : List α, m.length ≤ i → cutz m (i : Int) = m := fun m hm => by
    unfold cutz
    rw [Int.toNat_natCast, List.take_of_length_le hm, List.drop_eq_nil_of_le (by omega), List.append_nil]
  rw [e]
  by_cases c : j = i
  · subst c
    rw [if_pos rfl, List.append_nil, short (l.take j) (by omega)]
    unfold cutz
    rw [Int.toNat_natCast, List.take_append_of_le_length (by omega), List.drop_eq_nil_of_le (by rw [List.length_append, hl]; exact Nat.le_refl _), List.append_nil, List.take_of_length_le (by omega)]
  · rw [if_neg c]
    by_cases d : j < i
    · rw [short (l.take j ++ [x]) (by rw [List.length_append, hl]; exact d), short (l.take j) (by omega)]
    · unfold cutz
      rw [Int.toNat_natCast, List.take_append_of_le_length (by omega), List.drop_append_of_le_length (by omega), List.append_assoc]
section
variable {P : Program} {w : World} {K : PySem.W.Frag} {mg : Str → Option Value} {base : Heap} {t : Adr}
theorem sc_table_without : FnScope ["table", "number"] ["table", "number"] (defScope s_table_without) := ⟨rfl, rfl, rfl, by decide +kernel, rfl, by decide +kernel, by decide +kernel⟩
theorem ok_table_without (T : Txt K mg t) : FnOk P w K mg base CX0 2 t.a_table_without t.d_table_without ["table", "number"] (sp_table_without K) := by
  refine T.f_table_without.ok sc_table_without (fun vs H Q E h => ?_) (fun cdv A outer s H vs Q E hr h => ?_)
  · obtain ⟨a, ys, L, i, rfl, _⟩ := h
    rfl
  · obtain ⟨a, ys, L, i, rfl, hA, hB, hL, hLl, hi, q⟩ := h
    refine ⟨_, (pss_one (ps_ret (pe_lc rfl (sc0 := defScope s_table_without) (N0 := ["table", "number"]) (N' := ["at", "row", "number"]) (o := 2) (fr := [1]) ⟨rfl, by decide +kernel, by decide +kernel, by decide +kernel, rfl, by decide +kernel⟩ (pi_enumK K rfl T.n_enumerate (pa_cons (pv 0) pa_nil)) (own_tup (own_cons (by decide) (own_cons (by decide) own_nil))) (fun _ _ _ _ => (pg_tupK (n := 2) K rfl (pgs_cons (pg_name (i := 0) (show List.Nodup (["at", "row", "number"] : List Str) by decide +kernel) rfl (Or.inl rfl)) (pgs_cons (pg_name (i := 1) (show List.Nodup (["at", "row", "number"] : List Str) by decide +kernel) rfl (Or.inl rfl)) pgs_nil)))) (fun _ _ _ _ => (pts_one (pt_cmpR op_ne (pv 0) (pv 2) (nomark _)))) (fun _ _ _ _ => (pe_call (ok_row_without T) (hr.mono (by decide)) rfl T.m_row_without T.f_row_without.kp T.b_row_without .nil pass0 (pa_cons (pv 1) (pa_cons (pv 2) pa_nil))))))), ?_⟩
    have hyl := hB.1
    refine ⟨_, rfl, a, rfl, ⟨_, hA⟩, lc_enum (K := K) (a := a) (xs := ys) (fun j zs H2 => Same H H2 ∧ j ≤ ys.length ∧ Bears (ListV H2) zs ((cutz (L.take j) (i : Int)).map fun l => cutz l (i : Int))) ⟨Same.refl _, Nat.zero_le _, by rw [show (cutz (L.take 0) (i : Int)).map (fun l => cutz l (i : Int)) = [] by unfold cutz; simp]; exact ⟨rfl, fun i l e => by simp at e⟩⟩ (small60' (by omega)) (fun j zs H2 hj ⟨e, hj2, ez⟩ => ⟨e.seq hA, by
      rw [ez.1, List.length_map]
      refine Nat.le_trans (cutz_len _ _) ?_
      rw [List.length_take]
      omega⟩) ?_ ?_⟩
    · rintro j v zs H2 pt hpt hj ⟨s2, hjl, hZ⟩ S hSS
      obtain ⟨l, hl, r, rfl, hr⟩ := hB.at hj
      have hjl' := (List.getElem?_eq_some_iff.mp hj).1
      have s3 := same_at (o := .tup [.int j, .ref r]) hpt
      refine ⟨pt, _, rfl, SqT.of upd_same, rfl, _, _, rfl, _, _, rfl, rfl, ?_⟩
      have hZ3 : Bears (ListV (upd H2 pt (.tup [.int j, .ref r]))) zs ((cutz (L.take j) (i : Int)).map fun l => cutz l (i : Int)) := hZ.imp fun _ _ ⟨r', e, h⟩ => ⟨r', e, s3 _ _ h⟩
      have s23 := s2.trans s3
      generalize upd H2 pt (.tup [.int j, .ref r]) = H3 at *
      refine ⟨_, rfl, _, rfl, rfl, _, rfl, ?_⟩
      rw [dec_int]
      refine itn2 (fun e => ?_) (fun e => ?_)
      · refine hSS _ _ ⟨s23, hjl', ?_⟩
        rw [cutz_take hl, if_pos (by omega), List.append_nil]
        exact hZ3
      · refine ⟨_, rfl, _, rfl, r, l, i, rfl, SqL.of (s23 _ _ hr), hLl l (List.mem_of_getElem? hl), fun c H4 s4 _ hc => hSS _ _ ⟨s23.trans s4, hjl', ?_⟩⟩
        rw [cutz_take hl, if_neg (by omega), List.map_append]
        exact (hZ3.imp fun _ _ ⟨r', e, h⟩ => ⟨r', e, s4 _ _ h⟩).snoc ⟨c, rfl, hc⟩
    · rintro zs H2 ⟨s2, _, hZ⟩ p hp
      rw [hyl, List.take_length] at hZ
      exact q p zs _ (s2.trans (same_at hp)) upd_same (hZ.imp fun _ _ ⟨r', e, h⟩ => ⟨r', e, same_at hp _ _ h⟩)
end
end My
namespace My
open PySem L2 PyProof.Rows
set_option maxHeartbeats 4000000
/-- a good web is not refused; the ties may stand in a list or a tuple -/
def sp_refuse_bad_web (K : PySem.W.Frag) : Sp := fun vs H Q _ => ∃ (n : Int) (a : Addr) (kd : Bool) (xs : List V) (ps : List (Int × Int)), vs = [.int n, .ref a] ∧ SqK kd K H a xs ∧ PairsV H xs ps ∧ GoodW n ps ∧ Q .non H
section
variable {P : Program} {w : World} {K : PySem.W.Frag} {mg : Str → Option Value} {base : Heap} {t : Adr}
theorem sc_refuse_bad_web : FnScope ["places", "ties", "ends", "end"] ["places", "ties"] (defScope s_refuse_bad_web) := ⟨rfl, rfl, rfl, by decide +kernel, rfl, by decide +kernel, by decide +kernel⟩
theorem ok_refuse_bad_web (T : Txt K mg t) : FnOk P w K mg base CX0 1 t.a_refuse_bad_web t.d_refuse_bad_web ["places", "ties"] (sp_refuse_bad_web K) := by
  refine T.f_refuse_bad_web.ok sc_refuse_bad_web (fun vs H Q E h => ?_) (fun cdv A outer s H vs Q E hr h => ?_)
  · obtain ⟨n, a, kd, xs, ps, rfl, _⟩ := h
    rfl
  · obtain ⟨n, a, kd, xs, ps, rfl, hS, hp, ⟨g1, g2, g3, g4⟩, q⟩ := h
    refine ⟨_, (pss_cons (ps_if (pt_not (pt_chain op_le op_le pe_int (pv 0) (pe_glob (v := V.int 14) rfl T.g_MOST_PLACES.choose_spec ⟨_, rfl⟩)))
      (pss_one ps_never)
      pss_nil)
      (pss_cons (ps_if (pt_cmpR op_gt (pe_callB (call_lenK K) (by rfl) T.n_len Boot.«len» (pa_cons (pv 1) pa_nil)) (pe_glob (v := V.int 30) rfl T.g_MOST_TIES.choose_spec ⟨_, rfl⟩) (nomark _))
      (pss_one ps_never)
      pss_nil)
      (pss_one (ps_for PassesOwn.never rfl (pi_seqK K (pv 1)) (pg_name (i := 2) sc_refuse_bad_web.nd rfl (Or.inl rfl))
      (pss_one (ps_for PassesOwn.never rfl (pi_tupK K (pv 2)) (pg_name (i := 3) sc_refuse_bad_web.nd rfl (Or.inl rfl))
      (pss_one (ps_if (pt_not (pt_chain op_le op_lt pe_int (pv 3) (pv 0)))
      (pss_one ps_never)
      pss_nil)))))))), ?_⟩
    refine ⟨_, rfl, _, _, rfl, rfl, _, rfl, ?_⟩
    refine itd g1 ?_
    refine ⟨_, _, rfl, rfl, _, rfl, ?_⟩
    refine itn g2 ?_
    refine ⟨_, rfl, a, xs, rfl, hS.or, _, _, rfl, rfl, _, rfl, ?_⟩
    refine itdn (by rw [hp.1]; omega) ?_
    refine ⟨_, rfl, a, rfl, for_seq (k := kd) (K := K) (xs := xs) (fun i σ H2 => ∃ v v2, σ = [some (.int n), some (.ref a), v, v2] ∧ H2 = H) ⟨none, none, rfl, rfl⟩ (fun i σ H2 _ ⟨_, _, _, e⟩ => e ▸ hS) ?_ ?_⟩
    · rintro i x σ H2 hi ⟨v, v2, rfl, rfl⟩
      obtain ⟨p, hpi, tt, rfl, ht⟩ := hp.at hi
      obtain ⟨e1, e2, e3, e4⟩ := g4 p (List.mem_of_getElem? hpi)
      refine ⟨_, rfl, tt, rfl, ⟨_, SqT.of ht⟩, for_tup (K := K) (a := tt) (xs := [.int p.1, .int p.2]) (fun j σ H3 => ∃ v v2, σ = [some (.int n), some (.ref a), v, v2] ∧ H3 = H2) ⟨_, _, rfl, rfl⟩ (fun j σ H3 _ ⟨_, _, _, e⟩ => e ▸ SqT.of ht) ?_ ?_⟩
      · rintro j y σ H3 hj ⟨v, v2, rfl, rfl⟩
        have hy : ∃ z : Int, y = .int z ∧ 0 ≤ z ∧ z < n := by
          match j, hj with
          | 0, hj => exact ⟨p.1, (Option.some.inj hj).symm, e1, e2⟩
          | 1, hj => exact ⟨p.2, (Option.some.inj hj).symm, e3, e4⟩
        obtain ⟨z, rfl, z1, z2⟩ := hy
        refine ⟨_, rfl, _, _, rfl, rfl, _, rfl, ?_⟩
        refine itd z1 ?_
        refine ⟨_, rfl, _, _, rfl, rfl, _, rfl, ?_⟩
        refine itn z2 ?_
        exact ⟨_, _, rfl, rfl⟩
      · rintro σ H3 ⟨v, v2, rfl, rfl⟩
        exact ⟨_, _, rfl, rfl⟩
    · rintro σ H2 ⟨v, v2, rfl, rfl⟩
      exact q
end
end My
namespace My
open PySem L2 PyProof.Rows
set_option maxHeartbeats 4000000
/-- a Web is made of good ties; its list and its pairs are its own -/
def sp_Web_init (K : PySem.W.Frag) (C : Addr) : Sp := fun vs H Q _ => ∃ (w dx : Addr) (n : Int) (a : Addr) (kd : Bool) (xs : List V) (ps : List (Int × Int)), vs = [.ref w, .int n, .ref a] ∧ H w = some (.ins C dx []) ∧ (∀ o, SqK kd K (upd H w o) a xs) ∧ PairsV H xs ps ∧ GoodW n ps ∧
  ∀ H' : Hp, WebAt C H' w n ps → (∀ b o, H b = some o → b ≠ w → H' b = some o) → Q .non H'
section
variable {P : Program} {w : World} {K : PySem.W.Frag} {mg : Str → Option Value} {base : Heap} {t : Adr}
theorem sc_Web___init : FnScope ["self", "places", "ties"] ["self", "places", "ties"] (defScope s_Web___init) := ⟨rfl, rfl, rfl, by decide +kernel, rfl, by decide +kernel, by decide +kernel⟩
theorem ok_Web___init (T : Txt K mg t) : FnOk P w K mg base CX0 2 t.a_Web___init t.d_Web___init ["self", "places", "ties"] (sp_Web_init K t.A_Web) := by
  refine T.f_Web___init.ok sc_Web___init (fun vs H Q E h => ?_) (fun cdv A outer s H vs Q E hr h => ?_)
  · obtain ⟨w, dx, n, a, kd, xs, ps, rfl, _⟩ := h
    rfl
  · obtain ⟨w, dx, n, a, kd, xs, ps, rfl, hw, hS, hp, g, q⟩ := h
    have eH : upd H w (.ins t.A_Web dx []) = H := by
      funext b
      by_cases hb : b = w
      · subst hb; rw [upd_same, hw]
      · rw [upd_ne hb]
    have hS0 : SqK kd K H a xs := by have z := hS (.ins t.A_Web dx []); rw [eH] at z; exact z
    refine ⟨_, (pss_cons (ps_expr (pe_call (ok_refuse_bad_web T) (hr.mono (by decide)) rfl T.m_refuse_bad_web T.f_refuse_bad_web.kp T.b_refuse_bad_web .nil pass0 (pa_cons (pv 1) (pa_cons (pv 2) pa_nil))))
      (pss_cons (ps_fld (pv 0) (pv 1) rfl)
      (pss_one (ps_fld (pv 0) (pe_lc rfl (sc0 := defScope s_Web___init) (N0 := ["self", "places", "ties"]) (N' := ["ends"]) (o := 1) (fr := []) ⟨rfl, by decide +kernel, by decide +kernel, by decide +kernel, rfl, by decide +kernel⟩ (pi_seqK K (pv 2)) (own_name (by decide)) (fun _ _ _ _ => (pg_name (i := 0) (show List.Nodup (["ends"] : List Str) by decide +kernel) rfl (Or.inl rfl))) (fun _ _ _ _ => pts_nil) (fun _ _ _ _ => (pe_tup (pa_cons (pe_ix (ix_tupK K) (pv 0) pe_int (fun _ _ => rfl)) (pa_cons (pe_ix (ix_tupK K) (pv 0) pe_int (fun _ _ => rfl)) pa_nil))))) rfl)))), ?_⟩
    refine ⟨_, rfl, _, rfl, n, a, kd, xs, ps, rfl, hS0, hp, g, ?_⟩
    refine ⟨_, rfl, _, rfl, w, _, dx, [], rfl, hw, T.cl_Web, T.n_Web_places, (by show 0 < 1000; decide), ?_⟩
    -- self.ties = [(ends[0], ends[1]) for ends in ties]
    have hp1 : PairsV (upd H w (.ins t.A_Web dx (putF "places" (.int n) []))) xs ps := ⟨hp.1, fun i p e => by
      obtain ⟨v, e1, tt, e2, e3⟩ := hp.2 i p e
      exact ⟨v, e1, tt, e2, by rw [upd_ne (ne_of e3 hw (fun z => nomatch z))]; exact e3⟩⟩
    have sx : xs.length < sizeLine := small60' (by rw [hp.1]; have := g.2.2.1; omega)
    refine ⟨_, rfl, a, rfl, lc_seq (k := kd) (K := K) (xs := xs) (fun i ys H2 => i ≤ xs.length ∧ ys.length = i ∧ Same (upd H w (.ins t.A_Web dx (putF "places" (.int n) []))) H2 ∧ PairsV H2 ys (ps.take i)) ⟨Nat.zero_le _, rfl, Same.refl _, PairsV.nil⟩ sx
      (fun i ys H2 _ ⟨_, hl, s2, _⟩ => ⟨(hS _).same s2, Nat.le_of_eq hl⟩) ?_ ?_⟩
    · rintro i x ys H2 hi ⟨h1, hl, s2, hy⟩ S hSS
      obtain ⟨p, hpi, tt, rfl, ht⟩ := hp1.at hi
      have ht2 := s2 _ _ ht
      refine nmY ?_
      refine ⟨_, rfl, tt, _, 0, .int p.1, rfl, rfl, SqT.of ht2, rfl, _, rfl, tt, _, 1, .int p.2, rfl, rfl, SqT.of ht2, rfl, (by show 2 ≤ sizeLine; decide), fun q hq => ?_⟩
      have hil : i < xs.length := (List.getElem?_eq_some_iff.mp hi).1
      refine hSS _ _ ⟨hil, by rw [List.length_append, hl]; rfl, same_new s2 hq, ?_⟩
      rw [List.take_succ, hpi]
      exact (hy.same (same_at hq)).snoc ⟨q, rfl, upd_same⟩
    · rintro ys H2 ⟨_, hl, s2, hy⟩ tl htl
      have hw2 := s2 w _ upd_same
      have nwt : w ≠ tl := ne_of_none hw2 htl
      refine ⟨_, rfl, w, _, dx, _, rfl, (by rw [upd_ne nwt]; exact hw2), T.cl_Web, T.n_Web_ties, (by show 1 < 1000; decide), ?_⟩
      refine q _ ⟨dx, tl, ys, upd_same, by rw [upd_ne (Ne.symm nwt), upd_same], ?_⟩ fun b ob e hb => ?_
      · have e1 : ps.take xs.length = ps := List.take_of_length_le (by rw [hp.1]; exact Nat.le_refl _)
        rw [e1] at hy
        refine ⟨hy.1, fun i p e => ?_⟩
        obtain ⟨v, e2, tt, e3, e4⟩ := hy.2 i p e
        exact ⟨v, e2, tt, e3, by rw [upd_ne (ne_of e4 hw2 (fun z => nomatch z)), upd_ne (ne_of_none e4 htl)]; exact e4⟩
      · have e2 := s2 b ob (by rw [upd_ne hb]; exact e)
        rw [upd_ne hb, upd_ne (ne_of_none e2 htl)]
        exact e2
end
end My
namespace My
open PySem L2 PyProof.Rows
set_option maxHeartbeats 4000000
def sp_is_place (C : Addr) : Sp := fun vs H Q _ => ∃ (w : Addr) (n : Int) (ps : List (Int × Int)) (k : Int), vs = [.ref w, .int k] ∧ WebAt C H w n ps ∧ Q (.bl (decide (0 ≤ k ∧ k < n))) H
section
variable {P : Program} {w : World} {K : PySem.W.Frag} {mg : Str → Option Value} {base : Heap} {t : Adr}
theorem sc_is_place : FnScope ["web", "number"] ["web", "number"] (defScope s_is_place) := ⟨rfl, rfl, rfl, by decide +kernel, rfl, by decide +kernel, by decide +kernel⟩
theorem ok_is_place (T : Txt K mg t) : FnOk P w K mg base CX0 1 t.a_is_place t.d_is_place ["web", "number"] (sp_is_place t.A_Web) := by
  refine T.f_is_place.ok sc_is_place (fun vs H Q E h => ?_) (fun cdv A outer s H vs Q E hr h => ?_)
  · obtain ⟨w, n, ps, k, rfl, _⟩ := h
    rfl
  · obtain ⟨w, n, ps, k, rfl, ⟨dx, tl, xs, h1, h2, h3⟩, q⟩ := h
    refine ⟨_, (pss_one (ps_ret (pe_chain op_le op_lt pe_int (pv 1) (pe_fldK K (pv 0) rfl)))), ?_⟩
    refine ⟨_, rfl, _, _, rfl, rfl, _, rfl, ?_⟩
    refine ite2 (fun hc => ?_) (fun hc => ?_)
    · refine ⟨_, rfl, w, _, dx, _, _, rfl, h1, T.cl_Web, T.n_Web_places, wf_places _ _, _, _, rfl, rfl, ?_⟩
      have hc := of_decide_eq_true hc
      show Q (.bl (decide (k < n))) H
      rw [show decide (k < n) = decide (0 ≤ k ∧ k < n) from by simp [hc]]
      exact q
    · have hc : ¬ (0 ≤ k) := fun z => hc (decide_eq_true z)
      show Q (.bl false) H
      rw [show (false : Bool) = decide (0 ≤ k ∧ k < n) from by simp; omega]
      exact q
end
end My
namespace My
open PySem L2 PyProof.Rows
set_option maxHeartbeats 4000000
def sp_is_tie (C : Addr) : Sp := fun vs H Q _ => ∃ (w : Addr) (n : Int) (ps : List (Int × Int)) (k : Int), vs = [.ref w, .int k] ∧ WebAt C H w n ps ∧ Q (.bl (decide (0 ≤ k ∧ k < (ps.length : Int)))) H
section
variable {P : Program} {w : World} {K : PySem.W.Frag} {mg : Str → Option Value} {base : Heap} {t : Adr}
theorem sc_is_tie : FnScope ["web", "number"] ["web", "number"] (defScope s_is_tie) := ⟨rfl, rfl, rfl, by decide +kernel, rfl, by decide +kernel, by decide +kernel⟩
theorem ok_is_tie (T : Txt K mg t) : FnOk P w K mg base CX0 1 t.a_is_tie t.d_is_tie ["web", "number"] (sp_is_tie t.A_Web) := by
  refine T.f_is_tie.ok sc_is_tie (fun vs H Q E h => ?_) (fun cdv A outer s H vs Q E hr h => ?_)
  · obtain ⟨w, n, ps, k, rfl, _⟩ := h
    rfl
  · obtain ⟨w, n, ps, k, rfl, ⟨dx, tl, xs, h1, h2, h3⟩, q⟩ := h
    refine ⟨_, (pss_one (ps_ret (pe_chain op_le op_lt pe_int (pv 1) (pe_callB (call_lenK K) (by rfl) T.n_len Boot.«len» (pa_cons (pe_fldK K (pv 0) rfl) pa_nil))))), ?_⟩
    refine ⟨_, rfl, _, _, rfl, rfl, _, rfl, ?_⟩
    refine ite2 (fun hc => ?_) (fun hc => ?_)
    · refine ⟨_, rfl, w, _, dx, _, _, rfl, h1, T.cl_Web, T.n_Web_ties, wf_ties _ _, tl, xs, rfl, .inl (SqL.of h2), _, _, rfl, rfl, ?_⟩
      have hc := of_decide_eq_true hc
      show Q (.bl (decide (k < (xs.length : Int)))) H
      rw [h3.1, show decide (k < (ps.length : Int)) = decide (0 ≤ k ∧ k < (ps.length : Int)) from by simp [hc]]
      exact q
    · have hc : ¬ (0 ≤ k) := fun z => hc (decide_eq_true z)
      show Q (.bl false) H
      rw [show (false : Bool) = decide (0 ≤ k ∧ k < (ps.length : Int)) from by simp; omega]
      exact q
end
end My
namespace My
open PySem L2 PyProof.Rows
set_option maxHeartbeats 4000000
def sp_is_set (K : PySem.W.Frag) (C : Addr) : Sp := fun vs H Q _ => ∃ (w a : Addr) (n : Int) (ps : List (Int × Int)) (kd : Bool) (ns : List Int), vs = [.ref w, .ref a] ∧ WebAt C H w n ps ∧ SqK kd K H a (IL ns) ∧ ∀ b : Bool, (b = true ↔ IsSet ps.length ns) → Q (.bl b) H
section
variable {P : Program} {w : World} {K : PySem.W.Frag} {mg : Str → Option Value} {base : Heap} {t : Adr}
theorem sc_is_set : FnScope ["web", "ties", "last", "tie"] ["web", "ties"] (defScope s_is_set) := ⟨rfl, rfl, rfl, by decide +kernel, rfl, by decide +kernel, by decide +kernel⟩
theorem ok_is_set (T : Txt K mg t) : FnOk P w K mg base CX0 2 t.a_is_set t.d_is_set ["web", "ties"] (sp_is_set K t.A_Web) := by
  refine T.f_is_set.ok sc_is_set (fun vs H Q E h => ?_) (fun cdv A outer s H vs Q E hr h => ?_)
  · obtain ⟨w, a, n, ps, kd, ns, rfl, _⟩ := h
    rfl
  · obtain ⟨w, a, n, ps, kd, ns, rfl, hW, hS, q⟩ := h
    refine ⟨_, (pss_cons (ps_set (i := 2) sc_is_set.nd rfl (Or.inl rfl) (pe_un un_neg pe_int))
      (pss_cons (ps_for PassesOwn.never rfl (pi_seqK K (pv 1)) (pg_name (i := 3) sc_is_set.nd rfl (Or.inl rfl))
      (pss_cons (ps_if (PW.pt (pw_or (pt_cmpR op_le (pv 3) (pv 2) (nomark _)) (pw_or1 (pt_not (pt_val (pe_call (ok_is_tie T) (hr.mono (by decide)) rfl T.m_is_tie T.f_is_tie.kp T.b_is_tie .nil pass0 (pa_cons (pv 0) (pa_cons (pv 3) pa_nil))))))))
      (pss_one (ps_ret pe_bl))
      pss_nil)
      (pss_one (ps_set (i := 2) sc_is_set.nd rfl (Or.inl rfl) (pv 3)))))
      (pss_one (ps_ret pe_bl)))), ?_⟩
    refine ⟨_, rfl, ?_⟩
    refine ⟨_, rfl, a, rfl, for_seq (k := kd) (K := K) (xs := IL ns) (fun i σ H2 => ∃ (l : Int) (v : Option V), σ = [some (.ref w), some (.ref a), some (.int l), v] ∧ H2 = H ∧ (i = 0 → l = -1) ∧ (i ≠ 0 → ns[i - 1]? = some l) ∧ ∀ j z, j < i → ns[j]? = some z → 0 ≤ z ∧ z < (ps.length : Int) ∧ ∀ y, j ≠ 0 → ns[j - 1]? = some y → y < z)
      ⟨-1, none, rfl, rfl, fun _ => rfl, fun z => absurd rfl z, fun j z hj => absurd hj (Nat.not_lt_zero j)⟩ (fun i σ H2 _ ⟨_, _, _, e, _⟩ => e ▸ hS) ?_ ?_⟩
    · rintro i x σ H2 hi ⟨l, v, rfl, rfl, hl0, hl1, hp⟩
      obtain ⟨z, rfl, hz⟩ := il_get hi
      refine ⟨_, rfl, _, rfl, _, _, rfl, rfl, _, rfl, ?_⟩
      refine itd2 (fun hc => ?_) (fun hc => ?_)
      · -- tie <= last
        refine iteT ?_
        refine q false ⟨fun z => (nomatch z), fun hs => ?_⟩
        obtain ⟨b1, b2, b3⟩ := hs i z hz
        by_cases h0 : i = 0
        · have := hl0 h0; omega
        · have := b3 l h0 (hl1 h0); omega
      · refine ⟨_, rfl, _, rfl, w, n, ps, z, rfl, hW, _, rfl, ?_⟩
        refine itn2 (fun hc2 => ?_) (fun hc2 => ?_)
        · refine ⟨_, rfl, ?_⟩
          refine ⟨z, _, rfl, rfl, fun e => (nomatch e), fun _ => by simpa using hz, fun j y hj ey => ?_⟩
          by_cases hji : j < i
          · exact hp j y hji ey
          · have e : j = i := by omega
            subst e
            rw [hz] at ey
            cases ey
            refine ⟨hc2.1, hc2.2, fun y h0 ey => ?_⟩
            rw [hl1 h0] at ey
            cases ey
            omega
        · refine q false ⟨fun z => (nomatch z), fun hs => ?_⟩
          obtain ⟨b1, b2, b3⟩ := hs i z hz
          exact absurd ⟨b1, b2⟩ hc2
    · rintro σ H2 ⟨l, v, rfl, rfl, hl0, hl1, hp⟩
      refine q true ⟨fun _ i z hz => ?_, fun _ => rfl⟩
      have hi : i < (IL ns).length := by rw [il_length]; exact (List.getElem?_eq_some_iff.mp hz).1
      exact hp i z hi hz
end
end My
namespace My
open PySem L2 PyProof.Rows
set_option maxHeartbeats 4000000
/-- the tuple of a set of ties, or BadSet -/
def sp_made_set (K : PySem.W.Frag) (C B : Addr) : Sp := fun vs H Q E => ∃ (w a : Addr) (n : Int) (ps : List (Int × Int)) (kd : Bool) (ns : List Int), vs = [.ref w, .ref a] ∧ WebAt C H w n ps ∧ SqK kd K H a (IL ns) ∧
  (IsSet ps.length ns → ∀ (r : Addr) (H' : Hp), Same H H' → SqT K H' r (IL ns) → Q (.ref r) H') ∧ (¬ IsSet ps.length ns → E (.ref B) none H)
section
variable {P : Program} {w : World} {K : PySem.W.Frag} {mg : Str → Option Value} {base : Heap} {t : Adr}
theorem sc_made_set : FnScope ["web", "ties"] ["web", "ties"] (defScope s_made_set) := ⟨rfl, rfl, rfl, by decide +kernel, rfl, by decide +kernel, by decide +kernel⟩
theorem ok_made_set (T : Txt K mg t) : FnOk P w K mg base (CXW P w) 3 t.a_made_set t.d_made_set ["web", "ties"] (sp_made_set K t.A_Web t.A_BadSet) := by
  refine T.f_made_set.okX sc_made_set (fun vs H Q E h => ?_) (fun cdv A outer s H vs Q E hr h => ?_)
  · obtain ⟨w, a, n, ps, kd, ns, rfl, _⟩ := h
    rfl
  · obtain ⟨w, a, n, ps, kd, ns, rfl, hW, hS, q, qe⟩ := h
    refine ⟨_, (pss_cons (ps_if (pt_not (pt_val (pe_call (ok_is_set T) (hr.mono (by decide)) rfl T.m_is_set T.f_is_set.kp T.b_is_set .nil pass0 (pa_cons (pv 0) (pa_cons (pv 1) pa_nil)))))
      (pss_one (ps_raise T.x_BadSet T.c_BadSet (pa_cons pe_str pa_nil)))
      pss_nil)
      (pss_one (ps_ret (pe_callTy (call_tupleK K) (by rfl) T.n_tuple Boot.«tuple» (pa_cons (pv 1) pa_nil))))), ?_⟩
    refine ⟨_, rfl, _, rfl, w, a, n, ps, kd, ns, rfl, hW, hS, fun b hb => ⟨_, rfl, ?_⟩⟩
    refine itnb (fun z => ?_) (fun z => ?_)
    · refine ⟨_, rfl, a, IL ns, rfl, ?_⟩
      cases kd with
      | false => exact .inl ⟨hS, fun l hl => q (hb.mp z) l _ (same_at hl) (SqT.of upd_same)⟩
      | true => exact .inr ⟨hS, q (hb.mp z) a H (Same.refl H) hS⟩
    · exact ⟨by show 1 ≤ sizeLine; decide, qe fun hI => by rw [hb.mpr hI] at z; cases z⟩
end
end My
namespace My
open PySem L2 PyProof.Rows
set_option maxHeartbeats 4000000
def sp_refuse_bad_row (K : PySem.W.Frag) (C R : Addr) : Sp := fun vs H Q E => ∃ (w a : Addr) (n : Int) (ps : List (Int × Int)) (kd : Bool) (ws : List Int), vs = [.ref w, .ref a] ∧ WebAt C H w n ps ∧ SqK kd K H a (IL ws) ∧
  (ws.length = ps.length → Q .non H) ∧ (ws.length ≠ ps.length → E (.ref R) none H)
section
variable {P : Program} {w : World} {K : PySem.W.Frag} {mg : Str → Option Value} {base : Heap} {t : Adr}
theorem sc_refuse_bad_row : FnScope ["web", "numbers"] ["web", "numbers"] (defScope s_refuse_bad_row) := ⟨rfl, rfl, rfl, by decide +kernel, rfl, by decide +kernel, by decide +kernel⟩
theorem ok_refuse_bad_row (T : Txt K mg t) : FnOk P w K mg base (CXW P w) 1 t.a_refuse_bad_row t.d_refuse_bad_row ["web", "numbers"] (sp_refuse_bad_row K t.A_Web t.A_BadRow) := by
  refine T.f_refuse_bad_row.okX sc_refuse_bad_row (fun vs H Q E h => ?_) (fun cdv A outer s H vs Q E hr h => ?_)
  · obtain ⟨w, a, n, ps, kd, ws, rfl, _⟩ := h
    rfl
  · obtain ⟨w, a, n, ps, kd, ws, rfl, ⟨dx, tl, xs, h1, h2, h3⟩, hS, q, qe⟩ := h
    refine ⟨_, (pss_one (ps_if (pt_cmpR op_ne (pe_callB (call_lenK K) (by rfl) T.n_len Boot.«len» (pa_cons (pv 1) pa_nil)) (pe_callB (call_lenK K) (by rfl) T.n_len Boot.«len» (pa_cons (pe_fldK K (pv 0) rfl) pa_nil)) (nomark _))
      (pss_one (ps_raise T.x_BadRow T.c_BadRow (pa_cons pe_str pa_nil)))
      pss_nil)), ?_⟩
    have hl := h3.1
    refine ⟨_, rfl, a, _, rfl, hS.or, _, rfl, w, _, dx, _, _, rfl, h1, T.cl_Web, T.n_Web_ties, wf_ties _ _, tl, xs, rfl, .inl (SqL.of h2), rfl, _, rfl, ?_⟩
    rw [dec_int, il_length]
    refine itn2 (fun hc => ?_) (fun hc => ?_)
    · exact q (by omega)
    · exact ⟨by show 1 ≤ sizeLine; decide, qe (by omega)⟩
end
end My
namespace My
open PySem L2 PyProof.Rows
set_option maxHeartbeats 4000000
/-- the table of a web with weights -/
def sp_weighted_table (K : PySem.W.Frag) (C : Addr) : Sp := fun vs H Q _ => ∃ (w b : Addr) (n : Int) (ps : List (Int × Int)) (kd : Bool) (ws : List Int), vs = [.ref w, .ref b] ∧ WebAt C H w n ps ∧ GoodW n ps ∧ SqK kd K H b (IL ws) ∧ ws.length = ps.length ∧
  ∀ (r : Addr) (ys : List V) (L : List (List Int)) (H' : Hp), Same H H' → H r = none → TabAt H r n.toNat H' ys L → (∀ i j, i < n.toNat → j < n.toNat → fnL L i j = lapE (edsOf ps ws) i j) → Q (.ref r) H'
theorem rep_one2 (x : V) (k : Nat) : (List.replicate k [x]).flatten = List.replicate k x := by
  induction k with
  | zero => rfl
  | succ k ih => rw [List.replicate_succ, List.flatten_cons, ih, List.replicate_succ]; rfl
theorem fnL_abs0 (n i j : Nat) : fnL (List.replicate n (List.replicate n 0)) i j = 0 := by
  unfold fnL
  cases h : (List.replicate n (List.replicate n (0 : Int)))[i]? with
  | none =>
    have e : (List.replicate n (List.replicate n (0 : Int))).getD i [] = [] := by rw [List.getD_eq_getElem?_getD, h]; rfl
    rw [e]
    rfl
  | some l =>
    have e : (List.replicate n (List.replicate n (0 : Int))).getD i [] = l := by rw [List.getD_eq_getElem?_getD, h]; rfl
    rw [e, List.eq_of_mem_replicate (List.mem_of_getElem? h), List.getD_eq_getElem?_getD, List.getElem?_replicate]
    split <;> rfl
theorem TabAt.get {H0 H : Hp} {r : Addr} {n : Nat} {ys : List V} {L : List (List Int)} (h : TabAt H0 r n H ys L) {i j : Nat} (hi : i < n) (hj : j < n) : ∃ (A : Addr) (l : List Int) (x : Int), ys[i]? = some (.ref A) ∧ H A = some (.lst (IL l)) ∧ l[j]? = some x ∧ l.length = n ∧ x = fnL L i j ∧ H0 A = none ∧ ∀ y : Int, ∃ L' : List (List Int), TabAt H0 r n (upd H A (.lst ((IL l).set j (.int y)))) ys L' ∧ ∀ a b, fnL L' a b = if a = i ∧ b = j then y else fnL L a b := by
  obtain ⟨A, l, y1, z1, hA, hl, hn, hr⟩ := h.at hi
  obtain ⟨x, hx⟩ : ∃ x, l[j]? = some x := ⟨_, List.getElem?_eq_getElem (by omega)⟩
  refine ⟨A, l, x, y1, hA, hx, hl, (fnL_at z1 hx).symm, hn, fun y => ⟨L.set i (l.set j y), ?_, fnL_put z1 (by omega)⟩⟩
  have e : (IL l).set j (.int y) = IL (l.set j y) := (List.map_set ..).symm
  rw [e]
  exact h.put y1 z1 hr (by rw [List.length_set]; exact hl)
theorem ixN_of {xs : List V} {i : Int} (h0 : 0 ≤ i) (h1 : i < (xs.length : Int)) : ixN xs.length i = some i.toNat := by
  unfold ixN
  rw [if_pos h0, if_pos (by omega)]
section
variable {P : Program} {w : World} {K : PySem.W.Frag} {mg : Str → Option Value} {base : Heap} {t : Adr}
theorem sc_weighted_table : FnScope ["web", "weights", "table", "ends", "weight", "one", "other"] ["web", "weights"] (defScope s_weighted_table) := ⟨rfl, rfl, rfl, by decide +kernel, rfl, by decide +kernel, by decide +kernel⟩
theorem ok_weighted_table (T : Txt K mg t) : FnOk P w K mg base CX0 1 t.a_weighted_table t.d_weighted_table ["web", "weights"] (sp_weighted_table K t.A_Web) := by
  refine T.f_weighted_table.ok sc_weighted_table (fun vs H Q E h => ?_) (fun cdv A outer s H vs Q E hr h => ?_)
  · obtain ⟨w, b, n, ps, kd, ws, rfl, _⟩ := h
    rfl
  · obtain ⟨w, b, n, ps, kd, ws, rfl, hW, hG, hS, hwl, q⟩ := h
    refine ⟨_, (pss_cons (ps_lc (i := 2) rfl sc_weighted_table.nd rfl rfl (sc0 := defScope s_weighted_table) (N0 := ["web", "weights", "table", "ends", "weight", "one", "other"]) (N' := ["place", "web"]) (o := 1) (fr := [0]) ⟨rfl, by decide +kernel, by decide +kernel, by decide +kernel, rfl, by decide +kernel⟩ (pi_range1 rfl T.n_range (pa_cons (pe_fldK K (pv 0) rfl) pa_nil)) (own_name (by decide)) (fun _ _ _ _ => (pg_name (i := 0) (show List.Nodup (["place", "web"] : List Str) by decide +kernel) rfl (Or.inl rfl))) (fun _ _ _ _ => pts_nil) (fun _ _ _ _ => (pe_op op_rep (pe_lst (pa_cons pe_int pa_nil)) (pe_fldK K (pv 1) rfl))))
      (pss_cons (ps_for PassesOwn.never rfl (pi_zipK K rfl T.n_zip (pa_cons (pe_fldK K (pv 0) rfl) (pa_cons (pv 1) pa_nil))) (pg_tupK (n := 2) K rfl (pgs_cons (pg_name (i := 3) sc_weighted_table.nd rfl (Or.inl rfl)) (pgs_cons (pg_name (i := 4) sc_weighted_table.nd rfl (Or.inl rfl)) pgs_nil)))
      (pss_cons (ps_set (i := 5) sc_weighted_table.nd rfl (Or.inl rfl) (pe_ix (ix_tupK K) (pv 3) pe_int (fun _ _ => rfl)))
      (pss_cons (ps_set (i := 6) sc_weighted_table.nd rfl (Or.inl rfl) (pe_ix (ix_tupK K) (pv 3) pe_int (fun _ _ => rfl)))
      (pss_one (ps_if (pt_cmpR op_ne (pv 5) (pv 6) (nomark _))
      (pss_cons (ps_augS (pe_ix (ix_listK K) (pv 2) (pv 5) (fun _ _ => rfl)) (pv 5) (get_listK K) (pv 4) ip_add set_list)
      (pss_cons (ps_augS (pe_ix (ix_listK K) (pv 2) (pv 6) (fun _ _ => rfl)) (pv 6) (get_listK K) (pv 4) ip_add set_list)
      (pss_cons (ps_augS (pe_ix (ix_listK K) (pv 2) (pv 5) (fun _ _ => rfl)) (pv 6) (get_listK K) (pv 4) ip_sub set_list)
      (pss_one (ps_augS (pe_ix (ix_listK K) (pv 2) (pv 6) (fun _ _ => rfl)) (pv 5) (get_listK K) (pv 4) ip_sub set_list)))))
      pss_nil)))))
      (pss_one (ps_ret (pv 2))))), ?_⟩
    obtain ⟨dx, tl, xs, h1, h2, h3⟩ := id hW
    have hl := h3.1
    obtain ⟨g1, g2, g3, g4⟩ := id hG
    have one : 1 ≤ sizeLine := by decide
    -- table
    refine ⟨_, rfl, w, _, dx, _, _, rfl, h1, T.cl_Web, T.n_Web_places, wf_places _ _, n, rfl, by omega, by omega, lc_range (lo := 0) (n := n.toNat) (fun i zs H2 => Same H H2 ∧ Bears (ListV H2) zs (List.replicate i (List.replicate n.toNat 0)) ∧ zs.Nodup ∧ ∀ A, V.ref A ∈ zs → H A = none ∧ ∃ o, H2 A = some o) ⟨Same.refl _, ⟨rfl, fun i l e => by simp at e⟩, .nil, fun A h => (by cases h)⟩ (small60' (by omega)) (fun i zs H2 _ ⟨_, e, _⟩ => by rw [e.1, List.length_replicate]; exact Nat.le_refl _) ?_ ?_⟩
    · rintro i zs H2 hi ⟨s2, hZ, hnd, hnew⟩ S hSS
      refine nm ?_
      refine ⟨one, fun p1 hp1 => ?_⟩
      have u1 := same_at (o := .lst [.int 0]) hp1
      refine ⟨_, rfl, w, _, dx, _, _, rfl, u1 _ _ (s2 _ _ h1), T.cl_Web, T.n_Web_places, wf_places _ _, p1, n, _, rfl, rfl, upd_same, by omega, by omega, small60 (by show 1 * n.toNat ≤ _; omega), fun p2 hp2 => ?_⟩
      have e0 : (List.replicate n.toNat [V.int 0]).flatten = IL (List.replicate n.toNat 0) := by rw [rep_one2]; show _ = (List.replicate n.toNat 0).map V.int; rw [List.map_replicate]
      rw [e0]
      have u2 := u1.trans (same_at (o := .lst (IL (List.replicate n.toNat 0))) hp2)
      have hp20 : H2 p2 = none := (same_at hp1).free hp2
      refine hSS _ _ ⟨s2.trans u2, ?_, ?_, fun A hA => ?_⟩
      · rw [List.replicate_succ']
        exact (hZ.imp fun _ _ ⟨r', e, h⟩ => ⟨r', e, u2 _ _ h⟩).snoc ⟨p2, rfl, upd_same⟩
      · refine List.nodup_append.mpr ⟨hnd, by simp, fun x hx y hy e => ?_⟩
        rw [List.mem_singleton.mp hy] at e
        obtain ⟨_, o, ho⟩ := hnew p2 (e ▸ hx)
        rw [hp20] at ho
        cases ho
      · rcases List.mem_append.mp hA with e | e
        · obtain ⟨a1, o, a2⟩ := hnew A e
          exact ⟨a1, o, u2 _ _ a2⟩
        · have e' : A = p2 := by simpa using e
          rw [e']
          exact ⟨s2.free hp20, _, upd_same⟩
    rintro zs H2 ⟨s2, hZ, hnd, hnew⟩ tA htA
    have s3 := s2.trans (same_at (o := .lst zs) htA)
    have htA0 : H tA = none := s2.free htA
    have hT : TabAt H tA n.toNat (upd H2 tA (.lst zs)) zs (List.replicate n.toNat (List.replicate n.toNat 0)) := ⟨upd_same, hZ.imp fun _ _ ⟨r', e, h⟩ => ⟨r', e, same_at htA _ _ h, ne_of_none h htA⟩, List.length_replicate, fun l h => by rw [List.eq_of_mem_replicate h]; exact List.length_replicate, hnd, fun A h => (hnew A h).1⟩
    have hzero : ∀ i j, fnL (List.replicate n.toNat (List.replicate n.toNat 0)) i j = 0 := fun i j => by
      have := fnL_abs0 n.toNat i j
      exact this
    generalize upd H2 tA (.lst zs) = H3 at *
    generalize List.replicate n.toNat (List.replicate n.toNat (0 : Int)) = L0 at *
    -- for ends, weight in zip(web.ties, weights)
    refine ⟨_, rfl, w, _, dx, _, _, rfl, s3 _ _ h1, T.cl_Web, T.n_Web_ties, wf_ties _ _, _, rfl, tl, b, kd, rfl, ⟨_, _, SqL.of (s3 _ _ h2), hS.same s3⟩, for_zipK (K := K) (kd := kd) (a := tl) (b := b) (xs := xs) (ys := IL ws) (by rw [il_length]; omega) (fun i σ H4 => ∃ (L : List (List Int)) (v3 v4 v5 v6 : Option V), σ = [some (.ref w), some (.ref b), some (.ref tA), v3, v4, v5, v6] ∧ Same H H4 ∧ TabAt H tA n.toNat H4 zs L ∧ ∀ x y, x < n.toNat → y < n.toNat → fnL L x y = lapE (edsOf (ps.take i) (ws.take i)) x y) ⟨L0, none, none, none, none, rfl, s3, hT, fun x y _ _ => hzero x y⟩ (fun i σ H4 _ ⟨_, _, _, _, _, _, e, _⟩ => ⟨SqL.of (e _ _ h2), hS.same e⟩) ?_ ?_⟩
    · rintro i v v' σ H4 pt hpt hi hi' ⟨L, v3, v4, v5, v6, rfl, s4, hT4, hlap⟩
      obtain ⟨p, hp, tt, rfl, htt⟩ := h3.at hi
      obtain ⟨wt, rfl, hwt⟩ := il_get hi'
      obtain ⟨e1, e2, e3, e4⟩ := g4 p (List.mem_of_getElem? hp)
      have u1 := same_at (o := .tup [.ref tt, .int wt]) hpt
      refine ⟨pt, _, rfl, SqT.of upd_same, rfl, _, _, rfl, _, _, rfl, rfl, ?_⟩
      have hT5 := hT4.same u1
      have s5 := s4.trans u1
      generalize upd H4 pt (.tup [.ref tt, .int wt]) = H5 at *
      refine ⟨_, rfl, tt, _, 0, .int p.1, rfl, rfl, SqT.of (s5 _ _ htt), rfl, ?_⟩
      refine ⟨_, rfl, tt, _, 1, .int p.2, rfl, rfl, SqT.of (s5 _ _ htt), rfl, ?_⟩
      refine ⟨_, rfl, _, rfl, rfl, _, rfl, ?_⟩
      rw [dec_int]
      have esn := eds_snoc hp hwt
      refine itn2 (fun heq => ?_) (fun hne => ?_)
      · refine ⟨L, _, _, _, _, rfl, s5, hT5, fun x y hx hy => ?_⟩
        rw [esn, lapE_loop (by show p.1.toNat = p.2.toNat; rw [heq])]
        exact hlap x y hx hy
      have hne' : p.1.toNat ≠ p.2.toNat := fun e => hne (by omega)
      obtain ⟨A1, l1, x1, y1, hA1, hx1, hl1, ex1, hn1, put1⟩ := hT5.get (i := p.1.toNat) (j := p.1.toNat) (by omega) (by omega)
      refine ⟨_, rfl, _, rfl, tA, zs, p.1, .ref A1, rfl, rfl, SqL.of hT5.tab, atI_of (n := p.1.toNat) (by omega) y1, _, rfl, A1, _, p.1, .int x1, rfl, rfl, SqL.of hA1, by omega, il_at hx1, _, rfl, _, _, rfl, rfl, A1, _, p.1, p.1.toNat, rfl, rfl, hA1, ixN_of (by omega) (by rw [il_length]; omega), ?_⟩
      obtain ⟨L1, hT6, hf1⟩ := put1 (x1 + wt)
      have s6 : Same H (upd H5 A1 (.lst ((IL l1).set p.1.toNat (.int (x1 + wt))))) := same_upd hn1 s5
      generalize upd H5 A1 (.lst ((IL l1).set p.1.toNat (.int (x1 + wt)))) = H6 at *
      rw [ex1] at hf1
      obtain ⟨A2, l2, x2, y2, hA2, hx2, hl2, ex2, hn2, put2⟩ := hT6.get (i := p.2.toNat) (j := p.2.toNat) (by omega) (by omega)
      refine ⟨_, rfl, _, rfl, tA, zs, p.2, .ref A2, rfl, rfl, SqL.of hT6.tab, atI_of (n := p.2.toNat) (by omega) y2, _, rfl, A2, _, p.2, .int x2, rfl, rfl, SqL.of hA2, by omega, il_at hx2, _, rfl, _, _, rfl, rfl, A2, _, p.2, p.2.toNat, rfl, rfl, hA2, ixN_of (by omega) (by rw [il_length]; omega), ?_⟩
      obtain ⟨L2, hT7, hf2⟩ := put2 (x2 + wt)
      have s7 : Same H (upd H6 A2 (.lst ((IL l2).set p.2.toNat (.int (x2 + wt))))) := same_upd hn2 s6
      generalize upd H6 A2 (.lst ((IL l2).set p.2.toNat (.int (x2 + wt)))) = H7 at *
      rw [ex2] at hf2
      obtain ⟨A3, l3, x3, y3, hA3, hx3, hl3, ex3, hn3, put3⟩ := hT7.get (i := p.1.toNat) (j := p.2.toNat) (by omega) (by omega)
      refine ⟨_, rfl, _, rfl, tA, zs, p.1, .ref A3, rfl, rfl, SqL.of hT7.tab, atI_of (n := p.1.toNat) (by omega) y3, _, rfl, A3, _, p.2, .int x3, rfl, rfl, SqL.of hA3, by omega, il_at hx3, _, rfl, _, _, rfl, rfl, A3, _, p.2, p.2.toNat, rfl, rfl, hA3, ixN_of (by omega) (by rw [il_length]; omega), ?_⟩
      obtain ⟨L3, hT8, hf3⟩ := put3 (x3 - wt)
      have s8 : Same H (upd H7 A3 (.lst ((IL l3).set p.2.toNat (.int (x3 - wt))))) := same_upd hn3 s7
      generalize upd H7 A3 (.lst ((IL l3).set p.2.toNat (.int (x3 - wt)))) = H8 at *
      rw [ex3] at hf3
      obtain ⟨A4, l4, x4, y4, hA4, hx4, hl4, ex4, hn4, put4⟩ := hT8.get (i := p.2.toNat) (j := p.1.toNat) (by omega) (by omega)
      refine ⟨_, rfl, _, rfl, tA, zs, p.2, .ref A4, rfl, rfl, SqL.of hT8.tab, atI_of (n := p.2.toNat) (by omega) y4, _, rfl, A4, _, p.1, .int x4, rfl, rfl, SqL.of hA4, by omega, il_at hx4, _, rfl, _, _, rfl, rfl, A4, _, p.1, p.1.toNat, rfl, rfl, hA4, ixN_of (by omega) (by rw [il_length]; omega), ?_⟩
      obtain ⟨L4, hT9, hf4⟩ := put4 (x4 - wt)
      have s9 : Same H (upd H8 A4 (.lst ((IL l4).set p.1.toNat (.int (x4 - wt))))) := same_upd hn4 s8
      generalize upd H8 A4 (.lst ((IL l4).set p.1.toNat (.int (x4 - wt)))) = H9 at *
      rw [ex4] at hf4
      refine ⟨L4, _, _, _, _, rfl, s9, hT9, fun x y hx hy => ?_⟩
      rw [esn, lapE_snoc, ← hlap x y hx hy]
      exact four hne' x y hf1 hf2 hf3 hf4
    · rintro σ H4 ⟨L, v3, v4, v5, v6, rfl, s4, hT4, hlap⟩
      rw [hl, List.take_length, ← hwl, List.take_length] at hlap
      exact ⟨_, rfl, q tA zs L H4 s4 htA0 hT4 hlap⟩
end
end My
namespace My
open PySem L2 PyProof.Rows
set_option maxHeartbeats 4000000
/-- the table of a web -/
def sp_pull_table (K : PySem.W.Frag) (C : Addr) : Sp := fun vs H Q _ => ∃ (w : Addr) (n : Int) (ps : List (Int × Int)), vs = [.ref w] ∧ WebAt C H w n ps ∧ GoodW n ps ∧
  ∀ (r : Addr) (ys : List V) (L : List (List Int)) (H' : Hp), Same H H' → H r = none → TabAt H r n.toNat H' ys L → (∀ i j, i < n.toNat → j < n.toNat → fnL L i j = lapE (edsOf ps (List.replicate ps.length 1)) i j) → Q (.ref r) H'
section
variable {P : Program} {w : World} {K : PySem.W.Frag} {mg : Str → Option Value} {base : Heap} {t : Adr}
theorem sc_pull_table : FnScope ["web"] ["web"] (defScope s_pull_table) := ⟨rfl, rfl, rfl, by decide +kernel, rfl, by decide +kernel, by decide +kernel⟩
theorem ok_pull_table (T : Txt K mg t) : FnOk P w K mg base CX0 2 t.a_pull_table t.d_pull_table ["web"] (sp_pull_table K t.A_Web) := by
  refine T.f_pull_table.ok sc_pull_table (fun vs H Q E h => ?_) (fun cdv A outer s H vs Q E hr h => ?_)
  · obtain ⟨w, n, ps, rfl, _⟩ := h
    rfl
  · obtain ⟨w, n, ps, rfl, hW, hG, q⟩ := h
    refine ⟨_, (pss_one (ps_ret (pe_call (ok_weighted_table T) (hr.mono (by decide)) rfl T.m_weighted_table T.f_weighted_table.kp T.b_weighted_table .nil pass0 (pa_cons (pv 0) (pa_cons (pe_op op_rep (pe_lst (pa_cons pe_int pa_nil)) (pe_callB (call_lenK K) (by rfl) T.n_len Boot.«len» (pa_cons (pe_fldK K (pv 0) rfl) pa_nil))) pa_nil))))), ?_⟩
    obtain ⟨dx, tl, xs, h1, h2, h3⟩ := id hW
    have hl := h3.1
    have g3 := hG.2.2.1
    refine ⟨_, rfl, (by show 1 ≤ sizeLine; decide), fun p1 hp1 => ?_⟩
    have u1 := same_at (o := .lst [.int 1]) hp1
    refine ⟨_, rfl, w, _, dx, _, _, rfl, u1 _ _ h1, T.cl_Web, T.n_Web_ties, wf_ties _ _, tl, xs, rfl, .inl (SqL.of (u1 _ _ h2)), p1, (xs.length : Int), _, rfl, rfl, upd_same, by omega, by omega, small60 (by show 1 * _ ≤ _; omega), fun p2 hp2 => ?_⟩
    have e0 : (List.replicate (xs.length : Int).toNat [V.int 1]).flatten = IL (List.replicate ps.length 1) := by
      rw [Int.toNat_natCast, hl, rep_one2]
      show _ = (List.replicate ps.length 1).map V.int
      rw [List.map_replicate]
    rw [e0]
    have u2 := u1.trans (same_at (o := .lst (IL (List.replicate ps.length 1))) hp2)
    refine ⟨w, p2, n, ps, false, List.replicate ps.length 1, rfl, hW.same u2, hG, SqL.of upd_same, List.length_replicate, fun r ys L H' s hr hT hf => ?_⟩
    exact q r ys L H' (u2.trans s) (u2.free hr) ⟨hT.tab, hT.rows, hT.len, hT.all, hT.nd, fun A h => u2.free (hT.new A h)⟩ hf
end
end My
namespace My
open PySem L2 PyProof.Rows
set_option maxHeartbeats 4000000
/-- how many trees -/
def sp_tree_count (K : PySem.W.Frag) (C : Addr) : Sp := fun vs H Q _ => ∃ (w : Addr) (n : Int) (ps : List (Int × Int)), vs = [.ref w] ∧ WebAt C H w n ps ∧ GoodW n ps ∧ ∀ (c : Nat) (H' : Hp), TC n ps c → Same H H' → Q (.int c) H'
theorem ind_abs (u v i : Nat) : (ind u v i).natAbs ≤ 1 := by
  unfold ind
  split <;> split <;> decide
theorem lap_abs : ∀ {E : List Ed}, (∀ e ∈ E, e.2.2 = 1) → ∀ i j, (lapE E i j).natAbs ≤ E.length
  | [], _, i, j => Nat.le_refl 0
  | e :: E, h, i, j => by
    have ih := lap_abs (fun f hf => h f (List.mem_cons_of_mem _ hf)) i j
    have h1 := ind_abs e.1 e.2.1 i
    have h2 := ind_abs e.1 e.2.1 j
    have h3 : (ind e.1 e.2.1 i * ind e.1 e.2.1 j).natAbs ≤ 1 := by rw [Int.natAbs_mul]; exact Nat.mul_le_mul h1 h2
    show (e.2.2 * (ind e.1 e.2.1 i * ind e.1 e.2.1 j) + lapE E i j).natAbs ≤ (e :: E).length
    rw [h e List.mem_cons_self, Int.one_mul, List.length_cons]
    have := Int.natAbs_add_le (ind e.1 e.2.1 i * ind e.1 e.2.1 j) (lapE E i j)
    omega
theorem cutz_snd {α : Type} {l : List α} {i : Nat} (hi : l.length = i + 1) : cutz l (i : Int) = l.take i := by
  unfold cutz
  rw [Int.toNat_natCast, List.drop_eq_nil_of_le (by omega), List.append_nil]
section
variable {P : Program} {w : World} {K : PySem.W.Frag} {mg : Str → Option Value} {base : Heap} {t : Adr}
theorem sc_tree_count : FnScope ["web"] ["web"] (defScope s_tree_count) := ⟨rfl, rfl, rfl, by decide +kernel, rfl, by decide +kernel, by decide +kernel⟩
theorem ok_tree_count (T : Txt K mg t) : FnOk P w K mg base CX0 3 t.a_tree_count t.d_tree_count ["web"] (sp_tree_count K t.A_Web) := by
  refine T.f_tree_count.ok sc_tree_count (fun vs H Q E h => ?_) (fun cdv A outer s H vs Q E hr h => ?_)
  · obtain ⟨w, n, ps, rfl, _⟩ := h
    rfl
  · obtain ⟨w, n, ps, rfl, hW, hG, q⟩ := h
    refine ⟨_, (pss_one (ps_ret (pe_call (ok_determinant T) (hr.mono (by decide)) rfl T.m_determinant T.f_determinant.kp T.b_determinant .nil passN (pa_cons (pe_call (ok_table_without T) (hr.mono (by decide)) rfl T.m_table_without T.f_table_without.kp T.b_table_without .nil pass0 (pa_cons (pe_call (ok_pull_table T) (hr.mono (by decide)) rfl T.m_pull_table T.f_pull_table.kp T.b_pull_table .nil pass0 (pa_cons (pv 0) pa_nil)) (pa_cons (pe_op op_sub (pe_fldK K (pv 0) rfl) pe_int) pa_nil))) pa_nil)))), ?_⟩
    obtain ⟨g1, g2, g3, g4⟩ := id hG
    refine ⟨_, rfl, w, n, ps, rfl, hW, hG, fun r ys L H1 s1 hr hT hf => ?_⟩
    obtain ⟨dx, tl, xs, h1, h2, h3⟩ := id hW
    refine ⟨_, rfl, w, _, dx, _, _, rfl, s1 _ _ h1, T.cl_Web, T.n_Web_places, wf_places _ _, _, _, rfl, rfl, ?_⟩
    obtain ⟨k, hk⟩ : ∃ k : Nat, n - 1 = (k : Int) := ⟨(n - 1).toNat, by omega⟩
    have hnk : n.toNat = k + 1 := by omega
    have hLl := hT.len
    have hTB : Bears (ListV H1) ys L := hT.rows.imp fun _ _ h => h.list
    refine ⟨r, ys, L, k, ?_, SqL.of hT.tab, hTB, by omega, fun l h => by rw [hT.all l h]; omega, by omega, fun r2 zs H2 s2 hr2 hZ => ?_⟩
    · show [V.ref r, V.int (n - 1)] = _
      rw [hk]
    have w1 : ∀ e ∈ edsOf ps (List.replicate ps.length (1 : Int)), e.2.2 = 1 := fun e he => by
      unfold edsOf at he
      obtain ⟨i, hi⟩ := List.getElem?_of_mem he
      rw [List.getElem?_zipWith] at hi
      cases h1 : ps[i]? with
      | none => rw [h1] at hi; cases hi
      | some p =>
        cases h2 : (List.replicate ps.length (1 : Int))[i]? with
        | none => rw [h1, h2] at hi; cases hi
        | some w =>
          rw [h1, h2] at hi
          obtain rfl := Option.some.inj hi
          exact List.eq_of_mem_replicate (List.mem_of_getElem? h2)
    have el : (edsOf ps (List.replicate ps.length (1 : Int))).length ≤ 30 := by
      unfold edsOf
      rw [List.length_zipWith, List.length_replicate]
      omega
    have hM : (cutz L (k : Int)).map (fun l => cutz l (k : Int)) = (L.take k).map fun l => l.take k := by
      rw [cutz_snd (by omega)]
      exact List.map_congr_left fun l hl => cutz_snd (by rw [hT.all l (List.mem_of_mem_take hl)]; omega)
    rw [hM] at hZ
    have hMl : ((L.take k).map fun l => l.take k).length = k := by rw [List.length_map, List.length_take]; omega
    have hfn : ∀ i j, i < k → j < k → fnL ((L.take k).map fun l => l.take k) i j = lapE (edsOf ps (List.replicate ps.length 1)) i j := fun i j hi hj => by
      rw [← hf i j (by omega) (by omega)]
      obtain ⟨l, hl⟩ : ∃ l, L[i]? = some l := ⟨_, List.getElem?_eq_getElem (by omega)⟩
      have hll := hT.all l (List.mem_of_getElem? hl)
      obtain ⟨x, hx⟩ : ∃ x, l[j]? = some x := ⟨_, List.getElem?_eq_getElem (by omega)⟩
      rw [fnL_at hl hx]
      exact fnL_at (l := l.take k) (by rw [List.getElem?_map, List.getElem?_take, if_pos hi, hl]; rfl) (by rw [List.getElem?_take, if_pos hj]; exact hx)
    refine ⟨r2, false, zs, (L.take k).map fun l => l.take k, rfl, SqL.of hr2, hZ.imp (fun _ _ ⟨r', e, h⟩ => ⟨r', false, e, SqL.of h⟩), by rw [hMl]; omega, fun i j hi hj => ?_, fun _ H3 s3 => ?_, fun h => absurd (fun l hl => ?_) h⟩
    · rw [hMl] at hi hj
      rw [hfn i j hi hj]
      exact Nat.le_trans (lap_abs w1 i j) (Nat.le_trans el (Nat.le_trans (by decide : 30 ≤ 2 ^ 5) (Nat.pow_le_pow_right (by decide) (by decide))))
    · have hd : det ((L.take k).map fun l => l.take k).length (fnL ((L.take k).map fun l => l.take k)) = det (n - 1).toNat (lapE (edsOf ps (List.replicate ps.length 1))) := by
        rw [hMl, show (n - 1).toNat = k by omega]
        exact det_congr fun i j hi hj => hfn i j hi hj
      obtain ⟨c, M, a1, a2, a3⟩ : ∃ c, TC n ps c := by
        obtain ⟨M, a1, a2, _⟩ := matrix_tree _ (n - 1).toNat (edsOf ps (List.replicate ps.length 1)) rfl (eds_in hG _)
        exact ⟨M.length, M, a1, fun l => by rw [a2, isT_web g1 List.length_replicate], rfl⟩
      rw [hd, tree_det hG a1 a2, a3]
      exact q c H3 ⟨M, a1, a2, a3⟩ (s1.trans (s2.trans s3))
    · obtain ⟨l0, h0, rfl⟩ := List.mem_map.mp hl
      rw [hMl, List.length_take, hT.all l0 (List.mem_of_mem_take h0)]
      omega
end
end My
namespace My
open PySem L2 PyProof.Rows
set_option maxHeartbeats 4000000
/-- the sum over all trees of the products of their ties' weights -/
def sp_tree_sum (K : PySem.W.Frag) (C R : Addr) : Sp := fun vs H Q E => ∃ (w b : Addr) (n : Int) (ps : List (Int × Int)) (kd : Bool) (ws : List Int), vs = [.ref w, .ref b] ∧ WebAt C H w n ps ∧ GoodW n ps ∧ SqK kd K H b (IL ws) ∧ (∀ x ∈ ws, x.natAbs ≤ 2 ^ 200) ∧ (ws.length = ps.length → ∀ (s : Int) (H' : Hp), WS n ps ws s → s.natAbs < 2 ^ 9000 → Same H H' → Q (.int s) H') ∧ (ws.length ≠ ps.length → E (.ref R) none H)
theorem cutz_snd3 {α : Type} {l : List α} {i : Nat} (hi : l.length = i + 1) : cutz l (i : Int) = l.take i := by
  unfold cutz
  rw [Int.toNat_natCast, List.drop_eq_nil_of_le (by omega), List.append_nil]
section
variable {P : Program} {w : World} {K : PySem.W.Frag} {mg : Str → Option Value} {base : Heap} {t : Adr}
theorem sc_tree_sum : FnScope ["web", "weights"] ["web", "weights"] (defScope s_tree_sum) := ⟨rfl, rfl, rfl, by decide +kernel, rfl, by decide +kernel, by decide +kernel⟩
theorem ok_tree_sum (T : Txt K mg t) : FnOk P w K mg base (CXW P w) 3 t.a_tree_sum t.d_tree_sum ["web", "weights"] (sp_tree_sum K t.A_Web t.A_BadRow) := by
  refine T.f_tree_sum.okX sc_tree_sum (fun vs H Q E h => ?_) (fun cdv A outer s H vs Q E hr h => ?_)
  · obtain ⟨w, b, n, ps, kd, ws, rfl, _⟩ := h
    rfl
  · obtain ⟨w, b, n, ps, kd, ws, rfl, hW, hG, hS, hwb, q0, q1⟩ := h
    refine ⟨_, (pss_cons (ps_expr (pe_call (ok_refuse_bad_row T) (hr.mono (by decide)) rfl T.m_refuse_bad_row T.f_refuse_bad_row.kp T.b_refuse_bad_row .nil pxs (pa_cons (pv 0) (pa_cons (pv 1) pa_nil))))
      (pss_one (ps_ret (pe_call (ok_determinant T) (hr.mono (by decide)) rfl T.m_determinant T.f_determinant.kp T.b_determinant .nil pxs (pa_cons (pe_call (ok_table_without T) (hr.mono (by decide)) rfl T.m_table_without T.f_table_without.kp T.b_table_without .nil pass0 (pa_cons (pe_call (ok_weighted_table T) (hr.mono (by decide)) rfl T.m_weighted_table T.f_weighted_table.kp T.b_weighted_table .nil pass0 (pa_cons (pv 0) (pa_cons (pv 1) pa_nil))) (pa_cons (pe_op op_sub (pe_fldK K (pv 0) rfl) pe_int) pa_nil))) pa_nil))))), ?_⟩
    obtain ⟨g1, g2, g3, g4⟩ := id hG
    refine ⟨_, rfl, _, rfl, w, b, n, ps, kd, ws, rfl, hW, hS, fun hw => ?_, fun h => q1 h⟩
    have q := q0 hw
    refine ⟨_, rfl, _, rfl, w, b, n, ps, kd, ws, rfl, hW, hG, hS, hw, fun r ys L H1 s1 hr hT hf => ?_⟩
    obtain ⟨dx, tl, xs, h1, h2, h3⟩ := id hW
    refine ⟨_, rfl, w, _, dx, _, _, rfl, s1 _ _ h1, T.cl_Web, T.n_Web_places, wf_places _ _, _, _, rfl, rfl, ?_⟩
    obtain ⟨k, hk⟩ : ∃ k : Nat, n - 1 = (k : Int) := ⟨(n - 1).toNat, by omega⟩
    have hnk : n.toNat = k + 1 := by omega
    have hLl := hT.len
    have hTB : Bears (ListV H1) ys L := hT.rows.imp fun _ _ h => h.list
    refine ⟨r, ys, L, k, ?_, SqL.of hT.tab, hTB, by omega, fun l h => by rw [hT.all l h]; omega, by omega, fun r2 zs H2 s2 hr2 hZ => ?_⟩
    · show [V.ref r, V.int (n - 1)] = _
      rw [hk]
    have w1 : ∀ e ∈ edsOf ps ws, e.2.2.natAbs ≤ 2 ^ 200 := fun e he => by
      unfold edsOf at he
      obtain ⟨i, hi⟩ := List.getElem?_of_mem he
      rw [List.getElem?_zipWith] at hi
      cases h1 : ps[i]? with
      | none => rw [h1] at hi; cases hi
      | some p =>
        cases h2 : ws[i]? with
        | none => rw [h1, h2] at hi; cases hi
        | some w =>
          rw [h1, h2] at hi
          obtain rfl := Option.some.inj hi
          exact hwb w (List.mem_of_getElem? h2)
    have el : (edsOf ps ws).length ≤ 30 := by
      unfold edsOf
      rw [List.length_zipWith]
      omega
    have hM : (cutz L (k : Int)).map (fun l => cutz l (k : Int)) = (L.take k).map fun l => l.take k := by
      rw [cutz_snd3 (by omega)]
      exact List.map_congr_left fun l hl => cutz_snd3 (by rw [hT.all l (List.mem_of_mem_take hl)]; omega)
    rw [hM] at hZ
    have hMl : ((L.take k).map fun l => l.take k).length = k := by rw [List.length_map, List.length_take]; omega
    have hfn : ∀ i j, i < k → j < k → fnL ((L.take k).map fun l => l.take k) i j = lapE (edsOf ps ws) i j := fun i j hi hj => by
      rw [← hf i j (by omega) (by omega)]
      obtain ⟨l, hl⟩ : ∃ l, L[i]? = some l := ⟨_, List.getElem?_eq_getElem (by omega)⟩
      have hll := hT.all l (List.mem_of_getElem? hl)
      obtain ⟨x, hx⟩ : ∃ x, l[j]? = some x := ⟨_, List.getElem?_eq_getElem (by omega)⟩
      rw [fnL_at hl hx]
      exact fnL_at (l := l.take k) (by rw [List.getElem?_map, List.getElem?_take, if_pos hi, hl]; rfl) (by rw [List.getElem?_take, if_pos hj]; exact hx)
    refine ⟨r2, false, zs, (L.take k).map fun l => l.take k, rfl, SqL.of hr2, hZ.imp (fun _ _ ⟨r', e, h⟩ => ⟨r', false, e, SqL.of h⟩), by rw [hMl]; omega, fun i j hi hj => ?_, fun _ H3 s3 => ?_, fun h => absurd (fun l hl => ?_) h⟩
    · rw [hMl] at hi hj
      rw [hfn i j hi hj]
      exact Nat.le_trans (lap_absW w1 i j) (Nat.le_trans (Nat.mul_le_mul_right _ el) (Nat.le_trans (by decide : 30 * 2 ^ 200 ≤ 2 ^ 210) (Nat.pow_le_pow_right (by decide) (by decide))))
    · have hd : det ((L.take k).map fun l => l.take k).length (fnL ((L.take k).map fun l => l.take k)) = det (n - 1).toNat (lapE (edsOf ps ws)) := by
        rw [hMl, show (n - 1).toNat = k by omega]
        exact det_congr fun i j hi hj => hfn i j hi hj
      rw [hd]
      refine q _ H3 (ws_det hG hw) (det_small (by omega) fun i j _ _ => ?_) (s1.trans (s2.trans s3))
      exact Nat.le_trans (lap_absW w1 i j) (Nat.le_trans (Nat.mul_le_mul_right _ el) (Nat.le_trans (by decide : 30 * 2 ^ 200 ≤ 2 ^ 210) (Nat.pow_le_pow_right (by decide) (by decide))))
    · obtain ⟨l0, h0, rfl⟩ := List.mem_map.mp hl
      rw [hMl, List.length_take, hT.all l0 (List.mem_of_mem_take h0)]
      omega
end
end My
namespace My
open PySem L2 PyProof.Rows
set_option maxHeartbeats 4000000
/-- the figures of a number -/
def sp_factors_of (K : PySem.W.Frag) : Sp := fun vs H Q _ => ∃ (b : Int) (l : List Int), vs = [.int (ev b l), .int b, .int l.length] ∧ l.length ≤ 100 ∧ b.natAbs < 2 ^ 9000 ∧ (∀ x ∈ l, 0 ≤ x ∧ x < b) ∧ ∀ (r : Addr) (H' : Hp), Same H H' → H' r = some (.tup (IL l)) → Q (.ref r) H'
section
variable {P : Program} {w : World} {K : PySem.W.Frag} {mg : Str → Option Value} {base : Heap} {t : Adr}
theorem sc_factors_of : FnScope ["number", "base", "many", "factors", "power"] ["number", "base", "many"] (defScope s_factors_of) := ⟨rfl, rfl, rfl, by decide +kernel, rfl, by decide +kernel, by decide +kernel⟩
theorem ok_factors_of (T : Txt K mg t) : FnOk P w K mg base CX0 1 t.a_factors_of t.d_factors_of ["number", "base", "many"] (sp_factors_of K) := by
  refine T.f_factors_of.ok sc_factors_of (fun vs H Q E h => ?_) (fun cdv A outer s H vs Q E hr h => ?_)
  · obtain ⟨b, l, rfl, _⟩ := h
    rfl
  · obtain ⟨b, l, rfl, hl, hb, hx, q⟩ := h
    refine ⟨_, (pss_cons (ps_set (i := 3) sc_factors_of.nd rfl (Or.inl rfl) (pe_lst pa_nil))
      (pss_cons (ps_for PassesOwn.never rfl (pi_range1 rfl T.n_range (pa_cons (pv 2) pa_nil)) (pg_name (i := 4) sc_factors_of.nd rfl (Or.inl rfl))
      (pss_cons (ps_expr (pe_bmK K PySem.F.plainAttrs_list PySem.F.slot_list_append PySem.F.type_list_append mt_append (pv 3) (pa_cons (pe_op op_mod (pv 0) (pv 1)) pa_nil)))
      (pss_one (ps_set (i := 0) sc_factors_of.nd rfl (Or.inl rfl) (pe_op op_fdivL (pv 0) (pv 1))))))
      (pss_one (ps_ret (pe_callTy (call_tupleK K) (by rfl) T.n_tuple Boot.«tuple» (pa_cons (pv 3) pa_nil)))))), ?_⟩
    refine ⟨Nat.zero_le _, fun f hf => ?_⟩
    refine ⟨_, rfl, l.length, rfl, by omega, by omega, for_range (lo := 0) (n := (l.length : Int).toNat) (fun i σ H2 => ∃ v : Option V, σ = [some (.int (ev b (l.drop i))), some (.int b), some (.int l.length), some (.ref f), v] ∧ Same H H2 ∧ H2 f = some (.lst (IL (l.take i)))) ⟨none, rfl, same_at hf, upd_same⟩ ?_ ?_⟩
    · rintro i σ H2 hi ⟨v, rfl, s2, h2⟩
      obtain ⟨d, hd⟩ : ∃ d, l[i]? = some d := ⟨_, List.getElem?_eq_getElem (by omega)⟩
      obtain ⟨d0, d1⟩ := hx d (List.mem_of_getElem? hd)
      have e := ev_drop (b := b) hd
      refine ⟨_, rfl, .inl ⟨rfl, _, SqL.of h2⟩, _, rfl, _, rfl, _, _, rfl, rfl, (by show (0 : Int) < b; omega), f, _, _, rfl, rfl, h2, ?_, ?_⟩
      · rw [il_length, List.length_take]; exact small60' (by omega)
      have em : ev b (l.drop i) % b = d := by rw [e]; exact ev_mod d0 d1
      have ed : (ev b (l.drop i)).fdiv b = ev b (l.drop (i + 1)) := by rw [Int.fdiv_eq_ediv_of_nonneg _ (by omega), e]; exact ev_div d0 d1
      refine ⟨_, rfl, _, rfl, _, _, rfl, rfl, ⟨by omega, hb⟩, ?_⟩
      refine ⟨some (.int (0 + (i : Int))), ?_, same_upd hf s2, ?_⟩
      · rw [← ed]
        rfl
      · rw [upd_same, List.take_succ, hd, ← em]
        exact congrArg some (congrArg HO.lst (il_snoc ..).symm)
    · rintro σ H2 ⟨v, rfl, s2, h2⟩
      rw [Int.toNat_natCast, List.take_length] at h2
      refine ⟨_, rfl, f, _, rfl, .inl ⟨SqL.of h2, fun r hr => ?_⟩⟩
      exact q r _ (s2.trans (same_at hr)) upd_same
end
end My
namespace My
open PySem L2 PyProof.Rows
set_option maxHeartbeats 4000000
/-- how many trees have so many ties of the set -/
def sp_sorts_of (K : PySem.W.Frag) (C B : Addr) : Sp := fun vs H Q E => ∃ (w b : Addr) (n : Int) (ps : List (Int × Int)) (kd : Bool) (S : List Int), vs = [.ref w, .ref b] ∧ WebAt C H w n ps ∧ GoodW n ps ∧ SqK kd K H b (IL S) ∧
  (IsSet ps.length S → ∃ L : List (List Int), L.Nodup ∧ (∀ T, T ∈ L ↔ IsTree n ps T) ∧ ∀ (r : Addr) (H' : Hp), Same H H' → H' r = some (.tup (IL (srts n.toNat S L))) → Q (.ref r) H') ∧ (¬ IsSet ps.length S → E (.ref B) none H)
section
variable {P : Program} {w : World} {K : PySem.W.Frag} {mg : Str → Option Value} {base : Heap} {t : Adr}
theorem sc_sorts_of : FnScope ["web", "ties", "base", "weights"] ["web", "ties"] (defScope s_sorts_of) := ⟨rfl, rfl, rfl, by decide +kernel, rfl, by decide +kernel, by decide +kernel⟩
theorem ok_sorts_of (T : Txt K mg t) : FnOk P w K mg base (CXW P w) 4 t.a_sorts_of t.d_sorts_of ["web", "ties"] (sp_sorts_of K t.A_Web t.A_BadSet) := by
  refine T.f_sorts_of.okX sc_sorts_of (fun vs H Q E h => ?_) (fun cdv A outer s H vs Q E hr h => ?_)
  · obtain ⟨w, b, n, ps, kd, S, rfl, _⟩ := h
    rfl
  · obtain ⟨w, b, n, ps, kd, S, rfl, hW, hG, hS, q0, qe⟩ := h
    refine ⟨_, (pss_cons (ps_set (i := 1) sc_sorts_of.nd rfl (Or.inr rfl) (pe_call (ok_made_set T) (hr.mono (by decide)) rfl T.m_made_set T.f_made_set.kp T.b_made_set .nil pxs (pa_cons (pv 0) (pa_cons (pv 1) pa_nil))))
      (pss_cons (ps_set (i := 2) sc_sorts_of.nd rfl (Or.inr rfl) (pe_op op_add (pe_call (ok_tree_count T) (hr.mono (by decide)) rfl T.m_tree_count T.f_tree_count.kp T.b_tree_count .nil pass0 (pa_cons (pv 0) pa_nil)) pe_int))
      (pss_cons (ps_lc (i := 3) rfl sc_sorts_of.nd rfl rfl (sc0 := defScope s_sorts_of) (N0 := ["web", "ties", "base", "weights"]) (N' := ["tie", "ties", "base"]) (o := 1) (fr := [1, 2]) ⟨rfl, by decide +kernel, by decide +kernel, by decide +kernel, rfl, by decide +kernel⟩ (pi_range1 rfl T.n_range (pa_cons (pe_callB (call_lenK K) (by rfl) T.n_len Boot.«len» (pa_cons (pe_fldK K (pv 0) rfl) pa_nil)) pa_nil)) (own_name (by decide)) (fun _ _ _ _ => (pg_name (i := 0) (show List.Nodup (["tie", "ties", "base"] : List Str) by decide +kernel) rfl (Or.inl rfl))) (fun _ _ _ _ => pts_nil) (fun _ _ _ _ => (pe_ifExp (pt_cmpR (op_inK K) (pv 0) (pv 1) rfl) (pv 2) pe_int)))
      (pss_one (ps_ret (pe_call (ok_factors_of T) (hr.mono (by decide)) rfl T.m_factors_of T.f_factors_of.kp T.b_factors_of .nil pass0 (pa_cons (pe_call (ok_tree_sum T) (hr.mono (by decide)) rfl T.m_tree_sum T.f_tree_sum.kp T.b_tree_sum .nil pxs (pa_cons (pv 0) (pa_cons (pv 3) pa_nil))) (pa_cons (pv 2) (pa_cons (pe_fldK K (pv 0) rfl) pa_nil))))))))), ?_⟩
    refine ⟨_, rfl, _, rfl, w, b, n, ps, kd, S, rfl, hW, hS, fun hI r H1 s1 hr => ?_, fun h => qe h⟩
    obtain ⟨L, hLn, hLm, q⟩ := q0 hI
    obtain ⟨g1, g2, g3, g4⟩ := id hG
    refine nm ?_
    dsimp only
    refine ⟨_, rfl, w, n, ps, rfl, hW.same s1, hG, fun c H2 hc s2 => ?_⟩
    refine ⟨_, _, rfl, rfl, ?_⟩
    refine nm ?_
    dsimp only
    have hW2 := (hW.same s1).same s2
    obtain ⟨dx, tl, xs, h1, h2, h3⟩ := id hW2
    have hl := h3.1
    have hr2 := sqT_same s2 hr
    refine ⟨_, rfl, w, _, dx, _, _, rfl, h1, T.cl_Web, T.n_Web_ties, wf_ties _ _, tl, xs, rfl, .inl (SqL.of h2), _, rfl, by omega, by omega, lc_range (lo := 0) (n := (xs.length : Int).toNat) (fun i zs H3 => H3 = H2 ∧ zs = IL (wS ((c : Int) + 1) S i)) ⟨rfl, rfl⟩ (small60' (by omega)) (fun i zs H3 _ ⟨_, e⟩ => by rw [e, il_length, wS_len]; exact Nat.le_refl _) ?_ ?_⟩
    · rintro i zs H3 hi ⟨rfl, rfl⟩ SS hSS
      refine nm ?_
      have hS3 : ∀ i : Nat, wS ((c : Int) + 1) S (i + 1) = wS ((c : Int) + 1) S i ++ [if ((i : Nat) : Int) ∈ S then (c : Int) + 1 else 1] := fun i => by
        unfold wS
        rw [List.range_succ, List.map_append]
        rfl
      refine ⟨_, rfl, _, rfl, r, _, rfl, .inr hr2, rfl, flat_ints _, _, rfl, ?_⟩
      rw [inV_ints]
      refine itd2 (fun h => ?_) (fun h => ?_)
      · refine ⟨_, rfl, hSS _ _ ⟨rfl, ?_⟩⟩
        rw [hS3, if_pos (by rw [Int.zero_add] at h; exact h)]
        exact (il_snoc ..).symm
      · refine hSS _ _ ⟨rfl, ?_⟩
        rw [hS3, if_neg (by rw [Int.zero_add] at h; exact h)]
        exact (il_snoc ..).symm
    rintro zs H3 ⟨rfl, rfl⟩ wA hwA
    rw [Int.toNat_natCast, hl]
    have s4 := same_at (o := .lst (IL (wS ((c : Int) + 1) S ps.length))) hwA
    have hw4 := upd_same (H := H3) (a := wA) (o := .lst (IL (wS ((c : Int) + 1) S ps.length)))
    generalize upd H3 wA (.lst (IL (wS ((c : Int) + 1) S ps.length))) = H4 at *
    refine nm ?_
    dsimp only
    have cs := tc_small hG hc
    have cb : ((c : Int) + 1).natAbs ≤ 2 ^ 200 := Nat.le_trans (by omega : ((c : Int) + 1).natAbs ≤ 10 ^ 20) (by decide)
    have hLc : L.length = c := TC.uniq ⟨L, hLn, hLm, rfl⟩ hc
    refine ⟨_, rfl, _, rfl, w, wA, n, ps, false, _, rfl, hW2.same s4, hG, SqL.of hw4, fun z hz => ?_, fun _ s H5 hs hsb s5 => ?_, fun h => absurd (wS_len ..) h⟩
    · obtain ⟨i, _, rfl⟩ := List.mem_map.mp hz
      split
      · exact cb
      · decide
    obtain rfl := hs.uniq (ws_srts ((c : Int) + 1) S hLn hLm)
    have s45 := s4.trans s5
    refine ⟨_, rfl, _, rfl, w, _, dx, _, _, rfl, s45 _ _ h1, T.cl_Web, T.n_Web_places, wf_places _ _, (c : Int) + 1, srts n.toNat S L, ?_, ?_, Nat.lt_of_le_of_lt cb (Nat.pow_lt_pow_right (by decide) (by decide)), fun z hz => ?_, fun r2 H6 s6 hr6 => ?_⟩
    · rw [srts_len, Int.toNat_of_nonneg (by omega)]
      rfl
    · rw [srts_len]; omega
    · have := srts_in n.toNat S L z hz
      omega
    · exact q r2 H6 (s1.trans (s2.trans (s45.trans s6))) hr6
end
end My
namespace My
open PySem L2 PyProof.Rows
set_option maxHeartbeats 4000000
/-- the first i ties' numbers of which end at z and are no loops -/
def atE (ps : List (Int × Int)) (z : Int) : Nat → List Int
  | 0 => []
  | i + 1 => if (z ∈ [(ps.getD i (0, 0)).1, (ps.getD i (0, 0)).2] ∧ (ps.getD i (0, 0)).1 ≠ (ps.getD i (0, 0)).2) then atE ps z i ++ [(i : Int)] else atE ps z i
theorem atE_set (ps : List (Int × Int)) (z : Int) : ∀ i, IsSet i (atE ps z i)
  | 0 => IsSet.nil 0
  | i + 1 => by
    unfold atE
    split
    · exact (atE_set ps z i).snoc
    · exact (atE_set ps z i).up
/-- how many trees have so many ties at a place -/
def sp_sorts_at (K : PySem.W.Frag) (C N : Addr) : Sp := fun vs H Q E => ∃ (w : Addr) (n : Int) (ps : List (Int × Int)) (z : Int), vs = [.ref w, .int z] ∧ WebAt C H w n ps ∧ GoodW n ps ∧ -(10 ^ 70) < z ∧ z < 10 ^ 70 ∧
  (0 ≤ z ∧ z < n → ∃ L : List (List Int), L.Nodup ∧ (∀ T, T ∈ L ↔ IsTree n ps T) ∧ ∀ (r : Addr) (H' : Hp), Same H H' → H' r = some (.tup (IL (srts n.toNat (atE ps z ps.length) L))) → Q (.ref r) H') ∧ (¬ (0 ≤ z ∧ z < n) → E (.ref N) none H)
section
variable {P : Program} {w : World} {K : PySem.W.Frag} {mg : Str → Option Value} {base : Heap} {t : Adr}
theorem sc_sorts_at : FnScope ["web", "place"] ["web", "place"] (defScope s_sorts_at) := ⟨rfl, rfl, rfl, by decide +kernel, rfl, by decide +kernel, by decide +kernel⟩
theorem ok_sorts_at (T : Txt K mg t) : FnOk P w K mg base (CXW P w) 5 t.a_sorts_at t.d_sorts_at ["web", "place"] (sp_sorts_at K t.A_Web t.A_NoSuch) := by
  refine T.f_sorts_at.okX sc_sorts_at (fun vs H Q E h => ?_) (fun cdv A outer s H vs Q E hr h => ?_)
  · obtain ⟨w, n, ps, z, rfl, _⟩ := h
    rfl
  · obtain ⟨w, n, ps, z, rfl, hW, hG, z0, z1, q0, qe⟩ := h
    refine ⟨_, (pss_cons (ps_if (pt_not (pt_val (pe_call (ok_is_place T) (hr.mono (by decide)) rfl T.m_is_place T.f_is_place.kp T.b_is_place .nil pass0 (pa_cons (pv 0) (pa_cons (pv 1) pa_nil)))))
      (pss_one (ps_raise T.x_NoSuch T.c_NoSuch (pa_cons (pe_fstr (pj_int (pv 1) (pj_str pj_nil))) pa_nil)))
      pss_nil)
      (pss_one (ps_ret (pe_call (ok_sorts_of T) (hr.mono (by decide)) rfl T.m_sorts_of T.f_sorts_of.kp T.b_sorts_of .nil pxs (pa_cons (pv 0) (pa_cons (pe_lc rfl (sc0 := defScope s_sorts_at) (N0 := ["web", "place"]) (N' := ["tie", "ends", "place"]) (o := 2) (fr := [1]) ⟨rfl, by decide +kernel, by decide +kernel, by decide +kernel, rfl, by decide +kernel⟩ (pi_enumK K rfl T.n_enumerate (pa_cons (pe_fldK K (pv 0) rfl) pa_nil)) (own_tup (own_cons (by decide) (own_cons (by decide) own_nil))) (fun _ _ _ _ => (pg_tupK (n := 2) K rfl (pgs_cons (pg_name (i := 0) (show List.Nodup (["tie", "ends", "place"] : List Str) by decide +kernel) rfl (Or.inl rfl)) (pgs_cons (pg_name (i := 1) (show List.Nodup (["tie", "ends", "place"] : List Str) by decide +kernel) rfl (Or.inl rfl)) pgs_nil)))) (fun _ _ _ _ => (pts_one (PW.pt (pw_and (pt_cmpR (op_inK K) (pv 2) (pv 1) rfl) (pw_and1 (pt_cmpR op_ne (pe_ix (ix_tupK K) (pv 1) pe_int (fun _ _ => rfl)) (pe_ix (ix_tupK K) (pv 1) pe_int (fun _ _ => rfl)) (nomark _))))))) (fun _ _ _ _ => (pv 0))) pa_nil)))))), ?_⟩
    refine ⟨_, rfl, _, rfl, w, n, ps, z, rfl, hW, _, rfl, ?_⟩
    refine itn2 (fun h => ?_) (fun h => ?_)
    rotate_left
    · exact ⟨_, rfl, z, rfl, z0, z1, fun x => ⟨by show 1 ≤ sizeLine; decide, qe h⟩⟩
    obtain ⟨L, hn, hm, q⟩ := q0 h
    obtain ⟨g1, g2, g3, g4⟩ := id hG
    obtain ⟨dx, tl, xs, h1, h2, h3⟩ := id hW
    have hl := h3.1
    refine ⟨_, rfl, _, rfl, w, _, dx, _, _, rfl, h1, T.cl_Web, T.n_Web_ties, wf_ties _ _, tl, rfl, ⟨_, SqL.of h2⟩, lc_enum (K := K) (a := tl) (xs := xs) (fun j zs H2 => Same H H2 ∧ zs = IL (atE ps z j)) ⟨Same.refl _, rfl⟩ (small60' (by omega)) (fun j zs H2 hj ⟨e, ez⟩ => ⟨e.seq (SqL.of h2), by
      rw [ez, il_length]
      exact (atE_set ps z j).len⟩) ?_ ?_⟩
    · rintro j v zs H2 pt hpt hj ⟨s2, rfl⟩ S hSS
      obtain ⟨p, hp, tt, rfl, ht⟩ := h3.at hj
      have s3 := same_at (o := .tup [.int j, .ref tt]) hpt
      refine ⟨pt, _, rfl, SqT.of upd_same, rfl, _, _, rfl, _, _, rfl, rfl, ?_⟩
      have s23 := s2.trans s3
      generalize upd H2 pt (.tup [.int j, .ref tt]) = H3 at *
      have ht3 := s23 _ _ ht
      have ep : ps.getD j (0, 0) = p := by rw [List.getD_eq_getElem?_getD, hp]; rfl
      have no : ¬ (z ∈ [p.1, p.2] ∧ p.1 ≠ p.2) → IL (atE ps z j) = IL (atE ps z (j + 1)) := fun h => by
        show _ = IL (if _ then _ else _)
        rw [ep, if_neg h]
      refine ⟨_, rfl, _, rfl, tt, [.int p.1, .int p.2], rfl, .inr (SqT.of ht3), rfl, flat_ints [p.1, p.2], _, rfl, ?_⟩
      rw [show inV (.int z) [.int p.1, .int p.2] = decide (z ∈ [p.1, p.2]) from inV_ints z [p.1, p.2]]
      refine itd2 (fun hin => ?_) (fun hin => ?_)
      rotate_left
      · exact hSS _ _ ⟨s23, no fun h => hin h.1⟩
      refine ⟨_, rfl, tt, _, 0, .int p.1, rfl, rfl, SqT.of ht3, rfl, _, rfl, tt, _, 1, .int p.2, rfl, rfl, SqT.of ht3, rfl, rfl, _, rfl, ?_⟩
      rw [dec_int]
      refine itn2 (fun he => ?_) (fun he => ?_)
      · exact hSS _ _ ⟨s23, no fun h => h.2 he⟩
      · refine ⟨_, rfl, hSS _ _ ⟨s23, ?_⟩⟩
        show _ = IL (if _ then _ else _)
        rw [ep, if_pos ⟨hin, he⟩]
        exact (il_snoc ..).symm
    rintro zs H2 ⟨s2, rfl⟩ cA hcA
    have s3 := s2.trans (same_at (o := .lst (IL (atE ps z xs.length))) hcA)
    rw [hl] at s3 ⊢
    refine ⟨w, cA, n, ps, false, _, rfl, hW.same s3, hG, SqL.of upd_same, fun _ => ⟨L, hn, hm, fun r H3 s4 hr => q r H3 (s3.trans s4) hr⟩, fun h => absurd (atE_set ps z ps.length) h⟩
end
end My
namespace My
open PySem L2 PyProof.Rows
set_option maxHeartbeats 4000000
/-- the determinant of the web's table with t more on its diagonal -/
def sp_forest_sum (K : PySem.W.Frag) (C : Addr) : Sp := fun vs H Q _ => ∃ (w : Addr) (n : Int) (ps : List (Int × Int)) (t : Int), vs = [.ref w, .int t] ∧ WebAt C H w n ps ∧ GoodW n ps ∧ t.natAbs ≤ 2 ^ 300 ∧
  ∀ H' : Hp, Same H H' → Q (.int (det n.toNat fun i j => lapE (edsOf ps (List.replicate ps.length 1)) i j + if i = j then t else 0)) H'
section
variable {P : Program} {w : World} {K : PySem.W.Frag} {mg : Str → Option Value} {base : Heap} {t : Adr}
theorem sc_forest_sum : FnScope ["web", "root_weight", "table", "place"] ["web", "root_weight"] (defScope s_forest_sum) := ⟨rfl, rfl, rfl, by decide +kernel, rfl, by decide +kernel, by decide +kernel⟩
theorem ok_forest_sum (T : Txt K mg t) : FnOk P w K mg base CX0 3 t.a_forest_sum t.d_forest_sum ["web", "root_weight"] (sp_forest_sum K t.A_Web) := by
  refine T.f_forest_sum.ok sc_forest_sum (fun vs H Q E h => ?_) (fun cdv A outer s H vs Q E hr h => ?_)
  · obtain ⟨w, n, ps, z, rfl, _⟩ := h
    rfl
  · obtain ⟨w, n, ps, z, rfl, hW, hG, hz, q⟩ := h
    refine ⟨_, (pss_cons (ps_set (i := 2) sc_forest_sum.nd rfl (Or.inl rfl) (pe_call (ok_pull_table T) (hr.mono (by decide)) rfl T.m_pull_table T.f_pull_table.kp T.b_pull_table .nil pass0 (pa_cons (pv 0) pa_nil)))
      (pss_cons (ps_for PassesOwn.never rfl (pi_range1 rfl T.n_range (pa_cons (pe_fldK K (pv 0) rfl) pa_nil)) (pg_name (i := 3) sc_forest_sum.nd rfl (Or.inl rfl))
      (pss_one (ps_augS (pe_ix (ix_listK K) (pv 2) (pv 3) (fun _ _ => rfl)) (pv 3) (get_listK K) (pv 1) ip_add set_list)))
      (pss_one (ps_ret (pe_call (ok_determinant T) (hr.mono (by decide)) rfl T.m_determinant T.f_determinant.kp T.b_determinant .nil passN (pa_cons (pv 2) pa_nil)))))), ?_⟩
    obtain ⟨g1, g2, g3, g4⟩ := id hG
    refine ⟨_, rfl, w, n, ps, rfl, hW, hG, fun r ys L H1 s1 hr hT hf => ?_⟩
    refine nm ?_
    dsimp only
    obtain ⟨dx, tl, xs, h1, h2, h3⟩ := id hW
    refine ⟨_, rfl, w, _, dx, _, _, rfl, s1 _ _ h1, T.cl_Web, T.n_Web_places, wf_places _ _, n, rfl, by omega, by omega, for_range (lo := 0) (n := n.toNat) (fun i σ H2 => ∃ (v : Option V) (L : List (List Int)), σ = [some (.ref w), some (.int z), some (.ref r), v] ∧ Same H H2 ∧ TabAt H r n.toNat H2 ys L ∧ ∀ a b, a < n.toNat → b < n.toNat → fnL L a b = lapE (edsOf ps (List.replicate ps.length 1)) a b + if a = b ∧ a < i then z else 0) ⟨none, L, rfl, s1, hT, fun a b ha hb => by rw [hf a b ha hb, if_neg (fun h => Nat.not_lt_zero _ h.2), Int.add_zero]⟩ ?_ ?_⟩
    · rintro i σ H2 hi ⟨v, L, rfl, s2, hT, hf⟩
      obtain ⟨A1, l1, x1, y1, hA1, hx1, hl1, ex1, hn1, put1⟩ := hT.get (i := i) (j := i) (by omega) (by omega)
      refine nm ?_
      dsimp only
      refine ⟨_, rfl, _, rfl, r, ys, _, .ref A1, rfl, rfl, SqL.of hT.tab, atI_of (n := i) (by omega) y1, _, rfl, A1, _, _, .int x1, rfl, rfl, SqL.of hA1, by omega, (by rw [show (0 + (i : Int)).toNat = i by omega]; exact il_at hx1), _, rfl, _, _, rfl, rfl, A1, _, _, i, rfl, rfl, hA1, ?_, ?_⟩
      · rw [show some i = some (0 + (i : Int)).toNat by congr 1; omega]
        exact ixN_of (by omega) (by rw [il_length]; omega)
      obtain ⟨L1, hT6, hf1⟩ := put1 (x1 + z)
      refine ⟨some (.int (0 + (i : Int))), L1, rfl, same_upd hn1 s2, hT6, fun a b ha hb => ?_⟩
      rw [hf1]
      by_cases e : a = i ∧ b = i
      · obtain ⟨rfl, rfl⟩ := e
        rw [if_pos ⟨rfl, rfl⟩, if_pos (by omega), ex1, hf _ _ ha hb, if_neg (by omega), Int.add_zero]
      · rw [if_neg e, hf a b ha hb]
        by_cases e2 : a = b ∧ a < i
        · rw [if_pos e2, if_pos (by omega)]
        · rw [if_neg e2, if_neg (by omega)]
    rintro σ H2 ⟨v, L, rfl, s2, hT, hf⟩
    have w1 : ∀ e ∈ edsOf ps (List.replicate ps.length (1 : Int)), e.2.2.natAbs ≤ 2 ^ 200 := fun e he => by
      unfold edsOf at he
      obtain ⟨i, hi⟩ := List.getElem?_of_mem he
      rw [List.getElem?_zipWith] at hi
      cases h1 : ps[i]? with
      | none => rw [h1] at hi; cases hi
      | some p =>
        cases h2 : (List.replicate ps.length (1 : Int))[i]? with
        | none => rw [h1, h2] at hi; cases hi
        | some w =>
          rw [h1, h2] at hi
          obtain rfl := Option.some.inj hi
          show w.natAbs ≤ _
          rw [List.eq_of_mem_replicate (List.mem_of_getElem? h2)]
          decide
    have el : (edsOf ps (List.replicate ps.length (1 : Int))).length ≤ 30 := by
      unfold edsOf
      rw [List.length_zipWith]
      omega
    have hfn : ∀ a b, a < n.toNat → b < n.toNat → fnL L a b = lapE (edsOf ps (List.replicate ps.length 1)) a b + if a = b then z else 0 := fun a b ha hb => by
      rw [hf a b ha hb]
      by_cases e : a = b
      · rw [if_pos ⟨e, ha⟩, if_pos e]
      · rw [if_neg (fun h => e h.1), if_neg e]
    have hTB : Bears (ListV H2) ys L := hT.rows.imp fun _ _ h => h.list
    refine ⟨_, rfl, r, false, ys, L, rfl, SqL.of hT.tab, hTB.imp (fun _ _ ⟨r', e, h⟩ => ⟨r', false, e, SqL.of h⟩), by rw [hT.len]; omega, fun i j hi hj => ?_, fun _ H3 s3 => ?_, fun h => absurd (fun l hl => ?_) h⟩
    · rw [hT.len] at hi hj
      rw [hfn i j hi hj]
      have b1 := lap_absW w1 i j
      have b2 : (if i = j then z else 0).natAbs ≤ 2 ^ 300 := by
        split
        · exact hz
        · exact Nat.zero_le _
      have b3 : 30 * 2 ^ 200 + 2 ^ 300 ≤ 2 ^ 400 := by decide
      have b4 := Nat.mul_le_mul_right (2 ^ 200) el
      exact Nat.le_trans (Int.natAbs_add_le _ _) (Nat.le_trans (Nat.add_le_add (Nat.le_trans b1 b4) b2) b3)
    · rw [hT.len, det_congr fun i j hi hj => hfn i j hi hj]
      exact q H3 (s2.trans s3)
    · rw [hT.len]; exact hT.all l hl
end
end My
namespace My
open PySem L2 PyProof.Rows
set_option maxHeartbeats 4000000
/-- the figures that tell the determinants for all t -/
def FSum (n : Int) (ps : List (Int × Int)) (fs : List Int) : Prop := fs.length = n.toNat + 1 ∧ (∀ x ∈ fs, 0 ≤ x) ∧ ∀ t : Int, (det n.toNat fun i j => lapE (edsOf ps (List.replicate ps.length 1)) i j + if i = j then t else 0) = ev t fs
def sp_rooted_forests (K : PySem.W.Frag) (C : Addr) : Sp := fun vs H Q _ => ∃ (w : Addr) (n : Int) (ps : List (Int × Int)) (fs : List Int), vs = [.ref w] ∧ WebAt C H w n ps ∧ GoodW n ps ∧ FSum n ps fs ∧ ∀ (r : Addr) (H' : Hp), Same H H' → H' r = some (.tup (IL fs)) → Q (.ref r) H'
theorem one_eds {ps : List (Int × Int)} : ∀ e ∈ edsOf ps (List.replicate ps.length (1 : Int)), e.2.2 = 1 := fun e he => by
  unfold edsOf at he
  obtain ⟨i, hi⟩ := List.getElem?_of_mem he
  rw [List.getElem?_zipWith] at hi
  cases h1 : ps[i]? with
  | none => rw [h1] at hi; cases hi
  | some p =>
    cases h2 : (List.replicate ps.length (1 : Int))[i]? with
    | none => rw [h1, h2] at hi; cases hi
    | some w =>
      rw [h1, h2] at hi
      obtain rfl := Option.some.inj hi
      exact List.eq_of_mem_replicate (List.mem_of_getElem? h2)
theorem one_small {n : Int} {ps : List (Int × Int)} (g : GoodW n ps) : (det n.toNat fun i j => lapE (edsOf ps (List.replicate ps.length 1)) i j + if i = j then (1 : Int) else 0).natAbs ≤ 2 ^ 154 := by
  obtain ⟨g1, g2, g3, g4⟩ := g
  have el : (edsOf ps (List.replicate ps.length (1 : Int))).length ≤ 30 := by
    unfold edsOf
    rw [List.length_zipWith]
    omega
  have h := det_abs (B := 2 ^ 7) (n := n.toNat) (A := fun i j => lapE (edsOf ps (List.replicate ps.length 1)) i j + if i = j then (1 : Int) else 0) fun i j _ _ => by
    have b1 := lap_absW (fun e he => by rw [one_eds e he]; exact Nat.le_refl 1 : ∀ e ∈ edsOf ps (List.replicate ps.length (1 : Int)), e.2.2.natAbs ≤ 1) i j
    have b2 : (if i = j then (1 : Int) else 0).natAbs ≤ 1 := by split <;> decide
    refine Nat.le_trans (Int.natAbs_add_le _ _) ?_
    have e7 : (2 : Nat) ^ 7 = 128 := rfl
    omega
  refine Nat.le_trans h (Nat.le_trans (bnd_le (b := 7) (by omega)) (Nat.pow_le_pow_right (by decide) ?_))
  omega
section
variable {P : Program} {w : World} {K : PySem.W.Frag} {mg : Str → Option Value} {base : Heap} {t : Adr}
theorem sc_rooted_forests : FnScope ["web", "base"] ["web"] (defScope s_rooted_forests) := ⟨rfl, rfl, rfl, by decide +kernel, rfl, by decide +kernel, by decide +kernel⟩
theorem ok_rooted_forests (T : Txt K mg t) : FnOk P w K mg base CX0 4 t.a_rooted_forests t.d_rooted_forests ["web"] (sp_rooted_forests K t.A_Web) := by
  refine T.f_rooted_forests.ok sc_rooted_forests (fun vs H Q E h => ?_) (fun cdv A outer s H vs Q E hr h => ?_)
  · obtain ⟨w, n, ps, fs, rfl, _⟩ := h
    rfl
  · obtain ⟨w, n, ps, fs, rfl, hW, hG, ⟨f1, f2, f3⟩, q⟩ := h
    refine ⟨_, (pss_cons (ps_set (i := 1) sc_rooted_forests.nd rfl (Or.inl rfl) (pe_op op_add (pe_call (ok_forest_sum T) (hr.mono (by decide)) rfl T.m_forest_sum T.f_forest_sum.kp T.b_forest_sum .nil pass0 (pa_cons (pv 0) (pa_cons pe_int pa_nil))) pe_int))
      (pss_one (ps_ret (pe_call (ok_factors_of T) (hr.mono (by decide)) rfl T.m_factors_of T.f_factors_of.kp T.b_factors_of .nil pass0 (pa_cons (pe_call (ok_forest_sum T) (hr.mono (by decide)) rfl T.m_forest_sum T.f_forest_sum.kp T.b_forest_sum .nil pass0 (pa_cons (pv 0) (pa_cons (pv 1) pa_nil))) (pa_cons (pv 1) (pa_cons (pe_op op_add (pe_fldK K (pv 0) rfl) pe_int) pa_nil))))))), ?_⟩
    obtain ⟨g1, g2, g3, g4⟩ := id hG
    have sm := one_small hG
    rw [f3] at sm
    obtain ⟨p0, p1⟩ := le_sum f2
    rw [ev_one] at sm
    refine ⟨_, rfl, w, n, ps, 1, rfl, hW, hG, by decide, fun H1 s1 => ?_⟩
    rw [f3, ev_one]
    refine ⟨_, _, rfl, rfl, ?_⟩
    refine nm ?_
    dsimp only
    have b0 : (fs.sum + 1).natAbs ≤ 2 ^ 300 := Nat.le_trans (by omega : (fs.sum + 1).natAbs ≤ 2 ^ 154 + 1) (by decide)
    refine ⟨_, rfl, _, rfl, w, n, ps, fs.sum + 1, rfl, hW.same s1, hG, b0, fun H2 s2 => ?_⟩
    rw [f3]
    obtain ⟨dx, tl, xs, h1, h2, h3⟩ := id ((hW.same s1).same s2)
    refine ⟨_, rfl, _, rfl, w, _, dx, _, _, rfl, h1, T.cl_Web, T.n_Web_places, wf_places _ _, _, _, rfl, rfl, ?_⟩
    refine ⟨fs.sum + 1, fs, ?_, by omega, Nat.lt_of_le_of_lt b0 (Nat.pow_lt_pow_right (by decide) (by decide)), fun x hx => ?_, fun r H3 s3 hr => q r H3 (s1.trans (s2.trans s3)) hr⟩
    · rw [f1]
      show [V.int _, V.int _, V.int (n + 1)] = [V.int _, V.int _, V.int ((n.toNat + 1 : Nat) : Int)]
      rw [show ((n.toNat + 1 : Nat) : Int) = n + 1 by omega]
    · have := p1 x hx
      have := f2 x hx
      omega
end
end My
namespace My
open PySem L2 PyProof.Rows
set_option maxHeartbeats 4000000
/-- a cell of the script, brought below 10 ** 60 -/
def sp_law_cell (K : PySem.W.Frag) : Sp := fun vs H Q _ => ∃ (a : Addr) (ns : List Int) (k : Int), vs = [.ref a, .int k] ∧ SqL K H a (IL ns) ∧ 0 ≤ k ∧ ∀ r : Int, 0 ≤ r → r < 10 ^ 60 → Q (.int r) H
section
variable {P : Program} {w : World} {K : PySem.W.Frag} {mg : Str → Option Value} {base : Heap} {t : Adr}
theorem sc_law_cell : FnScope ["script", "k"] ["script", "k"] (defScope s_law_cell) := ⟨rfl, rfl, rfl, by decide +kernel, rfl, by decide +kernel, by decide +kernel⟩
theorem ok_law_cell (T : Txt K mg t) : FnOk P w K mg base CX0 1 t.a_law_cell t.d_law_cell ["script", "k"] (sp_law_cell K) := by
  refine T.f_law_cell.ok sc_law_cell (fun vs H Q E h => ?_) (fun cdv A outer s H vs Q E hr h => ?_)
  · obtain ⟨a, ns, k, rfl, _⟩ := h
    rfl
  · obtain ⟨a, ns, k, rfl, hS, hk, q⟩ := h
    refine ⟨_, (pss_cons (ps_if (pt_cmpR op_lt (pv 1) (pe_callB (call_lenK K) (by rfl) T.n_len Boot.«len» (pa_cons (pv 0) pa_nil)) (nomark _))
      (pss_one (ps_ret (pe_op op_mod (pe_ix (ix_listK K) (pv 0) (pv 1) (fun _ _ => rfl)) (pe_op op_pow pe_int pe_int))))
      pss_nil)
      (pss_one (ps_ret pe_int))), ?_⟩
    refine ⟨_, rfl, _, rfl, a, _, rfl, .inl hS, _, _, rfl, rfl, _, rfl, ?_⟩
    refine ite2 (fun hc => ?_) (fun _ => ?_)
    · have hc := of_decide_eq_true hc
      rw [il_length] at hc
      obtain ⟨z, hz⟩ : ∃ z, ns[k.toNat]? = some z := ⟨_, List.getElem?_eq_getElem (by omega)⟩
      refine ⟨_, rfl, _, rfl, a, _, k, .int z, rfl, rfl, hS, atI_of (n := k.toNat) (by omega) (by rw [List.getElem?_map, hz]; rfl), _, _, rfl, rfl, ⟨by decide, by decide, by decide⟩, _, _, rfl, rfl, ?_, ?_⟩
      · show (0 : Int) < 10 ^ 60
        decide
      · exact q _ (Int.emod_nonneg _ (by decide)) (Int.emod_lt_of_pos _ (by decide))
    · exact q 0 (by decide) (by decide)
end
end My
namespace My
open PySem L2 PyProof.Rows
set_option maxHeartbeats 4000000
/-- a number stirred out of two -/
def sp_law_mixed : Sp := fun vs H Q _ => ∃ (c k : Int), vs = [.int c, .int k] ∧ ∀ r : Int, 0 ≤ r → r < 2147483587 → Q (.int r) H
section
variable {P : Program} {w : World} {K : PySem.W.Frag} {mg : Str → Option Value} {base : Heap} {t : Adr}
theorem sc_law_mixed : FnScope ["cell", "k", "first", "second"] ["cell", "k"] (defScope s_law_mixed) := ⟨rfl, rfl, rfl, by decide +kernel, rfl, by decide +kernel, by decide +kernel⟩
theorem ok_law_mixed (T : Txt K mg t) : FnOk P w K mg base CX0 1 t.a_law_mixed t.d_law_mixed ["cell", "k"] sp_law_mixed := by
  refine T.f_law_mixed.ok sc_law_mixed (fun vs H Q E h => ?_) (fun cdv A outer s H vs Q E hr h => ?_)
  · obtain ⟨c, k, rfl, _⟩ := h
    rfl
  · obtain ⟨c, k, rfl, q⟩ := h
    refine ⟨_, (pss_cons (ps_set (i := 2) sc_law_mixed.nd rfl (Or.inl rfl) (pe_op op_mod (pe_op op_mul (pe_op op_add (pe_op op_add (pv 0) (pe_op op_mul pe_int (pv 1))) pe_int) pe_int) pe_int))
      (pss_cons (ps_set (i := 3) sc_law_mixed.nd rfl (Or.inl rfl) (pe_op op_mod (pe_op op_add (pe_op op_add (pe_op op_mul (pv 2) (pv 2)) (pe_op op_mul pe_int (pv 1))) pe_int) pe_int))
      (pss_one (ps_ret (pe_op op_fdiv (pe_op op_mod (pe_op op_mul (pv 3) (pv 3)) pe_int) pe_int))))), ?_⟩
    refine ⟨_, rfl, _, rfl, _, _, rfl, rfl, .inl ⟨by decide, by decide⟩, _, _, rfl, rfl, _, _, rfl, rfl, _, _, rfl, rfl, .inr ⟨by decide, by decide⟩, _, _, rfl, rfl, (by show (0 : Int) < 2147483647; decide), ?_⟩
    have f0 : 0 ≤ ((c + 7919 * k + 1) * 48271) % 2147483647 := Int.emod_nonneg _ (by decide)
    have f1 : ((c + 7919 * k + 1) * 48271) % 2147483647 < 2147483647 := Int.emod_lt_of_pos _ (by decide)
    refine ⟨_, rfl, _, rfl, _, _, rfl, rfl, .inl ⟨by omega, by omega⟩, _, rfl, _, _, rfl, rfl, .inl ⟨by decide, by decide⟩, _, _, rfl, rfl, _, _, rfl, rfl, _, _, rfl, rfl, (by show (0 : Int) < 2147483629; decide), ?_⟩
    generalize ((c + 7919 * k + 1) * 48271) % 2147483647 = u at *
    have g0 : 0 ≤ (u * u + 40692 * k + 3) % 2147483629 := Int.emod_nonneg _ (by decide)
    have g1 : (u * u + 40692 * k + 3) % 2147483629 < 2147483629 := Int.emod_lt_of_pos _ (by decide)
    refine ⟨_, rfl, _, rfl, _, _, rfl, rfl, .inl ⟨by omega, by omega⟩, _, _, rfl, rfl, (by show (0 : Int) < 2147483587; decide), _, _, rfl, rfl, ⟨by decide, by decide⟩, ?_⟩
    generalize (u * u + 40692 * k + 3) % 2147483629 = v at *
    have h0 : 0 ≤ (v * v) % 2147483587 := Int.emod_nonneg _ (by decide)
    have h1 : (v * v) % 2147483587 < 2147483587 := Int.emod_lt_of_pos _ (by decide)
    generalize (v * v) % 2147483587 = x at *
    exact q _ (by omega) (by omega)
end
end My
namespace My
open PySem L2 PyProof.Rows
set_option maxHeartbeats 4000000
theorem all_snoc {p : Int → Prop} {l : List Int} {x : Int} (h : ∀ z ∈ l, p z) (hx : p x) : ∀ z ∈ l ++ [x], p z := fun z hz => by
  rcases List.mem_append.mp hz with q | q
  · exact h z q
  · rw [List.mem_singleton.mp q]; exact hx
/-- so many numbers, none below nought -/
def sp_law_draws (K : PySem.W.Frag) : Sp := fun vs H Q _ => ∃ (a : Addr) (ns : List Int) (st c : Nat) (way : Int), vs = [.ref a, .int st, .int c, .int way] ∧ SqL K H a (IL ns) ∧ ns.length ≤ 63 ∧ st ≤ 63 ∧ c ≤ 100 ∧
  ∀ (l : Addr) (ds : List Int) (H' : Hp), Same H H' → H l = none → H' l = some (.lst (IL ds)) → ds.length = c → (∀ z ∈ ds, 0 ≤ z) → Q (.ref l) H'
section
variable {P : Program} {w : World} {K : PySem.W.Frag} {mg : Str → Option Value} {base : Heap} {t : Adr}
theorem sc_law_draws : FnScope ["script", "start", "count", "way", "total", "folded", "k", "at", "told"] ["script", "start", "count", "way"] (defScope s_law_draws) := ⟨rfl, rfl, rfl, by decide +kernel, rfl, by decide +kernel, by decide +kernel⟩
theorem ok_law_draws (T : Txt K mg t) : FnOk P w K mg base CX0 2 t.a_law_draws t.d_law_draws ["script", "start", "count", "way"] (sp_law_draws K) := by
  refine T.f_law_draws.ok sc_law_draws (fun vs H Q E h => ?_) (fun cdv A outer s H vs Q E hr h => ?_)
  · obtain ⟨a, ns, st, c, way, rfl, _⟩ := h
    rfl
  · obtain ⟨a, ns, st, c, way, rfl, hS, hn, hst, hc, q⟩ := h
    refine ⟨_, (pss_cons (ps_set (i := 4) sc_law_draws.nd rfl (Or.inl rfl) (pe_op op_mod (pe_callB (call_sumK K rfl) (by rfl) T.n_sum Boot.«sum» (pa_cons (pe_lc rfl (sc0 := defScope s_law_draws) (N0 := ["script", "start", "count", "way", "total", "folded", "k", "at", "told"]) (N' := ["cell"]) (o := 1) (fr := []) ⟨rfl, by decide +kernel, by decide +kernel, by decide +kernel, rfl, by decide +kernel⟩ (pi_listK K (pe_slice (sl_listK K) (pv 0) (po_some (pv 1)) po_none)) (own_name (by decide)) (fun _ _ _ _ => (pg_name (i := 0) (show List.Nodup (["cell"] : List Str) by decide +kernel) rfl (Or.inl rfl))) (fun _ _ _ _ => pts_nil) (fun _ _ _ _ => (pe_op op_mod (pv 0) (pe_op op_pow pe_int pe_int)))) pa_nil)) (pe_op op_pow pe_int pe_int)))
      (pss_cons (ps_lc (i := 5) rfl sc_law_draws.nd rfl rfl (sc0 := defScope s_law_draws) (N0 := ["script", "start", "count", "way", "total", "folded", "k", "at", "told"]) (N' := ["k"]) (o := 1) (fr := []) ⟨rfl, by decide +kernel, by decide +kernel, by decide +kernel, rfl, by decide +kernel⟩ (pi_range1 rfl T.n_range (pa_cons (pv 2) pa_nil)) (own_name (by decide)) (fun _ _ _ _ => (pg_name (i := 0) (show List.Nodup (["k"] : List Str) by decide +kernel) rfl (Or.inl rfl))) (fun _ _ _ _ => pts_nil) (fun _ _ _ _ => (pe_op op_add (pe_op op_mul pe_int (pv 0)) pe_int)))
      (pss_cons (ps_for PassesOwn.never rfl (pi_range2 rfl T.n_range (pa_cons (pv 1) (pa_cons (pe_callB (call_lenK K) (by rfl) T.n_len Boot.«len» (pa_cons (pv 0) pa_nil)) pa_nil))) (pg_name (i := 6) sc_law_draws.nd rfl (Or.inl rfl))
      (pss_cons (ps_set (i := 7) sc_law_draws.nd rfl (Or.inl rfl) (pe_op op_mod (pv 6) (pe_callB (call_max2 rfl) (by rfl) T.n_max Boot.«max» (pa_cons pe_int (pa_cons (pv 2) pa_nil)))))
      (pss_one (ps_if (pt_cmpR op_gt (pv 2) pe_int (nomark _))
      (pss_one (ps_asg (pe_op op_mod (pe_op op_add (pe_op op_mul (pe_ix (ix_listK K) (pv 5) (pv 7) (fun _ _ => rfl)) pe_int) (pe_ix (ix_listK K) (pv 0) (pv 6) (fun _ _ => rfl))) (pe_op op_pow pe_int pe_int)) (pg_sub (pv 5) (pv 7) set_list)))
      pss_nil))))
      (pss_cons (ps_set (i := 8) sc_law_draws.nd rfl (Or.inl rfl) (pe_lst pa_nil))
      (pss_cons (ps_for PassesOwn.never rfl (pi_range1 rfl T.n_range (pa_cons (pv 2) pa_nil)) (pg_name (i := 6) sc_law_draws.nd rfl (Or.inl rfl))
      (pss_one (ps_if (PW.pt (pw_and (pt_cmpR op_eq (pv 3) pe_int (nomark _)) (pw_and1 (pt_cmpR op_gt (pv 4) pe_int (nomark _)))))
      (pss_cons (ps_expr (pe_bmK K PySem.F.plainAttrs_list PySem.F.slot_list_append PySem.F.type_list_append mt_append (pv 8) (pa_cons (pe_op op_mod (pv 4) pe_int) pa_nil)))
      (pss_one (ps_set (i := 4) sc_law_draws.nd rfl (Or.inl rfl) (pe_op op_fdiv (pv 4) pe_int))))
      (pss_one (ps_expr (pe_bmK K PySem.F.plainAttrs_list PySem.F.slot_list_append PySem.F.type_list_append mt_append (pv 8) (pa_cons (pe_call (ok_law_mixed T) (hr.mono (by decide)) rfl T.m_law_mixed T.f_law_mixed.kp T.b_law_mixed .nil pass0 (pa_cons (pe_ix (ix_listK K) (pv 5) (pv 6) (fun _ _ => rfl)) (pa_cons (pv 6) pa_nil))) pa_nil)))))))
      (pss_one (ps_ret (pv 8)))))))), ?_⟩
    -- total = sum([cell % 10 ** 60 for cell in script[start:]]) % 10 ** 60
    refine ⟨_, rfl, _, rfl, (st : Int), rfl, a, IL ns, rfl, hS, fun l1 hl1 => ?_⟩
    have s1 : Same H (upd H l1 (.lst (cutV (IL ns) (some (st : Int)) none))) := same_at hl1
    obtain ⟨ms, hms, hml⟩ : ∃ ms : List Int, cutV (IL ns) (some (st : Int)) none = IL ms ∧ ms.length ≤ 63 := by
      refine ⟨(ns.drop (HT.sIx (IL ns).length 0 (some (st : Int)))).take (HT.sIx (IL ns).length (IL ns).length none - HT.sIx (IL ns).length 0 (some (st : Int))), ?_, ?_⟩
      · unfold cutV
        rw [il_take, il_drop]
      · rw [List.length_take, List.length_drop]
        omega
    refine ⟨l1, rfl, ⟨_, SqL.of upd_same⟩, lc_list (K := K) (a := l1) (xs := cutV (IL ns) (some (st : Int)) none) (fun i ys H2 => H2 = upd H l1 (.lst (cutV (IL ns) (some (st : Int)) none)) ∧ ∃ rs : List Int, ys = IL rs ∧ rs.length = i ∧ i ≤ ms.length) ⟨rfl, [], rfl, rfl, Nat.zero_le _⟩ (by rw [hms, il_length]; exact small60' (by omega))
      (fun i ys H2 _ ⟨e, rs, ey, el, _⟩ => ⟨e ▸ SqL.of upd_same, by rw [ey, il_length]; omega⟩) ?_ ?_⟩
    · rintro i x ys H2 hi ⟨rfl, rs, rfl, el, hil⟩ S hSS
      rw [hms] at hi
      obtain ⟨z, rfl, hz⟩ := il_get hi
      have hlt := (List.getElem?_eq_some_iff.mp hz).1
      refine nmY ?_
      refine ⟨_, rfl, _, _, rfl, rfl, ⟨by decide, by decide, by decide⟩, _, _, rfl, rfl, (by show (0 : Int) < 10 ^ 60; decide), ?_⟩
      refine hSS _ _ ⟨rfl, rs ++ [z % 10 ^ 60], ?_, ?_, hlt⟩
      · exact (il_snoc _ _).symm
      · rw [List.length_append, el]; rfl
    · rintro ys H2 ⟨rfl, rs, rfl, el, _⟩ l2 hl2
      have s2 := same_new (o := .lst (IL rs)) s1 hl2
      refine ⟨l2, rs, rfl, SqL.of upd_same, _, _, rfl, rfl, ⟨by decide, by decide, by decide⟩, _, _, rfl, rfl, (by show (0 : Int) < 10 ^ 60; decide), ?_⟩
      have t0 : 0 ≤ rs.sum % (10 : Int) ^ ((60 : Int).toNat) := Int.emod_nonneg _ (by decide)
      -- folded = [7 * k + 5 for k in range(count)]
      refine ⟨_, rfl, (c : Int), rfl, by omega, by omega, lc_range (lo := 0) (n := ((c : Int)).toNat) (fun i ys H3 => H3 = upd (upd H l1 (.lst (cutV (IL ns) (some (st : Int)) none))) l2 (.lst (IL rs)) ∧ ∃ fs : List Int, ys = IL fs ∧ fs.length = i) ⟨rfl, [], rfl, rfl⟩ (small60' (by omega))
        (fun i ys H3 _ ⟨_, fs, e, el⟩ => by rw [e, il_length]; omega) ?_ ?_⟩
      · rintro i ys H3 hi ⟨rfl, fs, rfl, el2⟩ S hSS
        refine nmY ?_
        refine ⟨_, rfl, _, _, rfl, rfl, .inl ⟨by decide, by decide⟩, _, _, rfl, rfl, ?_⟩
        refine hSS _ _ ⟨rfl, fs ++ [7 * (0 + (i : Int)) + 5], ?_, ?_⟩
        · exact (il_snoc _ _).symm
        · rw [List.length_append, el2]; rfl
      · rintro ys H3 ⟨rfl, fs, rfl, el2⟩ l3 hl3
        have s3 := same_new (o := .lst (IL fs)) s2 hl3
        have hl30 : H l3 = none := s2.free hl3
        -- for k in range(start, len(script))
        refine ⟨_, rfl, _, rfl, a, _, rfl, .inl (s3.seq hS), (st : Int), ((IL ns).length : Int), rfl, ⟨by omega, by omega, by omega, by rw [il_length]; omega⟩, ?_⟩
        refine for_range (lo := (st : Int)) (n := (((IL ns).length : Int) - (st : Int)).toNat) (fun j σ H4 => ∃ (fs : List Int) (v6 v7 : Option V), σ = [some (.ref a), some (.int st), some (.int c), some (.int way), some (.int (rs.sum % (10 : Int) ^ ((60 : Int).toNat))), some (.ref l3), v6, v7, none] ∧ Same H H4 ∧ H4 l3 = some (.lst (IL fs)) ∧ fs.length = c)
          ⟨fs, none, none, rfl, s3, upd_same, by rw [el2]; simp⟩ ?_ ?_
        · rintro j σ H4 hj ⟨gs, v6, v7, rfl, s4, h4, eg⟩
          rw [il_length] at hj
          refine ⟨_, rfl, _, rfl, _, _, rfl, _, _, rfl, rfl, ?_, ?_⟩
          · show (0 : Int) < if (c : Int) > 1 then (c : Int) else 1
            split <;> omega
          · refine ⟨_, rfl, _, _, rfl, rfl, _, rfl, ?_⟩
            refine itd2 (fun hc0 => ?_) (fun hc0 => ?_)
            · have hmax : (if (c : Int) > 1 then (c : Int) else 1) = (c : Int) := by split <;> omega
              have at0 : 0 ≤ ((st : Int) + (j : Int)) % (c : Int) := Int.emod_nonneg _ (by omega)
              have at1 : ((st : Int) + (j : Int)) % (c : Int) < (c : Int) := Int.emod_lt_of_pos _ hc0
              rw [hmax]
              generalize hat : ((st : Int) + (j : Int)) % (c : Int) = at' at *
              obtain ⟨f, hf⟩ : ∃ f, gs[at'.toNat]? = some f := ⟨_, List.getElem?_eq_getElem (by omega)⟩
              obtain ⟨z, hz⟩ : ∃ z, ns[st + j]? = some z := ⟨_, List.getElem?_eq_getElem (by omega)⟩
              refine ⟨_, rfl, _, rfl, l3, _, _, _, rfl, rfl, SqL.of h4, atI_of (n := at'.toNat) (by omega) (by rw [List.getElem?_map, hf]; rfl), _, _, rfl, rfl, .inr ⟨by decide, by decide⟩, _, rfl, _, rfl, a, _, _, _, rfl, rfl, s4.seq hS, atI_of (n := st + j) (by omega) (by rw [List.getElem?_map, hz]; rfl), _, _, rfl, rfl, _, _, rfl, rfl, ⟨by decide, by decide, by decide⟩, _, _, rfl, rfl, (by show (0 : Int) < 10 ^ 60; decide), ?_⟩
              refine ⟨_, rfl, _, rfl, l3, _, _, at'.toNat, rfl, rfl, h4, ?_, ?_⟩
              · rw [hat]
                unfold ixN
                rw [if_pos at0, if_pos (by rw [il_length]; omega)]
              · refine ⟨gs.set at'.toNat ((f * 31 + z) % (10 : Int) ^ ((60 : Int).toNat)), _, _, rfl, same_upd hl30 s4, ?_, by rw [List.length_set]; exact eg⟩
                rw [upd_same, il_set]
            · exact ⟨gs, _, _, rfl, s4, h4, eg⟩
        · rintro σ H4 ⟨gs, v6, v7, rfl, s4, h4, eg⟩
          -- told = []
          refine ⟨Nat.zero_le _, fun l5 hl5 => ?_⟩
          have hl50 : H l5 = none := s4.free hl5
          have n35 : l3 ≠ l5 := ne_of_none h4 hl5
          refine ⟨_, rfl, (c : Int), rfl, by omega, by omega, for_range (lo := 0) (n := ((c : Int)).toNat) (fun j σ H6 => ∃ (tot : Int) (ds : List Int) (v6 v7 : Option V), σ = [some (.ref a), some (.int st), some (.int c), some (.int way), some (.int tot), some (.ref l3), v6, v7, some (.ref l5)] ∧ Same H H6 ∧ H6 l3 = some (.lst (IL gs)) ∧ H6 l5 = some (.lst (IL ds)) ∧ ds.length = j ∧ (∀ z ∈ ds, 0 ≤ z) ∧ 0 ≤ tot)
            ⟨_, [], _, _, rfl, same_new s4 hl5, by rw [upd_ne n35]; exact h4, upd_same, rfl, fun z hz => (by cases hz), t0⟩ ?_ ?_⟩
          · rintro j σ H6 hj ⟨tot, ds, w6, w7, rfl, s6, h63, h65, edl, hds, htot⟩
            have jc : j < c := by omega
            have app : ∀ r : Int, (upd H6 l5 (.lst (IL ds ++ [.int r]))) l5 = some (.lst (IL (ds ++ [r]))) := fun r => by rw [upd_same, il_snoc]
            have dlen : (IL ds).length < sizeLine := by rw [il_length]; exact small60' (by omega)
            obtain ⟨f, hf⟩ : ∃ f, gs[j]? = some f := ⟨_, List.getElem?_eq_getElem (by omega)⟩
            refine ⟨_, rfl, rfl, _, rfl, ?_⟩
            refine itd2 (fun hw => ?_) (fun hw => ?_)
            · refine ⟨_, rfl, _, _, rfl, rfl, _, rfl, ?_⟩
              refine itd2 (fun htp => ?_) (fun htp => ?_)
              · refine ⟨_, rfl, .inl ⟨rfl, _, SqL.of h65⟩, _, rfl, _, _, rfl, rfl, (by show (0 : Int) < 210; decide), l5, _, _, rfl, rfl, h65, dlen, ?_⟩
                refine ⟨_, rfl, _, _, rfl, rfl, ⟨by decide, by decide⟩, ?_⟩
                refine ⟨_, ds ++ [tot % 210], _, _, rfl, same_upd hl50 s6, by rw [upd_ne n35]; exact h63, app _, by rw [List.length_append, edl]; rfl, all_snoc hds (Int.emod_nonneg _ (by decide)), ?_⟩
                omega
              · refine ⟨_, rfl, .inl ⟨rfl, _, SqL.of h65⟩, _, rfl, _, rfl, l3, _, _, _, rfl, rfl, SqL.of h63, atI_of (n := j) (by omega) (by rw [List.getElem?_map, hf]; rfl), _, rfl, _, _, rfl, fun r r0 r1 => ?_⟩
                refine ⟨l5, _, _, rfl, rfl, h65, dlen, ?_⟩
                exact ⟨_, ds ++ [r], _, _, rfl, same_upd hl50 s6, by rw [upd_ne n35]; exact h63, app _, by rw [List.length_append, edl]; rfl, all_snoc hds r0, htot⟩
            · refine ⟨_, rfl, .inl ⟨rfl, _, SqL.of h65⟩, _, rfl, _, rfl, l3, _, _, _, rfl, rfl, SqL.of h63, atI_of (n := j) (by omega) (by rw [List.getElem?_map, hf]; rfl), _, rfl, _, _, rfl, fun r r0 r1 => ?_⟩
              refine ⟨l5, _, _, rfl, rfl, h65, dlen, ?_⟩
              exact ⟨_, ds ++ [r], _, _, rfl, same_upd hl50 s6, by rw [upd_ne n35]; exact h63, app _, by rw [List.length_append, edl]; rfl, all_snoc hds r0, htot⟩
          · rintro σ H6 ⟨tot, ds, w6, w7, rfl, s6, h63, h65, edl, hds, htot⟩
            exact ⟨_, rfl, q l5 ds H6 s6 hl50 h65 (by omega) hds⟩
end
end My
namespace My
open PySem L2 PyProof.Rows
set_option maxHeartbeats 4000000
theorem PairsV.good {H : Hp} {xs : List V} {ps : List (Int × Int)} {v : V} {p : Int × Int} {n : Int} (h : ∀ p ∈ ps, 0 ≤ p.1 ∧ p.1 < n ∧ 0 ≤ p.2 ∧ p.2 < n) (hp : 0 ≤ p.1 ∧ p.1 < n ∧ 0 ≤ p.2 ∧ p.2 < n) : ∀ q ∈ ps ++ [p], 0 ≤ q.1 ∧ q.1 < n ∧ 0 ≤ q.2 ∧ q.2 < n := fun q hq => by
  rcases List.mem_append.mp hq with z | z
  · exact h q z
  · rw [List.mem_singleton.mp z]; exact hp
/-- as many ties as draws, their ends places -/
def sp_law_ties (K : PySem.W.Frag) : Sp := fun vs H Q _ => ∃ (a : Addr) (ds : List Int) (n : Int) (hang : Bool), vs = [.ref a, .int n, .bl hang] ∧ SqL K H a (IL ds) ∧ ds.length ≤ 100 ∧ (∀ z ∈ ds, 0 ≤ z) ∧ 1 ≤ n ∧ n ≤ 1000 ∧
  ∀ (l : Addr) (xs : List V) (ps : List (Int × Int)) (H' : Hp), Same H H' → H l = none → H' l = some (.lst xs) → PairsV H' xs ps → ps.length = ds.length → (∀ p ∈ ps, 0 ≤ p.1 ∧ p.1 < n ∧ 0 ≤ p.2 ∧ p.2 < n) → Q (.ref l) H'
section
variable {P : Program} {w : World} {K : PySem.W.Frag} {mg : Str → Option Value} {base : Heap} {t : Adr}
theorem sc_law_ties : FnScope ["draws", "places", "hang", "ties", "k", "one", "other", "ends", "turn"] ["draws", "places", "hang"] (defScope s_law_ties) := ⟨rfl, rfl, rfl, by decide +kernel, rfl, by decide +kernel, by decide +kernel⟩
theorem ok_law_ties (T : Txt K mg t) : FnOk P w K mg base CX0 1 t.a_law_ties t.d_law_ties ["draws", "places", "hang"] (sp_law_ties K) := by
  refine T.f_law_ties.ok sc_law_ties (fun vs H Q E h => ?_) (fun cdv A outer s H vs Q E hr h => ?_)
  · obtain ⟨a, ds, n, hang, rfl, _⟩ := h
    rfl
  · obtain ⟨a, ds, n, hang, rfl, hS, hdl, hds, n1, n2, q⟩ := h
    refine ⟨_, (pss_cons (ps_set (i := 3) sc_law_ties.nd rfl (Or.inl rfl) (pe_lst pa_nil))
      (pss_cons (ps_for PassesOwn.never rfl (pi_range1 rfl T.n_range (pa_cons (pe_callB (call_lenK K) (by rfl) T.n_len Boot.«len» (pa_cons (pv 0) pa_nil)) pa_nil)) (pg_name (i := 4) sc_law_ties.nd rfl (Or.inl rfl))
      (pss_cons (ps_set (i := 5) sc_law_ties.nd rfl (Or.inl rfl) (pe_op op_mod (pe_ix (ix_listK K) (pv 0) (pv 4) (fun _ _ => rfl)) (pv 1)))
      (pss_cons (ps_set (i := 6) sc_law_ties.nd rfl (Or.inl rfl) (pe_op op_mod (pe_op op_fdiv (pe_ix (ix_listK K) (pv 0) (pv 4) (fun _ _ => rfl)) (pv 1)) (pv 1)))
      (pss_cons (ps_if (PW.pt (pw_and (pt_val (pv 2)) (pw_and1 (pt_cmpR op_lt (pv 4) (pe_op op_sub (pv 1) pe_int) (nomark _)))))
      (pss_cons (ps_set (i := 7) sc_law_ties.nd rfl (Or.inl rfl) (pe_tup (pa_cons (pe_op op_mod (pe_ix (ix_listK K) (pv 0) (pv 4) (fun _ _ => rfl)) (pe_op op_add (pv 4) pe_int)) (pa_cons (pe_op op_add (pv 4) pe_int) pa_nil))))
      (pss_cons (ps_set (i := 5) sc_law_ties.nd rfl (Or.inl rfl) (pe_ix (ix_tupK K) (pv 7) (pe_op op_mod (pe_op op_fdiv (pe_ix (ix_listK K) (pv 0) (pv 4) (fun _ _ => rfl)) pe_int) pe_int) (fun _ _ => rfl)))
      (pss_one (ps_set (i := 6) sc_law_ties.nd rfl (Or.inl rfl) (pe_ix (ix_tupK K) (pv 7) (pe_op op_sub pe_int (pe_op op_mod (pe_op op_fdiv (pe_ix (ix_listK K) (pv 0) (pv 4) (fun _ _ => rfl)) pe_int) pe_int)) (fun _ _ => rfl))))))
      pss_nil)
      (pss_one (ps_expr (pe_bmK K PySem.F.plainAttrs_list PySem.F.slot_list_append PySem.F.type_list_append mt_append (pv 3) (pa_cons (pe_tup (pa_cons (pv 5) (pa_cons (pv 6) pa_nil))) pa_nil))))))))
      (pss_cons (ps_set (i := 8) sc_law_ties.nd rfl (Or.inl rfl) (pe_op op_mod (pe_callB (call_sumK K rfl) (by rfl) T.n_sum Boot.«sum» (pa_cons (pv 0) pa_nil)) (pe_callB (call_max2 rfl) (by rfl) T.n_max Boot.«max» (pa_cons pe_int (pa_cons (pe_callB (call_lenK K) (by rfl) T.n_len Boot.«len» (pa_cons (pv 3) pa_nil)) pa_nil)))))
      (pss_one (ps_ret (pe_op op_cat (pe_slice (sl_listK K) (pv 3) (po_some (pv 8)) po_none) (pe_slice (sl_listK K) (pv 3) po_none (po_some (pv 8))))))))), ?_⟩
    refine ⟨Nat.zero_le _, fun l hl => ?_⟩
    refine ⟨_, rfl, a, _, rfl, .inl ((same_at hl).seq hS), _, rfl, by omega, by rw [il_length]; omega, for_range (lo := 0) (n := ((IL ds).length : Int).toNat) (fun i σ H2 => ∃ (xs : List V) (ps : List (Int × Int)) (v4 v5 v6 v7 : Option V), σ = [some (.ref a), some (.int n), some (.bl hang), some (.ref l), v4, v5, v6, v7, none] ∧ Same H H2 ∧ H2 l = some (.lst xs) ∧ PairsV H2 xs ps ∧ ps.length = i ∧ ∀ p ∈ ps, 0 ≤ p.1 ∧ p.1 < n ∧ 0 ≤ p.2 ∧ p.2 < n)
      ⟨[], [], none, none, none, none, rfl, same_at hl, upd_same, PairsV.nil, rfl, fun p hp => (by cases hp)⟩ ?_ ?_⟩
    · rintro i σ H2 hi ⟨xs, ps, v4, v5, v6, v7, rfl, s2, h2, hP, hlp, hb⟩
      have hi' : i < ds.length := by rw [il_length] at hi; omega
      obtain ⟨d, hd⟩ : ∃ d, ds[i]? = some d := ⟨_, List.getElem?_eq_getElem hi'⟩
      have d0 : 0 ≤ d := hds d (List.mem_of_getElem? hd)
      have iD : atI (IL ds) (0 + (i : Int)) = some (.int d) := atI_of (n := i) (by omega) (il_at hd)
      have xl : xs.length < sizeLine := small60' (by rw [hP.1]; omega)
      -- the tie that is put behind
      have put : ∀ (x y : Int) (H3 : Hp) (r : Addr), Same H2 H3 → H3 r = none → 0 ≤ x → x < n → 0 ≤ y → y < n → ∀ u5 u6 u7 : Option V, ∃ (xs' : List V) (ps' : List (Int × Int)) (v4 v5 v6 v7 : Option V),
          ([some (.ref a), some (.int n), some (.bl hang), some (.ref l), some (.int (0 + (i : Int))), u5, u6, u7, none] : List (Option V)) = [some (.ref a), some (.int n), some (.bl hang), some (.ref l), v4, v5, v6, v7, none] ∧
          Same H (upd (upd H3 r (.tup [.int x, .int y])) l (.lst (xs ++ [.ref r]))) ∧ (upd (upd H3 r (.tup [.int x, .int y])) l (.lst (xs ++ [.ref r]))) l = some (.lst xs') ∧ PairsV (upd (upd H3 r (.tup [.int x, .int y])) l (.lst (xs ++ [.ref r]))) xs' ps' ∧ ps'.length = i + 1 ∧ ∀ p ∈ ps', 0 ≤ p.1 ∧ p.1 < n ∧ 0 ≤ p.2 ∧ p.2 < n := by
        intro x y H3 r s3 hr x0 x1 y0 y1 u5 u6 u7
        have h3 := s3 _ _ h2
        have s4 := same_new (o := .tup [.int x, .int y]) s3 hr
        have nlr : l ≠ r := ne_of_none h3 hr
        refine ⟨xs ++ [.ref r], ps ++ [(x, y)], _, _, _, _, rfl, same_upd hl (s2.trans s4), upd_same, ?_, by rw [List.length_append, hlp]; rfl, PairsV.good (H := H) (xs := []) (v := .non) hb ⟨x0, x1, y0, y1⟩⟩
        have hP4 : PairsV (upd H3 r (.tup [.int x, .int y])) (xs ++ [.ref r]) (ps ++ [(x, y)]) := (hP.same s4).snoc ⟨r, rfl, upd_same⟩
        refine ⟨hP4.1, fun j p e => ?_⟩
        obtain ⟨v, e1, tt, e2, e3⟩ := hP4.2 j p e
        exact ⟨v, e1, tt, e2, by rw [upd_ne (ne_of e3 (s4 _ _ h2) (fun z => nomatch z))]; exact e3⟩
      refine ⟨_, rfl, _, rfl, a, _, _, _, rfl, rfl, s2.seq hS, iD, _, rfl, _, _, rfl, rfl, (by show 0 < n; omega), ?_⟩
      refine ⟨_, rfl, _, rfl, a, _, _, _, rfl, rfl, s2.seq hS, iD, _, rfl, _, _, rfl, rfl, ⟨by show 0 < n; omega, by show n < 1073741824; omega⟩, _, rfl, _, _, rfl, rfl, (by show 0 < n; omega), ?_⟩
      have o0 : 0 ≤ d % n := Int.emod_nonneg _ (by omega)
      have o1 : d % n < n := Int.emod_lt_of_pos _ (by omega)
      have q0 : 0 ≤ d / n % n := Int.emod_nonneg _ (by omega)
      have q1 : d / n % n < n := Int.emod_lt_of_pos _ (by omega)
      refine ⟨_, rfl, _, rfl, ?_⟩
      refine itb (fun hh => ?_) (fun hh => ?_)
      · refine ⟨_, rfl, _, rfl, _, _, rfl, rfl, _, _, rfl, rfl, _, rfl, ?_⟩
        refine itd2 (fun hk => ?_) (fun hk => ?_)
        · have k1 : (0 : Int) < 0 + (i : Int) + 1 := by omega
          have r0 : 0 ≤ d % (0 + (i : Int) + 1) := Int.emod_nonneg _ (by omega)
          have r1 : d % (0 + (i : Int) + 1) < 0 + (i : Int) + 1 := Int.emod_lt_of_pos _ k1
          refine ⟨_, rfl, _, rfl, a, _, _, _, rfl, rfl, s2.seq hS, iD, _, rfl, _, _, rfl, rfl, _, _, rfl, rfl, k1, _, rfl, _, _, rfl, rfl, (by show 2 ≤ sizeLine; decide), fun e he => ?_⟩
          have se := same_at (o := .tup [.int (d % (0 + (i : Int) + 1)), .int (0 + (i : Int) + 1)]) he
          have m0 : 0 ≤ d / 105 % 2 := Int.emod_nonneg _ (by decide)
          have m1 : d / 105 % 2 < 2 := Int.emod_lt_of_pos _ (by decide)
          obtain ⟨x, hx, x0, x1⟩ : ∃ x : Int, atI ([.int (d % (0 + (i : Int) + 1)), .int (0 + (i : Int) + 1)] : List V) (d / 105 % 2) = some (.int x) ∧ 0 ≤ x ∧ x < n := by
            rcases (by omega : d / 105 % 2 = 0 ∨ d / 105 % 2 = 1) with e | e
            · rw [e]; exact ⟨_, rfl, r0, by omega⟩
            · rw [e]; exact ⟨_, rfl, by omega, by omega⟩
          obtain ⟨y, hy, y0, y1⟩ : ∃ y : Int, atI ([.int (d % (0 + (i : Int) + 1)), .int (0 + (i : Int) + 1)] : List V) (1 - d / 105 % 2) = some (.int y) ∧ 0 ≤ y ∧ y < n := by
            rcases (by omega : d / 105 % 2 = 0 ∨ d / 105 % 2 = 1) with e | e
            · rw [e]; exact ⟨_, rfl, by omega, by omega⟩
            · rw [e]; exact ⟨_, rfl, r0, by omega⟩
          have c2 : CDiv d 105 := ⟨by decide, by decide⟩
          refine ⟨_, rfl, _, rfl, _, rfl, a, _, _, _, rfl, rfl, (s2.trans se).seq hS, iD, _, _, rfl, rfl, c2, _, _, rfl, rfl, (by show (0 : Int) < 2; decide), e, _, _, _, rfl, rfl, SqT.of upd_same, hx, ?_⟩
          refine ⟨_, rfl, _, rfl, _, rfl, a, _, _, _, rfl, rfl, (s2.trans se).seq hS, iD, _, _, rfl, rfl, c2, _, _, rfl, rfl, (by show (0 : Int) < 2; decide), _, _, rfl, rfl, e, _, _, _, rfl, rfl, SqT.of upd_same, hy, ?_⟩
          refine ⟨_, rfl, .inl ⟨rfl, _, SqL.of (se _ _ h2)⟩, _, rfl, _, rfl, (by show 2 ≤ sizeLine; decide), fun r hr => ?_⟩
          exact ⟨l, xs, _, rfl, rfl, (same_new se hr) _ _ h2, xl, put x y _ r se hr x0 x1 y0 y1 _ _ _⟩
        · refine ⟨_, rfl, .inl ⟨rfl, _, SqL.of h2⟩, _, rfl, _, rfl, (by show 2 ≤ sizeLine; decide), fun r hr => ?_⟩
          exact ⟨l, xs, _, rfl, rfl, (same_at hr) _ _ h2, xl, put _ _ _ r (Same.refl _) hr o0 o1 q0 q1 _ _ _⟩
      · refine ⟨_, rfl, .inl ⟨rfl, _, SqL.of h2⟩, _, rfl, _, rfl, (by show 2 ≤ sizeLine; decide), fun r hr => ?_⟩
        exact ⟨l, xs, _, rfl, rfl, (same_at hr) _ _ h2, xl, put _ _ _ r (Same.refl _) hr o0 o1 q0 q1 _ _ _⟩
    · rintro σ H2 ⟨xs, ps, v4, v5, v6, v7, rfl, s2, h2, hP, hlp, hb⟩
      have hlp : ps.length = ds.length := by rw [hlp, il_length]; simp
      refine ⟨_, rfl, a, ds, rfl, s2.seq hS, _, rfl, l, xs, rfl, .inl (SqL.of h2), _, _, rfl, _, _, rfl, rfl, ?_, ?_⟩
      · show (0 : Int) < if (xs.length : Int) > 1 then (xs.length : Int) else 1
        split <;> omega
      · generalize hT : ds.sum % (if (xs.length : Int) > 1 then (xs.length : Int) else 1) = T0
        have T1 : 0 ≤ T0 := by rw [← hT]; exact Int.emod_nonneg _ (by split <;> omega)
        have T2 : T0.toNat ≤ xs.length := by
          have : T0 < (if (xs.length : Int) > 1 then (xs.length : Int) else 1) := by rw [← hT]; exact Int.emod_lt_of_pos _ (by split <;> omega)
          split at this <;> omega
        have e1 : cutV xs (some T0) none = xs.drop T0.toNat := cut_from T1 T2
        have e2 : cutV xs none (some T0) = xs.take T0.toNat := cut_to T1 T2
        refine ⟨_, rfl, _, rfl, T0, congrArg V.int hT, l, xs, rfl, SqL.of h2, fun r1 hr1 => ?_⟩
        have s3 := same_at (o := .lst (cutV xs (some T0) none)) hr1
        refine ⟨_, rfl, _, rfl, T0, congrArg V.int hT, l, xs, rfl, SqL.of (s3 _ _ h2), fun r2 hr2 => ?_⟩
        have s4 := same_new (o := .lst (cutV xs none (some T0))) s3 hr2
        have n12 : r1 ≠ r2 := ne_of_none upd_same hr2
        refine ⟨r1, r2, _, _, rfl, rfl, by rw [upd_ne n12, upd_same], upd_same, ?_, fun r hr => ?_⟩
        · rw [e1, e2, List.length_drop, List.length_take]
          exact small60 (by rw [hP.1]; omega)
        · have s5 := same_new (o := .lst (cutV xs (some T0) none ++ cutV xs none (some T0))) s4 hr
          refine q r _ (ps.drop T0.toNat ++ ps.take T0.toNat) _ (s2.trans s5) ((s2.trans s4).free hr) upd_same ?_ ?_ fun p hp => ?_
          · have z := ((hP.same s5).drop T0.toNat).app ((hP.same s5).take T0.toNat)
            rw [← e1, ← e2] at z
            exact z
          · rw [List.length_append, List.length_drop, List.length_take, ← hP.1]
            have := hP.1
            omega
          · rcases List.mem_append.mp hp with z | z
            · exact hb p (List.mem_of_mem_drop z)
            · exact hb p (List.mem_of_mem_take z)
end
end My
namespace My
open PySem L2 PyProof.Rows
set_option maxHeartbeats 4000000
/-- a web's places and ties -/
def sp_law_web (K : PySem.W.Frag) : Sp := fun vs H Q _ => ∃ (a : Addr) (ns : List Int) (most count : Int), vs = [.ref a, .int most, .int count] ∧ SqL K H a (IL ns) ∧ ns.length ≤ 63 ∧ 1 ≤ most ∧ most ≤ 14 ∧ 0 ≤ count ∧ count ≤ 30 ∧
  ∀ (r l : Addr) (n : Int) (xs : List V) (ps : List (Int × Int)) (H' : Hp), Same H H' → H' r = some (.tup [.int n, .ref l]) → H l = none → H' l = some (.lst xs) → PairsV H' xs ps → GoodW n ps → n ≤ most → (ps.length : Int) ≤ count → Q (.ref r) H'
section
variable {P : Program} {w : World} {K : PySem.W.Frag} {mg : Str → Option Value} {base : Heap} {t : Adr}
theorem sc_law_web : FnScope ["script", "most", "count", "head", "places", "many", "draws"] ["script", "most", "count"] (defScope s_law_web) := ⟨rfl, rfl, rfl, by decide +kernel, rfl, by decide +kernel, by decide +kernel⟩
theorem ok_law_web (T : Txt K mg t) : FnOk P w K mg base CX0 3 t.a_law_web t.d_law_web ["script", "most", "count"] (sp_law_web K) := by
  refine T.f_law_web.ok sc_law_web (fun vs H Q E h => ?_) (fun cdv A outer s H vs Q E hr h => ?_)
  · obtain ⟨a, ns, most, count, rfl, _⟩ := h
    rfl
  · obtain ⟨a, ns, most, count, rfl, hS, hn, m1, m2, c1, c2, q⟩ := h
    refine ⟨_, (pss_cons (ps_set (i := 3) sc_law_web.nd rfl (Or.inl rfl) (pe_call (ok_law_cell T) (hr.mono (by decide)) rfl T.m_law_cell T.f_law_cell.kp T.b_law_cell .nil pass0 (pa_cons (pv 0) (pa_cons pe_int pa_nil))))
      (pss_cons (ps_set (i := 4) sc_law_web.nd rfl (Or.inl rfl) (pe_op op_add pe_int (pe_op op_mod (pv 3) (pv 1))))
      (pss_cons (ps_set (i := 5) sc_law_web.nd rfl (Or.inl rfl) (pe_callB (call_min2 rfl) (by rfl) T.n_min Boot.«min» (pa_cons (pv 2) (pa_cons (pe_op op_add (pe_op op_mod (pe_op op_fdiv (pv 3) (pv 1)) (pe_op op_add (pv 2) pe_int)) (pe_op op_mul (pe_op op_mod (pe_op op_fdiv (pv 3) pe_int) pe_int) (pv 4))) pa_nil))))
      (pss_cons (ps_set (i := 6) sc_law_web.nd rfl (Or.inl rfl) (pe_call (ok_law_draws T) (hr.mono (by decide)) rfl T.m_law_draws T.f_law_draws.kp T.b_law_draws .nil pass0 (pa_cons (pv 0) (pa_cons pe_int (pa_cons (pv 5) (pa_cons (pe_op op_mod (pe_op op_fdiv (pv 3) pe_int) pe_int) pa_nil))))))
      (pss_one (ps_ret (pe_tup (pa_cons (pv 4) (pa_cons (pe_call (ok_law_ties T) (hr.mono (by decide)) rfl T.m_law_ties T.f_law_ties.kp T.b_law_ties .nil pass0 (pa_cons (pv 6) (pa_cons (pv 4) (pa_cons (pe_cmpR op_gt (pe_op op_mod (pe_op op_fdiv (pv 3) pe_int) pe_int) pe_int (nomark _)) pa_nil)))) pa_nil))))))))), ?_⟩
    refine ⟨_, rfl, a, ns, 0, rfl, hS, by decide, fun hd h0 h1 => ?_⟩
    have n0 : 0 ≤ hd % most := Int.emod_nonneg _ (by omega)
    have n1 : hd % most < most := Int.emod_lt_of_pos _ (by omega)
    refine ⟨_, rfl, _, rfl, _, _, rfl, rfl, (by show 0 < most; omega), _, _, rfl, rfl, ?_⟩
    refine ⟨_, rfl, _, rfl, _, rfl, _, _, rfl, rfl, ⟨by show 0 < most; omega, by show most < 1073741824; omega⟩, _, rfl, _, _, rfl, rfl, _, _, rfl, rfl, (by show 0 < count + 1; omega), _, rfl, _, _, rfl, rfl, ⟨by decide, by decide⟩, _, _, rfl, rfl, (by show (0 : Int) < 2; decide), _, rfl, _, _, rfl, rfl, .inr ⟨by show -(2 ^ 64) < 1 + hd % most; omega, by show 1 + hd % most < 2 ^ 64; omega⟩, _, _, rfl, rfl, _, _, rfl, ?_⟩
    have e0 : 0 ≤ hd / most % (count + 1) := Int.emod_nonneg _ (by omega)
    have f0 : 0 ≤ hd / 97 % 2 := Int.emod_nonneg _ (by decide)
    have g0 : 0 ≤ hd / 97 % 2 * (1 + hd % most) := Int.mul_nonneg f0 (by omega)
    obtain ⟨c, hc⟩ : ∃ c : Nat, (if hd / most % (count + 1) + hd / 97 % 2 * (1 + hd % most) < count then hd / most % (count + 1) + hd / 97 % 2 * (1 + hd % most) else count) = (c : Int) :=
      ⟨(if hd / most % (count + 1) + hd / 97 % 2 * (1 + hd % most) < count then hd / most % (count + 1) + hd / 97 % 2 * (1 + hd % most) else count).toNat, by split <;> omega⟩
    have k1 : (c : Int) ≤ count := by rw [← hc]; split <;> omega
    refine ⟨_, rfl, _, rfl, _, rfl, _, _, rfl, rfl, ⟨by decide, by decide⟩, _, _, rfl, rfl, (by show (0 : Int) < 2; decide), a, ns, 1, c, _, congrArg (fun z : Int => [V.ref a, V.int 1, V.int z, V.int (hd / 194 % 2)]) hc, hS, hn, by decide, by omega, fun l ds H1 s1 hl0 hl1 edl hds => ?_⟩
    refine ⟨_, rfl, _, rfl, _, rfl, _, rfl, _, _, rfl, rfl, ⟨by decide, by decide⟩, _, _, rfl, rfl, (by show (0 : Int) < 3; decide), _, _, rfl, rfl, l, ds, _, _, rfl, SqL.of hl1, by omega, hds, (by show 1 ≤ 1 + hd % most; omega), (by show 1 + hd % most ≤ 1000; omega), fun l2 xs ps H2 s2 hl20 hl21 hP ePl hb => ?_⟩
    refine ⟨(by show 2 ≤ sizeLine; decide), fun r hr => ?_⟩
    have s3 := same_at (o := .tup [.int (1 + hd % most), .ref l2]) hr
    exact q r l2 (1 + hd % most) xs ps _ ((s1.trans s2).trans s3) upd_same (s1.free hl20) (s3 _ _ hl21) (hP.same s3) ⟨by omega, by omega, by omega, hb⟩ (by omega) (by omega)
end
end My
namespace My
open PySem L2 PyProof.Rows
set_option maxHeartbeats 4000000
/-- some numbers of ties, ascending -/
def sp_law_some : Sp := fun vs H Q _ => ∃ (c : Int) (m : Nat), vs = [.int c, .int m] ∧ m ≤ 1000 ∧ ∀ (l : Addr) (ns : List Int) (H' : Hp), IsSet m ns → Same H H' → H l = none → H' l = some (.lst (IL ns)) → Q (.ref l) H'
section
variable {P : Program} {w : World} {K : PySem.W.Frag} {mg : Str → Option Value} {base : Heap} {t : Adr}
theorem sc_law_some : FnScope ["cell", "count", "some", "k"] ["cell", "count"] (defScope s_law_some) := ⟨rfl, rfl, rfl, by decide +kernel, rfl, by decide +kernel, by decide +kernel⟩
theorem ok_law_some (T : Txt K mg t) : FnOk P w K mg base CX0 1 t.a_law_some t.d_law_some ["cell", "count"] sp_law_some := by
  refine T.f_law_some.ok sc_law_some (fun vs H Q E h => ?_) (fun cdv A outer s H vs Q E hr h => ?_)
  · obtain ⟨c, m, rfl, _⟩ := h
    rfl
  · obtain ⟨c, m, rfl, hm, q⟩ := h
    refine ⟨_, (pss_cons (ps_set (i := 2) sc_law_some.nd rfl (Or.inl rfl) (pe_lst pa_nil))
      (pss_cons (ps_for PassesOwn.never rfl (pi_range1 rfl T.n_range (pa_cons (pv 1) pa_nil)) (pg_name (i := 3) sc_law_some.nd rfl (Or.inl rfl))
      (pss_cons (ps_if (pt_cmpR op_eq (pe_op op_mod (pv 0) pe_int) pe_int (nomark _))
      (pss_one (ps_expr (pe_bmK K PySem.F.plainAttrs_list PySem.F.slot_list_append PySem.F.type_list_append mt_append (pv 2) (pa_cons (pv 3) pa_nil))))
      pss_nil)
      (pss_one (ps_set (i := 0) sc_law_some.nd rfl (Or.inl rfl) (pe_op op_fdiv (pv 0) pe_int)))))
      (pss_one (ps_ret (pv 2))))), ?_⟩
    refine ⟨Nat.zero_le _, fun l hl => ?_⟩
    refine ⟨_, rfl, m, rfl, by omega, by omega, for_range (lo := 0) (n := (m : Int).toNat) (fun i σ H2 => ∃ (c : Int) (ns : List Int) (v : Option V), σ = [some (.int c), some (.int m), some (.ref l), v] ∧ Same H H2 ∧ H2 l = some (.lst (IL ns)) ∧ IsSet i ns)
      ⟨c, [], none, rfl, same_at hl, upd_same, IsSet.nil 0⟩ ?_ ?_⟩
    · rintro i σ H2 hi ⟨c, ns, v, rfl, s2, h2, hI⟩
      have hlen := hI.len
      refine ⟨_, rfl, _, _, rfl, rfl, (by show (0 : Int) < 2; decide), rfl, _, rfl, ?_⟩
      refine itd2 (fun _ => ?_) (fun _ => ?_)
      · refine ⟨_, rfl, .inl ⟨rfl, _, SqL.of h2⟩, _, rfl, l, _, _, rfl, rfl, h2, ?_, ?_⟩
        · rw [il_length]; exact small60' (by omega)
        · refine ⟨_, rfl, _, _, rfl, rfl, ⟨by decide, by decide⟩, ?_⟩
          refine ⟨_, ns ++ [(i : Int)], _, rfl, same_upd hl s2, ?_, hI.snoc⟩
          rw [upd_same]
          simp
      · refine ⟨_, rfl, _, _, rfl, rfl, ⟨by decide, by decide⟩, ?_⟩
        exact ⟨_, ns, _, rfl, s2, h2, hI.up⟩
    · rintro σ H2 ⟨c, ns, v, rfl, s2, h2, hI⟩
      exact ⟨_, rfl, q l ns H2 (by simpa using hI) s2 hl h2⟩
end
end My
namespace My
open PySem L2 PyProof.Rows
set_option maxHeartbeats 4000000
def sp_law_weights (K : PySem.W.Frag) : Sp := fun vs H Q _ => ∃ (a : Addr) (ns : List Int) (c : Nat), vs = [.ref a, .int c] ∧ SqL K H a (IL ns) ∧ ns.length ≤ 63 ∧ c ≤ 30 ∧ ∀ (r : Addr) (ws : List Int) (H' : Hp), Same H H' → H r = none → H' r = some (.lst (IL ws)) → ws.length = c → (∀ x ∈ ws, -(2 ^ 62) < x ∧ x < 2 ^ 62) → Q (.ref r) H'
section
variable {P : Program} {w : World} {K : PySem.W.Frag} {mg : Str → Option Value} {base : Heap} {t : Adr}
theorem sc_law_weights : FnScope ["script", "count", "folded", "k", "told", "m"] ["script", "count"] (defScope s_law_weights) := ⟨rfl, rfl, rfl, by decide +kernel, rfl, by decide +kernel, by decide +kernel⟩
theorem ok_law_weights (T : Txt K mg t) : FnOk P w K mg base CX0 2 t.a_law_weights t.d_law_weights ["script", "count"] (sp_law_weights K) := by
  refine T.f_law_weights.ok sc_law_weights (fun vs H Q E h => ?_) (fun cdv A outer s H vs Q E hr h => ?_)
  · obtain ⟨a, ns, c, rfl, _⟩ := h
    rfl
  · obtain ⟨a, ns, c, rfl, hS, hn, c30, q⟩ := h
    refine ⟨_, (pss_cons (ps_lc (i := 2) rfl sc_law_weights.nd rfl rfl (sc0 := defScope s_law_weights) (N0 := ["script", "count", "folded", "k", "told", "m"]) (N' := ["k"]) (o := 1) (fr := []) ⟨rfl, by decide +kernel, by decide +kernel, by decide +kernel, rfl, by decide +kernel⟩ (pi_range1 rfl T.n_range (pa_cons (pv 1) pa_nil)) (own_name (by decide)) (fun _ _ _ _ => (pg_name (i := 0) (show List.Nodup (["k"] : List Str) by decide +kernel) rfl (Or.inl rfl))) (fun _ _ _ _ => pts_nil) (fun _ _ _ _ => (pe_op op_add (pe_op op_mul pe_int (pv 0)) pe_int)))
      (pss_cons (ps_for PassesOwn.never rfl (pi_range1 rfl T.n_range (pa_cons (pe_callB (call_lenK K) (by rfl) T.n_len Boot.«len» (pa_cons (pv 0) pa_nil)) pa_nil)) (pg_name (i := 3) sc_law_weights.nd rfl (Or.inl rfl))
      (pss_one (ps_if (pt_cmpR op_gt (pv 1) pe_int (nomark _))
      (pss_one (ps_asg (pe_op op_mod (pe_op op_add (pe_op op_mul (pe_ix (ix_listK K) (pv 2) (pe_op op_mod (pv 3) (pv 1)) (fun _ _ => rfl)) pe_int) (pe_ix (ix_listK K) (pv 0) (pv 3) (fun _ _ => rfl))) (pe_op op_pow pe_int pe_int)) (pg_sub (pv 2) (pe_op op_mod (pv 3) (pv 1)) set_list)))
      pss_nil)))
      (pss_cons (ps_set (i := 4) sc_law_weights.nd rfl (Or.inl rfl) (pe_lst pa_nil))
      (pss_cons (ps_for PassesOwn.never rfl (pi_range1 rfl T.n_range (pa_cons (pv 1) pa_nil)) (pg_name (i := 3) sc_law_weights.nd rfl (Or.inl rfl))
      (pss_cons (ps_set (i := 5) sc_law_weights.nd rfl (Or.inl rfl) (pe_call (ok_law_mixed T) (hr.mono (by decide)) rfl T.m_law_mixed T.f_law_mixed.kp T.b_law_mixed .nil pass0 (pa_cons (pe_ix (ix_listK K) (pv 2) (pv 3) (fun _ _ => rfl)) (pa_cons (pe_op op_add pe_int (pv 3)) pa_nil))))
      (pss_one (ps_expr (pe_bmK K PySem.F.plainAttrs_list PySem.F.slot_list_append PySem.F.type_list_append mt_append (pv 4) (pa_cons (pe_ix (ix_listK K) (pe_lst (pa_cons (pe_op op_sub (pe_op op_mod (pe_op op_fdiv (pv 5) pe_int) pe_int) pe_int) (pa_cons (pe_op op_mod (pe_op op_fdiv (pv 5) pe_int) pe_int) (pa_cons (pe_op op_sub (pe_op op_mod (pe_ix (ix_listK K) (pv 2) (pv 3) (fun _ _ => rfl)) (pe_op op_mul pe_int (pe_op op_pow pe_int pe_int))) (pe_op op_pow pe_int pe_int)) (pa_cons pe_int pa_nil))))) (pe_op op_mod (pv 5) pe_int) (fun _ _ => rfl)) pa_nil))))))
      (pss_one (ps_ret (pv 4))))))), ?_⟩
    have P60 : (0 : Int) < 10 ^ (60 : Int).toNat := by decide
    refine ⟨_, rfl, c, rfl, by omega, by omega, lc_range (lo := 0) (n := (c : Int).toNat) (fun i ws H2 => H2 = H ∧ ∃ F : List Int, F.length = i ∧ ws = IL F) ⟨rfl, [], rfl, rfl⟩ (small60' (by omega))
      (fun i ws H2 hi ⟨e, F, hF, ew⟩ => by rw [ew, il_length, hF]; exact Nat.le_refl _) ?_ ?_⟩
    · rintro i ws H2 hin ⟨rfl, F, hF, rfl⟩ S hSS
      refine nm ?_
      refine ⟨_, rfl, _, _, rfl, rfl, .inl ⟨by decide, by decide⟩, _, _, rfl, rfl, hSS _ _ ⟨rfl, F ++ [_], by rw [List.length_append, hF]; rfl, (il_snoc _ _).symm⟩⟩
    rintro ws H2 ⟨rfl, F, hF, rfl⟩ fA hfA
    have s0 := same_at (o := .lst (IL F)) hfA
    refine ⟨_, rfl, a, _, rfl, .inl (s0.seq hS), _, rfl, by rw [il_length]; omega, by rw [il_length]; omega, for_range (lo := 0) (n := ((IL ns).length : Int).toNat) (fun i σ H3 => ∃ (F : List Int) (v3 : Option V), σ = [some (.ref a), some (.int c), some (.ref fA), v3, none, none] ∧ F.length = (c : Int).toNat ∧ Same H2 H3 ∧ H3 fA = some (.lst (IL F))) ⟨F, none, rfl, hF, s0, upd_same⟩ ?_ ?_⟩
    · rintro i σ H3 hi ⟨F, v3, rfl, hF, s3, hf3⟩
      rw [il_length] at hi
      refine ⟨_, rfl, _, _, rfl, rfl, _, rfl, ?_⟩
      refine itd2 (fun hc => ?_) (fun hc => ?_)
      · have x0 : 0 ≤ (0 + (i : Int)) % (c : Int) := Int.emod_nonneg _ (by omega)
        have x1 : (0 + (i : Int)) % (c : Int) < (c : Int) := Int.emod_lt_of_pos _ (by omega)
        obtain ⟨f, hf⟩ : ∃ f, F[((0 + (i : Int)) % (c : Int)).toNat]? = some f := ⟨_, List.getElem?_eq_getElem (by omega)⟩
        obtain ⟨y, hy⟩ : ∃ y, ns[i]? = some y := ⟨_, List.getElem?_eq_getElem (by omega)⟩
        refine ⟨_, rfl, _, rfl, _, rfl, _, _, rfl, rfl, hc, fA, _, _, .int f, rfl, rfl, SqL.of hf3, atI_of (n := ((0 + (i : Int)) % (c : Int)).toNat) (by show _ = (0 + (i : Int)) % (c : Int); omega) (il_at hf), _, _, rfl, rfl, .inr ⟨by decide, by decide⟩, _, rfl, _, rfl, a, _, _, .int y, rfl, rfl, s3.seq hS, atI_of (n := i) (by omega) (il_at hy), _, _, rfl, rfl, _, _, rfl, rfl, ⟨by decide, by decide, by decide⟩, _, _, rfl, rfl, P60, ?_⟩
        refine ⟨_, rfl, _, rfl, _, rfl, _, _, rfl, rfl, hc, fA, _, _, ((0 + (i : Int)) % (c : Int)).toNat, rfl, rfl, hf3, ?_, ?_⟩
        · rw [il_length]
          unfold ixN
          rw [if_pos x0, if_pos (by omega)]
        · refine ⟨F.set ((0 + (i : Int)) % (c : Int)).toNat ((f * 7 + y) % 10 ^ (60 : Int).toNat), _, rfl, by rw [List.length_set]; exact hF, same_upd hfA s3, ?_⟩
          rw [upd_same]
          exact congrArg (fun l => some (HO.lst l)) (List.map_set ..).symm
      · exact ⟨F, _, rfl, hF, s3, hf3⟩
    rintro σ H3 ⟨F, v3, rfl, hF, s3, hf3⟩
    refine ⟨Nat.zero_le _, fun tA htA => ?_⟩
    have s4 := same_at (o := .lst []) htA
    have ntf : fA ≠ tA := ne_of_none hf3 htA
    have htA0 : H2 tA = none := s3.free htA
    refine ⟨_, rfl, c, rfl, by omega, by omega, for_range (lo := 0) (n := (c : Int).toNat) (fun i σ H5 => ∃ (W : List Int) (v3 v5 : Option V), σ = [some (.ref a), some (.int c), some (.ref fA), v3, some (.ref tA), v5] ∧ W.length = i ∧ (∀ x ∈ W, -(2 ^ 62) < x ∧ x < 2 ^ 62) ∧ Same H2 H5 ∧ H5 fA = some (.lst (IL F)) ∧ H5 tA = some (.lst (IL W))) ⟨[], _, none, rfl, rfl, fun x h => absurd h List.not_mem_nil, s3.trans s4, s4 _ _ hf3, upd_same⟩ ?_ ?_⟩
    · rintro i σ H5 hi ⟨W, v3, v5, rfl, hW, hWb, s5, hf5, ht5⟩
      obtain ⟨f, hf⟩ : ∃ f, F[i]? = some f := ⟨_, List.getElem?_eq_getElem (by omega)⟩
      refine ⟨_, rfl, _, rfl, fA, _, _, .int f, rfl, rfl, SqL.of hf5, atI_of (n := i) (by omega) (il_at hf), _, rfl, _, _, rfl, rfl, _, _, rfl, fun u u0 u1 => ?_⟩
      refine ⟨_, rfl, .inl ⟨rfl, _, SqL.of ht5⟩, _, rfl, _, _, rfl, rfl, ⟨by decide, by decide⟩, _, _, rfl, rfl, (by show (0 : Int) < 19; decide), _, _, rfl, rfl, ?_⟩
      refine ⟨_, rfl, _, _, rfl, rfl, ⟨by decide, by decide⟩, _, _, rfl, rfl, (by show (0 : Int) < 3; decide), ?_⟩
      refine ⟨_, rfl, _, rfl, fA, _, _, .int f, rfl, rfl, SqL.of hf5, atI_of (n := i) (by omega) (il_at hf), _, _, rfl, rfl, ⟨by decide, by decide, by decide⟩, _, _, rfl, rfl, .inl ⟨by decide, by decide⟩, _, _, rfl, rfl, (by show (0 : Int) < 2 * 10 ^ (12 : Int).toNat; decide), _, _, rfl, rfl, ⟨by decide, by decide, by decide⟩, _, _, rfl, rfl, (by show 4 ≤ sizeLine; decide), fun ol hol => ?_⟩
      have s6 := same_at (o := .lst [.int (u / 8 % 19 - 9), .int (u / 8 % 3), .int (f % (2 * 10 ^ (12 : Int).toNat) - 10 ^ (12 : Int).toNat), .int 1]) hol
      obtain ⟨z, hz, zb⟩ : ∃ z : Int, atI ([.int (u / 8 % 19 - 9), .int (u / 8 % 3), .int (f % (2 * 10 ^ (12 : Int).toNat) - 10 ^ (12 : Int).toNat), .int 1] : List V) (u % 4) = some (.int z) ∧ -(2 ^ 62) < z ∧ z < 2 ^ 62 := by
        have e12 : (10 : Int) ^ (12 : Int).toNat = 1000000000000 := by decide
        rw [e12]
        rcases (by omega : u % 4 = 0 ∨ u % 4 = 1 ∨ u % 4 = 2 ∨ u % 4 = 3) with e | e | e | e <;> rw [e]
        · exact ⟨_, rfl, by omega, by omega⟩
        · exact ⟨_, rfl, by omega, by omega⟩
        · exact ⟨_, rfl, by omega, by omega⟩
        · exact ⟨_, rfl, by omega, by omega⟩
      refine ⟨_, rfl, _, _, rfl, rfl, (by show (0 : Int) < 4; decide), ol, _, _, .int z, rfl, rfl, SqL.of upd_same, hz, tA, _, _, rfl, rfl, s6 _ _ ht5, small60' (by rw [il_length]; omega), ?_⟩
      rw [← il_snoc]
      refine ⟨W ++ [z], _, _, rfl, by rw [List.length_append, hW]; rfl, fun x hx => ?_, same_upd htA0 (s5.trans s6), by rw [upd_ne ntf]; exact s6 _ _ hf5, upd_same⟩
      rcases List.mem_append.mp hx with h | h
      · exact hWb x h
      · rw [List.mem_singleton.mp h]
        exact zb
    rintro σ H5 ⟨W, v3, v5, rfl, hW, hWb, s5, hf5, ht5⟩
    exact ⟨_, rfl, q tA W H5 s5 htA0 ht5 (by omega) hWb⟩
end
end My
namespace My
open PySem L2 PyProof.Rows
set_option maxHeartbeats 4000000
/-- a power -/
def sp_law_power : Sp := fun vs H Q _ => ∃ (b : Int) (c : Nat), vs = [.int b, .int c] ∧ b.natAbs ≤ 2 ^ 20 ∧ c ≤ 14 ∧ Q (.int (b ^ c)) H
section
variable {P : Program} {w : World} {K : PySem.W.Frag} {mg : Str → Option Value} {base : Heap} {t : Adr}
theorem sc_law_power : FnScope ["number", "count", "told", "k"] ["number", "count"] (defScope s_law_power) := ⟨rfl, rfl, rfl, by decide +kernel, rfl, by decide +kernel, by decide +kernel⟩
theorem ok_law_power (T : Txt K mg t) : FnOk P w K mg base CX0 1 t.a_law_power t.d_law_power ["number", "count"] sp_law_power := by
  refine T.f_law_power.ok sc_law_power (fun vs H Q E h => ?_) (fun cdv A outer s H vs Q E hr h => ?_)
  · obtain ⟨b, c, rfl, _⟩ := h
    rfl
  · obtain ⟨b, c, rfl, hb, hc, q⟩ := h
    refine ⟨_, (pss_cons (ps_set (i := 2) sc_law_power.nd rfl (Or.inl rfl) pe_int)
      (pss_cons (ps_for PassesOwn.never rfl (pi_range1 rfl T.n_range (pa_cons (pv 1) pa_nil)) (pg_name (i := 3) sc_law_power.nd rfl (Or.inl rfl))
      (pss_one (ps_set (i := 2) sc_law_power.nd rfl (Or.inl rfl) (pe_op op_mulL (pv 2) (pv 0)))))
      (pss_one (ps_ret (pv 2))))), ?_⟩
    refine ⟨_, rfl, c, rfl, by omega, by omega, for_range (lo := 0) (n := (c : Int).toNat) (fun i σ H2 => ∃ v : Option V, σ = [some (.int b), some (.int c), some (.int (b ^ i)), v] ∧ H2 = H) ⟨none, (by rw [Int.pow_zero]; rfl), rfl⟩ ?_ ?_⟩
    · rintro i σ H2 hi ⟨v, rfl, rfl⟩
      have b1 : (b ^ i).natAbs < 2 ^ 9000 := by
        rw [Int.natAbs_pow]
        refine Nat.lt_of_le_of_lt (Nat.pow_le_pow_left hb i) ?_
        rw [← Nat.pow_mul]
        exact Nat.pow_lt_pow_right (by decide) (by omega)
      have b2 : b.natAbs < 2 ^ 9000 := Nat.lt_of_le_of_lt hb (Nat.pow_lt_pow_right (by decide) (by decide))
      refine nm ?_
      refine ⟨_, rfl, _, rfl, _, _, rfl, rfl, ⟨b1, b2⟩, ?_⟩
      exact ⟨_, by rw [Int.pow_succ]; rfl, rfl⟩
    · rintro σ H2 ⟨v, rfl, rfl⟩
      rw [Int.toNat_natCast]
      exact ⟨_, rfl, q⟩
end
end My
namespace My
open PySem L2 PyProof.Rows
set_option maxHeartbeats 4000000
/-- the sorts by a set and by the other ties -/
def sp_law_sorts_good (K : PySem.W.Frag) (C : Addr) : Sp := fun vs H Q _ => ∃ (w b : Addr) (n : Int) (ps : List (Int × Int)) (S : List Int) (c : Nat) (x : Int), vs = [.ref w, .int n, .int ps.length, .int c, .ref b, .int x] ∧ WebAt C H w n ps ∧ GoodW n ps ∧ SqL K H b (IL S) ∧ IsSet ps.length S ∧ TC n ps c ∧ x.natAbs ≤ 2 ^ 20 ∧ ∀ H' : Hp, Same H H' → Q (.bl true) H'
theorem rep_one73 (x : V) (k : Nat) : (List.replicate k [x]).flatten = List.replicate k x := by
  induction k with
  | zero => rfl
  | succ k ih => rw [List.replicate_succ, List.flatten_cons, ih, List.replicate_succ]; rfl
theorem ixN_73 {xs : List V} {i : Int} (h0 : 0 ≤ i) (h1 : i < (xs.length : Int)) : ixN xs.length i = some i.toNat := by
  unfold ixN
  rw [if_pos h0, if_pos (by omega)]
theorem wS_take {b : Int} {S : List Int} {m j : Nat} {z : Int} (hI : IsSet m S) (hz : S[j]? = some z) : (wS b (S.take j) m).set z.toNat b = wS b (S.take (j + 1)) m := by
  have zb := hI.all z (List.mem_of_getElem? hz)
  have e : S.take (j + 1) = S.take j ++ [z] := by rw [List.take_succ, hz]; rfl
  refine List.ext_getElem? fun i => ?_
  unfold wS
  rw [List.getElem?_map]
  by_cases c : i < m
  · rw [List.getElem?_range c]
    by_cases d : z.toNat = i
    · rw [d, List.getElem?_set_self (by rw [List.length_map, List.length_range]; exact c)]
      show _ = some (if ((i : Nat) : Int) ∈ S.take (j + 1) then b else 1)
      rw [if_pos (by rw [e]; exact List.mem_append_right _ (List.mem_singleton.mpr (by omega)))]
    · rw [List.getElem?_set_ne d, List.getElem?_map, List.getElem?_range c]
      show some (if ((i : Nat) : Int) ∈ S.take j then b else 1) = some (if ((i : Nat) : Int) ∈ S.take (j + 1) then b else 1)
      by_cases f : ((i : Nat) : Int) ∈ S.take j
      · rw [if_pos f, if_pos (by rw [e]; exact List.mem_append_left _ f)]
      · rw [if_neg f, if_neg fun g => ?_]
        rw [e] at g
        rcases List.mem_append.mp g with g | g
        · exact f g
        · have := List.mem_singleton.mp g
          omega
  · rw [List.getElem?_eq_none (by rw [List.length_set, List.length_map, List.length_range]; omega), List.getElem?_eq_none (by rw [List.length_range]; omega)]
    rfl
theorem wS_none (b : Int) (m : Nat) : wS b [] m = List.replicate m 1 := by
  refine List.ext_getElem? fun i => ?_
  unfold wS
  rw [List.getElem?_map, List.getElem?_replicate]
  by_cases c : i < m
  · rw [List.getElem?_range c, if_pos c]
    show some (if ((i : Nat) : Int) ∈ [] then b else 1) = _
    rw [if_neg (by simp)]
  · rw [List.getElem?_eq_none (by rw [List.length_range]; omega), if_neg c]
    rfl
/-- the numbers below i that are not of S -/
def oth (S : List Int) (i : Nat) : List Int := (rgL i).filter fun z => decide (z ∉ S)
theorem oth_set (S : List Int) (m : Nat) : IsSet m (oth S m) := isSet_iff.mpr ⟨fun z hz => rgL_mem.mp (List.mem_filter.mp hz).1, (rgL_asc m).filter _⟩
theorem oth_succ (S : List Int) (i : Nat) : oth S (i + 1) = oth S i ++ (if (i : Int) ∉ S then [(i : Int)] else []) := by
  unfold oth rgL
  rw [List.range_succ, List.map_append, List.filter_append]
  congr 1
  by_cases c : (i : Int) ∈ S
  · rw [if_neg (fun h => h c)]
    exact List.filter_cons_of_neg (by simpa using c)
  · rw [if_pos c]
    exact List.filter_cons_of_pos (by simpa using c)
section
variable {P : Program} {w : World} {K : PySem.W.Frag} {mg : Str → Option Value} {base : Heap} {t : Adr}
theorem sc_law_sorts_good : FnScope ["web", "places", "count", "many", "some", "number", "found", "weights", "tie", "others"] ["web", "places", "count", "many", "some", "number"] (defScope s_law_sorts_good) := ⟨rfl, rfl, rfl, by decide +kernel, rfl, by decide +kernel, by decide +kernel⟩
theorem ok_law_sorts_good (T : Txt K mg t) : FnOk P w K mg base CX0 5 t.a_law_sorts_good t.d_law_sorts_good ["web", "places", "count", "many", "some", "number"] (sp_law_sorts_good K t.A_Web) := by
  refine T.f_law_sorts_good.ok sc_law_sorts_good (fun vs H Q E h => ?_) (fun cdv A outer s H vs Q E hr h => ?_)
  · obtain ⟨w, b, n, ps, S, c, x, rfl, _⟩ := h
    rfl
  · obtain ⟨w, b, n, ps, S, c, x, rfl, hW, hG, hS, hI, hC, hx, q⟩ := h
    refine ⟨_, (pss_cons (ps_set (i := 6) sc_law_sorts_good.nd rfl (Or.inr rfl) (pe_call (ok_sorts_of T) (hr.mono (by decide)) rfl T.m_sorts_of T.f_sorts_of.kp T.b_sorts_of .nil passN (pa_cons (pv 0) (pa_cons (pv 4) pa_nil))))
      (pss_cons (ps_if (PW.pt (pw_or (pt_cmpR op_ne (pe_callB (call_lenK K) (by rfl) T.n_len Boot.«len» (pa_cons (pv 6) pa_nil)) (pv 1) (nomark _)) (pw_or (pt_cmpR op_ne (pe_callB (call_sumTI K rfl) (by rfl) T.n_sum Boot.«sum» (pa_cons (pv 6) pa_nil)) (pv 3) (nomark _)) (pw_or1 (pt_cmpR op_lt (pe_callB (call_minTI K rfl) (by rfl) T.n_min Boot.«min» (pa_cons (pv 6) pa_nil)) pe_int (nomark _))))))
      (pss_one (ps_ret pe_bl))
      pss_nil)
      (pss_cons (ps_set (i := 7) sc_law_sorts_good.nd rfl (Or.inl rfl) (pe_op op_rep (pe_lst (pa_cons pe_int pa_nil)) (pv 2)))
      (pss_cons (ps_for PassesOwn.never rfl (pi_listK K (pv 4)) (pg_name (i := 8) sc_law_sorts_good.nd rfl (Or.inl rfl))
      (pss_one (ps_asg (pv 5) (pg_sub (pv 7) (pv 8) set_list))))
      (pss_cons (ps_if (pt_cmpR op_ne (pe_call (ok_tree_sum T) (hr.mono (by decide)) rfl T.m_tree_sum T.f_tree_sum.kp T.b_tree_sum .nil passN (pa_cons (pv 0) (pa_cons (pv 7) pa_nil))) (pe_callB (call_sumK K rfl) (by rfl) T.n_sum Boot.«sum» (pa_cons (pe_lc rfl (sc0 := defScope s_law_sorts_good) (N0 := ["web", "places", "count", "many", "some", "number", "found", "weights", "tie", "others"]) (N' := ["k", "found", "number"]) (o := 1) (fr := [6, 5]) ⟨rfl, by decide +kernel, by decide +kernel, by decide +kernel, rfl, by decide +kernel⟩ (pi_range1 rfl T.n_range (pa_cons (pv 1) pa_nil)) (own_name (by decide)) (fun _ _ _ _ => (pg_name (i := 0) (show List.Nodup (["k", "found", "number"] : List Str) by decide +kernel) rfl (Or.inl rfl))) (fun _ _ _ _ => pts_nil) (fun _ _ _ _ => (pe_op op_mulL (pe_ix (ix_tupK K) (pv 1) (pv 0) (fun _ _ => rfl)) (pe_call (ok_law_power T) (hr.mono (by decide)) rfl T.m_law_power T.f_law_power.kp T.b_law_power .nil pass0 (pa_cons (pv 2) (pa_cons (pv 0) pa_nil)))))) pa_nil)) (nomark _))
      (pss_one (ps_ret pe_bl))
      pss_nil)
      (pss_cons (ps_lc (i := 9) rfl sc_law_sorts_good.nd rfl rfl (sc0 := defScope s_law_sorts_good) (N0 := ["web", "places", "count", "many", "some", "number", "found", "weights", "tie", "others"]) (N' := ["tie", "some"]) (o := 1) (fr := [4]) ⟨rfl, by decide +kernel, by decide +kernel, by decide +kernel, rfl, by decide +kernel⟩ (pi_range1 rfl T.n_range (pa_cons (pv 2) pa_nil)) (own_name (by decide)) (fun _ _ _ _ => (pg_name (i := 0) (show List.Nodup (["tie", "some"] : List Str) by decide +kernel) rfl (Or.inl rfl))) (fun _ _ _ _ => (pts_one (pt_cmpR (op_notInK K) (pv 0) (pv 1) rfl))) (fun _ _ _ _ => (pv 0)))
      (pss_one (ps_ret (pe_cmpR (op_eqDK K (hu8 hr)) (pe_call (ok_sorts_of T) (hr.mono (by decide)) rfl T.m_sorts_of T.f_sorts_of.kp T.b_sorts_of .nil passN (pa_cons (pv 0) (pa_cons (pv 9) pa_nil))) (pe_tupRvT K rfl rfl T.n_tuple rfl T.n_reversed (pa_cons (pv 6) pa_nil)) (nomark _)))))))))), ?_⟩
    obtain ⟨L0, k1, k2, rfl⟩ := id hC
    obtain ⟨g1, g2, g3, g4⟩ := id hG
    have one : 1 ≤ sizeLine := by decide
    refine ⟨_, rfl, _, rfl, w, b, n, ps, false, S, rfl, hW, hG, hS, fun _ => ⟨L0, k1, k2, fun r H1 s1 hr => ?_⟩, fun h => absurd hI h⟩
    have lt0 : ∀ T ∈ L0, T.length < n.toNat := fun T hT => by have := ((k2 T).mp hT).2.1; omega
    have fl := srts_len n.toNat S L0
    have fsum := srts_sum (S := S) lt0
    have fin := srts_in n.toNat S L0
    have fws := ws_srts x S k1 k2
    have many : L0.length ≤ 2 ^ 30 := Nat.le_trans (sets_many k1 fun T hT => ((k2 T).mp hT).1) (Nat.pow_le_pow_right (by decide) g3)
    obtain ⟨D, hD⟩ : ∃ D, D = srts n.toNat S L0 := ⟨_, rfl⟩
    rw [← hD] at fl fsum fin fws hr
    refine nm ?_
    dsimp only
    -- len, sum, min
    refine ⟨_, rfl, r, _, rfl, .inr (SqT.of hr), _, rfl, rfl, _, rfl, ?_⟩
    rw [dec_int]
    refine itn2 (fun _ => ?_) (fun h => absurd (by rw [il_length, fl]; omega) h)
    refine ⟨_, rfl, r, _, rfl, SqT.of hr, _, rfl, rfl, _, rfl, ?_⟩
    rw [dec_int]
    refine itn2 (fun _ => ?_) (fun h => absurd fsum h)
    refine ⟨_, rfl, r, _, rfl, SqT.of hr, by omega, fun mn m1 m2 => ?_⟩
    refine ⟨_, _, rfl, rfl, _, rfl, ?_⟩
    have mn0 := (fin mn m1).1
    refine itd2 (fun h => absurd h (by omega)) (fun _ => ?_)
    -- weights
    refine ⟨one, fun p1 hp1 => ?_⟩
    have u1 := same_at (o := .lst [.int 1]) hp1
    refine ⟨_, rfl, p1, (ps.length : Int), _, rfl, rfl, upd_same, by omega, by omega, small60 (by show 1 * (ps.length : Int).toNat ≤ _; omega), fun p2 hp2 => ?_⟩
    have e0 : (List.replicate (ps.length : Int).toNat [V.int 1]).flatten = IL (wS x (S.take 0) ps.length) := by
      rw [rep_one73, Int.toNat_natCast]
      show _ = IL (wS x [] ps.length)
      rw [wS_none]
      show _ = (List.replicate ps.length 1).map V.int
      rw [List.map_replicate]
    rw [e0]
    have hp20 := u1.free hp2
    have u2 := u1.trans (same_at (o := .lst (IL (wS x (S.take 0) ps.length))) hp2)
    have h2 := upd_same (H := upd H1 p1 (.lst [.int 1])) (a := p2) (o := .lst (IL (wS x (S.take 0) ps.length)))
    generalize upd (upd H1 p1 (.lst [.int 1])) p2 (.lst (IL (wS x (S.take 0) ps.length))) = H2 at *
    refine nm ?_
    dsimp only
    have hS2 := (s1.trans u2).seq hS
    refine ⟨_, rfl, b, rfl, ⟨_, hS2⟩, for_list (K := K) (a := b) (xs := IL S) (fun j σ H3 => ∃ v8 : Option V, σ = [some (.ref w), some (.int n), some (.int ps.length), some (.int L0.length), some (.ref b), some (.int x), some (.ref r), some (.ref p2), v8, none] ∧ Same H1 H3 ∧ H3 p2 = some (.lst (IL (wS x (S.take j) ps.length)))) ⟨none, rfl, u2, h2⟩ (fun j σ H3 _ ⟨_, _, e, _⟩ => (s1.trans e).seq hS) ?_ ?_⟩
    · rintro j v σ H3 hj ⟨v8, rfl, s3, h3⟩
      obtain ⟨z, rfl, hz⟩ := il_get hj
      obtain ⟨z0, z1⟩ := hI.all z (List.mem_of_getElem? hz)
      refine nm ?_
      dsimp only
      refine ⟨_, rfl, _, rfl, _, rfl, p2, _, _, z.toNat, rfl, rfl, h3, ixN_73 z0 (by rw [il_length, wS_len]; exact z1), ?_⟩
      refine ⟨_, rfl, same_upd hp20 s3, ?_⟩
      rw [upd_same, ← wS_take hI hz, il_set]
    rintro σ H3 ⟨v8, rfl, s3, h3⟩
    rw [il_length, List.take_length] at h3
    have wb : ∀ y ∈ wS x S ps.length, y.natAbs ≤ 2 ^ 200 := fun y hy => by
      unfold wS at hy
      obtain ⟨i, _, rfl⟩ := List.mem_map.mp hy
      split
      · exact Nat.le_trans hx (Nat.pow_le_pow_right (by decide) (by decide))
      · exact Nat.one_le_two_pow
    have hW3 := hW.same (s1.trans s3)
    refine ⟨_, rfl, _, rfl, w, p2, n, ps, false, wS x S ps.length, rfl, hW3, hG, SqL.of h3, wb, fun _ sm H4 hws _ s4 => ?_, fun h => absurd (wS_len ..) h⟩
    have esm : sm = ev x D := hws.uniq fws
    rw [esm]
    have hr4 := s4 _ _ (s3 _ _ hr)
    -- the sum of the figures
    refine ⟨_, rfl, n, rfl, by omega, by omega, lc_range (lo := 0) (n := n.toNat) (fun i zs H5 => H5 = H4 ∧ zs = IL (pws x D i)) ⟨rfl, rfl⟩ (small60' (by omega)) (fun i zs H5 _ ⟨_, e⟩ => by rw [e, il_length, pws_len]; exact Nat.le_refl _) ?_ ?_⟩
    · rintro i zs H5 hi ⟨rfl, rfl⟩ SS hSS
      obtain ⟨y, hy⟩ : ∃ y, D[i]? = some y := ⟨_, List.getElem?_eq_getElem (by omega)⟩
      have yb := fin y (List.mem_of_getElem? hy)
      refine nm ?_
      refine ⟨_, rfl, _, rfl, r, _, _, .int y, rfl, rfl, SqT.of hr4, atI_of (n := i) (by omega) (il_at hy), _, rfl, _, rfl, x, i, (by rw [Int.zero_add]; rfl), hx, by omega, ?_⟩
      have b1 : y.natAbs < 2 ^ 9000 := Nat.lt_of_le_of_lt (by omega : y.natAbs ≤ 2 ^ 30) (Nat.pow_lt_pow_right (by decide) (by decide))
      have b2 : (x ^ i).natAbs < 2 ^ 9000 := by
        rw [Int.natAbs_pow]
        refine Nat.lt_of_le_of_lt (Nat.pow_le_pow_left hx i) ?_
        rw [← Nat.pow_mul]
        exact Nat.pow_lt_pow_right (by decide) (by omega)
      refine ⟨_, _, rfl, rfl, ⟨b1, b2⟩, hSS _ _ ⟨rfl, ?_⟩⟩
      rw [pws_snoc, il_snoc, getD_of hy]
    rintro zs H5 ⟨rfl, rfl⟩ cA hcA
    have s5 := same_at (o := .lst (IL (pws x D n.toNat))) hcA
    refine ⟨cA, _, rfl, SqL.of upd_same, rfl, _, rfl, ?_⟩
    rw [pws_sum x D n.toNat (by omega), List.take_of_length_le (by omega), dec_int]
    refine itn2 (fun _ => ?_) (fun h => absurd rfl h)
    have hr5 := s5 _ _ hr4
    have hS5 := (s1.trans (s3.trans (s4.trans s5))).seq hS
    have hW5 := (hW3.same s4).same s5
    have s15 := s1.trans (s3.trans (s4.trans s5))
    generalize upd H5 cA (.lst (IL (pws x D n.toNat))) = H6 at *
    -- the others
    refine ⟨_, rfl, (ps.length : Int), rfl, by omega, by omega, lc_range (lo := 0) (n := (ps.length : Int).toNat) (fun i zs H7 => H7 = H6 ∧ zs = IL (oth S i)) ⟨rfl, rfl⟩ (small60' (by omega)) (fun i zs H7 _ ⟨_, e⟩ => by rw [e, il_length]; exact (oth_set S i).len) ?_ ?_⟩
    · rintro i zs H7 hi ⟨rfl, rfl⟩ SS hSS
      refine nm ?_
      refine ⟨_, rfl, _, rfl, b, _, rfl, .inl hS5, rfl, flat_ints _, _, rfl, ?_⟩
      rw [inV_ints, Int.zero_add]
      refine itn2 (fun hin => ?_) (fun hin => ?_)
      · refine hSS _ _ ⟨rfl, ?_⟩
        rw [oth_succ, if_neg (fun h => h hin), List.append_nil]
      · refine ⟨_, rfl, hSS _ _ ⟨rfl, ?_⟩⟩
        rw [oth_succ, if_pos hin]
        exact (il_snoc ..).symm
    rintro zs H7 ⟨rfl, rfl⟩ oA hoA
    rw [Int.toNat_natCast]
    have s7 := same_at (o := .lst (IL (oth S ps.length))) hoA
    have ho := upd_same (H := H7) (a := oA) (o := .lst (IL (oth S ps.length)))
    have hr7 := s7 _ _ hr5
    have s17 := s15.trans s7
    have hW7 := hW5.same s7
    generalize upd H7 oA (.lst (IL (oth S ps.length))) = H8 at *
    refine nm ?_
    dsimp only
    refine ⟨_, rfl, _, rfl, w, oA, n, ps, false, _, rfl, hW7, hG, SqL.of ho, fun _ => ⟨L0, k1, k2, fun r2 H9 s9 hr2 => ?_⟩, fun h => absurd (oth_set S ps.length) h⟩
    have hr9 := s9 _ _ hr7
    refine ⟨_, rfl, r, _, rfl, SqT.of hr9, fun rA hrA => ?_⟩
    have s10 := same_at (o := .tup (IL D).reverse) hrA
    have er : (IL D).reverse = IL (srts n.toNat (oth S ps.length) L0) := by
      rw [srts_rev (S := S) fun T hT => ?_, ← hD]
      · exact (List.map_reverse ..).symm
      · have ht := (k2 T).mp hT
        have := cS_other (S := S) (O := oth S ps.length) ht.1.all fun z z0 z1 => by
          unfold oth
          rw [List.mem_filter, decide_eq_true_iff, rgL_mem]
          exact ⟨fun h => h.2, fun h => ⟨⟨z0, z1⟩, h⟩⟩
        have := ht.2.1
        omega
    have hrr := upd_same (H := H9) (a := rA) (o := .tup (IL D).reverse)
    generalize upd H9 rA (.tup (IL D).reverse) = H10 at *
    rw [er] at hrr
    refine ⟨1, _, r2, rA, rfl, rfl, by decide, eqd_tints (SqT.of (s10 _ _ hr2)) (SqT.of hrr), ?_⟩
    rw [decide_eq_true rfl]
    exact q _ (s17.trans (s9.trans s10))
end
end My
namespace My
open PySem L2 PyProof.Rows
set_option maxHeartbeats 4000000
/-- the forests and the web with one more place -/
def sp_law_forests_good (K : PySem.W.Frag) : Sp := fun vs H Q _ => ∃ (a : Addr) (n : Int) (xs : List V) (ps : List (Int × Int)) (x : Int), vs = [.int n, .ref a, .int x] ∧ SqL K H a xs ∧ PairsV H xs ps ∧ GoodW n ps ∧ n < 14 ∧ (ps.length : Int) + n ≤ 30 ∧ x.natAbs ≤ 2 ^ 20 ∧ ∀ H' : Hp, Same H H' → Q (.bl true) H'
theorem rep_two73 (x : V) (k : Nat) : (List.replicate k [x]).flatten = List.replicate k x := by
  induction k with
  | zero => rfl
  | succ k ih => rw [List.replicate_succ, List.flatten_cons, ih, List.replicate_succ]; rfl
theorem fsum_due {n : Int} {ps : List (Int × Int)} (hG : GoodW n ps) : FSum n ps (dueF n.toNat (edsOf ps (List.replicate ps.length 1)) (subs ps.length)) := by
  have el : (edsOf ps (List.replicate ps.length (1 : Int))).length = ps.length := by
    unfold edsOf
    rw [List.length_zipWith, List.length_replicate]
    omega
  refine ⟨dueF_len _ _ _, dueF_in _ _ _, fun t => ?_⟩
  have := due_det (k := n.toNat) t (fun e he => by have := eds_in hG _ e he; have := hG.1; omega) (one_eds (ps := ps))
  rw [el] at this
  exact this
theorem due_small {n : Int} {ps : List (Int × Int)} (hG : GoodW n ps) : ∀ y ∈ dueF n.toNat (edsOf ps (List.replicate ps.length 1)) (subs ps.length), 0 ≤ y ∧ y.natAbs ≤ 2 ^ 154 := fun y hy => by
  obtain ⟨f1, f2, f3⟩ := fsum_due hG
  have sm := one_small hG
  rw [f3, ev_one] at sm
  have := (le_sum f2).2 y hy
  have := f2 y hy
  omega
section
variable {P : Program} {w : World} {K : PySem.W.Frag} {mg : Str → Option Value} {base : Heap} {t : Adr}
theorem sc_law_forests_good : FnScope ["places", "ties", "number", "forests", "rays", "web", "due"] ["places", "ties", "number"] (defScope s_law_forests_good) := ⟨rfl, rfl, rfl, by decide +kernel, rfl, by decide +kernel, by decide +kernel⟩
theorem ok_law_forests_good (T : Txt K mg t) : FnOk P w K mg base CX0 5 t.a_law_forests_good t.d_law_forests_good ["places", "ties", "number"] (sp_law_forests_good K) := by
  refine T.f_law_forests_good.ok sc_law_forests_good (fun vs H Q E h => ?_) (fun cdv A outer s H vs Q E hr h => ?_)
  · obtain ⟨a, n, xs, ps, x, rfl, _⟩ := h
    rfl
  · obtain ⟨a, n, xs, ps, x, rfl, hA, hP, hG, n14, hpn, hx, q⟩ := h
    refine ⟨_, (pss_cons (ps_set (i := 3) sc_law_forests_good.nd rfl (Or.inr rfl) (pe_call (ok_rooted_forests T) (hr.mono (by decide)) rfl T.m_rooted_forests T.f_rooted_forests.kp T.b_rooted_forests .nil pass0 (pa_cons (pe_make T.k_Web (ok_Web___init T) (hr.mono (by decide)) rfl T.c_Web T.b_Web___init .nil pass0 (pa_cons (pv 0) (pa_cons (pv 1) pa_nil))) pa_nil)))
      (pss_cons (ps_lc (i := 4) rfl sc_law_forests_good.nd rfl rfl (sc0 := defScope s_law_forests_good) (N0 := ["places", "ties", "number", "forests", "rays", "web", "due"]) (N' := ["place", "places"]) (o := 1) (fr := [0]) ⟨rfl, by decide +kernel, by decide +kernel, by decide +kernel, rfl, by decide +kernel⟩ (pi_range1 rfl T.n_range (pa_cons (pv 0) pa_nil)) (own_name (by decide)) (fun _ _ _ _ => (pg_name (i := 0) (show List.Nodup (["place", "places"] : List Str) by decide +kernel) rfl (Or.inl rfl))) (fun _ _ _ _ => pts_nil) (fun _ _ _ _ => (pe_tup (pa_cons (pv 0) (pa_cons (pv 1) pa_nil)))))
      (pss_cons (ps_set (i := 5) sc_law_forests_good.nd rfl (Or.inl rfl) (pe_make T.k_Web (ok_Web___init T) (hr.mono (by decide)) rfl T.c_Web T.b_Web___init .nil pass0 (pa_cons (pe_op op_add (pv 0) pe_int) (pa_cons (pe_op (op_catK K) (pv 1) (pv 4)) pa_nil))))
      (pss_cons (ps_set (i := 6) sc_law_forests_good.nd rfl (Or.inl rfl) (pe_callB (call_sumK K rfl) (by rfl) T.n_sum Boot.«sum» (pa_cons (pe_lc rfl (sc0 := defScope s_law_forests_good) (N0 := ["places", "ties", "number", "forests", "rays", "web", "due"]) (N' := ["k", "forests", "number"]) (o := 1) (fr := [3, 2]) ⟨rfl, by decide +kernel, by decide +kernel, by decide +kernel, rfl, by decide +kernel⟩ (pi_range1 rfl T.n_range (pa_cons (pe_op op_add (pv 0) pe_int) pa_nil)) (own_name (by decide)) (fun _ _ _ _ => (pg_name (i := 0) (show List.Nodup (["k", "forests", "number"] : List Str) by decide +kernel) rfl (Or.inl rfl))) (fun _ _ _ _ => pts_nil) (fun _ _ _ _ => (pe_op op_mulL (pe_ix (ix_tupK K) (pv 1) (pv 0) (fun _ _ => rfl)) (pe_call (ok_law_power T) (hr.mono (by decide)) rfl T.m_law_power T.f_law_power.kp T.b_law_power .nil pass0 (pa_cons (pv 2) (pa_cons (pv 0) pa_nil)))))) pa_nil)))
      (pss_one (ps_ret (pe_cmpR op_eq (pe_call (ok_tree_sum T) (hr.mono (by decide)) rfl T.m_tree_sum T.f_tree_sum.kp T.b_tree_sum .nil passN (pa_cons (pv 5) (pa_cons (pe_op (op_catK K) (pe_op op_rep (pe_lst (pa_cons pe_int pa_nil)) (pe_callB (call_lenK K) (by rfl) T.n_len Boot.«len» (pa_cons (pv 1) pa_nil))) (pe_op op_rep (pe_lst (pa_cons (pv 2) pa_nil)) (pv 0))) pa_nil))) (pv 6) (nomark _)))))))), ?_⟩
    obtain ⟨g1, g2, g3, g4⟩ := id hG
    have hps := hP.1
    have one : 1 ≤ sizeLine := by decide
    -- forests
    refine ⟨_, rfl, _, rfl, fun w dx nx ndx nex => ?_⟩
    have s2 : Same H (upd (upd H dx (.own w)) w (.ins t.A_Web dx [])) := same_new (same_at ndx) (by rw [upd_ne (Ne.symm nex)]; exact nx)
    refine ⟨w, dx, n, a, false, xs, ps, rfl, upd_same, fun o => (same_upd nx s2).seq hA, hP.same s2, hG, fun H2 hW k2 => ⟨rfl, ?_⟩⟩
    have s3 : Same H H2 := fun b o e => k2 b o (s2 b o e) (ne_of_none e nx)
    have fs := fsum_due hG
    have fsm := due_small hG
    have star := star_ws x hG
    have fl := dueF_len n.toNat (edsOf ps (List.replicate ps.length 1)) (subs ps.length)
    generalize dueF n.toNat (edsOf ps (List.replicate ps.length 1)) (subs ps.length) = D at *
    refine ⟨w, n, ps, D, rfl, hW, hG, fs, fun r H3 s4 hr => ?_⟩
    have t3 := s3.trans s4
    refine nm ?_
    dsimp only
    -- rays
    refine ⟨_, rfl, n, rfl, by omega, by omega, lc_range (lo := 0) (n := n.toNat) (fun i zs H5 => Same H3 H5 ∧ PairsV H5 zs (rays n.toNat i)) ⟨Same.refl _, PairsV.nil⟩ (small60' (by omega)) (fun i zs H5 _ ⟨_, e⟩ => by rw [e.1, rays_len]; exact Nat.le_refl _) ?_ ?_⟩
    · rintro i zs H5 hi ⟨s5, hZ⟩ SS hSS
      refine nm ?_
      refine ⟨_, rfl, _, rfl, (by show 2 ≤ sizeLine; decide), fun tA htA => ?_⟩
      have u := same_at (o := .tup [.int (0 + (i : Int)), .int n]) htA
      refine hSS _ _ ⟨s5.trans u, ?_⟩
      have e : rays n.toNat (i + 1) = rays n.toNat i ++ [(0 + (i : Int), n)] := by
        unfold rays
        rw [List.range_succ, List.map_append]
        show _ ++ [((i : Int), (n.toNat : Int))] = _
        rw [Int.zero_add, Int.toNat_of_nonneg (by omega)]
      rw [e]
      exact (hZ.same u).snoc ⟨tA, rfl, upd_same⟩
    rintro zs H5 ⟨s5, hZ⟩ zA hzA
    have u1 := same_at (o := .lst zs) hzA
    have hz6 := upd_same (H := H5) (a := zA) (o := .lst zs)
    have t6 := t3.trans (s5.trans u1)
    have s36 := s5.trans u1
    have hZ6 := hZ.same u1
    generalize upd H5 zA (.lst zs) = H6 at *
    refine nm ?_
    dsimp only
    -- the greater web
    have eN : ((n.toNat : Nat) : Int) = n := Int.toNat_of_nonneg (by omega)
    have zl : zs.length = n.toNat := by rw [hZ6.1, rays_len]
    refine ⟨_, rfl, _, _, rfl, rfl, _, rfl, _, rfl, a, zA, xs, zs, rfl, rfl, t6.seq hA, SqL.of hz6, small60 (by omega), fun cA hcA => ?_⟩
    have u2 := same_at (o := .lst (xs ++ zs)) hcA
    have hc7 := upd_same (H := H6) (a := cA) (o := .lst (xs ++ zs))
    have hP7 : PairsV (upd H6 cA (.lst (xs ++ zs))) (xs ++ zs) (ps ++ rays n.toNat n.toNat) := ((hP.same t6).same u2).app (hZ6.same u2)
    have t7 := t6.trans u2
    have s37 := s36.trans u2
    generalize upd H6 cA (.lst (xs ++ zs)) = H7 at *
    refine fun w2 dx2 nx2 ndx2 nex2 => ?_
    have v2 : Same H7 (upd (upd H7 dx2 (.own w2)) w2 (.ins t.A_Web dx2 [])) := same_new (same_at ndx2) (by rw [upd_ne (Ne.symm nex2)]; exact nx2)
    have hG2 := rays_good hG n14 hpn
    refine ⟨w2, dx2, n + 1, cA, false, xs ++ zs, _, rfl, upd_same, fun o => (same_upd nx2 v2).seq (SqL.of hc7), hP7.same v2, hG2, fun H8 hW8 k8 => ⟨rfl, ?_⟩⟩
    have v3 : Same H7 H8 := fun b o e => k8 b o (v2 b o e) (ne_of_none e nx2)
    have hr8 := v3 _ _ (s37 _ _ hr)
    have t8 := t7.trans v3
    refine nm ?_
    dsimp only
    -- due
    refine ⟨_, rfl, _, _, rfl, rfl, n + 1, rfl, by omega, by omega, lc_range (lo := 0) (n := (n + 1).toNat) (fun i zs H9 => H9 = H8 ∧ zs = IL (pws x D i)) ⟨rfl, rfl⟩ (small60' (by omega)) (fun i zs H9 _ ⟨_, e⟩ => by rw [e, il_length, pws_len]; exact Nat.le_refl _) ?_ ?_⟩
    · rintro i zs H9 hi ⟨rfl, rfl⟩ SS hSS
      obtain ⟨y, hy⟩ : ∃ y, D[i]? = some y := ⟨_, List.getElem?_eq_getElem (by omega)⟩
      have yb := fsm y (List.mem_of_getElem? hy)
      refine nm ?_
      refine ⟨_, rfl, _, rfl, r, _, _, .int y, rfl, rfl, SqT.of hr8, atI_of (n := i) (by omega) (il_at hy), _, rfl, _, rfl, x, i, (by rw [Int.zero_add]; rfl), hx, by omega, ?_⟩
      have b1 : y.natAbs < 2 ^ 9000 := Nat.lt_of_le_of_lt yb.2 (Nat.pow_lt_pow_right (by decide) (by decide))
      have b2 : (x ^ i).natAbs < 2 ^ 9000 := by
        rw [Int.natAbs_pow]
        refine Nat.lt_of_le_of_lt (Nat.pow_le_pow_left hx i) ?_
        rw [← Nat.pow_mul]
        exact Nat.pow_lt_pow_right (by decide) (by omega)
      refine ⟨_, _, rfl, rfl, ⟨b1, b2⟩, hSS _ _ ⟨rfl, ?_⟩⟩
      rw [pws_snoc, il_snoc, getD_of hy]
    rintro zs9 H9 ⟨rfl, rfl⟩ dA hdA
    have s9 := same_at (o := .lst (IL (pws x D (n + 1).toNat))) hdA
    refine ⟨dA, _, rfl, SqL.of upd_same, ?_⟩
    rw [pws_sum x D (n + 1).toNat (by omega), List.take_of_length_le (by omega)]
    have t9 := t8.trans s9
    have hW9 := hW8.same s9
    generalize upd H9 dA (.lst (IL (pws x D (n + 1).toNat))) = H10 at *
    refine nm ?_
    dsimp only
    -- the weights
    refine ⟨_, rfl, one, fun p1 hp1 => ?_⟩
    have w1 := same_at (o := .lst [.int 1]) hp1
    refine ⟨_, rfl, a, xs, rfl, .inl (w1.seq (t9.seq hA)), p1, (xs.length : Int), _, rfl, rfl, upd_same, by omega, by omega, small60 (by show 1 * (xs.length : Int).toNat ≤ _; omega), fun p2 hp2 => ?_⟩
    have e0 : (List.replicate (xs.length : Int).toNat [V.int 1]).flatten = IL (List.replicate ps.length 1) := by
      rw [rep_two73, Int.toNat_natCast, hps]
      show _ = (List.replicate ps.length 1).map V.int
      rw [List.map_replicate]
    rw [e0]
    have w2' := w1.trans (same_at (o := .lst (IL (List.replicate ps.length 1))) hp2)
    have h2 := upd_same (H := upd H10 p1 (.lst [.int 1])) (a := p2) (o := .lst (IL (List.replicate ps.length 1)))
    generalize upd (upd H10 p1 (.lst [.int 1])) p2 (.lst (IL (List.replicate ps.length 1))) = H11 at *
    refine ⟨_, rfl, one, fun p3 hp3 => ?_⟩
    have w3 := same_at (o := .lst [.int x]) hp3
    refine ⟨_, rfl, p3, n, _, rfl, rfl, upd_same, by omega, by omega, small60 (by show 1 * n.toNat ≤ _; omega), fun p4 hp4 => ?_⟩
    have e1 : (List.replicate n.toNat [V.int x]).flatten = IL (List.replicate n.toNat x) := by
      rw [rep_two73]
      show _ = (List.replicate n.toNat x).map V.int
      rw [List.map_replicate]
    rw [e1]
    have w4 := w3.trans (same_at (o := .lst (IL (List.replicate n.toNat x))) hp4)
    have h4 := upd_same (H := upd H11 p3 (.lst [.int x])) (a := p4) (o := .lst (IL (List.replicate n.toNat x)))
    generalize upd (upd H11 p3 (.lst [.int x])) p4 (.lst (IL (List.replicate n.toNat x))) = H12 at *
    refine ⟨p2, p4, _, _, rfl, rfl, SqL.of (w4 _ _ h2), SqL.of h4, small60 (by rw [il_length, il_length, List.length_replicate, List.length_replicate]; omega), fun p5 hp5 => ?_⟩
    have ec : IL (List.replicate ps.length 1) ++ IL (List.replicate n.toNat x) = IL (List.replicate ps.length 1 ++ List.replicate n.toNat x) := (List.map_append ..).symm
    rw [ec]
    have w5 := same_at (o := .lst (IL (List.replicate ps.length 1 ++ List.replicate n.toNat x))) hp5
    have h5 := upd_same (H := H12) (a := p5) (o := .lst (IL (List.replicate ps.length 1 ++ List.replicate n.toNat x)))
    generalize upd H12 p5 (.lst (IL (List.replicate ps.length 1 ++ List.replicate n.toNat x))) = H13 at *
    have t13 := w2'.trans (w4.trans w5)
    refine ⟨w2, p5, n + 1, _, false, _, rfl, hW9.same t13, hG2, SqL.of h5, fun y hy => ?_, fun _ sm H14 hws _ s14 => ?_, fun h => absurd (by rw [List.length_append, List.length_append, List.length_replicate, List.length_replicate, rays_len]) h⟩
    · rcases List.mem_append.mp hy with c | c
      · rw [List.eq_of_mem_replicate c]; exact Nat.one_le_two_pow
      · rw [List.eq_of_mem_replicate c]; exact Nat.le_trans hx (Nat.pow_le_pow_right (by decide) (by decide))
    have esm : sm = ev x D := hws.uniq star
    refine ⟨_, rfl, rfl, ?_⟩
    rw [dec_int, esm, decide_eq_true rfl]
    exact q _ (t9.trans (t13.trans s14))
end
end My
namespace My
open PySem L2 PyProof.Rows
set_option maxHeartbeats 4000000
def sp_law (K : PySem.W.Frag) : Sp := fun vs H Q _ => ∃ (a : Addr) (ns : List Int), vs = [.ref a] ∧ SqL K H a (IL ns) ∧ ns.length ≤ 63 ∧ ∀ H', Q (.bl true) H'
section
variable {P : Program} {w : World} {K : PySem.W.Frag} {mg : Str → Option Value} {base : Heap} {t : Adr}
theorem sc_law : FnScope ["script", "places", "ties", "web", "total", "number", "many", "forests", "weights", "whole_sum", "place", "some"] ["script"] (defScope s_law) := ⟨rfl, rfl, rfl, by decide +kernel, rfl, by decide +kernel, by decide +kernel⟩
theorem ok_law (T : Txt K mg t) : FnOk P w K mg base CX0 13 t.a_law t.d_law ["script"] (sp_law K) := by
  refine T.f_law.ok sc_law (fun vs H Q E h => ?_) (fun cdv A outer s H vs Q E hr h => ?_)
  · obtain ⟨a, ns, rfl, _⟩ := h
    rfl
  · obtain ⟨a, ns, rfl, hS, hn, k⟩ := h
    refine ⟨_, (pss_cons (ps_asg (pe_call (ok_law_web T) (hr.mono (by decide)) rfl T.m_law_web T.f_law_web.kp T.b_law_web .nil pass0 (pa_cons (pv 0) (pa_cons pe_int (pa_cons pe_int pa_nil)))) (pg_tupK (n := 2) K rfl (pgs_cons (pg_name (i := 1) sc_law.nd rfl (Or.inl rfl)) (pgs_cons (pg_name (i := 2) sc_law.nd rfl (Or.inr rfl)) pgs_nil))))
      (pss_cons (ps_set (i := 3) sc_law.nd rfl (Or.inl rfl) (pe_make T.k_Web (ok_Web___init T) (hr.mono (by decide)) rfl T.c_Web T.b_Web___init .nil pass0 (pa_cons (pv 1) (pa_cons (pv 2) pa_nil))))
      (pss_cons (ps_set (i := 4) sc_law.nd rfl (Or.inl rfl) (pe_op op_mod (pe_callB (call_sumK K rfl) (by rfl) T.n_sum Boot.«sum» (pa_cons (pv 0) pa_nil)) (pe_op op_pow pe_int pe_int)))
      (pss_cons (ps_set (i := 5) sc_law.nd rfl (Or.inr rfl) (pe_op op_sub (pe_op op_mod (pe_op op_fdiv (pv 4) pe_int) pe_int) pe_int))
      (pss_cons (ps_set (i := 6) sc_law.nd rfl (Or.inl rfl) (pe_call (ok_tree_count T) (hr.mono (by decide)) rfl T.m_tree_count T.f_tree_count.kp T.b_tree_count .nil pass0 (pa_cons (pv 3) pa_nil)))
      (pss_cons (ps_if (pt_cmpR op_ne (pe_call (ok_tree_sum T) (hr.mono (by decide)) rfl T.m_tree_sum T.f_tree_sum.kp T.b_tree_sum .nil passN (pa_cons (pv 3) (pa_cons (pe_op op_rep (pe_lst (pa_cons pe_int pa_nil)) (pe_callB (call_lenK K) (by rfl) T.n_len Boot.«len» (pa_cons (pv 2) pa_nil))) pa_nil))) (pv 6) (nomark _))
      (pss_one (ps_ret pe_bl))
      pss_nil)
      (pss_cons (ps_if (pt_not (pt_val (pe_call (ok_law_sorts_good T) (hr.mono (by decide)) rfl T.m_law_sorts_good T.f_law_sorts_good.kp T.b_law_sorts_good .nil pass0 (pa_cons (pv 3) (pa_cons (pv 1) (pa_cons (pe_callB (call_lenK K) (by rfl) T.n_len Boot.«len» (pa_cons (pv 2) pa_nil)) (pa_cons (pv 6) (pa_cons (pe_call (ok_law_some T) (hr.mono (by decide)) rfl T.m_law_some T.f_law_some.kp T.b_law_some .nil pass0 (pa_cons (pv 4) (pa_cons (pe_callB (call_lenK K) (by rfl) T.n_len Boot.«len» (pa_cons (pv 2) pa_nil)) pa_nil))) (pa_cons (pv 5) pa_nil)))))))))
      (pss_one (ps_ret pe_bl))
      pss_nil)
      (pss_cons (ps_set (i := 7) sc_law.nd rfl (Or.inl rfl) (pe_call (ok_rooted_forests T) (hr.mono (by decide)) rfl T.m_rooted_forests T.f_rooted_forests.kp T.b_rooted_forests .nil pass0 (pa_cons (pv 3) pa_nil)))
      (pss_cons (ps_if (PW.pt (pw_or (pt_cmpR op_ne (pe_callB (call_lenK K) (by rfl) T.n_len Boot.«len» (pa_cons (pv 7) pa_nil)) (pe_op op_add (pv 1) pe_int) (nomark _)) (pw_or (pt_cmpR op_ne (pe_ix (ix_tupK K) (pv 7) pe_int (fun _ _ => rfl)) pe_int (nomark _)) (pw_or (pt_cmpR op_ne (pe_ix (ix_tupK K) (pv 7) pe_int (fun _ _ => rfl)) (pe_op op_mulL (pv 6) (pv 1)) (nomark _)) (pw_or1 (pt_cmpR op_ne (pe_ix (ix_tupK K) (pv 7) (pv 1) (fun _ _ => rfl)) pe_int (nomark _)))))))
      (pss_one (ps_ret pe_bl))
      pss_nil)
      (pss_cons (ps_if (PW.pt (pw_and (pt_cmpR op_lt (pv 1) pe_int (nomark _)) (pw_and1 (pt_not (pt_val (pe_call (ok_law_forests_good T) (hr.mono (by decide)) rfl T.m_law_forests_good T.f_law_forests_good.kp T.b_law_forests_good .nil pass0 (pa_cons (pv 1) (pa_cons (pe_slice (sl_listK K) (pv 2) po_none (po_some (pe_op op_sub pe_int (pv 1)))) (pa_cons (pv 5) pa_nil)))))))))
      (pss_one (ps_ret pe_bl))
      pss_nil)
      (pss_cons (ps_set (i := 8) sc_law.nd rfl (Or.inl rfl) (pe_call (ok_law_weights T) (hr.mono (by decide)) rfl T.m_law_weights T.f_law_weights.kp T.b_law_weights .nil pass0 (pa_cons (pv 0) (pa_cons (pe_callB (call_lenK K) (by rfl) T.n_len Boot.«len» (pa_cons (pv 2) pa_nil)) pa_nil))))
      (pss_cons (ps_set (i := 9) sc_law.nd rfl (Or.inl rfl) (pe_call (ok_tree_sum T) (hr.mono (by decide)) rfl T.m_tree_sum T.f_tree_sum.kp T.b_tree_sum .nil passN (pa_cons (pv 3) (pa_cons (pv 8) pa_nil))))
      (pss_cons (ps_if (pt_cmpR op_ne (pe_call (ok_tree_sum T) (hr.mono (by decide)) rfl T.m_tree_sum T.f_tree_sum.kp T.b_tree_sum .nil passN (pa_cons (pv 3) (pa_cons (pe_lc rfl (sc0 := defScope s_law) (N0 := ["script", "places", "ties", "web", "total", "number", "many", "forests", "weights", "whole_sum", "place", "some"]) (N' := ["weight", "number"]) (o := 1) (fr := [5]) ⟨rfl, by decide +kernel, by decide +kernel, by decide +kernel, rfl, by decide +kernel⟩ (pi_listK K (pv 8)) (own_name (by decide)) (fun _ _ _ _ => (pg_name (i := 0) (show List.Nodup (["weight", "number"] : List Str) by decide +kernel) rfl (Or.inl rfl))) (fun _ _ _ _ => pts_nil) (fun _ _ _ _ => (pe_op op_mulL (pv 0) (pv 1)))) pa_nil))) (pe_op op_mulL (pv 9) (pe_call (ok_law_power T) (hr.mono (by decide)) rfl T.m_law_power T.f_law_power.kp T.b_law_power .nil pass0 (pa_cons (pv 5) (pa_cons (pe_op op_sub (pv 1) pe_int) pa_nil)))) (nomark _))
      (pss_one (ps_ret pe_bl))
      pss_nil)
      (pss_cons (ps_set (i := 10) sc_law.nd rfl (Or.inr rfl) (pe_op op_mod (pv 4) (pv 1)))
      (pss_cons (ps_lc (i := 11) rfl sc_law.nd rfl rfl (sc0 := defScope s_law) (N0 := ["script", "places", "ties", "web", "total", "number", "many", "forests", "weights", "whole_sum", "place", "some"]) (N' := ["k", "place", "ties"]) (o := 1) (fr := [10, 2]) ⟨rfl, by decide +kernel, by decide +kernel, by decide +kernel, rfl, by decide +kernel⟩ (pi_range1 rfl T.n_range (pa_cons (pe_callB (call_lenK K) (by rfl) T.n_len Boot.«len» (pa_cons (pv 2) pa_nil)) pa_nil)) (own_name (by decide)) (fun _ _ _ _ => (pg_name (i := 0) (show List.Nodup (["k", "place", "ties"] : List Str) by decide +kernel) rfl (Or.inl rfl))) (fun _ _ _ _ => (pts_one (PW.pt (pw_and (pt_cmpR (op_inK K) (pv 1) (pe_ix (ix_listK K) (pv 2) (pv 0) (fun _ _ => rfl)) rfl) (pw_and1 (pt_cmpR op_ne (pe_ix (ix_tupK K) (pe_ix (ix_listK K) (pv 2) (pv 0) (fun _ _ => rfl)) pe_int (fun _ _ => rfl)) (pe_ix (ix_tupK K) (pe_ix (ix_listK K) (pv 2) (pv 0) (fun _ _ => rfl)) pe_int (fun _ _ => rfl)) (nomark _))))))) (fun _ _ _ _ => (pv 0)))
      (pss_one (ps_ret (pe_cmpR (op_eqDK K (hu8 hr)) (pe_call (ok_sorts_at T) (hr.mono (by decide)) rfl T.m_sorts_at T.f_sorts_at.kp T.b_sorts_at .nil passN (pa_cons (pv 3) (pa_cons (pv 10) pa_nil))) (pe_call (ok_sorts_of T) (hr.mono (by decide)) rfl T.m_sorts_of T.f_sorts_of.kp T.b_sorts_of .nil passN (pa_cons (pv 3) (pa_cons (pv 11) pa_nil))) (nomark _))))))))))))))))))), ?_⟩
    refine ⟨_, rfl, a, ns, 14, 30, rfl, hS, hn, by decide, by decide, by decide, by decide, fun r l n xs ps H1 s1 hr1 hl0 hl1 hP hG hnm hcc => ?_⟩
    refine ⟨r, _, rfl, SqT.of hr1, rfl, _, _, rfl, _, _, rfl, rfl, ?_⟩
    have one : 1 ≤ sizeLine := by decide
    -- web = Web(places, ties)
    refine ⟨_, rfl, _, rfl, fun x dx nx ndx nex => ?_⟩
    have s2 : Same H1 (upd (upd H1 dx (.own x)) x (.ins t.A_Web dx [])) := same_new (same_at ndx) (by rw [upd_ne (Ne.symm nex)]; exact nx)
    refine ⟨x, dx, n, l, false, xs, ps, rfl, upd_same, fun o => ?_, hP.same s2, hG, fun H2 hW k2 => ⟨rfl, ?_⟩⟩
    · exact SqL.of (by rw [upd_ne (ne_of_none hl1 nx), upd_ne (ne_of_none hl1 nx), upd_ne (ne_of_none hl1 ndx)]; exact hl1)
    have s3 : Same H1 H2 := fun b o e => k2 b o (s2 b o e) (ne_of_none e nx)
    have hl2 := s3 _ _ hl1
    have hS2 := (s1.trans s3).seq hS
    have hP2 := hP.same s3
    have hps : xs.length = ps.length := hP.1
    obtain ⟨g1, g2, g3, g4⟩ := id hG
    -- total, number
    refine ⟨_, rfl, a, ns, rfl, hS2, _, _, rfl, rfl, ⟨by decide, by decide, by decide⟩, _, _, rfl, rfl, (by show (0 : Int) < 10 ^ 60; decide), ?_⟩
    have p60 : (0 : Int) < 10 ^ 60 := by decide
    have y0 : 0 ≤ ns.sum % 10 ^ 60 := Int.emod_nonneg _ (Int.ne_of_gt p60)
    obtain ⟨tot, htot⟩ : ∃ tot : Int, tot = ns.sum % 10 ^ 60 := ⟨_, rfl⟩
    refine nm ?_
    dsimp only
    show tSeq _ _ _ ((([some (.ref a), some (.int n), some (.ref l), some (.ref x), none, none, none, none, none, none, none, none] : List (Option V))).set 4 (some (.int (ns.sum % 10 ^ 60)))) _
    rw [← htot] at y0 ⊢
    clear htot
    refine ⟨_, rfl, _, _, rfl, rfl, ⟨by decide, by decide⟩, _, _, rfl, rfl, (by show (0 : Int) < 2000001; decide), _, _, rfl, rfl, ?_⟩
    have mb : (tot / 7 % 2000001 - 1000000).natAbs ≤ 2 ^ 20 := by
      have h2 : (2 : Nat) ^ 20 = 1048576 := by decide
      omega
    obtain ⟨nu, hnu⟩ : ∃ nu : Int, nu = tot / 7 % 2000001 - 1000000 := ⟨_, rfl⟩
    refine nm ?_
    dsimp only
    show tSeq _ _ _ ((([some (.ref a), some (.int n), some (.ref l), some (.ref x), some (.int tot), none, none, none, none, none, none, none] : List (Option V))).set 5 (some (.int (tot / 7 % 2000001 - 1000000)))) _
    rw [← hnu] at mb ⊢
    clear hnu
    -- many
    refine ⟨_, rfl, x, n, ps, rfl, hW, hG, fun c H3 hC t3 => ?_⟩
    obtain ⟨L, k1, k2', rfl⟩ := id hC
    have hW3 := hW.same t3
    have hS3 := t3.seq hS2
    have hl3 := t3 _ _ hl2
    have hP3 := hP2.same t3
    refine nm ?_
    dsimp only
    -- all weights 1
    refine ⟨_, rfl, one, fun p1 hp1 => ?_⟩
    have w1 := same_at (o := .lst [.int 1]) hp1
    refine ⟨_, rfl, l, xs, rfl, .inl (SqL.of (w1 _ _ hl3)), p1, (xs.length : Int), _, rfl, rfl, upd_same, by omega, by omega, small60 (by show 1 * (xs.length : Int).toNat ≤ _; omega), fun p2 hp2 => ?_⟩
    have e0 : (List.replicate (xs.length : Int).toNat [V.int 1]).flatten = IL (List.replicate ps.length 1) := by
      rw [rep_two73, Int.toNat_natCast, hps]
      show _ = (List.replicate ps.length 1).map V.int
      rw [List.map_replicate]
    rw [e0]
    have t4 := w1.trans (same_at (o := .lst (IL (List.replicate ps.length 1))) hp2)
    have h2 := upd_same (H := upd H3 p1 (.lst [.int 1])) (a := p2) (o := .lst (IL (List.replicate ps.length 1)))
    generalize upd (upd H3 p1 (.lst [.int 1])) p2 (.lst (IL (List.replicate ps.length 1))) = H4 at *
    refine ⟨x, p2, n, ps, false, _, rfl, hW3.same t4, hG, SqL.of h2, fun y hy => by rw [List.eq_of_mem_replicate hy]; exact Nat.one_le_two_pow, fun _ sm H5 hws _ t5 => ?_, fun h => absurd List.length_replicate h⟩
    obtain rfl : sm = (L.length : Int) := hws.uniq (ws_ones hC)
    refine ⟨_, rfl, rfl, _, rfl, ?_⟩
    rw [dec_int]
    refine itn2 (fun _ => ?_) (fun h => absurd rfl h)
    have t35 := t4.trans t5
    have hW5 := hW3.same t35
    have hS5 := t35.seq hS3
    have hl5 := t35 _ _ hl3
    have hP5 := hP3.same t35
    clear hws t4 t5 w1 h2 e0 t35 hW3 hS3 hl3 hP3
    -- the sorts
    refine ⟨_, rfl, _, rfl, _, rfl, l, xs, rfl, .inl (SqL.of hl5), _, rfl, _, rfl, _, rfl, l, xs, rfl, .inl (SqL.of hl5), tot, xs.length, rfl, by omega, fun sA S H6 hI t6 hs0 hs6 => ?_⟩
    rw [hps] at hI
    refine ⟨_, rfl, x, sA, n, ps, S, L.length, nu, (by rw [hps]; rfl), hW5.same t6, hG, SqL.of hs6, hI, hC, mb, fun H7 t7 => ⟨_, rfl, ?_⟩⟩
    refine iteF ?_
    have t57 := t6.trans t7
    have hW7 := hW5.same t57
    have hS7 := t57.seq hS5
    have hl7 := t57 _ _ hl5
    have hP7 := hP5.same t57
    clear t57 t6 t7 hs6 hI hW5 hS5 hl5 hP5
    -- forests
    have fsm := due_small hG
    have d0 := due_none (n := n.toNat) (edsOf ps (List.replicate ps.length 1)) (by omega) (subs ps.length)
    have d1 := due_one hG hC
    have dn := due_all (n := n.toNat) (m := ps.length) (edsOf ps (List.replicate ps.length 1))
    have fs := fsum_due hG
    have fl := dueF_len n.toNat (edsOf ps (List.replicate ps.length 1)) (subs ps.length)
    generalize dueF n.toNat (edsOf ps (List.replicate ps.length 1)) (subs ps.length) = D at *
    have atD : ∀ i, i < D.length → D[i]? = some (D.getD i 0) := fun i hi => by rw [List.getD_eq_getElem?_getD, List.getElem?_eq_getElem hi]; rfl
    refine ⟨_, rfl, x, n, ps, D, rfl, hW7, hG, fs, fun fA H8 t8 hf => ?_⟩
    refine nm ?_
    dsimp only
    refine ⟨_, rfl, fA, _, rfl, .inr (SqT.of hf), _, rfl, _, _, rfl, rfl, rfl, _, rfl, ?_⟩
    rw [dec_int]
    refine itn2 (fun _ => ?_) (fun h => absurd (by rw [il_length, fl]; omega) h)
    refine ⟨_, rfl, fA, _, 0, .int (D.getD 0 0), rfl, rfl, SqT.of hf, atI_of (n := 0) rfl (il_at (atD 0 (by omega))), rfl, _, rfl, ?_⟩
    rw [dec_int]
    refine itn2 (fun _ => ?_) (fun h => absurd d0 h)
    have many : L.length ≤ 2 ^ 30 := Nat.le_trans (sets_many k1 fun T hT => ((k2' T).mp hT).1) (Nat.pow_le_pow_right (by decide) g3)
    refine ⟨_, rfl, fA, _, 1, .int (D.getD 1 0), rfl, rfl, SqT.of hf, atI_of (n := 1) rfl (il_at (atD 1 (by omega))), _, rfl, _, rfl, _, _, rfl, rfl, ⟨?_, ?_⟩, rfl, _, rfl, ?_⟩
    · exact Nat.lt_of_le_of_lt (by rw [Int.natAbs_natCast]; exact many) (Nat.pow_lt_pow_right (by decide) (by decide))
    · exact Nat.lt_of_le_of_lt (by omega : n.natAbs ≤ 2 ^ 4) (Nat.pow_lt_pow_right (by decide) (by decide))
    rw [dec_int]
    refine itn2 (fun _ => ?_) (fun h => absurd d1 h)
    refine ⟨_, rfl, _, rfl, fA, _, n, .int (D.getD n.toNat 0), rfl, rfl, SqT.of hf, atI_of (n := n.toNat) (by omega) (il_at (atD n.toNat (by omega))), rfl, _, rfl, ?_⟩
    rw [dec_int]
    refine itn2 (fun _ => ?_) (fun h => absurd dn h)
    have hW8 := hW7.same t8
    have hS8 := t8.seq hS7
    have hl8 := t8 _ _ hl7
    have hP8 := hP7.same t8
    unfold tNext
    dsimp only
    refine contS (fun σ H9 => σ = [some (.ref a), some (.int n), some (.ref l), some (.ref x), some (.int tot), some (.int nu), some (.int (L.length : Int)), some (.ref fA), none, none, none, none] ∧ Same H8 H9) ?_ ?_
    rotate_left
    · intro Kn hK
      refine ⟨_, rfl, _, _, rfl, rfl, _, rfl, ?_⟩
      refine itd2 (fun hlt => ?_) (fun _ => hK _ _ ⟨rfl, Same.refl _⟩)
      refine ⟨_, rfl, _, rfl, _, rfl, _, _, rfl, rfl, _, rfl, l, xs, rfl, SqL.of hl8, fun tA htA => ?_⟩
      rw [cut_upto (by omega)]
      have u1 := same_at (o := .lst (xs.take (30 - n).toNat)) htA
      refine ⟨_, rfl, tA, n, _, ps.take (30 - n).toNat, nu, rfl, SqL.of upd_same, (hP8.same u1).take _, ⟨g1, g2, ?_, fun p hp => g4 p (List.mem_of_mem_take hp)⟩, by omega, ?_, mb, fun H9 t9 => ?_⟩
      · rw [List.length_take]; omega
      · rw [List.length_take]; omega
      refine ⟨_, rfl, ?_⟩
      refine iteF ?_
      exact hK _ _ ⟨rfl, u1.trans t9⟩
    rintro σ H9 ⟨rfl, t9⟩
    have hW9 := hW8.same t9
    have hS9 := t9.seq hS8
    have hl9 := t9 _ _ hl8
    have hP9 := hP8.same t9
    clear hW8 hS8 hl8 hP8 hW7 hS7 hl7 hP7 hf t8 t9 fs fsm d0 d1 dn fl
    -- weights
    refine ⟨_, rfl, _, rfl, l, xs, rfl, .inl (SqL.of hl9), a, ns, xs.length, rfl, hS9, hn, by omega, fun wA ws H10 t10 hw0 hw10 hwl hwb => ?_⟩
    have hW10 := hW9.same t10
    have wb : ∀ y ∈ ws, y.natAbs ≤ 2 ^ 62 := fun y hy => by have := hwb y hy; omega
    have wb2 : ∀ y ∈ ws, y.natAbs ≤ 2 ^ 200 := fun y hy => Nat.le_trans (wb y hy) (Nat.pow_le_pow_right (by decide) (by decide))
    refine nm ?_
    dsimp only
    refine ⟨_, rfl, _, rfl, x, wA, n, ps, false, ws, rfl, hW10, hG, SqL.of hw10, wb2, fun _ sm H11 hws hsm t11 => ?_, fun h => absurd (by omega) h⟩
    refine nm ?_
    dsimp only
    have hw11 := t11 _ _ hw10
    have t911 := t10.trans t11
    refine ⟨_, rfl, _, rfl, wA, rfl, ⟨_, SqL.of hw11⟩, lc_list (K := K) (a := wA) (xs := IL ws) (fun i zs H12 => H12 = H11 ∧ zs = IL ((ws.take i).map (· * nu))) ⟨rfl, rfl⟩ (small60' (by rw [il_length]; omega)) (fun i zs H12 hi ⟨e, ez⟩ => ⟨e ▸ SqL.of hw11, by rw [ez, il_length, List.length_map, List.length_take]; exact Nat.min_le_left _ _⟩) ?_ ?_⟩
    · rintro i v zs H12 hi ⟨rfl, rfl⟩ SS hSS
      obtain ⟨y, rfl, hy⟩ := il_get hi
      have yb := wb y (List.mem_of_getElem? hy)
      refine nm ?_
      refine ⟨_, rfl, _, rfl, _, _, rfl, rfl, ⟨Nat.lt_of_le_of_lt yb (Nat.pow_lt_pow_right (by decide) (by decide)), Nat.lt_of_le_of_lt mb (Nat.pow_lt_pow_right (by decide) (by decide))⟩, hSS _ _ ⟨rfl, ?_⟩⟩
      rw [List.take_succ, hy]
      show _ = IL ((ws.take i ++ [y]).map (· * nu))
      rw [List.map_append]
      exact (il_snoc ..).symm
    rintro zs H12 ⟨rfl, rfl⟩ vA hvA
    rw [il_length, List.take_length]
    have t12 := same_at (o := .lst (IL (ws.map (· * nu)))) hvA
    have hv := upd_same (H := H12) (a := vA) (o := .lst (IL (ws.map (· * nu))))
    generalize upd H12 vA (.lst (IL (ws.map (· * nu)))) = H13 at *
    refine ⟨x, vA, n, ps, false, _, rfl, (hW10.same t11).same t12, hG, SqL.of hv, fun y hy => ?_, fun _ sm2 H14 hws2 _ t14 => ?_, fun h => absurd (by rw [List.length_map]; omega) h⟩
    · obtain ⟨u, hu, rfl⟩ := List.mem_map.mp hy
      rw [Int.natAbs_mul]
      refine Nat.le_trans (Nat.mul_le_mul (wb u hu) mb) ?_
      rw [← Nat.pow_add]
      exact Nat.pow_le_pow_right (by decide) (by decide)
    obtain rfl : sm2 = sm * nu ^ (n - 1).toNat := hws2.uniq (ws_scale nu (by omega) hws)
    refine ⟨_, rfl, _, rfl, _, rfl, _, _, rfl, rfl, nu, (n - 1).toNat, (by rw [Int.toNat_of_nonneg (by omega)]; rfl), mb, by omega, ?_⟩
    have b2 : (nu ^ (n - 1).toNat).natAbs < 2 ^ 9000 := by
      rw [Int.natAbs_pow]
      refine Nat.lt_of_le_of_lt (Nat.pow_le_pow_left mb _) ?_
      rw [← Nat.pow_mul]
      exact Nat.pow_lt_pow_right (by decide) (by omega)
    refine ⟨_, _, rfl, rfl, ⟨hsm, b2⟩, rfl, _, rfl, ?_⟩
    rw [dec_int]
    refine itn2 (fun _ => ?_) (fun h => absurd rfl h)
    have t914 := t911.trans (t12.trans t14)
    have hW14 := hW9.same t914
    have hl14 := t914 _ _ hl9
    have hP14 := hP9.same t914
    clear hw10 hw11 hv hws hws2 t10 t11 t12 t14 t911 hW10
    -- place
    refine ⟨_, rfl, _, rfl, _, _, rfl, rfl, (by show (0 : Int) < n; omega), ?_⟩
    have z0 : 0 ≤ tot % n := Int.emod_nonneg _ (by omega)
    have z1 : tot % n < n := Int.emod_lt_of_pos _ (by omega)
    obtain ⟨pl, hpl⟩ : ∃ pl : Int, pl = tot % n := ⟨_, rfl⟩
    refine nm ?_
    dsimp only
    show tSeq _ _ _ ((([some (.ref a), some (.int n), some (.ref l), some (.ref x), some (.int tot), some (.int nu), some (.int (L.length : Int)), some (.ref fA), some (.ref wA), some (.int sm), none, none] : List (Option V))).set 10 (some (.int (tot % n)))) _
    rw [← hpl] at z0 z1 ⊢
    clear hpl
    refine ⟨_, rfl, l, xs, rfl, .inl (SqL.of hl14), _, rfl, by omega, by omega, lc_range (lo := 0) (n := (xs.length : Int).toNat) (fun j zs H6 => H6 = H14 ∧ zs = IL (atE ps pl j)) ⟨rfl, rfl⟩ (small60' (by omega)) (fun j zs H6 _ ⟨_, e⟩ => by rw [e, il_length]; exact (atE_set ps _ j).len) ?_ ?_⟩
    · rintro j zs H6 hj ⟨rfl, rfl⟩ SS hSS
      obtain ⟨p, hp⟩ : ∃ p, ps[j]? = some p := ⟨_, List.getElem?_eq_getElem (by omega)⟩
      obtain ⟨vv, hvv, tt, rfl, htt⟩ := hP14.2 _ p hp
      have ep : ps.getD j (0, 0) = p := by rw [List.getD_eq_getElem?_getD, hp]; rfl
      have no : ¬ (pl ∈ [p.1, p.2] ∧ p.1 ≠ p.2) → IL (atE ps pl j) = IL (atE ps pl (j + 1)) := fun h => by
        show _ = IL (if _ then _ else _)
        rw [ep, if_neg h]
      refine nm ?_
      refine ⟨_, rfl, _, rfl, _, rfl, l, xs, _, .ref tt, rfl, rfl, SqL.of hl14, atI_of (n := j) (by omega) hvv, tt, [.int p.1, .int p.2], rfl, .inr (SqT.of htt), rfl, flat_ints [p.1, p.2], _, rfl, ?_⟩
      rw [show inV (.int pl) [.int p.1, .int p.2] = decide (pl ∈ [p.1, p.2]) from inV_ints _ [p.1, p.2]]
      refine itd2 (fun hin => ?_) (fun hin => ?_)
      rotate_left
      · exact hSS _ _ ⟨rfl, no fun h => hin h.1⟩
      refine ⟨_, rfl, _, rfl, l, xs, _, .ref tt, rfl, rfl, SqL.of hl14, atI_of (n := j) (by omega) hvv, tt, _, 0, .int p.1, rfl, rfl, SqT.of htt, rfl, _, rfl, _, rfl, l, xs, _, .ref tt, rfl, rfl, SqL.of hl14, atI_of (n := j) (by omega) hvv, tt, _, 1, .int p.2, rfl, rfl, SqT.of htt, rfl, rfl, _, rfl, ?_⟩
      rw [dec_int]
      refine itn2 (fun he => ?_) (fun he => ?_)
      · exact hSS _ _ ⟨rfl, no fun h => h.2 he⟩
      · refine ⟨_, rfl, hSS _ _ ⟨rfl, ?_⟩⟩
        show _ = IL (if _ then _ else _)
        rw [ep, if_pos ⟨hin, he⟩, Int.zero_add (j : Int)]
        exact (il_snoc ..).symm
    rintro zs H6 ⟨rfl, rfl⟩ eA heA
    rw [Int.toNat_natCast, hps]
    have t15 := same_at (o := .lst (IL (atE ps pl ps.length))) heA
    have he := upd_same (H := H6) (a := eA) (o := .lst (IL (atE ps pl ps.length)))
    generalize upd H6 eA (.lst (IL (atE ps pl ps.length))) = H15 at *
    have hW15 := hW14.same t15
    refine nm ?_
    dsimp only
    refine ⟨_, rfl, _, rfl, x, n, ps, pl, rfl, hW15, hG, by omega, by omega, fun _ => ⟨L, k1, k2', fun r1 H16 t16 hr1 => ?_⟩, fun h => absurd (by omega) h⟩
    refine ⟨_, rfl, _, rfl, x, eA, n, ps, false, _, rfl, hW15.same t16, hG, SqL.of (t16 _ _ he), fun _ => ⟨L, k1, k2', fun r2 H17 t17 hr2 => ?_⟩, fun h => absurd (atE_set ps pl ps.length) h⟩
    refine ⟨1, _, r1, r2, rfl, rfl, by decide, eqd_tints (SqT.of (t17 _ _ hr1)) (SqT.of hr2), ?_⟩
    rw [decide_eq_true rfl]
    exact k _
end
end My
namespace My
open PySem L2
theorem law_binds {K : PySem.W.Frag} {f : Addr} {fd : FuncData} (F : Fun K "law" "law" s_law f fd) (s : Shared) (u : Value) : BindsTo s fd ⟨[u], []⟩ [("script", u)] := by
  obtain ⟨oc, od, kV, doc, pm, an, cdv, ct, osl, rfl, lk, hcd⟩ := F.ex
  exact .of_eq rfl
end My
open PySem PySem.W PyProof.Rows
set_option maxRecDepth 100000 in
set_option maxHeartbeats 0 in
theorem PySem.Challenge.cw_spanrow_k73_whole_sums_meet_holds : PySem.Challenge.rw_spanrow_k73_whole_sums_meet.Holds := by
  w_on; o_law; k_head; (case hw => w_witness2)
  k_fill
  refine L2.walk_ofK (l := PySem.Challenge.rw_spanrow_k73_whole_sums_meet) (n := 63) (k := 13) (x := "script") (CX := L2.CX0) (sp := My.sp_law) rfl (by decide) rfl ⟨rfl, by decide, by decide⟩ (fun w h Y => PySem.W.kIn_of Y) ?F (fun _ H a ns hl _ hS => ⟨a, ns, rfl, hS, hl, fun _ => rfl⟩) (fun _ _ _ _ z => z)
  case F =>
    intro w mg fa h KX G hmg
    have h_refuse_not_square : My.FX (L2.KOf KX) mg "refuse_not_square" "refuse_not_square" My.s_refuse_not_square := by
      dsimp only [L2.KOf]
      refine' My.fx_mk KX G ?a ?l ?c ?k
      (case a => k_is); (case l => k_is); (case c => k_is); (case k => k_is)
    have h_row_taken_off : My.FX (L2.KOf KX) mg "row_taken_off" "row_taken_off" My.s_row_taken_off := by
      dsimp only [L2.KOf]
      refine' My.fx_mk KX G ?a ?l ?c ?k
      (case a => k_is); (case l => k_is); (case c => k_is); (case k => k_is)
    have h_first_with_some : My.FX (L2.KOf KX) mg "first_with_some" "first_with_some" My.s_first_with_some := by
      dsimp only [L2.KOf]
      refine' My.fx_mk KX G ?a ?l ?c ?k
      (case a => k_is); (case l => k_is); (case c => k_is); (case k => k_is)
    have h_determinant : My.FX (L2.KOf KX) mg "determinant" "determinant" My.s_determinant := by
      dsimp only [L2.KOf]
      refine' My.fx_mk KX G ?a ?l ?c ?k
      (case a => k_is); (case l => k_is); (case c => k_is); (case k => k_is)
    have h_row_without : My.FX (L2.KOf KX) mg "row_without" "row_without" My.s_row_without := by
      dsimp only [L2.KOf]
      refine' My.fx_mk KX G ?a ?l ?c ?k
      (case a => k_is); (case l => k_is); (case c => k_is); (case k => k_is)
    have h_table_without : My.FX (L2.KOf KX) mg "table_without" "table_without" My.s_table_without := by
      dsimp only [L2.KOf]
      refine' My.fx_mk KX G ?a ?l ?c ?k
      (case a => k_is); (case l => k_is); (case c => k_is); (case k => k_is)
    have h_refuse_bad_web : My.FX (L2.KOf KX) mg "refuse_bad_web" "refuse_bad_web" My.s_refuse_bad_web := by
      dsimp only [L2.KOf]
      refine' My.fx_mk KX G ?a ?l ?c ?k
      (case a => k_is); (case l => k_is); (case c => k_is); (case k => k_is)
    have h_is_place : My.FX (L2.KOf KX) mg "is_place" "is_place" My.s_is_place := by
      dsimp only [L2.KOf]
      refine' My.fx_mk KX G ?a ?l ?c ?k
      (case a => k_is); (case l => k_is); (case c => k_is); (case k => k_is)
    have h_is_tie : My.FX (L2.KOf KX) mg "is_tie" "is_tie" My.s_is_tie := by
      dsimp only [L2.KOf]
      refine' My.fx_mk KX G ?a ?l ?c ?k
      (case a => k_is); (case l => k_is); (case c => k_is); (case k => k_is)
    have h_is_set : My.FX (L2.KOf KX) mg "is_set" "is_set" My.s_is_set := by
      dsimp only [L2.KOf]
      refine' My.fx_mk KX G ?a ?l ?c ?k
      (case a => k_is); (case l => k_is); (case c => k_is); (case k => k_is)
    have h_made_set : My.FX (L2.KOf KX) mg "made_set" "made_set" My.s_made_set := by
      dsimp only [L2.KOf]
      refine' My.fx_mk KX G ?a ?l ?c ?k
      (case a => k_is); (case l => k_is); (case c => k_is); (case k => k_is)
    have h_refuse_bad_row : My.FX (L2.KOf KX) mg "refuse_bad_row" "refuse_bad_row" My.s_refuse_bad_row := by
      dsimp only [L2.KOf]
      refine' My.fx_mk KX G ?a ?l ?c ?k
      (case a => k_is); (case l => k_is); (case c => k_is); (case k => k_is)
    have h_weighted_table : My.FX (L2.KOf KX) mg "weighted_table" "weighted_table" My.s_weighted_table := by
      dsimp only [L2.KOf]
      refine' My.fx_mk KX G ?a ?l ?c ?k
      (case a => k_is); (case l => k_is); (case c => k_is); (case k => k_is)
    have h_pull_table : My.FX (L2.KOf KX) mg "pull_table" "pull_table" My.s_pull_table := by
      dsimp only [L2.KOf]
      refine' My.fx_mk KX G ?a ?l ?c ?k
      (case a => k_is); (case l => k_is); (case c => k_is); (case k => k_is)
    have h_tree_count : My.FX (L2.KOf KX) mg "tree_count" "tree_count" My.s_tree_count := by
      dsimp only [L2.KOf]
      refine' My.fx_mk KX G ?a ?l ?c ?k
      (case a => k_is); (case l => k_is); (case c => k_is); (case k => k_is)
    have h_tree_sum : My.FX (L2.KOf KX) mg "tree_sum" "tree_sum" My.s_tree_sum := by
      dsimp only [L2.KOf]
      refine' My.fx_mk KX G ?a ?l ?c ?k
      (case a => k_is); (case l => k_is); (case c => k_is); (case k => k_is)
    have h_factors_of : My.FX (L2.KOf KX) mg "factors_of" "factors_of" My.s_factors_of := by
      dsimp only [L2.KOf]
      refine' My.fx_mk KX G ?a ?l ?c ?k
      (case a => k_is); (case l => k_is); (case c => k_is); (case k => k_is)
    have h_sorts_of : My.FX (L2.KOf KX) mg "sorts_of" "sorts_of" My.s_sorts_of := by
      dsimp only [L2.KOf]
      refine' My.fx_mk KX G ?a ?l ?c ?k
      (case a => k_is); (case l => k_is); (case c => k_is); (case k => k_is)
    have h_sorts_at : My.FX (L2.KOf KX) mg "sorts_at" "sorts_at" My.s_sorts_at := by
      dsimp only [L2.KOf]
      refine' My.fx_mk KX G ?a ?l ?c ?k
      (case a => k_is); (case l => k_is); (case c => k_is); (case k => k_is)
    have h_forest_sum : My.FX (L2.KOf KX) mg "forest_sum" "forest_sum" My.s_forest_sum := by
      dsimp only [L2.KOf]
      refine' My.fx_mk KX G ?a ?l ?c ?k
      (case a => k_is); (case l => k_is); (case c => k_is); (case k => k_is)
    have h_rooted_forests : My.FX (L2.KOf KX) mg "rooted_forests" "rooted_forests" My.s_rooted_forests := by
      dsimp only [L2.KOf]
      refine' My.fx_mk KX G ?a ?l ?c ?k
      (case a => k_is); (case l => k_is); (case c => k_is); (case k => k_is)
    have h_law_cell : My.FX (L2.KOf KX) mg "_law_cell" "_law_cell" My.s_law_cell := by
      dsimp only [L2.KOf]
      refine' My.fx_mk KX G ?a ?l ?c ?k
      (case a => k_is); (case l => k_is); (case c => k_is); (case k => k_is)
    have h_law_mixed : My.FX (L2.KOf KX) mg "_law_mixed" "_law_mixed" My.s_law_mixed := by
      dsimp only [L2.KOf]
      refine' My.fx_mk KX G ?a ?l ?c ?k
      (case a => k_is); (case l => k_is); (case c => k_is); (case k => k_is)
    have h_law_draws : My.FX (L2.KOf KX) mg "_law_draws" "_law_draws" My.s_law_draws := by
      dsimp only [L2.KOf]
      refine' My.fx_mk KX G ?a ?l ?c ?k
      (case a => k_is); (case l => k_is); (case c => k_is); (case k => k_is)
    have h_law_ties : My.FX (L2.KOf KX) mg "_law_ties" "_law_ties" My.s_law_ties := by
      dsimp only [L2.KOf]
      refine' My.fx_mk KX G ?a ?l ?c ?k
      (case a => k_is); (case l => k_is); (case c => k_is); (case k => k_is)
    have h_law_web : My.FX (L2.KOf KX) mg "_law_web" "_law_web" My.s_law_web := by
      dsimp only [L2.KOf]
      refine' My.fx_mk KX G ?a ?l ?c ?k
      (case a => k_is); (case l => k_is); (case c => k_is); (case k => k_is)
    have h_law_some : My.FX (L2.KOf KX) mg "_law_some" "_law_some" My.s_law_some := by
      dsimp only [L2.KOf]
      refine' My.fx_mk KX G ?a ?l ?c ?k
      (case a => k_is); (case l => k_is); (case c => k_is); (case k => k_is)
    have h_law_weights : My.FX (L2.KOf KX) mg "_law_weights" "_law_weights" My.s_law_weights := by
      dsimp only [L2.KOf]
      refine' My.fx_mk KX G ?a ?l ?c ?k
      (case a => k_is); (case l => k_is); (case c => k_is); (case k => k_is)
    have h_law_power : My.FX (L2.KOf KX) mg "_law_power" "_law_power" My.s_law_power := by
      dsimp only [L2.KOf]
      refine' My.fx_mk KX G ?a ?l ?c ?k
      (case a => k_is); (case l => k_is); (case c => k_is); (case k => k_is)
    have h_law_sorts_good : My.FX (L2.KOf KX) mg "_law_sorts_good" "_law_sorts_good" My.s_law_sorts_good := by
      dsimp only [L2.KOf]
      refine' My.fx_mk KX G ?a ?l ?c ?k
      (case a => k_is); (case l => k_is); (case c => k_is); (case k => k_is)
    have h_law_forests_good : My.FX (L2.KOf KX) mg "_law_forests_good" "_law_forests_good" My.s_law_forests_good := by
      dsimp only [L2.KOf]
      refine' My.fx_mk KX G ?a ?l ?c ?k
      (case a => k_is); (case l => k_is); (case c => k_is); (case k => k_is)
    have h_law : My.FX (L2.KOf KX) mg "law" "law" My.s_law := by
      dsimp only [L2.KOf]
      refine' My.fx_mk KX G ?a ?l ?c ?k
      (case a => k_is); (case l => k_is); (case c => k_is); (case k => k_is)
    have h_Web : My.CXF (L2.KOf KX) mg "Web" "Web.__init__" My.s_Web___init ["places", "ties"] := by
      dsimp only [L2.KOf]
      refine' My.cx_mk KX G ?aC ?a ?i ?l ?c ?k ?pg ?hd ?po ?sa ?mk ?kc ?na
      (case aC => k_is); (case a => k_is); (case i => k_is); (case l => k_is); (case c => k_is); (case k => k_is)
      (case pg => k_is); (case hd => k_is); (case po => k_is); (case sa => k_is); (case mk => k_is); (case kc => k_is)
      (case na => (intro f hf; simp only [List.mem_cons, List.not_mem_nil, or_false] at hf; rcases hf with rfl | rfl <;> k_is))
    have hX : ∃ A_WebError A_NotSquare A_BadRow A_BadSet A_NoSuch : Addr, mg "WebError" = some (.ref A_WebError) ∧ mg "NotSquare" = some (.ref A_NotSquare) ∧ mg "BadRow" = some (.ref A_BadRow) ∧ mg "BadSet" = some (.ref A_BadSet) ∧ mg "NoSuch" = some (.ref A_NoSuch) ∧ L2.XCls (L2.KOf KX) (A_NotSquare) ∧ L2.XCls (L2.KOf KX) (A_BadRow) ∧ L2.XCls (L2.KOf KX) (A_BadSet) ∧ L2.XCls (L2.KOf KX) (A_NoSuch) ∧ PySem.W.exmOne (L2.KOf KX) (.ref (A_NotSquare)) (.ref (A_WebError)) = some true ∧ PySem.W.exmOne (L2.KOf KX) (.ref (A_BadRow)) (.ref (A_WebError)) = some true ∧ PySem.W.exmOne (L2.KOf KX) (.ref (A_BadSet)) (.ref (A_WebError)) = some true ∧ PySem.W.exmOne (L2.KOf KX) (.ref (A_NoSuch)) (.ref (A_WebError)) = some true := by
      dsimp only [L2.KOf]
      refine' My.xI (My.xI (My.xI (My.xI (My.xI (⟨PySem.W.mg_of KX G ?m_WebError, PySem.W.mg_of KX G ?m_NotSquare, PySem.W.mg_of KX G ?m_BadRow, PySem.W.mg_of KX G ?m_BadSet, PySem.W.mg_of KX G ?m_NoSuch, ⟨?x_NotSquare_ex, ?x_NotSquare_ga, ?x_NotSquare_gh, ?x_NotSquare_cl, ?x_NotSquare_ob, ?x_NotSquare_bx⟩, ⟨?x_BadRow_ex, ?x_BadRow_ga, ?x_BadRow_gh, ?x_BadRow_cl, ?x_BadRow_ob, ?x_BadRow_bx⟩, ⟨?x_BadSet_ex, ?x_BadSet_ga, ?x_BadSet_gh, ?x_BadSet_cl, ?x_BadSet_ob, ?x_BadSet_bx⟩, ⟨?x_NoSuch_ex, ?x_NoSuch_ga, ?x_NoSuch_gh, ?x_NoSuch_cl, ?x_NoSuch_ob, ?x_NoSuch_bx⟩, ?em_NotSquare, ?em_BadRow, ?em_BadSet, ?em_NoSuch⟩)))))
      (case m_WebError => k_is)
      (case m_NotSquare => k_is)
      (case m_BadRow => k_is)
      (case m_BadSet => k_is)
      (case m_NoSuch => k_is)
      (case x_NotSquare_ex => k_exc); (case x_NotSquare_ga => k_is); (case x_NotSquare_gh => k_is); (case x_NotSquare_cl => k_is); (case x_NotSquare_ob => k_is); (case x_NotSquare_bx => k_is)
      (case x_BadRow_ex => k_exc); (case x_BadRow_ga => k_is); (case x_BadRow_gh => k_is); (case x_BadRow_cl => k_is); (case x_BadRow_ob => k_is); (case x_BadRow_bx => k_is)
      (case x_BadSet_ex => k_exc); (case x_BadSet_ga => k_is); (case x_BadSet_gh => k_is); (case x_BadSet_cl => k_is); (case x_BadSet_ob => k_is); (case x_BadSet_bx => k_is)
      (case x_NoSuch_ex => k_exc); (case x_NoSuch_ga => k_is); (case x_NoSuch_gh => k_is); (case x_NoSuch_cl => k_is); (case x_NoSuch_ob => k_is); (case x_NoSuch_bx => k_is)
      (case em_NotSquare => kts_exm)
      (case em_BadRow => kts_exm)
      (case em_BadSet => kts_exm)
      (case em_NoSuch => kts_exm)
    have h_MOST_PLACES : ∃ tk, mg "MOST_PLACES" = some (.int 14 tk) := by
      refine' My.const_mk KX G ?a ?b
      (case a => k_is); (case b => exact ⟨_, rfl⟩)
    have h_MOST_TIES : ∃ tk, mg "MOST_TIES" = some (.int 30 tk) := by
      refine' My.const_mk KX G ?a ?b
      (case a => k_is); (case b => exact ⟨_, rfl⟩)
    have h_enumerate : mg "enumerate" = none := by
      refine' PySem.W.mg_none_of KX G ?a
      (case a => k_is)
    have h_len : mg "len" = none := by
      refine' PySem.W.mg_none_of KX G ?a
      (case a => k_is)
    have h_list : mg "list" = none := by
      refine' PySem.W.mg_none_of KX G ?a
      (case a => k_is)
    have h_max : mg "max" = none := by
      refine' PySem.W.mg_none_of KX G ?a
      (case a => k_is)
    have h_min : mg "min" = none := by
      refine' PySem.W.mg_none_of KX G ?a
      (case a => k_is)
    have h_range : mg "range" = none := by
      refine' PySem.W.mg_none_of KX G ?a
      (case a => k_is)
    have h_reversed : mg "reversed" = none := by
      refine' PySem.W.mg_none_of KX G ?a
      (case a => k_is)
    have h_sum : mg "sum" = none := by
      refine' PySem.W.mg_none_of KX G ?a
      (case a => k_is)
    have h_tuple : mg "tuple" = none := by
      refine' PySem.W.mg_none_of KX G ?a
      (case a => k_is)
    have h_zip : mg "zip" = none := by
      refine' PySem.W.mg_none_of KX G ?a
      (case a => k_is)
    obtain ⟨a_refuse_not_square, d_refuse_not_square, m_refuse_not_square, f_refuse_not_square⟩ := h_refuse_not_square
    obtain ⟨a_row_taken_off, d_row_taken_off, m_row_taken_off, f_row_taken_off⟩ := h_row_taken_off
    obtain ⟨a_first_with_some, d_first_with_some, m_first_with_some, f_first_with_some⟩ := h_first_with_some
    obtain ⟨a_determinant, d_determinant, m_determinant, f_determinant⟩ := h_determinant
    obtain ⟨a_row_without, d_row_without, m_row_without, f_row_without⟩ := h_row_without
    obtain ⟨a_table_without, d_table_without, m_table_without, f_table_without⟩ := h_table_without
    obtain ⟨a_refuse_bad_web, d_refuse_bad_web, m_refuse_bad_web, f_refuse_bad_web⟩ := h_refuse_bad_web
    obtain ⟨a_is_place, d_is_place, m_is_place, f_is_place⟩ := h_is_place
    obtain ⟨a_is_tie, d_is_tie, m_is_tie, f_is_tie⟩ := h_is_tie
    obtain ⟨a_is_set, d_is_set, m_is_set, f_is_set⟩ := h_is_set
    obtain ⟨a_made_set, d_made_set, m_made_set, f_made_set⟩ := h_made_set
    obtain ⟨a_refuse_bad_row, d_refuse_bad_row, m_refuse_bad_row, f_refuse_bad_row⟩ := h_refuse_bad_row
    obtain ⟨a_weighted_table, d_weighted_table, m_weighted_table, f_weighted_table⟩ := h_weighted_table
    obtain ⟨a_pull_table, d_pull_table, m_pull_table, f_pull_table⟩ := h_pull_table
    obtain ⟨a_tree_count, d_tree_count, m_tree_count, f_tree_count⟩ := h_tree_count
    obtain ⟨a_tree_sum, d_tree_sum, m_tree_sum, f_tree_sum⟩ := h_tree_sum
    obtain ⟨a_factors_of, d_factors_of, m_factors_of, f_factors_of⟩ := h_factors_of
    obtain ⟨a_sorts_of, d_sorts_of, m_sorts_of, f_sorts_of⟩ := h_sorts_of
    obtain ⟨a_sorts_at, d_sorts_at, m_sorts_at, f_sorts_at⟩ := h_sorts_at
    obtain ⟨a_forest_sum, d_forest_sum, m_forest_sum, f_forest_sum⟩ := h_forest_sum
    obtain ⟨a_rooted_forests, d_rooted_forests, m_rooted_forests, f_rooted_forests⟩ := h_rooted_forests
    obtain ⟨a_law_cell, d_law_cell, m_law_cell, f_law_cell⟩ := h_law_cell
    obtain ⟨a_law_mixed, d_law_mixed, m_law_mixed, f_law_mixed⟩ := h_law_mixed
    obtain ⟨a_law_draws, d_law_draws, m_law_draws, f_law_draws⟩ := h_law_draws
    obtain ⟨a_law_ties, d_law_ties, m_law_ties, f_law_ties⟩ := h_law_ties
    obtain ⟨a_law_web, d_law_web, m_law_web, f_law_web⟩ := h_law_web
    obtain ⟨a_law_some, d_law_some, m_law_some, f_law_some⟩ := h_law_some
    obtain ⟨a_law_weights, d_law_weights, m_law_weights, f_law_weights⟩ := h_law_weights
    obtain ⟨a_law_power, d_law_power, m_law_power, f_law_power⟩ := h_law_power
    obtain ⟨a_law_sorts_good, d_law_sorts_good, m_law_sorts_good, f_law_sorts_good⟩ := h_law_sorts_good
    obtain ⟨a_law_forests_good, d_law_forests_good, m_law_forests_good, f_law_forests_good⟩ := h_law_forests_good
    obtain ⟨a_law, d_law, m_law, f_law⟩ := h_law
    obtain ⟨A_Web, a_Web___init, d_Web___init, c_Web, f_Web___init, cl_Web, k_Web, na_Web⟩ := h_Web
    obtain ⟨A_WebError, A_NotSquare, A_BadRow, A_BadSet, A_NoSuch, c_WebError, c_NotSquare, c_BadRow, c_BadSet, c_NoSuch, x_NotSquare, x_BadRow, x_BadSet, x_NoSuch, em_NotSquare, em_BadRow, em_BadSet, em_NoSuch⟩ := hX
    have T : My.Txt (L2.KOf KX) mg ⟨a_refuse_not_square, d_refuse_not_square, a_row_taken_off, d_row_taken_off, a_first_with_some, d_first_with_some, a_determinant, d_determinant, a_row_without, d_row_without, a_table_without, d_table_without, a_refuse_bad_web, d_refuse_bad_web, a_Web___init, d_Web___init, a_is_place, d_is_place, a_is_tie, d_is_tie, a_is_set, d_is_set, a_made_set, d_made_set, a_refuse_bad_row, d_refuse_bad_row, a_weighted_table, d_weighted_table, a_pull_table, d_pull_table, a_tree_count, d_tree_count, a_tree_sum, d_tree_sum, a_factors_of, d_factors_of, a_sorts_of, d_sorts_of, a_sorts_at, d_sorts_at, a_forest_sum, d_forest_sum, a_rooted_forests, d_rooted_forests, a_law_cell, d_law_cell, a_law_mixed, d_law_mixed, a_law_draws, d_law_draws, a_law_ties, d_law_ties, a_law_web, d_law_web, a_law_some, d_law_some, a_law_weights, d_law_weights, a_law_power, d_law_power, a_law_sorts_good, d_law_sorts_good, a_law_forests_good, d_law_forests_good, a_law, d_law, A_Web, A_WebError, A_NotSquare, A_BadRow, A_BadSet, A_NoSuch⟩ := ⟨f_refuse_not_square, f_refuse_not_square.binds (fun _ _ _ _ _ _ us hl => by obtain ⟨_, rfl⟩ := My.len1 hl; rfl), m_refuse_not_square, f_row_taken_off, f_row_taken_off.binds (fun _ _ _ _ _ _ us hl => by obtain ⟨_, _, _, rfl⟩ := My.len3 hl; rfl), m_row_taken_off, f_first_with_some, f_first_with_some.binds (fun _ _ _ _ _ _ us hl => by obtain ⟨_, rfl⟩ := My.len1 hl; rfl), m_first_with_some, f_determinant, f_determinant.binds (fun _ _ _ _ _ _ us hl => by obtain ⟨_, rfl⟩ := My.len1 hl; rfl), m_determinant, f_row_without, f_row_without.binds (fun _ _ _ _ _ _ us hl => by obtain ⟨_, _, rfl⟩ := My.len2 hl; rfl), m_row_without, f_table_without, f_table_without.binds (fun _ _ _ _ _ _ us hl => by obtain ⟨_, _, rfl⟩ := My.len2 hl; rfl), m_table_without, f_refuse_bad_web, f_refuse_bad_web.binds (fun _ _ _ _ _ _ us hl => by obtain ⟨_, _, rfl⟩ := My.len2 hl; rfl), m_refuse_bad_web, f_Web___init, f_Web___init.binds (fun _ _ _ _ _ _ us hl => by obtain ⟨_, _, _, rfl⟩ := My.len3 hl; rfl), f_is_place, f_is_place.binds (fun _ _ _ _ _ _ us hl => by obtain ⟨_, _, rfl⟩ := My.len2 hl; rfl), m_is_place, f_is_tie, f_is_tie.binds (fun _ _ _ _ _ _ us hl => by obtain ⟨_, _, rfl⟩ := My.len2 hl; rfl), m_is_tie, f_is_set, f_is_set.binds (fun _ _ _ _ _ _ us hl => by obtain ⟨_, _, rfl⟩ := My.len2 hl; rfl), m_is_set, f_made_set, f_made_set.binds (fun _ _ _ _ _ _ us hl => by obtain ⟨_, _, rfl⟩ := My.len2 hl; rfl), m_made_set, f_refuse_bad_row, f_refuse_bad_row.binds (fun _ _ _ _ _ _ us hl => by obtain ⟨_, _, rfl⟩ := My.len2 hl; rfl), m_refuse_bad_row, f_weighted_table, f_weighted_table.binds (fun _ _ _ _ _ _ us hl => by obtain ⟨_, _, rfl⟩ := My.len2 hl; rfl), m_weighted_table, f_pull_table, f_pull_table.binds (fun _ _ _ _ _ _ us hl => by obtain ⟨_, rfl⟩ := My.len1 hl; rfl), m_pull_table, f_tree_count, f_tree_count.binds (fun _ _ _ _ _ _ us hl => by obtain ⟨_, rfl⟩ := My.len1 hl; rfl), m_tree_count, f_tree_sum, f_tree_sum.binds (fun _ _ _ _ _ _ us hl => by obtain ⟨_, _, rfl⟩ := My.len2 hl; rfl), m_tree_sum, f_factors_of, f_factors_of.binds (fun _ _ _ _ _ _ us hl => by obtain ⟨_, _, _, rfl⟩ := My.len3 hl; rfl), m_factors_of, f_sorts_of, f_sorts_of.binds (fun _ _ _ _ _ _ us hl => by obtain ⟨_, _, rfl⟩ := My.len2 hl; rfl), m_sorts_of, f_sorts_at, f_sorts_at.binds (fun _ _ _ _ _ _ us hl => by obtain ⟨_, _, rfl⟩ := My.len2 hl; rfl), m_sorts_at, f_forest_sum, f_forest_sum.binds (fun _ _ _ _ _ _ us hl => by obtain ⟨_, _, rfl⟩ := My.len2 hl; rfl), m_forest_sum, f_rooted_forests, f_rooted_forests.binds (fun _ _ _ _ _ _ us hl => by obtain ⟨_, rfl⟩ := My.len1 hl; rfl), m_rooted_forests, f_law_cell, f_law_cell.binds (fun _ _ _ _ _ _ us hl => by obtain ⟨_, _, rfl⟩ := My.len2 hl; rfl), m_law_cell, f_law_mixed, f_law_mixed.binds (fun _ _ _ _ _ _ us hl => by obtain ⟨_, _, rfl⟩ := My.len2 hl; rfl), m_law_mixed, f_law_draws, f_law_draws.binds (fun _ _ _ _ _ _ us hl => by obtain ⟨_, _, _, _, rfl⟩ := My.len4 hl; rfl), m_law_draws, f_law_ties, f_law_ties.binds (fun _ _ _ _ _ _ us hl => by obtain ⟨_, _, _, rfl⟩ := My.len3 hl; rfl), m_law_ties, f_law_web, f_law_web.binds (fun _ _ _ _ _ _ us hl => by obtain ⟨_, _, _, rfl⟩ := My.len3 hl; rfl), m_law_web, f_law_some, f_law_some.binds (fun _ _ _ _ _ _ us hl => by obtain ⟨_, _, rfl⟩ := My.len2 hl; rfl), m_law_some, f_law_weights, f_law_weights.binds (fun _ _ _ _ _ _ us hl => by obtain ⟨_, _, rfl⟩ := My.len2 hl; rfl), m_law_weights, f_law_power, f_law_power.binds (fun _ _ _ _ _ _ us hl => by obtain ⟨_, _, rfl⟩ := My.len2 hl; rfl), m_law_power, f_law_sorts_good, f_law_sorts_good.binds (fun _ _ _ _ _ _ us hl => match us, hl with | [_, _, _, _, _, _], _ => rfl), m_law_sorts_good, f_law_forests_good, f_law_forests_good.binds (fun _ _ _ _ _ _ us hl => by obtain ⟨_, _, _, rfl⟩ := My.len3 hl; rfl), m_law_forests_good, f_law, f_law.binds (fun _ _ _ _ _ _ us hl => by obtain ⟨_, rfl⟩ := My.len1 hl; rfl), m_law, c_Web, cl_Web, k_Web, na_Web _ (by simp), na_Web _ (by simp), c_WebError, c_NotSquare, c_BadRow, c_BadSet, c_NoSuch, x_NotSquare, x_BadRow, x_BadSet, x_NoSuch, em_NotSquare, em_BadRow, em_BadSet, em_NoSuch, h_MOST_PLACES, h_MOST_TIES, h_enumerate, h_len, h_list, h_max, h_min, h_range, h_reversed, h_sum, h_tuple, h_zip⟩
    have e0 := hmg.symm.trans m_law
    cases e0
    exact ⟨d_law, fun s u => My.law_binds f_law s u, fun base _ _ => My.ok_law T⟩
#print axioms PySem.Challenge.cw_spanrow_k73_whole_sums_meet_holds
