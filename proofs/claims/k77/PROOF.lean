import PyProof.Rows.All
import Wide.All
import OpenK.AllK
import Wide.FinOn
import Lean
import PyProof.EqAt
import PyProof.EqKinds
import PyProof.TupleCall
import PySem.Challenge.RW_spanrow_k77_flat_or_not
set_option Elab.async false
set_option linter.all false
set_option maxRecDepth 100000
namespace PySem.W.Fast
def tw9709089584009591100:=0
def tw7773313902174223563:=0
def tw7159429064579037062:=0
def tw18297686571445690996:=0
def tw5329669731392198159:=0
def tw15722639936716672739:=0
def tw15679011066228798004:=0
def tw3129617090285162006:=0
def tw7343978702475263912:=0
def tw13350235949888075524:=0
def tw16691788816226955262:=0
def tw10888552207112791518:=0
def tw7897902961434498389:=0
def tw11345083575934079585:=0
def tw3622552153961746656:=0
def tw705504099948042253:=0
def tw16585072561693856841:=0
def tw11630586312076531780:=0
def tw17048621342922433846:=0
def tw13554903386603225270:=0
def tw3802107019329843021:=0
def tw12984542215971696921:=0
def tw1402199004931362497:=0
def tw3700082841124382291:=0
def tw4260317270593955968:=0
def tw5249064321488882955:=0
def tw8729185312978972982:=0
def tw2155039900154477290:=0
def tw14790276385024967579:=0
def tw6937951000891983316:=0
def tw7319883579037984020:=0
def tw18289473321827252118:=0
def tw1123860772876895636:=0
def tw301000493184847177:=0
def tw16933100607763463464:=0
def tw15579136565634849928:=0
def tw10914529190566864592:=0
def tw8657111429484454088:=0
def tw15892953532930474254:=0
def tw5809229318689512236:=0
def tw5084066942080338327:=0
def tw8514868865792225619:=0
def tw13463479433108444447:=0
def tw1282455651467750614:=0
def tw1884119494625471588:=0
def tw12201679279394800604:=0
def tw10100873187476005938:=0
def tw10609553121386721511:=0
def tw56361554303482258:=0
def tw18233281529059026190:=0
def tw1041982561896797634:=0
def tw14533004970917951457:=0
def tw5044052154800076605:=0
def tw16116823057596019498:=0
def tw546379030723446940:=0
def tw13368769435029208258:=0
def tw10505797755875578209:=0
def tw8099484189834196386:=0
def tw17215201412694337822:=0
def tw7438485920787736:=0
def tw18267571267474801579:=0
def tw12370695703745046434:=0
def tw8076780999722954024:=0
def tw2578578088469898767:=0
def tw7717506763906953367:=0
def tw2722846047274208890:=0
def tw7807779621572722088:=0
def tw7441779332461092502:=0
def tw2854016653349424442:=0
def tw5026795719037580881:=0
def tw12352947357305988007:=0
def tw1793323894424926688:=0
def tw10958742294784876376:=0
def tw9641008021592972447:=0
def tw7691739532349907825:=0
def tw14500027474807637453:=0
def tw16346952655903405394:=0
def tw6715923254434399894:=0
def tw14918918857165734285:=0
def tw5211272228159844764:=0
def tw2884342898066065047:=0
def tw4269147486753833777:=0
def tw12577010720234324296:=0
def tw3492812296080718463:=0
def tw5205149662933979212:=0
def tw9033480458081873982:=0
def tw4440844288026261516:=0
def tw12106633555611599292:=0
def tw14148137353419428983:=0
def tw11937269625878955604:=0
def tw9869896022433093710:=0
def tw998125725692479950:=0
def tw15927718825185226487:=0
def tw8748668205788236967:=0
def tw14529996306964401627:=0
def tw13240934394312178338:=0
def tw954722357760695651:=0
def tw15742789722122781226:=0
def tw10485369165784074517:=0
def tw72056453003235362:=0
def tw8320883564105878568:=0
def tw16431613085534958927:=0
def tw12028156878514485480:=0
def tw17296446491320528996:=0
def tw1621712547184544186:=0
def tw678770781829265915:=0
def tw16256988297308070058:=0
def tw8287891695695030758:=0
def tw17542024178641669778:=0
def tw14432749465566669839:=0
def tw5472515876633468792:=0
def tw6295050305010864879:=0
def tw12869015808529454562:=0
def tw15617273461417148525:=0
def tw14305806788664196709:=0
def tw8221339733883080810:=0
def tw4471749840115574812:=0
def tw4501031190654562257:=0
def tw125277574323662806:=0
def tw15548890186445519643:=0
def tw14991155741239795753:=0
def tw986293150776815934:=0
def tw16555174648140246251:=0
def tw14425153007402173036:=0
def tw8660482877036094455:=0
def tw4161690371042645773:=0
def tw13729738406419946555:=0
def tw1508759614675634286:=0
def tw14845938825448913033:=0
def tw15388388417257495963:=0
def tw6134141400972215420:=0
def tw1048444181114891509:=0
def tw6014645004486872816:=0
def tw2697671648420570210:=0
def tw10492611590796494109:=0
def tw6679129306272937293:=0
def tw2734280769104112362:=0
def tw14827174919774806289:=0
def tw2113825564563464509:=0
def tw11010092992145223897:=0
def tw6573838481186246023:=0
def tw16138150010990156376:=0
def tw16147502280107830291:=0
def tw8101504635243751368:=0
def tw3904207504769012421:=0
def tw2508771220993912611:=0
def tw18153078030621009886:=0
def tw1778538018270698980:=0
def tw5754135191849801272:=0
def tw9195748597985026928:=0
def tw5215469989144145058:=0
def tw2687815533173207535:=0
def tw12270001516073599540:=0
def tw8811449696162682420:=0
def tw16775532739474791492:=0
def tw13970241001013426811:=0
def tw3793458986808794206:=0
def tw16808401592481405390:=0
def tw2396561640072384500:=0
def tw10220890369169413107:=0
def tw13304743461174448124:=0
def tw4193318619434442377:=0
def tw13126930713601945491:=0
def tw1833835918110887248:=0
def tw9069533469882380123:=0
def tw12739616649651461928:=0
def tw517215379217213976:=0
def tw3348192995064474201:=0
def tw14313087407532850699:=0
def tw14241706843510872654:=0
def tw17721452373450684037:=0
def tw16522621523068624118:=0
def tw1519898971092553152:=0
def tw12674740588078060926:=0
def tw11468150135143109817:=0
def tw17976864977313702729:=0
def tw6654439156877957743:=0
def tw3356754748914671612:=0
def tw10715984036725890627:=0
def tw2019790412188527867:=0
def tw14947124671754574539:=0
def tw7803399467298875521:=0
def tw14081386542044384173:=0
def tw12491291796154144451:=0
def tw7214370882482644048:=0
def tw15245615112362889062:=0
def tw15227788281080885285:=0
def tw14778825392005405661:=0
def tw13644139468196757207:=0
def tw12260131703411771461:=0
def tw8963624869415955341:=0
def tw2693696417639713867:=0
def tw2403164659803030870:=0
def tw18145426069359162839:=0
def tw13066314464737420945:=0
def tw1959690280065629379:=0
def tw4879121169275584087:=0
def tw13085043995008336382:=0
def tw1073824811103175512:=0
def tw8130603061029745311:=0
def tw3825005819716782937:=0
def tw17531521905741900377:=0
def tw11674586794955507421:=0
def tw11147400757583488301:=0
def tw9902463432983891557:=0
def tw9751229045792932365:=0
def tw9557220858650958591:=0
def tw9392845754348477248:=0
def tw8809765241806543331:=0
def tw8633009069646333934:=0
def tw8173852675426310046:=0
def tw8050504534329521620:=0
def tw8004265796812224755:=0
def tw7514380906314685523:=0
def tw7006453826726891922:=0
def tw693521847116057160:=0
def tw6745869579586047749:=0
def tw653679217817690895:=0
def tw6123955241003483588:=0
def tw5593912900724830023:=0
def tw4864558515544432071:=0
def tw4780781614778522819:=0
def tw4637458253418871686:=0
def tw4112507107353981169:=0
def tw399470375604040809:=0
def tw3795462324511793481:=0
def tw3557810966007823200:=0
def tw3509063769005395426:=0
def tw3170585206285425495:=0
def tw3037888428463251069:=0
def tw2827768205558598166:=0
def tw2547512933404904130:=0
def tw1904085636746696539:=0
def tw18114605265041963328:=0
def tw17647535651728059574:=0
def tw17465337524322491246:=0
def tw17323332650009546600:=0
def tw17216551827677653252:=0
def tw17100511256998478678:=0
def tw16796675139161087440:=0
def tw16735921563196714159:=0
def tw16710751106004932544:=0
def tw16585729463714736719:=0
def tw16435117838246495469:=0
def tw16343306140090953488:=0
def tw15977033268444103499:=0
def tw15824368692934776255:=0
def tw15587596235634441128:=0
def tw15434157993938322519:=0
def tw15300868347162194617:=0
def tw15299059426889364283:=0
def tw15240404158507718786:=0
def tw15230929361680638111:=0
def tw15217633665875848834:=0
def tw14445318400274707783:=0
def tw14389123533254002093:=0
def tw14144875486211505718:=0
def tw13853680977219059621:=0
def tw13551025504117768844:=0
def tw13470893630169672052:=0
def tw13277360105403526881:=0
def tw13092337125555966437:=0
def tw12764949858479508845:=0
def tw12611021811887405477:=0
def tw12350684666223501887:=0
def tw11996353899273741784:=0
def tw11248922675910583916:=0
def tw10712958959169917416:=0
def tw10628997939516754998:=0
def tw10608028470329077244:=0
end PySem.W.Fast
/-! THE HAND LAYER, for ints, bools, texts, own classes, LISTS and tuples (index, slices, in, append, pop ..), calls, loops. Paste it whole ahead of your own text; what your proof does not reach may be deleted. -/
namespace L2
open PySem PySem.Spec PyProof.Rows

/-- a key: an int or a str -/
abbrev Key := Sum Int Str
def keyIs : Key → Value → Bool
  | .inl k, v => Value.isInt k v
  | .inr x, v => Value.isStrOf x v
def keyH (w : World) : Key → Int
  | .inl k => hashInt k
  | .inr x => hashStr w x
theorem keyIs_shape : ∀ {k : Key} {v : Value}, keyIs k v = true → (∃ i t, k = Sum.inl i ∧ v = Value.int i t) ∨ (∃ x t, k = Sum.inr x ∧ v = Value.str x t)
  | .inl i, v, h => by
    obtain ⟨t, e⟩ := Value.isInt_shape (k := i) (v := v) h
    exact .inl ⟨i, t, rfl, e⟩
  | .inr x, v, h => by
    obtain ⟨t, e⟩ := Value.isStrOf_shape (x := x) (v := v) h
    exact .inr ⟨x, t, rfl, e⟩
theorem keyIs_int (i : Int) (t : Tok) : keyIs (.inl i) (.int i t) = true := by simp [keyIs, Value.isInt]
theorem keyIs_str (x : Str) (t : Tok) : keyIs (.inr x) (.str x t) = true := by simp [keyIs, Value.isStrOf]
theorem key_ll (a b : Int) : decide ((Sum.inl a : Key) = Sum.inl b) = (a == b) := by
  by_cases e : a = b
  · subst e; simp
  · have h : ¬ (Sum.inl a : Key) = Sum.inl b := fun q => e (Sum.inl.inj q)
    rw [decide_eq_false h]
    exact (beq_eq_false_iff_ne.mpr e).symm
theorem key_rr (a b : Str) : decide ((Sum.inr a : Key) = Sum.inr b) = decide (a = b) := by
  by_cases e : a = b
  · subst e; simp
  · have h : ¬ (Sum.inr a : Key) = Sum.inr b := fun q => e (Sum.inr.inj q)
    rw [decide_eq_false h, decide_eq_false e]
theorem key_lr (a : Int) (b : Str) : decide ((Sum.inl a : Key) = Sum.inr b) = false := decide_eq_false (fun q => nomatch q)
theorem key_rl (a : Str) (b : Int) : decide ((Sum.inr a : Key) = Sum.inl b) = false := decide_eq_false (fun q => nomatch q)

def mixKind (prog : Program) (w : World) : PySem.KeyKind prog w Key where
  is := keyIs
  hash := keyH w
  inj := fun v a b ha hb => by
    rcases keyIs_shape ha with ⟨i, t, rfl, rfl⟩ | ⟨x, t, rfl, rfl⟩
    · rcases keyIs_shape hb with ⟨j, u, rfl, e⟩ | ⟨y, u, rfl, e⟩
      · injection e with e1 _; rw [e1]
      · exact nomatch e
    · rcases keyIs_shape hb with ⟨j, u, rfl, e⟩ | ⟨y, u, rfl, e⟩
      · exact nomatch e
      · injection e with e1 _; rw [e1]
  byValue := fun k v h => by
    rcases keyIs_shape h with ⟨i, t, rfl, rfl⟩ | ⟨x, t, rfl, rfl⟩ <;> rfl
  pyHash := fun hv h => by
    rcases keyIs_shape hv with ⟨i, t, rfl, rfl⟩ | ⟨x, t, rfl, rfl⟩
    · exact wpAny_pyHash_int h
    · exact wpAny_pyHash_str h
  eqBool := fun hu hv h => by
    rcases keyIs_shape hu with ⟨i, t, rfl, rfl⟩ | ⟨x, t, rfl, rfl⟩
    · rcases keyIs_shape hv with ⟨j, u, rfl, rfl⟩ | ⟨y, u, rfl, rfl⟩
      · rw [key_ll] at h; exact wpAny_eqBool_int h
      · rw [key_lr] at h; exact SeqAt.EqAt.int_str i t y u _ _ _ _ h
    · rcases keyIs_shape hv with ⟨j, u, rfl, rfl⟩ | ⟨y, u, rfl, rfl⟩
      · rw [key_rl] at h; exact SeqAt.EqAt.str_int x t j u _ _ _ _ h
      · rw [key_rr] at h; exact wpAny_eqBool_str h
  «strs» := fun k x t v h => by
    rcases keyIs_shape h with ⟨i, u, rfl, e⟩ | ⟨y, u, rfl, e⟩
    · exact nomatch e
    · injection e with e1 _
      subst e1
      cases v <;> rfl

theorem mixKind_int (prog : Program) (w : World) (i : Int) (t : Tok) : (mixKind prog w).is (.inl i) (.int i t) = true := keyIs_int i t
theorem mixKind_str (prog : Program) (w : World) (x : Str) (t : Tok) : (mixKind prog w).is (.inr x) (.str x t) = true := keyIs_str x t
end L2

namespace L2
open PySem PySem.Spec PyProof.Rows

/-- a value, without the heap -/
inductive V where
  | non | bl (b : Bool) | int (i : Int) | str (x : Str) | byt (b : Array UInt8) | flt (b : UInt64) | ref (a : Addr) | ty (n : String)
  deriving DecidableEq

def RelV : V → Value → Prop
  | .non, u => u = Value.none
  | .bl b, u => u = Value.bool b
  | .int i, u => ∃ t, u = Value.int i t
  | .str x, u => ∃ t, u = Value.str x t
  | .byt b, u => ∃ t, u = Value.bytes b t
  | .flt b, u => ∃ t, u = Value.float b t
  | .ref a, u => u = Value.ref a
  | .ty n, u => u = Value.type n

abbrev Vals : List V → List Value → Prop := Paired RelV
theorem Vals.length {xs : List V} {us : List Value} (r : Vals xs us) : xs.length = us.length := Paired.length r
theorem Vals.get : ∀ {xs : List V} {us : List Value} {i : Nat} {x : V}, Vals xs us → xs[i]? = some x → ∃ u, us[i]? = some u ∧ RelV x u
  | _, _, _, _, .nil, e => by simp at e
  | _, _, 0, _, .cons r _, e => by simp at e; subst e; exact ⟨_, rfl, r⟩
  | _, _, i + 1, x, .cons _ t, e => by
    obtain ⟨u, h1, h2⟩ := Vals.get (i := i) (x := x) t (by simpa using e)
    exact ⟨u, by simpa using h1, h2⟩
theorem Vals.set {x : V} {u : Value} (r : RelV x u) : ∀ {xs : List V} {us : List Value} (i : Nat), Vals xs us → Vals (xs.set i x) (us.set i u)
  | _, _, _, .nil => .nil
  | _, _, 0, .cons _ t => .cons r t
  | _, _, i + 1, .cons q t => .cons q (Vals.set r i t)
theorem Vals.append : ∀ {xs ys : List V} {us ws : List Value}, Vals xs us → Vals ys ws → Vals (xs ++ ys) (us ++ ws)
  | _, _, _, _, .nil, s => s
  | _, _, _, _, .cons r t, s => .cons r (Vals.append t s)
theorem Vals.take : ∀ {xs : List V} {us : List Value} (n : Nat), Vals xs us → Vals (xs.take n) (us.take n)
  | _, _, 0, _ => .nil
  | _, _, _ + 1, .nil => .nil
  | _, _, n + 1, .cons r t => .cons r (Vals.take n t)
theorem Vals.drop : ∀ {xs : List V} {us : List Value} (n : Nat), Vals xs us → Vals (xs.drop n) (us.drop n)
  | _, _, 0, r => r
  | _, _, _ + 1, .nil => .nil
  | _, _, n + 1, .cons _ t => Vals.drop n t
def RelO : Option V → Option Value → Prop
  | some v, some u => RelV v u
  | none, none => True
  | _, _ => False
def KV {κ : Type} : List (κ × V) → List (κ × Value) → Prop := Paired fun (p : κ × V) (q : κ × Value) => p.1 = q.1 ∧ RelV p.2 q.2

/-- a key of a dict (00_mix): an int or a text -/
def kV : Key → V
  | .inl i => .int i
  | .inr x => .str x

/-- what stands at a tracked address -/
inductive HO where
  /-- a list -/
  | lst (xs : List V)
  /-- a tuple (never changes) -/
  | tup (xs : List V)
  /-- a dict whose keys are ints and texts; one whose keys are tuples of ints and texts (the empty one is both) -/
  | dK (kvs : List (Key × V)) | dT (kvs : List (List Key × V))
  /-- a set of ints: its members, its size -/
  | set (S : Int → Bool) (n : Nat)
  /-- an instance of the class at C, its dict at dx, its attributes -/
  | ins (C dx : Addr) (fs : List (Str × V))
  /-- the dict of the instance at x -/
  | own (x : Addr)
  /-- the dict of an exception -/
  | xd (fs : List (Str × V))
  /-- a bound method, f of x -/
  | met (f x : Addr)
  /-- a range object lo, lo + 1, .. below hi -/
  | rng (lo hi : Int)
  /-- a thing that is known to the object (the script; a dict while a loop walks it): read, never written while it is so -/
  | frz (o : Obj) (u : HO)
  /-- a code object's table -/
  | tbl (ps : Array Value)
  /-- any other thing, by what is true of its one object (a def of one's own: SetO a S n := HO.ext fun h => ..) -/
  | ext (φ : Heap → Prop)

abbrev Hp := Addr → Option HO
def upd (H : Hp) (a : Addr) (o : HO) : Hp := fun b => if b = a then some o else H b
theorem upd_same {H : Hp} {a : Addr} {o : HO} : upd H a o a = some o := by unfold upd; rw [if_pos rfl]
theorem upd_ne {H : Hp} {a b : Addr} {o : HO} (h : b ≠ a) : upd H a o b = H b := by unfold upd; rw [if_neg h]
/-- two objects of different content stand apart -/
theorem ne_of {H : Hp} {a b : Addr} {o u : HO} (h : H a = some o) (h' : H b = some u) (d : o ≠ u) : a ≠ b := by
  intro e; subst e; rw [h] at h'; exact d (Option.some.inj h')
theorem ne_of_none {H : Hp} {a b : Addr} {o : HO} (h : H a = some o) (h' : H b = none) : a ≠ b := by
  intro e; subst e; rw [h] at h'; cases h'

section
variable (P : Program) (w : World)
def ObjOk (H : Hp) (h : Heap) (a : Addr) : HO → Prop
  | .lst xs => xs.length ≤ sizeLine ∧ ∃ (its : List Value) (n : Nat), Vals xs its ∧ h.get? a = some { cls := .type "list", data := .seq its.toArray n }
  | .tup xs => xs.length ≤ sizeLine ∧ ∃ its : List Value, Vals xs its ∧ IsTup h a its.toArray
  | .dK kvs => kvs.length ≤ sizeLine ∧ (a == sysModules) = false ∧ ∃ vs, KV kvs vs ∧ h.DictOf (mixKind P w) a vs
  | .dT kvs => kvs.length ≤ sizeLine ∧ (a == sysModules) = false ∧ ∃ xs : List (List Key × Addr × Value),
      Paired (fun (p : List Key × V) (q : List Key × Addr × Value) => p.1 = q.1 ∧ H q.2.1 = some (.tup (p.1.map kV)) ∧ RelV p.2 q.2.2) kvs xs ∧
      ∃ o es ep, h.get? a = some o ∧ o.ExactDict ∧ o.data = .dict es ep ∧ es.toList = xs.map (entryOfKey (tupleKind (mixKind P w))) ∧ (xs.map (·.1)).Nodup
  | .set S n => h.SetOf (intKind P w) a S n
  | .ins C dx fs => H dx = some (.own a) ∧ fs.length ≤ 1000 ∧ dx ≠ a ∧ h.get? a = some (PySem.W.instObj C dx) ∧
      ∃ mA, h.Ns1 dx mA ∧ (∀ f, RelO (fs.lookup f) (mA f)) ∧ PySem.Within mA (fs.map (·.1))
  | .own _ => ∃ o, h.get? a = some o
  | .xd fs => ∃ mA, h.Ns1 a mA ∧ ∀ f, RelO (fs.lookup f) (mA f)
  | .rng lo hi => ∃ t u v, h.get? a = some { cls := .type "range", data := .fields #[.int lo t, .int hi u, .int 1 v] }
  | .frz o u => h.get? a = some o ∧ ObjOk H h a u
  | .tbl ps => h.get? a = some { cls := .none, data := .fields ps }
  | .met f x => h.get? a = some (PySem.W.methodObj (.ref f) (.ref x))
  | .ext φ => φ h ∧ (∃ o, h.get? a = some o) ∧ ∀ h1 h2 : Heap, φ h1 → (∀ o, h1.get? a = some o → h2.get? a = some o) → φ h2
/-- the abstract heap is held -/
def HOk (H : Hp) (h : Heap) : Prop := ∀ a o, H a = some o → ObjOk P w H h a o
end

section
variable {P : Program} {w : World} {H H' : Hp} {h h' : Heap} {a : Addr} {o : HO}
theorem ObjOk.lt (x : ObjOk P w H h a o) : a < h.objs.size := by
  cases o with
  | lst xs => obtain ⟨_, _, _, _, e⟩ := x; exact Heap.lt_size e
  | tup xs => obtain ⟨_, _, _, p⟩ := x; exact p.lt
  | dK kvs => obtain ⟨_, _, _, _, o, _, _, e, _⟩ := x; exact Heap.lt_size e
  | dT kvs => obtain ⟨_, _, _, _, o, _, _, e, _⟩ := x; exact Heap.lt_size e
  | set S n => obtain ⟨o, _, _, _, e, _⟩ := x; exact Heap.lt_size e
  | ins C dx fs => obtain ⟨_, _, _, e, _⟩ := x; exact Heap.lt_size e
  | own y => obtain ⟨_, e⟩ := x; exact Heap.lt_size e
  | xd fs => obtain ⟨_, ⟨_, _, _, e, _⟩, _⟩ := x; exact Heap.lt_size e
  | rng lo hi => obtain ⟨_, _, _, e⟩ := x; exact Heap.lt_size e
  | frz ob u => obtain ⟨e, _⟩ := x; exact Heap.lt_size e
  | tbl ps => exact Heap.lt_size (show h.get? a = some _ from x)
  | met f y => exact Heap.lt_size (show h.get? a = some _ from x)
  | ext φ => obtain ⟨_, ⟨_, e⟩, _⟩ := x; exact Heap.lt_size e
theorem Paired.mapP {α β : Type} {F G : α → β → Prop} : ∀ {l₁ : List α} {l₂ : List β}, Paired F l₁ l₂ → (∀ a b, F a b → G a b) → Paired G l₁ l₂
  | _, _, .nil, _ => .nil
  | _, _, .cons r t, f => .cons (f _ _ r) (Paired.mapP t f)
/-- what an object's description leans on: its own object, its own dict, the tuples -/
theorem ObjOk.stay (x : ObjOk P w H h a o) (k : ∀ b u, (b = a ∨ H b = some (.own a)) → h.get? b = some u → h'.get? b = some u)
    (ho : ∀ b, H b = some (.own a) → H' b = some (.own a)) (ht : ∀ b xs, H b = some (.tup xs) → H' b = some (.tup xs)) : ObjOk P w H' h' a o := by
  induction o with
  | lst xs => obtain ⟨z, its, n, r, e⟩ := x; exact ⟨z, its, n, r, k _ _ (.inl rfl) e⟩
  | tup xs => obtain ⟨z, its, r, ob, e, c⟩ := x; exact ⟨z, its, r, ob, k _ _ (.inl rfl) e, c⟩
  | dK kvs => obtain ⟨z, y, vs, r, ob, es, ep, e, c⟩ := x; exact ⟨z, y, vs, r, ob, es, ep, k _ _ (.inl rfl) e, c⟩
  | dT kvs =>
    obtain ⟨z, y, xs, r, ob, es, ep, e, c⟩ := x
    exact ⟨z, y, xs, Paired.mapP r fun p q z => ⟨z.1, ht _ _ z.2.1, z.2.2⟩, ob, es, ep, k _ _ (.inl rfl) e, c⟩
  | set S n => obtain ⟨ob, es, ep, t, e, c⟩ := x; exact ⟨ob, es, ep, t, k _ _ (.inl rfl) e, c⟩
  | ins C dx fs =>
    obtain ⟨d, z, ne, e, mA, ⟨od, es, ep, e2, c⟩, r⟩ := x
    exact ⟨ho _ d, z, ne, k _ _ (.inl rfl) e, mA, ⟨od, es, ep, k _ _ (.inr d) e2, c⟩, r⟩
  | own y => obtain ⟨ob, e⟩ := x; exact ⟨ob, k _ _ (.inl rfl) e⟩
  | xd fs => obtain ⟨mA, ⟨od, es, ep, e, c⟩, r⟩ := x; exact ⟨mA, ⟨od, es, ep, k _ _ (.inl rfl) e, c⟩, r⟩
  | rng lo hi => obtain ⟨t, u, v, e⟩ := x; exact ⟨t, u, v, k _ _ (.inl rfl) e⟩
  | frz ob u ih => obtain ⟨e, q⟩ := x; exact ⟨k _ _ (.inl rfl) e, ih q⟩
  | tbl ps =>
    have e : h.get? a = some { cls := .none, data := .fields ps } := x
    show h'.get? a = some { cls := .none, data := .fields ps }
    exact k a _ (.inl rfl) e
  | met f y =>
    have e : h.get? a = some (PySem.W.methodObj (.ref f) (.ref y)) := x
    show h'.get? a = some (PySem.W.methodObj (.ref f) (.ref y))
    exact k a _ (.inl rfl) e
  | ext φ => obtain ⟨p, ⟨o, e⟩, st⟩ := x; exact ⟨st _ _ p fun o q => k _ _ (.inl rfl) q, ⟨o, k _ _ (.inl rfl) e⟩, st⟩
theorem HOk.lt (x : HOk P w H h) (e : H a = some o) : a < h.objs.size := (x a o e).lt
theorem HOk.fresh (x : HOk P w H h) (e : h.objs.size ≤ a) : H a = none := by
  cases q : H a with
  | none => rfl
  | some u => exact absurd (Nat.lt_of_lt_of_le (x.lt q) e) (Nat.lt_irrefl _)
/-- every object of the heap is kept -/
theorem HOk.kept (x : HOk P w H h) (k : ∀ b u, h.get? b = some u → h'.get? b = some u) : HOk P w H h' := fun a o e =>
  (x a o e).stay (fun b u _ q => k b u q) (fun _ q => q) fun _ _ q => q
/-- a new object is laid and tracked -/
theorem HOk.laid (x : HOk P w H h) (k : ∀ b u, h.get? b = some u → h'.get? b = some u) (hp : h.objs.size ≤ a) (new : ObjOk P w (upd H a o) h' a o) : HOk P w (upd H a o) h' := fun b u e => by
  have hn := x.fresh hp
  by_cases hb : b = a
  · subst hb; rw [upd_same] at e; cases e; exact new
  · rw [upd_ne hb] at e
    exact (x b u e).stay (fun c v _ q => k c v q) (fun c q => by rw [upd_ne (ne_of_none q hn)]; exact q) fun c xs q => by rw [upd_ne (ne_of_none q hn)]; exact q
end

/-- what may be read as u: it is u, or a known u -/
def Rd (H : Hp) (a : Addr) (u : HO) : Prop := H a = some u ∨ ∃ o, H a = some (.frz o u)
theorem Rd.ok {P : Program} {w : World} {H : Hp} {h : Heap} {a : Addr} {u : HO} (r : Rd H a u) (x : HOk P w H h) : ObjOk P w H h a u := by
  rcases r with r | ⟨o, r⟩
  · exact x a u r
  · obtain ⟨_, q⟩ := x a _ r
    exact q
/-- what may be written -/
def Mut : Option HO → Prop
  | some (.lst _) => True
  | some (.dK _) => True
  | some (.dT _) => True
  | some (.set _ _) => True
  | some (.ins _ _ _) => True
  | some (.ext _) => True
  | _ => False
section
variable {P : Program} {w : World} {H : Hp} {h h' : Heap} {x e : Addr} {o' : HO}
/-- the object at e is changed: x itself, or the dict of the instance x -/
theorem HOk.write (ok : HOk P w H h) (mu : Mut (H x)) (he : e = x ∨ H e = some (.own x)) (k : ∀ b u, b ≠ e → h.get? b = some u → h'.get? b = some u) (heo : ∃ u, h'.get? e = some u)
    (new : ObjOk P w (upd H x o') h' x o') : HOk P w (upd H x o') h' := fun b u q => by
  have nown : ∀ c y, H c = some (.own y) → c ≠ x := fun c y r z => by subst z; rw [r] at mu; exact mu
  have ntup : ∀ c xs, H c = some (.tup xs) → c ≠ x := fun c xs r z => by subst z; rw [r] at mu; exact mu
  by_cases hb : b = x
  · subst hb; rw [upd_same] at q; cases q; exact new
  · rw [upd_ne hb] at q
    by_cases hbe : b = e
    · have q' : H b = some (.own x) := by
        rcases he with z | z
        · exact absurd (hbe.trans z) hb
        · rw [hbe]; exact z
      rw [q] at q'; cases q'
      obtain ⟨v, hv⟩ := heo
      exact ⟨v, by rw [hbe]; exact hv⟩
    · refine (ok b u q).stay (fun c v hc r => k c v ?_ r) (fun c r => by rw [upd_ne (nown c b r)]; exact r) fun c xs r => by rw [upd_ne (ntup c xs r)]; exact r
      rcases hc with rfl | hc
      · exact hbe
      · rintro rfl
        rcases he with z | z
        · exact nown c b hc z
        · rw [hc] at z; cases z; exact hb rfl
end

/-! ### kept unless tracked; of the frames at fs (the callers') the slots may change (an exception that passes writes there); of the records at ex (iterators) nothing is said -/
structure Un (fs ex : List Addr) (H H' : Hp) (h h' : Heap) : Prop where
  keep : ∀ b o, h.get? b = some o → H b = none → b ∉ fs → b ∉ ex → h'.get? b = some o
  slot : ∀ b o, h.get? b = some o → H b = none → b ∈ fs → b ∉ ex → ∃ sl, h'.get? b = some { o with slots := sl }
  free : ∀ b o, h.get? b = some o → H b = none → b ∉ ex → H' b = none
  there : ∀ b o, h.get? b = some o → b ∉ ex → ∃ o', h'.get? b = some o'
  tups : ∀ b xs, H b = some (.tup xs) → H' b = some (.tup xs)
  frzs : ∀ b o u, H b = some (.frz o u) → H' b = some (.frz o u)
  tbls : ∀ b ps, H b = some (.tbl ps) → ∃ more, H' b = some (.tbl (ps ++ more))
section
variable {fs fs' ex ex' : List Addr} {H H1 H2 : Hp} {h h1 h2 h' : Heap} {a x e : Addr} {o : HO}
theorem Un.any (u : Un fs ex H H1 h h1) {b : Addr} {ob : Obj} (q : h.get? b = some ob) (n : H b = none) (hx : b ∉ ex) : ∃ sl, h1.get? b = some { ob with slots := sl } := by
  by_cases hb : b ∈ fs
  · exact u.slot b ob q n hb hx
  · exact ⟨ob.slots, u.keep b ob q n hb hx⟩
theorem Un.trans (a : Un fs ex H H1 h h1) (b : Un fs ex H1 H2 h1 h2) : Un fs ex H H2 h h2 where
  keep := fun c ob q n hc hx => b.keep c ob (a.keep c ob q n hc hx) (a.free c ob q n hx) hc hx
  slot := fun c ob q n hc hx => by
    obtain ⟨sl, e1⟩ := a.slot c ob q n hc hx
    obtain ⟨sl', e2⟩ := b.slot c _ e1 (a.free c ob q n hx) hc hx
    exact ⟨sl', e2⟩
  free := fun c ob q n hx => by
    obtain ⟨o', e1⟩ := a.there c ob q hx
    exact b.free c o' e1 (a.free c ob q n hx) hx
  there := fun c ob q hx => by
    obtain ⟨o', e1⟩ := a.there c ob q hx
    exact b.there c o' e1 hx
  tups := fun c xs q => b.tups c xs (a.tups c xs q)
  frzs := fun c ob xs q => b.frzs c ob xs (a.frzs c ob xs q)
  tbls := fun c ps q => by
    obtain ⟨m1, e1⟩ := a.tbls c ps q
    obtain ⟨m2, e2⟩ := b.tbls c _ e1
    exact ⟨m1 ++ m2, by rw [e2, Array.append_assoc]⟩
theorem Un.kept (k : ∀ b u, h.get? b = some u → h'.get? b = some u) : Un fs ex H H h h' :=
  ⟨fun b ob q _ _ _ => k b ob q, fun b ob q _ _ _ => ⟨ob.slots, k b ob q⟩, fun _ _ _ n _ => n, fun b ob q _ => ⟨ob, k b ob q⟩, fun _ _ q => q, fun _ _ _ q => q, fun _ ps q => ⟨#[], by rw [q]; simp⟩⟩
theorem Un.refl : Un fs ex H H h h := Un.kept fun _ _ q => q
theorem Un.laid (k : ∀ b u, h.get? b = some u → h'.get? b = some u) (hp : h.objs.size ≤ a) (hn : H a = none) : Un fs ex H (upd H a o) h h' where
  keep := fun b u q _ _ _ => k b u q
  slot := fun b u q _ _ _ => ⟨u.slots, k b u q⟩
  free := fun b u q n _ => by rw [upd_ne (Nat.ne_of_lt (Nat.lt_of_lt_of_le (Heap.lt_size q) hp))]; exact n
  there := fun b u q _ => ⟨u, k b u q⟩
  tups := fun b xs q => by rw [upd_ne (ne_of_none q hn)]; exact q
  frzs := fun b u xs q => by rw [upd_ne (ne_of_none q hn)]; exact q
  tbls := fun b ps q => ⟨#[], by rw [upd_ne (ne_of_none q hn), q]; simp⟩
theorem Un.write (mu : Mut (H x)) (he : e = x ∨ H e = some (.own x)) (k : ∀ b u, b ≠ e → h.get? b = some u → h'.get? b = some u) (heo : ∃ u, h'.get? e = some u) : Un fs ex H (upd H x o) h h' := by
  have hx : ∀ b, H b = none → b ≠ x := fun b n z => by subst z; rw [n] at mu; exact mu
  have hb : ∀ b, H b = none → b ≠ e := fun b n z => by
    subst z
    rcases he with r | r
    · exact hx b n r
    · rw [n] at r; cases r
  have hm : ∀ b u, H b = some u → ¬ Mut (some u) → b ≠ x := fun b u q nm z => by subst z; rw [q] at mu; exact nm mu
  refine ⟨fun b u q n _ _ => k b u (hb b n) q, fun b u q n _ _ => ⟨u.slots, k b u (hb b n) q⟩, fun b u q n _ => by rw [upd_ne (hx b n)]; exact n, fun b u q _ => ?_,
    fun b xs q => by rw [upd_ne (hm b _ q fun z => z)]; exact q, fun b u xs q => by rw [upd_ne (hm b _ q fun z => z)]; exact q, fun b ps q => ⟨#[], by rw [upd_ne (hm b _ q fun z => z), q]; simp⟩⟩
  by_cases hbe : b = e
  · subst hbe; exact heo
  · exact ⟨u, k b u hbe q⟩
theorem Un.mono (u : Un fs ex H H1 h h1) (hs : ∀ b ∈ fs, b ∈ fs') (hx : ∀ b ∈ ex, b ∈ ex') : Un fs' ex' H H1 h h1 :=
  ⟨fun b ob q n hb he => u.keep b ob q n (fun z => hb (hs b z)) fun z => he (hx b z), fun _ _ q n _ he => u.any q n fun z => he (hx _ z), fun b ob q n he => u.free b ob q n fun z => he (hx b z), fun b ob q he => u.there b ob q fun z => he (hx b z), u.tups, u.frzs, u.tbls⟩
end

/-! ### the heap without what is tracked -/
def trk (h : Heap) (H : Hp) : List Addr := (List.range h.objs.size).filter fun a => (H a).isSome
def hidT (h : Heap) (H : Hp) : Heap := PySem.W.hideAll h (trk h H)
theorem hidT_size (h : Heap) (H : Hp) : (hidT h H).objs.size = h.objs.size := PySem.W.hideAll_size _ _
theorem hidT_get {h : Heap} {H : Hp} {b : Addr} {o : Obj} (e : h.get? b = some o) (n : H b = none) : (hidT h H).get? b = some o :=
  PySem.W.hideAll_get _ e fun hm => by
    have q : (H b).isSome = true := (List.mem_filter.mp hm).2
    rw [n] at q; simp at q
theorem of_hidT {h : Heap} {H : Hp} {b : Addr} {o : Obj} (e : (hidT h H).get? b = some o) : h.get? b = some o ∧ H b = none := by
  have e' : h.get? b = some o := PySem.W.of_hideAll (trk h H) e
  refine ⟨e', ?_⟩
  cases q : H b with
  | none => rfl
  | some x =>
    have hm : b ∈ trk h H := List.mem_filter.mpr ⟨List.mem_range.mpr (Heap.lt_size e'), by simp [q]⟩
    have z : (hidT h H).get? b = none := PySem.W.hideAll_none (trk h H) hm
    rw [z] at e; cases e

/-! ### OpenK's ledger, filled with every new object but one -/
def allNews (g h : Heap) (L : Addr) : List (Addr × Obj) := (List.range h.objs.size).filterMap fun a => if a = L ∨ (g.get? a).isSome = true then none else (h.get? a).map fun o => (a, o)
def rest (g h : Heap) (L d : Addr) : List (Addr × Obj) := (allNews g h L).filter fun p => decide (p.1 ≠ d)
end L2

namespace L2
open PySem PySem.Spec PyProof.Rows

/-- the module's facts, over the base: the heap at the law's entry without what is tracked there -/
structure Mod (K : PySem.W.Frag) (mg : Str → Option Value) (base : Heap) : Prop where
  kin : K.In base
  glob : base.Ns mainGlobals mg
  blt : ∃ mb, base.Ns builtinsNs mb ∧ ∀ x : Str, x ≠ "__name__" → mb x = bootBuiltins x
  nolimit : base.NoLimit

/-- the context: a def's body (or a comprehension's block) running. base: fixed through the whole law; s₀, H₀: the entry; outer: the frames whose slots others may change (a def's callers); stack: all frames that run;
   ex: iterators that were made ahead of the entry and are walked here (a comprehension's); fn: the names whose cells were made at the entry (a def: all; a comprehension's block: its own); calm: not within an except suite; pn: pins that every state bears; xe: what is wanted of an exception that leaves the code -/
structure Cx where
  prog : Program
  w : World
  K : PySem.W.Frag
  mg : Str → Option Value
  base : Heap
  A : Around
  N : List Str
  s₀ : Shared
  H₀ : Hp
  env : Env
  outer : List Env
  stack : List Env
  ex : List Addr
  fn : Str → Bool
  calm : Bool
  pn : List (Addr × Obj)
  xe : Value → Shared → Prop
/-- the callers' frames -/
def frs (l : List Env) : List Addr := l.filterMap (·.frame)
abbrev Cx.fs (X : Cx) : List Addr := frs X.outer

def Vis (sc : Scope) (x : Str) : Prop := sc.names.lookup x = some .local ∨ sc.names.lookup x = some .cell ∨ sc.names.lookup x = some .free
def Loc (sc : Scope) (x : Str) : Prop := sc.names.lookup x = some .local ∨ sc.names.lookup x = some .cell
def Look (env : Env) (h : Heap) (m : Str → Option Value) (x : Str) (u : Value) : Prop :=
  (env.kindOf x = some .local ∧ m x = some u) ∨ ((env.kindOf x = some .cell ∨ env.kindOf x = some .free) ∧ ∃ c, env.cells.lookup x = some c ∧ h.IsCell c (some u))

structure Cx.Ok (X : Cx) : Prop where
  mod : Mod X.K X.mg X.base
  kind : X.env.scope.kind = .function
  glob : X.env.globals = mainGlobals
  blt : X.env.builtins = builtinsNs
  above : X.s₀.heap.objs.size ≤ X.env.locals
  inj : ∀ x y c, X.env.cells.lookup x = some c → X.env.cells.lookup y = some c → x = y
  has : ∀ x, (X.env.kindOf x = some .cell ∨ X.env.kindOf x = some .free) → ∃ c, X.env.cells.lookup x = some c
  cab : ∀ x c, X.fn x = true → X.env.cells.lookup x = some c → X.s₀.heap.objs.size ≤ c
  hd : X.calm = true → X.A.handled = none
  frames : X.A.frames = some X.stack
  stk : X.stack = X.outer ∨ (X.stack = X.env :: X.outer ∧ X.env.frame = some X.env.locals)
  exf : ∀ b ∈ X.ex, b ≠ X.env.locals ∧ ∀ x c, X.env.cells.lookup x = some c → c ≠ b
  bs : ∀ b o, X.base.get? b = some o → X.s₀.heap.get? b = some o ∧ X.H₀ b = none
  bsz : X.base.objs.size ≤ X.s₀.heap.objs.size
  noex : ∀ b o, X.base.get? b = some o → b ∉ X.ex
  exfs : ∀ b ∈ X.ex, b ∉ X.fs
  funs : X.s₀.heap.FunFrames X.base X.outer
  frf : ∀ b ∈ X.fs, X.H₀ b = none

structure Inv (X : Cx) (pins : List (Addr × Obj)) (σ : List (Option V)) (H : Hp) (s : Shared) : Prop where
  ok : X.Ok
  os : s.os = X.s₀.os
  bare : AllBare s.gens
  base : Un X.fs X.ex X.H₀ H X.s₀.heap s.heap
  loc : ∃ m, s.heap.Ns X.env.locals m ∧ ∀ (i : Nat) (x : Str) (v : V), X.N[i]? = some x → σ[i]? = some (some v) → Vis X.env.scope x → ∃ u, RelV v u ∧ Look X.env s.heap m x u
  cell : ∀ x c, X.env.cells.lookup x = some c → ∃ v, s.heap.IsCell c v
  free : H X.env.locals = none
  freeC : ∀ x c, X.env.cells.lookup x = some c → H c = none
  pin : ∀ p ∈ X.pn ++ pins, s.heap.get? p.1 = some p.2 ∧ H p.1 = none ∧ p.1 ≠ X.env.locals ∧ p.1 ∉ X.fs ∧ ∀ v, p.2.data ≠ .cell v
  hok : HOk X.prog X.w H s.heap
  len : σ.length = X.N.length

section
variable {X : Cx} {pins : List (Addr × Obj)} {σ : List (Option V)} {H H' : Hp} {s : Shared} {h' : Heap}

theorem Cx.Ok.nofr (ok : X.Ok) {b : Addr} {o : Obj} (e : X.base.get? b = some o) : b ∉ X.fs := fun hb => by
  have := (ok.funs.mem hb).1
  rw [e] at this; cases this
theorem Inv.bs (I : Inv X pins σ H s) : ∀ b o, X.base.get? b = some o → s.heap.get? b = some o ∧ H b = none := fun b o e =>
  ⟨I.base.keep b o (I.ok.bs b o e).1 (I.ok.bs b o e).2 (I.ok.nofr e) (I.ok.noex b o e), I.base.free b o (I.ok.bs b o e).1 (I.ok.bs b o e).2 (I.ok.noex b o e)⟩
theorem Inv.bk (I : Inv X pins σ H s) : ∀ b o, X.base.get? b = some o → s.heap.get? b = some o := fun b o e => (I.bs b o e).1
theorem Inv.mod (I : Inv X pins σ H s) : Mod X.K X.mg X.base := I.ok.mod
theorem Inv.kIn (I : Inv X pins σ H s) : X.K.In s.heap := I.ok.mod.kin.keeps I.bk
theorem Inv.lt (I : Inv X pins σ H s) : X.env.locals < s.heap.objs.size := let ⟨_, hn, _⟩ := I.loc; hn.lt
theorem Inv.sz (I : Inv X pins σ H s) : X.s₀.heap.objs.size ≤ s.heap.objs.size := Nat.le_trans I.ok.above (Nat.le_of_lt I.lt)
theorem Inv.nofs (I : Inv X pins σ H s) {a : Addr} (h : s.heap.objs.size ≤ a) : a ∉ X.fs := fun hb => by
  obtain ⟨_, o, ho, _⟩ := I.ok.funs.mem hb
  exact absurd (Nat.lt_of_lt_of_le (Heap.lt_size ho) (Nat.le_trans I.sz h)) (Nat.lt_irrefl _)
theorem Inv.cne (I : Inv X pins σ H s) : ∀ x c, X.env.cells.lookup x = some c → c ≠ X.env.locals := fun x c e z => by
  obtain ⟨v, o, ho, hd⟩ := I.cell x c e
  obtain ⟨m, ⟨o', es, ep, ho', hd', _⟩, _⟩ := I.loc
  rw [z, ho'] at ho; cases ho; rw [hd'] at hd; cases hd
theorem Inv.funs (I : Inv X pins σ H s) : s.heap.FunFrames X.base X.outer := by
  have all : ∀ (l : List Env), (∀ b ∈ frs l, b ∈ X.fs) → X.s₀.heap.FunFrames X.base l → s.heap.FunFrames X.base l := by
    intro l
    induction l with
    | nil => intro _ _; trivial
    | cons env r ih =>
      intro hs hl
      obtain ⟨hk, ⟨L, o, hf, hn, ho, hd⟩, hr⟩ := hl
      have hL : L ∈ X.fs := hs L (by unfold frs; rw [List.filterMap_cons, hf]; exact List.mem_cons_self)
      obtain ⟨sl, e⟩ := I.base.slot L o ho (I.ok.frf L hL) hL fun z => I.ok.exfs L z hL
      exact ⟨hk, ⟨L, _, hf, hn, e, hd⟩, ih (fun b hb => hs b (by unfold frs; rw [List.filterMap_cons, hf]; exact List.mem_cons_of_mem _ hb)) hr⟩
  exact all X.outer (fun _ hb => hb) I.ok.funs

/-- the frames that run, for a call -/
theorem Inv.stack (I : Inv X pins σ H s) : s.heap.FunFrames X.base X.stack := by
  rcases I.ok.stk with e | ⟨e, hf⟩
  · rw [e]; exact I.funs
  · rw [e]
    obtain ⟨m, hn, _⟩ := I.loc
    refine .cons (by rw [I.ok.kind]; decide) hf hn ?_ I.funs
    exact Heap.get?_none_of_le (Nat.le_trans I.ok.bsz I.ok.above)
theorem Inv.stkSub (I : Inv X pins σ H s) : ∀ b ∈ frs X.stack, b ∈ X.env.locals :: X.fs := fun b hb => by
  rcases I.ok.stk with e | ⟨e, hf⟩
  · rw [e] at hb; exact List.mem_cons_of_mem _ hb
  · rw [e] at hb
    unfold frs at hb
    rw [List.filterMap_cons, hf] at hb
    exact hb
theorem Inv.stkFree (I : Inv X pins σ H s) : ∀ b ∈ frs X.stack, H b = none := fun b hb => by
  rcases List.mem_cons.mp (I.stkSub b hb) with e | hb
  · rw [e]; exact I.free
  · obtain ⟨_, o, ho, _⟩ := I.ok.funs.mem hb
    exact I.base.free b o ho (I.ok.frf b hb) fun z => I.ok.exfs b z hb

/-- THE STEP: the untracked objects but the frame and the records at ch are kept (the callers' frames up to slots), the frame's map is kept, the new abstract heap is held -/
theorem Inv.step {g' : Array GenState} {t' : Nat} {d' : Drawn} {ch : List Addr} (I : Inv X pins σ H s)
    (hch : ∀ b ∈ ch, (b ∈ X.ex ∨ X.s₀.heap.objs.size ≤ b) ∧ b ≠ X.env.locals ∧ (∀ x c, X.env.cells.lookup x = some c → c ≠ b) ∧ ∀ p ∈ X.pn ++ pins, p.1 ≠ b)
    (keep : ∀ b o, b ≠ X.env.locals → b ∉ X.fs → b ∉ ch → s.heap.get? b = some o → H b = none → h'.get? b = some o)
    (slot : ∀ b o, b ≠ X.env.locals → b ∈ X.fs → b ∉ ch → s.heap.get? b = some o → H b = none → ∃ sl, h'.get? b = some { o with slots := sl }) (free : ∀ b o, b ∉ ch → s.heap.get? b = some o → H b = none → H' b = none)
    (there : ∀ b o, b ∉ ch → s.heap.get? b = some o → ∃ o', h'.get? b = some o')
    (tups : ∀ b xs, H b = some (.tup xs) → H' b = some (.tup xs)) (frzs : ∀ b o u, H b = some (.frz o u) → H' b = some (.frz o u)) (tbls : ∀ b ps, H b = some (.tbl ps) → ∃ more, H' b = some (.tbl (ps ++ more)))
    (ns : ∀ m, s.heap.Ns X.env.locals m → h'.Ns X.env.locals m) (hok : HOk X.prog X.w H' h') (hg : AllBare g') :
    Inv X pins σ H' { s with heap := h', gens := g', drawn := d', toks := t' } := by
  have neL : ∀ b o, X.s₀.heap.get? b = some o → b ≠ X.env.locals := fun b o e => Nat.ne_of_lt (Nat.lt_of_lt_of_le (Heap.lt_size e) I.ok.above)
  have neC : ∀ b o, X.s₀.heap.get? b = some o → b ∉ X.ex → b ∉ ch := fun b o e hx hb => by
    rcases (hch b hb).1 with z | z
    · exact hx z
    · exact absurd (Nat.lt_of_lt_of_le (Heap.lt_size e) z) (Nat.lt_irrefl _)
  have cellK : ∀ x c, X.env.cells.lookup x = some c → ∀ v, s.heap.IsCell c v → h'.IsCell c v := fun x c e v ⟨o, ho, hd⟩ => by
    have nch : c ∉ ch := fun z => (hch c z).2.2.1 x c e rfl
    by_cases hc : c ∈ X.fs
    · obtain ⟨sl, q⟩ := slot c o (I.cne x c e) hc nch ho (I.freeC x c e)
      exact ⟨_, q, hd⟩
    · exact ⟨o, keep c o (I.cne x c e) hc nch ho (I.freeC x c e), hd⟩
  refine ⟨I.ok, I.os, hg, ⟨fun b o e n hb hx => ?_, fun b o e n hb hx => ?_, fun b o e n hx => ?_, fun b o e hx => ?_, fun b xs e => tups b xs (I.base.tups b xs e), fun b o xs e => frzs b o xs (I.base.frzs b o xs e), fun b ps e => ?_⟩, ?_, fun x c e => ?_, ?_, fun x c e => ?_, fun p hp => ?_, hok, I.len⟩
  · exact keep b o (neL b o e) hb (neC b o e hx) (I.base.keep b o e n hb hx) (I.base.free b o e n hx)
  · obtain ⟨sl, e1⟩ := I.base.slot b o e n hb hx
    obtain ⟨sl', e2⟩ := slot b _ (neL b o e) hb (neC b o e hx) e1 (I.base.free b o e n hx)
    exact ⟨sl', e2⟩
  · obtain ⟨o', e1⟩ := I.base.there b o e hx
    exact free b o' (neC b o e hx) e1 (I.base.free b o e n hx)
  · obtain ⟨o', e1⟩ := I.base.there b o e hx
    exact there b o' (neC b o e hx) e1
  · obtain ⟨m1, e1⟩ := I.base.tbls b ps e
    obtain ⟨m2, e2⟩ := tbls b _ e1
    exact ⟨m1 ++ m2, by rw [e2, Array.append_assoc]⟩
  · obtain ⟨m, hn, hl⟩ := I.loc
    refine ⟨m, ns m hn, fun i x v e1 e2 e3 => ?_⟩
    obtain ⟨u, r, l⟩ := hl i x v e1 e2 e3
    refine ⟨u, r, ?_⟩
    rcases l with l | ⟨k, c, e, z⟩
    · exact .inl l
    · exact .inr ⟨k, c, e, cellK x c e _ z⟩
  · obtain ⟨v, z⟩ := I.cell x c e
    exact ⟨v, cellK x c e v z⟩
  · obtain ⟨m, ⟨o, _, _, ho, _⟩, _⟩ := I.loc
    exact free _ o (fun z => (hch _ z).2.1 rfl) ho I.free
  · obtain ⟨v, o, ho, hd⟩ := I.cell x c e
    exact free c o (fun z => (hch c z).2.2.1 x c e rfl) ho (I.freeC x c e)
  · obtain ⟨e, n, ne, nf, d⟩ := I.pin p hp
    have nch : p.1 ∉ ch := fun z => (hch p.1 z).2.2.2 p hp rfl
    exact ⟨keep p.1 p.2 ne nf nch e n, free p.1 p.2 nch e n, ne, nf, d⟩
/-- .. where the frame's own object is kept too -/
theorem Inv.un {t' : Nat} (I : Inv X pins σ H s) (u : Un X.fs [] H H' s.heap h') (hok : HOk X.prog X.w H' h') : Inv X pins σ H' { s with heap := h', toks := t' } := by
  obtain ⟨m, ⟨o, es, ep, ho, r⟩, _⟩ := id I.loc
  obtain ⟨sl, hL⟩ := u.any ho I.free (by simp)
  exact I.step (g' := s.gens) (d' := s.drawn) (ch := []) (fun _ z => nomatch z) (fun b o _ hb _ e n => u.keep b o e n hb (by simp)) (fun b o _ hb _ e n => u.slot b o e n hb (by simp)) (fun b o _ e n => u.free b o e n (by simp)) (fun b o _ e => u.there b o e (by simp)) u.tups u.frzs u.tbls (fun m' hm => by
    obtain ⟨o', es', ep', ho', r'⟩ := hm
    rw [ho] at ho'; cases ho'
    exact ⟨_, es', ep', hL, r'⟩) hok I.bare
/-- behind a call (or a comprehension's block): the slots of this frame may have changed too, the records at ch may have turned -/
theorem Inv.call {g' : Array GenState} {t' : Nat} {d' : Drawn} {ch : List Addr} (I : Inv X pins σ H s) (u : Un (frs X.stack) ch H H' s.heap h') (hok : HOk X.prog X.w H' h') (hg : AllBare g')
    (hch : ∀ b ∈ ch, (b ∈ X.ex ∨ X.s₀.heap.objs.size ≤ b) ∧ b ≠ X.env.locals ∧ (∀ x c, X.env.cells.lookup x = some c → c ≠ b) ∧ ∀ p ∈ X.pn ++ pins, p.1 ≠ b) :
    Inv X pins σ H' { s with heap := h', gens := g', drawn := d', toks := t' } := by
  obtain ⟨m, ⟨o, es, ep, ho, r⟩, _⟩ := id I.loc
  obtain ⟨sl, hL⟩ := u.any ho I.free fun z => (hch _ z).2.1 rfl
  exact I.step (ch := ch) hch (fun b o hL hb hc e n => u.keep b o e n (fun z => (List.mem_cons.mp (I.stkSub b z)).elim hL hb) hc) (fun b o _ _ hc e n => u.any e n hc) (fun b o hc e n => u.free b o e n hc) (fun b o hc e => u.there b o e hc) u.tups u.frzs u.tbls (fun m' hm => by
    obtain ⟨o', es', ep', ho', r'⟩ := hm
    rw [ho] at ho'; cases ho'
    exact ⟨_, es', ep', hL, r'⟩) hok hg
/-- an untracked record of ours (an iterator) has turned -/
theorem Inv.turned {t' : Nat} {it : Addr} (I : Inv X pins σ H s) (k : ∀ b o, b ≠ it → s.heap.get? b = some o → h'.get? b = some o) (hn : H it = none) (hL : it ≠ X.env.locals)
    (h1 : it ∈ X.ex ∨ X.s₀.heap.objs.size ≤ it) (h2 : ∀ x c, X.env.cells.lookup x = some c → c ≠ it) (h3 : ∀ p ∈ X.pn ++ pins, p.1 ≠ it) : Inv X pins σ H { s with heap := h', toks := t' } := by
  have nit : ∀ b u, H b = some u → b ≠ it := fun b u e z => by rw [z, hn] at e; cases e
  refine I.step (g' := s.gens) (d' := s.drawn) (ch := [it]) (fun b hb => ?_) (fun b o _ _ hc e _ => k b o (fun z => hc (by simp [z])) e) (fun b o _ _ hc e _ => ⟨o.slots, k b o (fun z => hc (by simp [z])) e⟩) (fun _ _ _ _ n => n)
    (fun b o hc e => ⟨o, k b o (fun z => hc (by simp [z])) e⟩) (fun _ _ e => e) (fun _ _ _ e => e) (fun b ps e => ⟨#[], by rw [e]; simp⟩) (fun m hm => ?_) (fun b u e => ?_) I.bare
  · have e : b = it := by simpa using hb
    subst e
    exact ⟨h1, hL, h2, h3⟩
  · obtain ⟨o, es, ep, ho, r⟩ := hm
    exact ⟨o, es, ep, k _ o (Ne.symm hL) ho, r⟩
  · refine (I.hok b u e).stay (fun c v hc q => k c v ?_ q) (fun _ q => q) fun _ _ q => q
    rcases hc with z | z
    · rw [z]; exact nit b u e
    · exact nit c _ z
theorem Inv.tok (I : Inv X pins σ H s) (t : Nat) : Inv X pins σ H { s with toks := t } := I.un (h' := s.heap) (t' := t) Un.refl I.hok
/-- all objects kept -/
theorem Inv.kept {t' : Nat} (I : Inv X pins σ H s) (k : ∀ b u, s.heap.get? b = some u → h'.get? b = some u) : Inv X pins σ H { s with heap := h', toks := t' } := I.un (Un.kept k) (I.hok.kept k)
/-- a new object laid and tracked -/
theorem Inv.laid {a : Addr} {o : HO} {t' : Nat} (I : Inv X pins σ H s) (k : ∀ b u, s.heap.get? b = some u → h'.get? b = some u) (hp : s.heap.objs.size ≤ a) (new : ObjOk X.prog X.w (upd H a o) h' a o) :
    Inv X pins σ (upd H a o) { s with heap := h', toks := t' } := I.un (Un.laid k hp (I.hok.fresh hp)) (I.hok.laid k hp new)
/-- an object written -/
theorem Inv.write {x e : Addr} {o : HO} {t' : Nat} (I : Inv X pins σ H s) (mu : Mut (H x)) (he : e = x ∨ H e = some (.own x)) (k : ∀ b u, b ≠ e → s.heap.get? b = some u → h'.get? b = some u) (heo : ∃ u, h'.get? e = some u)
    (new : ObjOk X.prog X.w (upd H x o) h' x o) : Inv X pins σ (upd H x o) { s with heap := h', toks := t' } := I.un (Un.write mu he k heo) (I.hok.write mu he k heo new)
/-- forgetting slots, pins -/
theorem Inv.weak {σ' : List (Option V)} (I : Inv X pins σ H s) (hl : σ'.length = σ.length) (w : ∀ (i : Nat) v, σ'[i]? = some (some v) → σ[i]? = some (some v)) : Inv X pins σ' H s :=
  ⟨I.ok, I.os, I.bare, I.base, let ⟨m, hn, hl'⟩ := I.loc; ⟨m, hn, fun i x v e1 e2 e3 => hl' i x v e1 (w i v e2) e3⟩, I.cell, I.free, I.freeC, I.pin, I.hok, hl.trans I.len⟩
theorem Inv.pins_of {pins' : List (Addr × Obj)} (I : Inv X pins σ H s) (h : ∀ p ∈ pins', s.heap.get? p.1 = some p.2 ∧ H p.1 = none ∧ p.1 ≠ X.env.locals ∧ p.1 ∉ X.fs ∧ ∀ v, p.2.data ≠ .cell v) : Inv X pins' σ H s :=
  ⟨I.ok, I.os, I.bare, I.base, I.loc, I.cell, I.free, I.freeC, fun p hp => (List.mem_append.mp hp).elim (fun z => I.pin p (List.mem_append_left _ z)) (h p), I.hok, I.len⟩

theorem nodup_ix {N : List Str} (hN : N.Nodup) {i j : Nat} {x : Str} (a : N[i]? = some x) (b : N[j]? = some x) : i = j := by
  obtain ⟨h1, e1⟩ := List.getElem?_eq_some_iff.mp a
  obtain ⟨h2, e2⟩ := List.getElem?_eq_some_iff.mp b
  exact (List.getElem_inj hN).mp (e1.trans e2.symm)

/-- a name is stored; what changed -/
theorem store_ok2 {M : Model} {A : Around} {E : Value → Shared → Prop} {i : Nat} {x : Str} {v : V} {u : Value} {Q : Unit → Shared → Prop} (I : Inv X pins σ H s) (hN : X.N.Nodup) (hi : X.N[i]? = some x) (hx : Loc X.env.scope x) (r : RelV v u)
    (h : ∀ s', Inv X pins (σ.set i (some v)) H s' → (∃ a, Heap.SameBut a s.heap s'.heap ∧ (a = X.env.locals ∨ X.env.cells.lookup x = some a)) → Q () s') (hf : X.fn x = true ∨ X.env.scope.names.lookup x = some .local := by first | exact .inl rfl | exact .inr rfl | assumption) : wpAny M A (storeName X.env x u) Q E s := by
  obtain ⟨m, hn, hl⟩ := id I.loc
  have hcls : (X.env.scope.kind == .class || (X.env.scope.kind == .module && X.env.locals != X.env.globals)) = false := by rw [I.ok.kind]; rfl
  have hiσ : i < σ.length := by rw [I.len]; exact (List.getElem?_eq_some_iff.mp hi).1
  have cne := I.cne
  have tracked : ∀ {a : Addr} {h' : Heap}, (∃ o, s.heap.get? a = some o ∧ H a = none) → Heap.SameBut a s.heap h' → HOk X.prog X.w H h' := fun {a h'} ha hs b ob e => by
    obtain ⟨_, _, hfree⟩ := ha
    refine (I.hok b ob e).stay (fun c w' hc q => (hs.2 c ?_).trans q) (fun _ q => q) fun _ _ q => q
    rintro rfl
    rcases hc with rfl | hc
    · rw [hfree] at e; cases e
    · rw [hfree] at hc; cases hc
  rcases hx with hk | hk
  · refine wpAny_storeName_local hk hn (fun h' hn' hs => ?_) hcls
    obtain ⟨oL, _, _, hoL, _⟩ := id hn
    refine h _ ⟨I.ok, I.os, I.bare, ⟨fun b o e n hb hx => ?_, fun b o e n hb hx => ?_, I.base.free, fun b o e hx => ?_, I.base.tups, I.base.frzs, I.base.tbls⟩, ⟨_, hn', fun j y v' e1 e2 e3 => ?_⟩, fun y c e => ?_, I.free, I.freeC, fun p hp => ?_, tracked ⟨oL, hoL, I.free⟩ hs, by simpa using I.len⟩ ⟨_, hs, .inl rfl⟩
    · exact (hs.2 b (Nat.ne_of_lt (Nat.lt_of_lt_of_le (Heap.lt_size e) I.ok.above))).trans (I.base.keep b o e n hb hx)
    · obtain ⟨sl, e1⟩ := I.base.slot b o e n hb hx
      exact ⟨sl, (hs.2 b (Nat.ne_of_lt (Nat.lt_of_lt_of_le (Heap.lt_size e) I.ok.above))).trans e1⟩
    · obtain ⟨o', e1⟩ := I.base.there b o e hx
      exact ⟨o', (hs.2 b (Nat.ne_of_lt (Nat.lt_of_lt_of_le (Heap.lt_size e) I.ok.above))).trans e1⟩
    · by_cases hj : j = i
      · subst hj
        rw [hi] at e1; cases e1
        rw [List.getElem?_set_self hiσ] at e2
        cases e2
        exact ⟨u, r, .inl ⟨hk, by simp⟩⟩
      · rw [List.getElem?_set_ne (Ne.symm hj)] at e2
        obtain ⟨u', r', q⟩ := hl j y v' e1 e2 e3
        refine ⟨u', r', ?_⟩
        rcases q with ⟨k, e⟩ | ⟨k, c, e, z⟩
        · refine .inl ⟨k, ?_⟩
          have : y ≠ x := fun e => hj (nodup_ix hN e1 (e ▸ hi))
          simp [this, e]
        · exact .inr ⟨k, c, e, z.sameBut hs (cne y c e)⟩
    · obtain ⟨w', z⟩ := I.cell y c e
      exact ⟨w', z.sameBut hs (cne y c e)⟩
    · obtain ⟨e, n, ne, nf, d⟩ := I.pin p hp
      exact ⟨(hs.2 p.1 ne).trans e, n, ne, nf, d⟩
  · have hfn : X.fn x = true := by
      rcases hf with z | z
      · exact z
      · rw [z] at hk; cases hk
    obtain ⟨c, hc⟩ := I.ok.has x (.inl hk)
    obtain ⟨w', z⟩ := I.cell x c hc
    refine wpAny_storeName_cell I.ok.kind hk hc z (fun h' hc' hs => ?_)
    obtain ⟨oc, hoc, hocd⟩ := id z
    refine h { s with heap := h' } ⟨I.ok, I.os, I.bare, ⟨fun b o e n hb hx => ?_, fun b o e n hb hx => ?_, I.base.free, fun b o e hx => ?_, I.base.tups, I.base.frzs, I.base.tbls⟩, ⟨m, hn.sameBut hs (Ne.symm (cne x c hc)), fun j y v' e1 e2 e3 => ?_⟩, fun y c' e => ?_, I.free, I.freeC, fun p hp => ?_, tracked ⟨oc, hoc, I.freeC x c hc⟩ hs, by simpa using I.len⟩ ⟨c, hs, .inr hc⟩
    · exact (hs.2 b (Nat.ne_of_lt (Nat.lt_of_lt_of_le (Heap.lt_size e) (I.ok.cab x c hfn hc)))).trans (I.base.keep b o e n hb hx)
    · obtain ⟨sl, e1⟩ := I.base.slot b o e n hb hx
      exact ⟨sl, (hs.2 b (Nat.ne_of_lt (Nat.lt_of_lt_of_le (Heap.lt_size e) (I.ok.cab x c hfn hc)))).trans e1⟩
    · obtain ⟨o', e1⟩ := I.base.there b o e hx
      exact ⟨o', (hs.2 b (Nat.ne_of_lt (Nat.lt_of_lt_of_le (Heap.lt_size e) (I.ok.cab x c hfn hc)))).trans e1⟩
    · by_cases hj : j = i
      · subst hj
        rw [hi] at e1; cases e1
        rw [List.getElem?_set_self hiσ] at e2
        cases e2
        exact ⟨u, r, .inr ⟨.inl hk, c, hc, hc'⟩⟩
      · rw [List.getElem?_set_ne (Ne.symm hj)] at e2
        obtain ⟨u', r', q⟩ := hl j y v' e1 e2 e3
        refine ⟨u', r', ?_⟩
        rcases q with q | ⟨k, c', e, z'⟩
        · exact .inl q
        · refine .inr ⟨k, c', e, z'.sameBut hs ?_⟩
          rintro rfl
          exact hj (nodup_ix hN e1 (I.ok.inj _ _ _ e hc ▸ hi))
    · by_cases hcc : c' = c
      · subst hcc; exact ⟨_, hc'⟩
      · obtain ⟨w2, z2⟩ := I.cell y c' e
        exact ⟨w2, z2.sameBut hs hcc⟩
    · obtain ⟨e, n, ne, nf, d⟩ := I.pin p hp
      refine ⟨(hs.2 p.1 ?_).trans e, n, ne, nf, d⟩
      intro q
      rw [q, hoc] at e
      have q' : oc = p.2 := Option.some.inj e
      exact d w' (by rw [← q']; exact hocd)
theorem store_ok {M : Model} {A : Around} {E : Value → Shared → Prop} {i : Nat} {x : Str} {v : V} {u : Value} {Q : Unit → Shared → Prop} (I : Inv X pins σ H s) (hN : X.N.Nodup) (hi : X.N[i]? = some x) (hx : Loc X.env.scope x) (r : RelV v u)
    (h : ∀ s', Inv X pins (σ.set i (some v)) H s' → Q () s') (hf : X.fn x = true ∨ X.env.scope.names.lookup x = some .local := by first | exact .inl rfl | exact .inr rfl | assumption) : wpAny M A (storeName X.env x u) Q E s :=
  store_ok2 I hN hi hx r (fun s' I' _ => h s' I') hf
/-- behind a call or a block, the state as it is -/
theorem Inv.call' {s' : Shared} {ch : List Addr} (I : Inv X pins σ H s) (ho : s'.os = s.os) (u : Un (frs X.stack) ch H H' s.heap s'.heap) (hok : HOk X.prog X.w H' s'.heap) (hg : AllBare s'.gens)
    (hch : ∀ b ∈ ch, (b ∈ X.ex ∨ X.s₀.heap.objs.size ≤ b) ∧ b ≠ X.env.locals ∧ (∀ x c, X.env.cells.lookup x = some c → c ≠ b) ∧ ∀ p ∈ X.pn ++ pins, p.1 ≠ b) : Inv X pins σ H' s' := by
  obtain ⟨h', g', d', t', o'⟩ := s'
  have e : o' = s.os := ho
  subst e
  exact I.call (g' := g') (t' := t') (d' := d') u hok hg hch
end

/-! ### the judgements -/
/-- an exception: its class, its own dict's address (where it has one), the abstract heap behind it -/
abbrev XK := Value → Option Addr → Hp → Prop
abbrev St := List (Option V)
abbrev VK := V → Hp → Prop
/-- an expression's reading; a test's; an argument list's -/
abbrev TE := St → Hp → VK → Prop
abbrev TT := St → Hp → (Bool → Hp → Prop) → Prop
abbrev TA := St → Hp → (List V → Hp → Prop) → Prop
/-- what is wanted behind a statement -/
structure Ends where
  nx : St → Hp → Prop
  rt : VK
  bk : St → Hp → Prop := fun _ _ => False
  ct : St → Hp → Prop := fun _ _ => False
abbrev TS := Ends → St → Hp → Prop

def EP (X : Cx) (pins : List (Addr × Obj)) (σ : St) (Q : VK) (u : Value) (s' : Shared) : Prop := ∃ v H', Inv X pins σ H' s' ∧ RelV v u ∧ Q v H'
def TP (X : Cx) (pins : List (Addr × Obj)) (σ : St) (Q : Bool → Hp → Prop) (b : Bool) (s' : Shared) : Prop := ∃ H', Inv X pins σ H' s' ∧ Q b H'
def AP (X : Cx) (pins : List (Addr × Obj)) (σ : St) (Q : List V → Hp → Prop) (us : List Value) (s' : Shared) : Prop := ∃ vs H', Inv X pins σ H' s' ∧ Vals vs us ∧ Q vs H'
def SP (X : Cx) (pins : List (Addr × Obj)) (D : Ends) (f : Flow) (s' : Shared) : Prop :=
  match f with
  | .next => ∃ σ' H', Inv X pins σ' H' s' ∧ D.nx σ' H'
  | .brk => ∃ σ' H', Inv X pins σ' H' s' ∧ D.bk σ' H'
  | .cont => ∃ σ' H', Inv X pins σ' H' s' ∧ D.ct σ' H'
  | .ret u => ∃ v σ' H', Inv X pins σ' H' s' ∧ RelV v u ∧ D.rt v H'

def PE (X : Cx) (e : Expr) (t : TE) : Prop :=
  ∀ (pins : List (Addr × Obj)) (s : Shared) (σ : St) (H : Hp) (Q : VK), Inv X pins σ H s → t σ H Q → wpAny (model X.prog X.w) X.A (eval e X.env) (EP X pins σ Q) X.xe s
def PT (X : Cx) (e : Expr) (t : TT) : Prop :=
  ∀ (pins : List (Addr × Obj)) (s : Shared) (σ : St) (H : Hp) (Q : Bool → Hp → Prop), Inv X pins σ H s → t σ H Q → wpAny (model X.prog X.w) X.A (isTrue e X.env (eval e X.env)) (TP X pins σ Q) X.xe s
/-- a test whatever its 'whole' is (and, or) -/
def PW (X : Cx) (e : Expr) (t : TT) : Prop :=
  ∀ (whole : Sem Value) (pins : List (Addr × Obj)) (s : Shared) (σ : St) (H : Hp) (Q : Bool → Hp → Prop), Inv X pins σ H s → t σ H Q → wpAny (model X.prog X.w) X.A (isTrue e X.env whole) (TP X pins σ Q) X.xe s
theorem PW.pt {X : Cx} {e : Expr} {t : TT} (h : PW X e t) : PT X e t := h _
/-- an argument list (no star), from the left -/
def PA (X : Cx) (es : List Expr) (t : TA) : Prop :=
  ∀ (pos : Pos) (pins : List (Addr × Obj)) (s : Shared) (σ : St) (H : Hp) (Q : List V → Hp → Prop), Inv X pins σ H s → t σ H Q → wpAny (model X.prog X.w) X.A (spliced (backTo pos (starEach es X.env))) (AP X pins σ Q) X.xe s
def PS (X : Cx) (st : Stmt) (t : TS) : Prop :=
  ∀ (pins : List (Addr × Obj)) (s : Shared) (σ : St) (H : Hp) (D : Ends), Inv X pins σ H s → t D σ H → wpAny (model X.prog X.w) X.A (exec st X.env) (SP X pins D) X.xe s
def PSs (X : Cx) (st : List Stmt) (t : TS) : Prop :=
  ∀ (pins : List (Addr × Obj)) (s : Shared) (σ : St) (H : Hp) (D : Ends), Inv X pins σ H s → t D σ H → wpAny (model X.prog X.w) X.A (execs st X.env) (SP X pins D) X.xe s
/-- weaken the end -/
theorem thn {α : Type} {t : Sem α} {Q Q' : α → Shared → Prop} {M : Model} {A : Around} {E : Value → Shared → Prop} {s : Shared} (h : wpAny M A t Q E s) (hQ : ∀ a s, Q a s → Q' a s) : wpAny M A t Q' E s := wpAny_mono h hQ fun _ _ x => x
end L2

namespace L2
open PySem PySem.Spec PyProof.Rows
section
variable {X : Cx}

/-! ### names and constants -/
def tVar (i : Nat) : TE := fun σ H Q => ∃ v, σ[i]? = some (some v) ∧ Q v H
def tC (v : V) : TE := fun _ H Q => Q v H
theorem pe_var {i : Nat} {x : Str} {pos : Pos} (hN : X.N[i]? = some x) (hv : Vis X.env.scope x) (hd : (x == ("__debug__" : Str)) = false := by decide) (hcd : (x == ("__classdict__" : Str)) = false := by decide) : PE X (.Name x pos) (tVar i) := by
  intro pins s σ H Q I h
  obtain ⟨v, e, h⟩ := h
  obtain ⟨m, hn, hl⟩ := I.loc
  obtain ⟨u, r, l⟩ := hl i x v hN e hv
  have fin : EP X pins σ Q u s := ⟨v, H, I, r, h⟩
  rcases l with ⟨hk, hm⟩ | ⟨hk, c, hc, hcell⟩
  · exact wpAny_Name (wpAny_loadName_local I.ok.kind hk hn hm fin) hd
  · rcases hk with hk | hk
    · exact wpAny_Name (wpAny_loadName_cell I.ok.kind hk hc hcell fin) hd
    · exact wpAny_Name (wpAny_loadName_free I.ok.kind hk hc hcell fin hcd) hd
theorem pe_int {i j pos} : PE X (.Constant (.int i) j pos) (tC (.int i)) := fun _ _ _ H _ I h => wpAny_Constant_int ⟨.int i, H, I.tok _, ⟨_, rfl⟩, h⟩
theorem pe_bl {b j pos} : PE X (.Constant (.bool b) j pos) (tC (.bl b)) := fun _ _ _ H _ I h => Constant_bool ⟨.bl b, H, I, rfl, h⟩
theorem pe_non {j pos} : PE X (.Constant .none j pos) (tC .non) := fun _ _ _ H _ I h => Constant_none ⟨.non, H, I, rfl, h⟩
theorem pe_str {x j pos} : PE X (.Constant (.str x) j pos) (tC (.str x)) := fun _ _ _ H _ I h => Calls.Constant_str ⟨.str x, H, I.tok _, ⟨_, rfl⟩, h⟩

/-- a global name of the def -/
def Gl (X : Cx) (x : Str) : Prop := X.env.kindOf x = some .globalImplicit
theorem ld_glob {E : Value → Shared → Prop} {pins : List (Addr × Obj)} {s : Shared} {σ : St} {H : Hp} {x : Str} {u : Value} {pos : Pos} {Q : Value → Shared → Prop} (I : Inv X pins σ H s) (hg : Gl X x) (hm : X.mg x = some u) (h : Q u s)
    (hd : (x == ("__debug__" : Str)) = false := by decide) : wpAny (model X.prog X.w) X.A (eval (.Name x pos) X.env) Q E s :=
  Calls.Name_function_global I.ok.kind hg (Calls.loadGlobal_global (by rw [I.ok.glob]; exact I.mod.glob.keeps I.bk) hm h) hd
theorem ld_blt {E : Value → Shared → Prop} {pins : List (Addr × Obj)} {s : Shared} {σ : St} {H : Hp} {x : Str} {u : Value} {pos : Pos} {Q : Value → Shared → Prop} (I : Inv X pins σ H s) (hg : Gl X x) (hm : X.mg x = none) (hv : bootBuiltins x = some u) (h : Q u s)
    (hn : x ≠ "__name__" := by decide) (hd : (x == ("__debug__" : Str)) = false := by decide) : wpAny (model X.prog X.w) X.A (eval (.Name x pos) X.env) Q E s := by
  obtain ⟨mb, h1, h2⟩ := I.mod.blt
  exact Calls.Name_function_global I.ok.kind hg (Calls.loadGlobal_builtin (by rw [I.ok.glob]; exact I.mod.glob.keeps I.bk) hm (by rw [I.ok.blt]; exact h1.keeps I.bk) ((h2 x hn).trans hv) h) hd
/-- a module's constant, a class, a function, as a value -/
theorem pe_glob {x : Str} {v : V} {u : Value} {pos : Pos} (hg : Gl X x) (hm : X.mg x = some u) (r : RelV v u) (hd : (x == ("__debug__" : Str)) = false := by decide) : PE X (.Name x pos) (tC v) :=
  fun _ _ _ H _ I h => ld_glob I hg hm ⟨v, H, I, r, h⟩ hd
theorem pe_bltn {x : Str} {v : V} {u : Value} {pos : Pos} (hg : Gl X x) (hm : X.mg x = none) (hv : bootBuiltins x = some u) (r : RelV v u) (hn : x ≠ "__name__" := by decide) (hd : (x == ("__debug__" : Str)) = false := by decide) : PE X (.Name x pos) (tC v) :=
  fun _ _ _ H _ I h => ld_blt I hg hm hv ⟨v, H, I, r, h⟩ hn hd

/-! ### arithmetic -/
variable {a b : Expr} {ta tb : TE} {pos : Pos}
/-! ### comparisons -/
def PC (X : Cx) (op : CmpOp) (a b : Expr) (t : TE) : Prop :=
  ∀ (pins : List (Addr × Obj)) (s : Shared) (σ : St) (H : Hp) (Q : VK), Inv X pins σ H s → t σ H Q →
    wpAny (model X.prog X.w) X.A (eval a X.env) (fun v s₁ => wpAny (model X.prog X.w) X.A (eval b X.env) (fun u s₂ => wpAny (model X.prog X.w) X.A (compareOp op v u) (EP X pins σ Q) X.xe s₂) X.xe s₁) X.xe s
theorem nobehind (b : Expr) {op : CmpOp} (h : op ≠ .In) (h2 : op ≠ .NotIn) : behindInMarks op b = false := by
  have e1 : (op == CmpOp.In) = false := by cases op <;> first | rfl | exact absurd rfl h
  have e2 : (op == CmpOp.NotIn) = false := by cases op <;> first | rfl | exact absurd rfl h2
  cases b <;> simp [behindInMarks, e1, e2]
/-- a comparison as a value, as a test -/
def tB (t : TE) : TT := fun σ H Q => t σ H fun x H1 => ∃ c, x = .bl c ∧ Q c H1
theorem pt_cmp {op : CmpOp} {t : TE} (h : PC X op a b t) (h1 : behindInMarks op b = false := by first | exact nobehind _ (by decide) (by decide) | rfl) : PT X (.Compare a [op] [b] pos) (tB t) := by
  intro pins s σ H Q I hw
  refine wpAny_isTrue_Compare1 (thn (h pins s σ H _ I hw) fun v s1 h1 => thn h1 fun u s2 h2 => thn h2 fun c s3 ⟨x, H1, I1, r1, q1⟩ => ?_) h1
  obtain ⟨d, rfl, q⟩ := q1
  cases r1
  exact wpAny_truthy_bool ⟨H1, I1, q⟩
/-- an expression whose value is a bool, as a test -/
theorem pt_val {e : Expr} {t : TE} (h : PE X e t) (he : ∀ whole, isTrue e X.env whole = (do let v ← whole; standAt e.pos; holding [v] (truthy v)) := by intro _; rfl) : PT X e (tB t) := by
  intro pins s σ H Q I hw
  refine isTrue_plain (thn (h pins s σ H _ I hw) fun v s1 ⟨x, H1, I1, r1, q1⟩ => ?_) (he _)
  obtain ⟨d, rfl, q⟩ := q1
  cases r1
  exact wpAny_truthy_bool ⟨H1, I1, q⟩

/-! ### and, or, not -/
variable {tA tB' : TT} {rest : List Expr}
def tAnd (t u : TT) : TT := fun σ H Q => t σ H fun c H1 => if c = true then u σ H1 Q else Q false H1
def tOr (t u : TT) : TT := fun σ H Q => t σ H fun c H1 => if c = true then Q true H1 else u σ H1 Q
def tNot (t : TT) : TT := fun σ H Q => t σ H fun c H1 => Q (!c) H1
theorem pw_and1 (ha : PT X a tA) : PW X (.BoolOp .And [a] pos) tA := by
  intro wh pins s σ H Q I h
  refine isTrue_and (thn (ha pins s σ H Q I h) fun c s1 e => ?_)
  cases c with
  | true => exact isTrue_and_nil e
  | false => exact e
theorem pw_or1 (ha : PT X a tA) : PW X (.BoolOp .Or [a] pos) tA := by
  intro wh pins s σ H Q I h
  refine isTrue_or (thn (ha pins s σ H Q I h) fun c s1 e => ?_)
  cases c with
  | false => exact isTrue_or_nil e
  | true => exact e
theorem pw_and (ha : PT X a tA) (hb : PW X (.BoolOp .And (b :: rest) pos) tB') : PW X (.BoolOp .And (a :: b :: rest) pos) (tAnd tA tB') := by
  intro wh pins s σ H Q I h
  refine isTrue_and (thn (ha pins s σ H _ I h) fun c s1 ⟨H1, I1, q1⟩ => ?_)
  cases c with
  | true => exact hb wh pins s1 σ H1 Q I1 q1
  | false => exact ⟨H1, I1, q1⟩
theorem pw_or (ha : PT X a tA) (hb : PW X (.BoolOp .Or (b :: rest) pos) tB') : PW X (.BoolOp .Or (a :: b :: rest) pos) (tOr tA tB') := by
  intro wh pins s σ H Q I h
  refine isTrue_or (thn (ha pins s σ H _ I h) fun c s1 ⟨H1, I1, q1⟩ => ?_)
  cases c with
  | true => exact ⟨H1, I1, q1⟩
  | false => exact hb wh pins s1 σ H1 Q I1 q1
theorem pt_not (ha : PT X a tA) : PT X (.UnaryOp .Not a pos) (tNot tA) := by
  intro pins s σ H Q I h
  exact isTrue_not (ha pins s σ H (fun c H1 => Q (!c) H1) I h)
/-- .. as values (bools) -/
def tAndV (ta tb : TE) : TE := fun σ H Q => ta σ H fun x H1 => ∃ c, x = .bl c ∧ if c = true then tb σ H1 Q else Q (.bl false) H1
theorem pe_one {op} {t : TE} (h : PE X a t) : PE X (.BoolOp op [a] pos) t := fun pins s σ H Q I hw => BoolOp_one (h pins s σ H Q I hw)
theorem pe_and (ha : PE X a ta) (hb : PE X (.BoolOp .And (b :: rest) pos) tb) : PE X (.BoolOp .And (a :: b :: rest) pos) (tAndV ta tb) := by
  intro pins s σ H Q I h
  refine BoolOp_and (thn (ha pins s σ H _ I h) fun v s1 ⟨x, H1, I1, r1, q1⟩ => ?_)
  obtain ⟨c, rfl, q1⟩ := q1
  cases r1
  refine wpAny_truthy_bool ?_
  cases c with
  | true => exact hb pins s1 σ H1 Q I1 q1
  | false => exact ⟨.bl false, H1, I1, rfl, q1⟩
/-- a if t else b -/
def tIf (t : TT) (ta tb : TE) : TE := fun σ H Q => t σ H fun c H1 => if c = true then ta σ H1 Q else tb σ H1 Q
theorem pe_ifExp {c : Expr} (hc : PT X c tA) (ha : PE X a ta) (hb : PE X b tb) : PE X (.IfExp c a b pos) (tIf tA ta tb) := by
  intro pins s σ H Q I h
  refine wpAny_IfExp (thn (hc pins s σ H _ I h) fun d s1 ⟨H1, I1, q1⟩ => ?_)
  cases d with
  | true => exact ha pins s1 σ H1 Q I1 q1
  | false => exact hb pins s1 σ H1 Q I1 q1
end
end L2

namespace L2
open PySem PySem.Spec PyProof.Rows

/-! ### a list, a tuple that is read: tracked, frozen, or an object of the module -/
def SqL (K : PySem.W.Frag) (H : Hp) (a : Addr) (xs : List V) : Prop :=
  Rd H a (.lst xs) ∨
    ∃ (o : Obj) (its : Array Value) (n : Nat), K.lookup a = some o ∧ o.cls = .type "list" ∧ o.dict = none ∧ o.data = .seq its n ∧ its.size ≤ sizeLine ∧ Vals xs its.toList
def SqT (K : PySem.W.Frag) (H : Hp) (a : Addr) (xs : List V) : Prop :=
  Rd H a (.tup xs) ∨
    ∃ (o : Obj) (its : Array Value) (n : Nat), K.lookup a = some o ∧ o.cls = .type "tuple" ∧ o.data = .seq its n ∧ its.size ≤ sizeLine ∧ Vals xs its.toList
def absV : Value → Option V
  | .none => some .non
  | .bool b => some (.bl b)
  | .int i _ => some (.int i)
  | .str x _ => some (.str x)
  | .bytes b _ => some (.byt b)
  | .float b _ => some (.flt b)
  | .ref a => some (.ref a)
  | .type n => some (.ty n)
  | _ => none
theorem RelV.abs {x : V} {u : Value} (r : RelV x u) : absV u = some x := by
  cases x with
  | non => cases r; rfl
  | bl _ => cases r; rfl
  | int _ => obtain ⟨t, rfl⟩ := r; rfl
  | str _ => obtain ⟨t, rfl⟩ := r; rfl
  | byt _ => obtain ⟨t, rfl⟩ := r; rfl
  | flt _ => obtain ⟨t, rfl⟩ := r; rfl
  | ref _ => cases r; rfl
  | ty _ => cases r; rfl
theorem RelV.inj {x y : V} {u : Value} (r : RelV x u) (q : RelV y u) : x = y := Option.some.inj (r.abs.symm.trans q.abs)
theorem Vals.inj : ∀ {xs ys : List V} {us : List Value}, Vals xs us → Vals ys us → xs = ys
  | _, _, _, .nil, .nil => rfl
  | _, _, _, .cons r t, .cons r' t' => by rw [r.inj r', Vals.inj t t']
section
variable {X : Cx} {pins : List (Addr × Obj)} {σ : St} {H : Hp} {s : Shared} {a : Addr} {xs ys : List V}
theorem SqL.of {K : PySem.W.Frag} (h : H a = some (.lst xs)) : SqL K H a xs := .inl (.inl h)
theorem SqT.of {K : PySem.W.Frag} (h : H a = some (.tup xs)) : SqT K H a xs := .inl (.inl h)
theorem Inv.list (I : Inv X pins σ H s) (h : SqL X.K H a xs) : ∃ its : List Value, Vals xs its ∧ PlainL s.heap a its.toArray ∧ xs.length ≤ sizeLine := by
  rcases h with h | ⟨o, its, n, hk, hc, hd, hs, hz, r⟩
  · obtain ⟨z, its, n, r, e⟩ := h.ok I.hok
    exact ⟨its, r, ⟨_, n, e, rfl, rfl, rfl⟩, z⟩
  · refine ⟨its.toList, r, ⟨o, n, I.kIn a o hk, hc, hd, by simpa using hs⟩, ?_⟩
    have e := r.length
    simp only [Array.length_toList] at e
    omega
theorem Inv.tuple (I : Inv X pins σ H s) (h : SqT X.K H a xs) : ∃ its : List Value, Vals xs its ∧ IsTup s.heap a its.toArray ∧ xs.length ≤ sizeLine := by
  rcases h with h | ⟨o, its, n, hk, hc, hs, hz, r⟩
  · obtain ⟨z, its, r, p⟩ := h.ok I.hok
    exact ⟨its, r, p, z⟩
  · refine ⟨its.toList, r, ⟨o, I.kIn a o hk, hc, n, by simpa using hs⟩, ?_⟩
    have e := r.length
    simp only [Array.length_toList] at e
    omega
theorem Inv.list_inj (I : Inv X pins σ H s) (h : SqL X.K H a xs) (h' : SqL X.K H a ys) : xs = ys := by
  obtain ⟨its, r, ⟨o, n, e, _, _, d⟩, _⟩ := I.list h
  obtain ⟨its', r', ⟨o', n', e', _, _, d'⟩, _⟩ := I.list h'
  rw [e] at e'; cases e'
  rw [d] at d'
  injection d' with d1 _
  have : its = its' := by simpa using congrArg Array.toList d1
  subst this
  exact r.inj r'
theorem Inv.tuple_inj (I : Inv X pins σ H s) (h : SqT X.K H a xs) (h' : SqT X.K H a ys) : xs = ys := by
  obtain ⟨its, r, ⟨o, e, _, n, d⟩, _⟩ := I.tuple h
  obtain ⟨its', r', ⟨o', e', _, n', d'⟩, _⟩ := I.tuple h'
  rw [e] at e'; cases e'
  rw [d] at d'
  injection d' with d1 _
  have : its = its' := by simpa using congrArg Array.toList d1
  subst this
  exact r.inj r'
end

/-! ### another wish about exceptions -/
abbrev Cx.wish (X : Cx) (E : Value → Shared → Prop) : Cx := { X with xe := E }
/-- no exception leaves -/
abbrev Cx.nox (X : Cx) : Cx := X.wish fun _ _ => False
theorem Cx.Ok.wish {X : Cx} (ok : X.Ok) (E : Value → Shared → Prop) : (X.wish E).Ok :=
  ⟨ok.mod, ok.kind, ok.glob, ok.blt, ok.above, ok.inj, ok.has, ok.cab, ok.hd, ok.frames, ok.stk, ok.exf, ok.bs, ok.bsz, ok.noex, ok.exfs, ok.funs, ok.frf⟩
theorem Cx.Ok.unwish {X : Cx} {E : Value → Shared → Prop} (ok : (X.wish E).Ok) : X.Ok :=
  ⟨ok.mod, ok.kind, ok.glob, ok.blt, ok.above, ok.inj, ok.has, ok.cab, ok.hd, ok.frames, ok.stk, ok.exf, ok.bs, ok.bsz, ok.noex, ok.exfs, ok.funs, ok.frf⟩
section
variable {X : Cx} {pins : List (Addr × Obj)} {σ : St} {H : Hp} {s : Shared} {E : Value → Shared → Prop}
theorem Inv.wish (I : Inv X pins σ H s) (E : Value → Shared → Prop) : Inv (X.wish E) pins σ H s := ⟨I.ok.wish E, I.os, I.bare, I.base, I.loc, I.cell, I.free, I.freeC, I.pin, I.hok, I.len⟩
theorem Inv.unwish (I : Inv (X.wish E) pins σ H s) : Inv X pins σ H s := ⟨I.ok.unwish, I.os, I.bare, I.base, I.loc, I.cell, I.free, I.freeC, I.pin, I.hok, I.len⟩
theorem SP.unwish {D : Ends} {f : Flow} {s' : Shared} (h : SP (X.wish E) pins D f s') : SP X pins D f s' := by
  cases f with
  | next => obtain ⟨σ', H', I, q⟩ := h; exact ⟨σ', H', I.unwish, q⟩
  | brk => obtain ⟨σ', H', I, q⟩ := h; exact ⟨σ', H', I.unwish, q⟩
  | cont => obtain ⟨σ', H', I, q⟩ := h; exact ⟨σ', H', I.unwish, q⟩
  | ret u => obtain ⟨v, σ', H', I, r, q⟩ := h; exact ⟨v, σ', H', I.unwish, r, q⟩
theorem PSs.nox {st : List Stmt} {t : TS} (h : PSs X.nox st t) : PSs X st t := fun pins s σ H D I hw =>
  wpAny_mono (h pins s σ H D (I.wish _) hw) (fun _ _ q => q.unwish) fun _ _ z => False.elim z
end

/-! ### blocks and small statements -/
section
variable {X : Cx} {st : Stmt} {rest : List Stmt} {t u : TS} {e : Expr} {te : TE} {pos : Pos}
def tNext : TS := fun D σ H => D.nx σ H
def tSeq (t u : TS) : TS := fun D σ H => t { D with nx := u D } σ H
theorem pss_nil : PSs X [] tNext := fun _ _ σ H _ I h => wpAny_execs_nil ⟨σ, H, I, h⟩
theorem pss_cons (h1 : PS X st t) (h2 : PSs X rest u) : PSs X (st :: rest) (tSeq t u) := by
  intro pins s σ H D I h
  refine wpAny_execs_cons (thn (h1 pins s σ H { D with nx := u D } I h) fun f s1 q => ?_)
  cases f with
  | next =>
    obtain ⟨σ', H', I', q⟩ := q
    exact h2 pins s1 σ' H' D I' q
  | ret v => exact q
  | brk => exact q
  | cont => exact q
theorem pss_one (h1 : PS X st t) : PSs X [st] t := by
  intro pins s σ H D I h
  refine wpAny_execs_cons (thn (h1 pins s σ H D I h) fun f s1 q => ?_)
  cases f with
  | next => exact wpAny_execs_nil q
  | ret v => exact q
  | brk => exact q
  | cont => exact q
/-- in a def's body nothing is shown -/
theorem Inv.quiet {pins : List (Addr × Obj)} {σ : St} {H : Hp} {s : Shared} (I : Inv X pins σ H s) : interactive X.env = false := by simp [interactive, I.ok.kind]
/-- an expression whose value is dropped -/
def tDrop (te : TE) : TS := fun D σ H => te σ H fun _ H1 => D.nx σ H1
theorem ps_expr (he : PE X e te) (hs : swapsWith e none pos.line X.env = pure false := by rfl) : PS X (.Expr e pos) (tDrop te) := by
  intro pins s σ H D I h
  exact wpAny_Expr_any (thn (he pins s σ H _ I h) fun v s1 ⟨x, H1, I1, r1, q1⟩ => ⟨σ, H1, I1, q1⟩) I.quiet hs
def tRet (te : TE) : TS := fun D σ H => te σ H D.rt
theorem ps_ret (he : PE X e te) : PS X (.Return (some e) pos) (tRet te) := by
  intro pins s σ H D I h
  exact wpAny_Return_some (thn (he pins s σ H _ I h) fun v s1 ⟨x, H1, I1, r1, q1⟩ => ⟨x, σ, H1, I1, r1, q1⟩)
def tIfS (c : TT) (t u : TS) : TS := fun D σ H => c σ H fun b H1 => if b = true then t D σ H1 else u D σ H1
theorem ps_if {c : Expr} {a b : List Stmt} {tc : TT} (hc : PT X c tc) (ha : PSs X a t) (hb : PSs X b u) : PS X (.If c a b pos) (tIfS tc t u) := by
  intro pins s σ H D I h
  refine wpAny_If (thn (hc pins s σ H _ I h) fun d s1 ⟨H1, I1, q1⟩ => ?_)
  cases d with
  | true => exact ha pins s1 σ H1 D I1 q1
  | false => exact hb pins s1 σ H1 D I1 q1
/-- code that the proof never comes to -/
def tNever : TS := fun _ _ _ => False
theorem ps_never : PS X st tNever := fun _ _ _ _ _ _ h => h.elim
end

/-! ### targets -/
abbrev TG := V → St → Hp → (St → Hp → Prop) → Prop
abbrev TGs := List V → St → Hp → (St → Hp → Prop) → Prop
def PG (X : Cx) (target : Expr) (t : TG) : Prop :=
  ∀ (pins : List (Addr × Obj)) (s : Shared) (σ : St) (H : Hp) (v : V) (u : Value) (Q : St → Hp → Prop), Inv X pins σ H s → RelV v u → t v σ H Q →
    wpAny (model X.prog X.w) X.A (assign target X.env u) (fun _ s' => ∃ σ' H', Inv X pins σ' H' s' ∧ Q σ' H') X.xe s
/-- several targets, one after another -/
def PGs (X : Cx) (ts : List Expr) (t : TGs) : Prop :=
  ∀ (pins : List (Addr × Obj)) (s : Shared) (σ : St) (H : Hp) (vs : List V) (us : List Value) (Q : St → Hp → Prop), Inv X pins σ H s → Vals vs us → t vs σ H Q →
    wpAny (model X.prog X.w) X.A (assignInOrder ((assignEach ts X.env).map (·.2)) us) (fun _ s' => ∃ σ' H', Inv X pins σ' H' s' ∧ Q σ' H') X.xe s
/-- o[i] = v, by values -/
abbrev TSet := V → V → V → Hp → (Hp → Prop) → Prop
def PSet (X : Cx) (t : TSet) : Prop :=
  ∀ (pins : List (Addr × Obj)) (s : Shared) (σ : St) (H : Hp) (o i v : V) (ov iv u : Value) (Q : Hp → Prop), Inv X pins σ H s → RelV o ov → RelV i iv → RelV v u → t o i v H Q →
    wpAny (model X.prog X.w) X.A (setItem ov iv u) (fun _ s' => ∃ H', Inv X pins σ H' s' ∧ Q H') X.xe s
section
variable {X : Cx} {pos : Pos}
def gName (i : Nat) : TG := fun v σ H Q => Q (σ.set i (some v)) H
theorem pg_name {i : Nat} {x : Str} (hN : X.N.Nodup) (hi : X.N[i]? = some x) (hx : Loc X.env.scope x) (hf : X.fn x = true ∨ X.env.scope.names.lookup x = some .local := by first | exact .inl rfl | exact .inr rfl | assumption) : PG X (.Name x pos) (gName i) := by
  intro pins s σ H v u Q I r h
  exact wpAny_assign_Name (store_ok I hN hi hx r (fun s' I' => ⟨_, H, I', h⟩) hf)
def gNil : TGs := fun vs σ H Q => vs = [] ∧ Q σ H
def gCons (t : TG) (u : TGs) : TGs := fun vs σ H Q => ∃ v r, vs = v :: r ∧ t v σ H fun σ' H' => u r σ' H' Q
theorem pgs_nil : PGs X [] gNil := by
  intro pins s σ H vs us Q I r h
  obtain ⟨e, h⟩ := h
  subst e
  cases r
  exact assignInOrder_nil ⟨σ, H, I, h⟩
theorem pgs_cons {e : Expr} {es : List Expr} {t : TG} {u : TGs} (h1 : PG X e t) (h2 : PGs X es u)
    (hs : (assignEach (e :: es) X.env).map (·.2) = assign e X.env :: (assignEach es X.env).map (·.2) := by rfl) : PGs X (e :: es) (gCons t u) := by
  intro pins s σ H vs us Q I r h
  obtain ⟨v, vr, e1, h⟩ := h
  subst e1
  cases r with
  | cons r rr =>
    rw [hs]
    refine assignInOrder_cons (thn (h1 pins s σ H _ _ _ I r h) fun _ s1 ⟨σ1, H1, I1, q1⟩ => ?_)
    exact h2 pins s1 σ1 H1 _ _ Q I1 rr q1
/-- (a, b, ..) = a tuple of that length -/
def gTup (K : PySem.W.Frag) (n : Nat) (t : TGs) : TG := fun v σ H Q => ∃ a xs, v = .ref a ∧ SqT K H a xs ∧ xs.length = n ∧ t xs σ H Q
theorem pg_tup {es : List Expr} {k : Nat} {t : TGs} {n : Nat} (hc : X.calm = true) (h : PGs X es t)
    (hn : (assignEach es X.env).length = n := by rfl) (hst : (assignEach es X.env).findIdx? (·.1) = none := by rfl) : PG X (.Tuple es k pos) (gTup X.K n t) := by
  intro pins s σ H v u Q I r hw
  obtain ⟨a, xs, e1, hq, hl, hw⟩ := hw
  subst e1
  cases r
  obtain ⟨its, rv, ht, hz⟩ := I.tuple hq
  refine assign_Tuple_tuple (I.ok.hd hc) ht (by simp [hn, ← hl, rv.length]) hst fun h' hx => ?_
  have I1 : Inv X pins σ H { s with heap := h' } := I.kept (t' := s.toks) fun b o e => hx b o (Nat.ne_of_lt (Heap.lt_size e)) e
  exact h pins _ σ H xs _ Q I1 (by simpa using rv) hw
/-- o[i] = .. -/
def gSub (to ti : TE) (t : TSet) : TG := fun v σ H Q => to σ H fun o H1 => ti σ H1 fun i H2 => t o i v H2 fun H3 => Q σ H3
theorem pg_sub {o i : Expr} {to ti : TE} {t : TSet} (ho : PE X o to) (hi : PE X i ti) (hs : PSet X t)
    (ha : ∀ v, assign (.Subscript o i pos) X.env v = (do
      let ov ← holding [v] (eval o X.env)
      let iv ← holding [v, ov] (eval i X.env)
      standAt pos
      holding [v, ov, iv] (setItem ov iv v)
      release [v, ov, iv] []) := by intro _; rfl) : PG X (.Subscript o i pos) (gSub to ti t) := by
  intro pins s σ H v u Q I r h
  rw [ha]
  refine wpAny_bind (wpAny_holding (thn (ho pins s σ H _ I h) fun ov s1 ⟨x, H1, I1, r1, q1⟩ => ?_))
  refine wpAny_bind (wpAny_holding (thn (hi pins s1 σ H1 _ I1 q1) fun iv s2 ⟨y, H2, I2, r2, q2⟩ => ?_))
  refine wpAny_bind (wpAny_standAt (wpAny_bind (wpAny_holding (thn (hs pins s2 σ H2 x y v ov iv u _ I2 r1 r2 r q2) fun _ s3 ⟨H3, I3, q3⟩ => ?_))))
  exact wpAny_release ⟨σ, H3, I3, q3⟩
/-- target = value -/
def tAsg (te : TE) (g : TG) : TS := fun D σ H => te σ H fun x H1 => g x σ H1 D.nx
theorem ps_asg {tg e : Expr} {te : TE} {g : TG} (he : PE X e te) (hg : PG X tg g) (hs : swapsWithSole [tg] e pos.line X.env = pure false := by rfl) (hw : swappedStores [tg] e X.env = pure none := by rfl)
    (h1 : (assignEach [tg] X.env).map (·.2) = [assign tg X.env] := by rfl) : PS X (.Assign [tg] e pos) (tAsg te g) := by
  intro pins s σ H D I h
  refine wpAny_Assign_stores (thn (he pins s σ H _ I h) fun v s1 ⟨x, H1, I1, r1, q1⟩ => ?_) hs hw
  rw [h1]
  exact thn (hg pins s1 σ H1 x v _ I1 r1 q1) fun _ s2 q => q
/-- name = value -/
theorem ps_set {i : Nat} {x : Str} {e : Expr} {te : TE} {pos' : Pos} (hN : X.N.Nodup) (hi : X.N[i]? = some x) (hx : Loc X.env.scope x) (he : PE X e te) (hs : swapsWith e (some (.Name x pos')) pos.line X.env = pure false := by rfl) (hf : X.fn x = true ∨ X.env.scope.names.lookup x = some .local := by first | exact .inl rfl | exact .inr rfl | assumption) :
    PS X (.Assign [.Name x pos'] e pos) (tAsg te (gName i)) := by
  intro pins s σ H D I h
  refine wpAny_Assign_Name (thn (he pins s σ H _ I h) fun v s1 ⟨y, H1, I1, r1, q1⟩ => ?_) hs
  exact store_ok I1 hN hi hx r1 (fun s2 I2 => ⟨_, H1, I2, q1⟩) hf
end

/-! ### while -/
section
variable {X : Cx} {pos : Pos}
/-- the invariant W with its measure -/
def tWhile (c : TT) (tb : TS) : TS := fun D σ H => ∃ W : Nat → St → Hp → Prop, (∃ m, W m σ H) ∧ ∀ m σ H, W m σ H →
  c σ H fun b H1 => if b = true then ∃ N : St → Hp → Prop, (∀ σ' H', N σ' H' → ∃ m', m' < m ∧ W m' σ' H') ∧ tb { D with nx := N, ct := N, bk := D.nx } σ H1 else D.nx σ H1
theorem ps_while {c : Expr} {body : List Stmt} {tc : TT} {tb : TS} (hp : PassesOwn (model X.prog X.w) X.A X.env X.xe) (hc : PT X c tc) (hb : PSs X body tb) : PS X (.While c body [] pos) (tWhile tc tb) := by
  intro pins s σ H D I h
  obtain ⟨W, ⟨m0, w0⟩, turn⟩ := h
  refine wpAny_While (codeAny_whileLoop (fun n s' => ∃ σ' H', Inv X pins σ' H' s' ∧ W n σ' H') ?_ m0 ⟨σ, H, I, w0⟩)
  rintro n s1 ⟨σ1, H1, I1, w1⟩
  refine wpAny_passesOwn hp (thn (hc pins s1 σ1 H1 _ I1 (turn n σ1 H1 w1)) fun b s2 ⟨H2, I2, q2⟩ => ?_)
  cases b with
  | true =>
    obtain ⟨N, hN, q2⟩ := q2
    rw [if_pos rfl]
    refine wpAny_passesOwn hp (thn (hb pins s2 σ1 H2 _ I2 q2) fun f s3 q3 => ?_)
    cases f with
    | next =>
      obtain ⟨σ3, H3, I3, n3⟩ := q3
      obtain ⟨m', hm, w3⟩ := hN σ3 H3 n3
      exact ⟨m', hm, σ3, H3, I3, w3⟩
    | cont =>
      obtain ⟨σ3, H3, I3, n3⟩ := q3
      obtain ⟨m', hm, w3⟩ := hN σ3 H3 n3
      exact ⟨m', hm, σ3, H3, I3, w3⟩
    | brk => exact q3
    | ret v => exact q3
  | false =>
    rw [if_neg Bool.false_ne_true]
    exact wpAny_execs_nil ⟨σ1, H2, I2, q2⟩
end

/-! ### what a loop or a comprehension walks -/
/-- at turn i: it yields x (the heap may grow), or it stops -/
structure It where
  go : Nat → Hp → Prop
  yld : Nat → Hp → V → Hp → Prop
  stop : Nat → Hp → Prop
/-- the iterator's own objects may turn: they are not the frame's, not pinned, younger than the entry (or a comprehension's own) -/
def FpOk (X : Cx) (pins : List (Addr × Obj)) (H : Hp) (b : Addr) : Prop :=
  H b = none ∧ b ≠ X.env.locals ∧ b ∉ X.fs ∧ (b ∈ X.ex ∨ X.s₀.heap.objs.size ≤ b) ∧ (∀ x c, X.env.cells.lookup x = some c → c ≠ b) ∧ ∀ p ∈ X.pn ++ pins, p.1 ≠ b
theorem Inv.fpOk {X : Cx} {pins : List (Addr × Obj)} {σ : St} {H H' : Hp} {s : Shared} {b : Addr} (I : Inv X pins σ H s) (hb : s.heap.objs.size ≤ b) (hn : H' b = none) : FpOk X pins H' b := by
  refine ⟨hn, Nat.ne_of_gt (Nat.lt_of_lt_of_le I.lt hb), I.nofs hb, .inr (Nat.le_trans I.sz hb), fun x c e z => ?_, fun p hp z => ?_⟩
  · obtain ⟨v, q⟩ := I.cell x c e
    exact absurd (Nat.lt_of_lt_of_le q.lt (by rw [z]; exact hb)) (Nat.lt_irrefl _)
  · exact absurd (Nat.lt_of_lt_of_le (Heap.lt_size (I.pin p hp).1) (by rw [z]; exact hb)) (Nat.lt_irrefl _)
structure Turn (P : Program) (w : World) (K : PySem.W.Frag) (tg : Expr) (J : It) (fp : List Addr) (it : Addr) (tn : Nat → Heap → Prop) : Prop where
  mem : it ∈ fp
  obj : ∀ i h, tn i h → ∀ b ∈ fp, ∃ o, h.get? b = some o ∧ ∀ v, o.data ≠ .cell v
  keep : ∀ i h h', tn i h → (∀ b ∈ fp, ∀ o, h.get? b = some o → h'.get? b = some o) → tn i h'
  item : ∀ (X : Cx), X.prog = P → X.w = w → X.K = K → X.calm = true → ∀ (i : Nat) (pins : List (Addr × Obj)) (s : Shared) (σ : St) (H : Hp) (E : Value → Shared → Prop), Inv X pins σ H s → (∀ b ∈ fp, FpOk X pins H b) → tn i s.heap → J.go i H →
    wpAny (model P w) X.A (pyNext (.ref it)) (fun r s1 => ∃ u, r = some u ∧
      wpAny (model P w) X.A (letOwnedTupleGo tg (.ref it) u) (fun _ s2 => ∃ x H', Inv X pins σ H' s2 ∧ RelV x u ∧ J.yld i H x H' ∧ tn (i + 1) s2.heap ∧ ∀ b ∈ fp, H' b = none) E s1) E s
  done : ∀ (X : Cx), X.prog = P → X.w = w → X.K = K → X.calm = true → ∀ (i : Nat) (pins : List (Addr × Obj)) (s : Shared) (σ : St) (H : Hp) (E : Value → Shared → Prop), Inv X pins σ H s → (∀ b ∈ fp, FpOk X pins H b) → tn i s.heap → J.stop i H →
    wpAny (model P w) X.A (pyNext (.ref it)) (fun r s1 => r = none ∧ Inv X pins σ H s1) E s
  self : ∀ (A : Around) (i : Nat) (s : Shared) (Q : Value → Shared → Prop) (E : Value → Shared → Prop), tn i s.heap → Q (.ref it) s → wpAny (model P w) A (pyIter (.ref it)) Q E s
abbrev TI := St → Hp → (It → Hp → Prop) → Prop
/-- an iterator has come -/
def PIE (X : Cx) (pins : List (Addr × Obj)) (σ : St) (tg : Expr) (R : It → Hp → Prop) (itv : Value) (s2 : Shared) : Prop :=
  ∃ (it : Addr) (fp : List Addr) (tn : Nat → Heap → Prop) (J : It) (H' : Hp), itv = .ref it ∧ Inv X pins σ H' s2 ∧ Turn X.prog X.w X.K tg J fp it tn ∧ tn 0 s2.heap ∧ (∀ b ∈ fp, FpOk X pins H' b) ∧ R J H'
def PI (X : Cx) (tg iter : Expr) (wi : TI) : Prop :=
  ∀ (pins : List (Addr × Obj)) (s : Shared) (σ : St) (H : Hp) (R : It → Hp → Prop), Inv X pins σ H s → wi σ H R →
    wpAny (model X.prog X.w) X.A (eval iter X.env) (fun v s1 => wpAny (model X.prog X.w) X.A (pyIter v) (PIE X pins σ tg R) X.xe s1) X.xe s

/-- the step ahead of the store is nothing for an iterator that keeps no tuple -/
theorem go_of {M : Model} {A : Around} {E : Value → Shared → Prop} {s : Shared} {tg : Expr} {it : Addr} {u : Value} {o : Obj} {n : String} {vs : Array Value} {Q : Unit → Shared → Prop} (ho : s.heap.get? it = some o) (hc : o.cls = .type n) (hd : o.data = .fields vs)
    (hn : ["enumerate", "zip", "dict_itemiterator", "dict_reverseitemiterator", "odict_iterator", "itertools.zip_longest", "itertools.pairwise"].contains n = false) (hQ : Q () s) : wpAny M A (letOwnedTupleGo tg (.ref it) u) Q E s := by
  unfold letOwnedTupleGo
  cases tg <;> first
    | exact wpAny_pure hQ
    | (cases u <;> first
        | exact wpAny_pure hQ
        | (refine wpAny_bind (wpAny_load ho ?_)
           rw [hc, hd]
           show wpAny M A (if (["enumerate", "zip", "dict_itemiterator", "dict_reverseitemiterator", "odict_iterator", "itertools.zip_longest", "itertools.pairwise"].contains n && vs[0]? == some (rawInt _)) = true then _ else _) Q E s
           rw [if_neg (by intro h; rw [hn, Bool.false_and] at h; cases h)]
           exact wpAny_pure hQ))

/-- the list at a, as it stands at each turn (a loop may append to it) -/
def Itl (K : PySem.W.Frag) (a : Addr) : It :=
  ⟨fun i H => ∃ xs x, SqL K H a xs ∧ xs[i]? = some x, fun i H x H' => H' = H ∧ ∀ xs, SqL K H a xs → xs[i]? = some x, fun i H => ∃ xs, SqL K H a xs ∧ xs.length ≤ i⟩
def Itt (K : PySem.W.Frag) (a : Addr) : It :=
  ⟨fun i H => ∃ xs x, SqT K H a xs ∧ xs[i]? = some x, fun i H x H' => H' = H ∧ ∀ xs, SqT K H a xs → xs[i]? = some x, fun i H => ∃ xs, SqT K H a xs ∧ xs.length ≤ i⟩
/-- lo, lo + 1, .. (n of them) -/
def Itr (lo : Int) (n : Nat) : It := ⟨fun i _ => i < n, fun i H x H' => H' = H ∧ x = .int (lo + i), fun i _ => n ≤ i⟩
theorem turn_list {P : Program} {w : World} {K : PySem.W.Frag} {tg : Expr} (a it : Addr) : Turn P w K tg (Itl K a) [it] it (fun i h => h.IsListIter it a i) where
  mem := by simp
  obj := fun i h st b hb => by
    have e : b = it := by simpa using hb
    subst e
    obtain ⟨o, e, c, d⟩ := st
    exact ⟨o, e, fun v z => by rw [d] at z; cases z⟩
  keep := fun i h h' st k => st.at fun o e => k it (by simp) o e
  item := by
    intro X hP hw hK hc i pins s σ H E I hf st hg
    subst hP hw hK
    obtain ⟨xs, x, hq, hx⟩ := hg
    obtain ⟨its, rv, p, hz⟩ := I.list hq
    obtain ⟨u, hu, ru⟩ := rv.get hx
    obtain ⟨f0, f1, f2, f3, f4, f5⟩ := hf it (by simp)
    refine wpAny_pyNext_list_item st p.isList (x := u) (by simpa using hu) fun h' st' sb => ?_
    have I1 : Inv X pins σ H { s with heap := h' } := I.turned (t' := s.toks) (fun b o hb e => (sb.2 b hb).trans e) f0 f1 f3 f4 f5
    obtain ⟨o, e, c, d⟩ := id st'
    exact ⟨u, rfl, go_of (s := { s with heap := h' }) e c d (by decide) ⟨x, H, I1, ru, ⟨rfl, fun ys hy => by rw [I.list_inj hy hq]; exact hx⟩, st', fun b hb => (hf b hb).1⟩⟩
  done := by
    intro X hP hw hK hc i pins s σ H E I hf st hg
    subst hP hw hK
    obtain ⟨xs, hq, hx⟩ := hg
    obtain ⟨its, rv, p, hz⟩ := I.list hq
    obtain ⟨f0, f1, f2, f3, f4, f5⟩ := hf it (by simp)
    have hl := rv.length
    exact wpAny_pyNext_list_end (I.ok.hd hc) st p.isList (by simp; omega) fun h' eb => ⟨rfl, I.turned (t' := s.toks) (fun b o hb e => eb b o hb e) f0 f1 f3 f4 f5⟩
  self := fun _ _ _ _ _ st h => wpAny_pyIter_listiter st h
theorem turn_tuple {P : Program} {w : World} {K : PySem.W.Frag} {tg : Expr} (a it : Addr) : Turn P w K tg (Itt K a) [it] it (fun i h => h.IsTupleIter it a i) where
  mem := by simp
  obj := fun i h st b hb => by
    have e : b = it := by simpa using hb
    subst e
    obtain ⟨o, e, c, d⟩ := st
    exact ⟨o, e, fun v z => by rw [d] at z; cases z⟩
  keep := fun i h h' st k => st.at fun o e => k it (by simp) o e
  item := by
    intro X hP hw hK hc i pins s σ H E I hf st hg
    subst hP hw hK
    obtain ⟨xs, x, hq, hx⟩ := hg
    obtain ⟨its, rv, p, hz⟩ := I.tuple hq
    obtain ⟨u, hu, ru⟩ := rv.get hx
    obtain ⟨f0, f1, f2, f3, f4, f5⟩ := hf it (by simp)
    refine wpAny_pyNext_tuple_item st (show s.heap.IsTuple a its.toArray from p) (x := u) (by simpa using hu) fun h' st' sb => ?_
    have I1 : Inv X pins σ H { s with heap := h' } := I.turned (t' := s.toks) (fun b o hb e => (sb.2 b hb).trans e) f0 f1 f3 f4 f5
    obtain ⟨o, e, c, d⟩ := id st'
    exact ⟨u, rfl, go_of (s := { s with heap := h' }) e c d (by decide) ⟨x, H, I1, ru, ⟨rfl, fun ys hy => by rw [I.tuple_inj hy hq]; exact hx⟩, st', fun b hb => (hf b hb).1⟩⟩
  done := by
    intro X hP hw hK hc i pins s σ H E I hf st hg
    subst hP hw hK
    obtain ⟨xs, hq, hx⟩ := hg
    obtain ⟨its, rv, p, hz⟩ := I.tuple hq
    obtain ⟨f0, f1, f2, f3, f4, f5⟩ := hf it (by simp)
    have hl := rv.length
    exact wpAny_pyNext_tuple_end (I.ok.hd hc) st (show s.heap.IsTuple a its.toArray from p) (by simp; omega) fun h' eb => ⟨rfl, I.turned (t' := s.toks) (fun b o hb e => eb b o hb e) f0 f1 f3 f4 f5⟩
  self := fun _ _ _ _ _ st h => wpAny_pyIter_tupleiter st h
theorem turn_range {P : Program} {w : World} {K : PySem.W.Frag} {tg : Expr} (it : Addr) (lo : Int) (n : Nat) : Turn P w K tg (Itr lo n) [it] it (fun i h => IsRangeIter h it (lo + (i : Nat) * 1) ((n : Int) - (i : Nat)) 1) where
  mem := by simp
  obj := fun i h st b hb => by
    have e : b = it := by simpa using hb
    subst e
    exact ⟨_, st, fun v z => by
      have z' : Data.fields _ = Data.cell v := z
      cases z'⟩
  keep := fun i h h' st k => k it (by simp) _ st
  item := by
    intro X hP hw hK hc i pins s σ H E I hf st hg
    subst hP hw hK
    obtain ⟨f0, f1, f2, f3, f4, f5⟩ := hf it (by simp)
    have W := Walks.range (prog := X.prog) (w := X.w) (I.ok.hd hc) it lo 1 n
    refine W.item i s _ _ hg st fun v h' tk hv st' kk => ?_
    obtain ⟨t, rfl⟩ := hv
    have I1 : Inv X pins σ H { s with heap := h', toks := tk } := I.turned (fun b o hb e => kk b o (by simpa using hb) e) f0 f1 f3 f4 f5
    refine ⟨_, rfl, go_of (s := { s with heap := h', toks := tk }) (n := "range_iterator") st' rfl rfl (by decide) ⟨.int (lo + i), H, I1, ⟨t, ?_⟩, ⟨rfl, rfl⟩, st', fun b hb => (hf b hb).1⟩⟩
    rw [Int.mul_one]
  done := by
    intro X hP hw hK hc i pins s σ H E I hf st hg
    subst hP hw hK
    obtain ⟨f0, f1, f2, f3, f4, f5⟩ := hf it (by simp)
    exact wpAny_pyNext_range_end (I.ok.hd hc) st (by have : n ≤ i := hg; omega) fun h' eb => ⟨rfl, I.turned (t' := s.toks) (fun b o hb e => eb b o hb e) f0 f1 f3 f4 f5⟩
  self := fun _ _ _ _ _ st h => wpAny_pyIter_rangeiter st h
end L2

namespace L2
open PySem PySem.Spec PyProof.Rows
section
variable {X : Cx} {tg : Expr}
def iList (K : PySem.W.Frag) (tl : TE) : TI := fun σ H R => tl σ H fun x H1 => ∃ a, x = .ref a ∧ (∃ xs, SqL K H1 a xs) ∧ R (Itl K a) H1
def iTup (K : PySem.W.Frag) (tl : TE) : TI := fun σ H R => tl σ H fun x H1 => ∃ a, x = .ref a ∧ (∃ xs, SqT K H1 a xs) ∧ R (Itt K a) H1
theorem pi_list {l : Expr} {tl : TE} (hl : PE X l tl) : PI X tg l (iList X.K tl) := by
  intro pins s σ H R I h
  refine thn (hl pins s σ H _ I h) fun v s1 ⟨x, H1, I1, r1, q1⟩ => ?_
  obtain ⟨a, e, ⟨xs, hq⟩, q⟩ := q1
  subst e
  cases r1
  obtain ⟨its, rv, p, hz⟩ := I1.list hq
  refine wpAny_pyIter_list p.isList ?_
  refine ⟨s1.heap.objs.size, [s1.heap.objs.size], _, _, H1, rfl, I1.kept (t' := s1.toks) fun b o e => Heap.get?_push_of_some _ e, turn_list a _, ⟨_, Heap.get?_push_size _ rfl, rfl, rfl⟩, fun b hb => ?_, q⟩
  have e : b = s1.heap.objs.size := by simpa using hb
  subst e
  exact I1.fpOk (Nat.le_refl _) (I1.hok.fresh (Nat.le_refl _))
theorem pi_tup {l : Expr} {tl : TE} (hl : PE X l tl) : PI X tg l (iTup X.K tl) := by
  intro pins s σ H R I h
  refine thn (hl pins s σ H _ I h) fun v s1 ⟨x, H1, I1, r1, q1⟩ => ?_
  obtain ⟨a, e, ⟨xs, hq⟩, q⟩ := q1
  subst e
  cases r1
  obtain ⟨its, rv, p, hz⟩ := I1.tuple hq
  refine wpAny_pyIter_tuple (show s1.heap.IsTuple a its.toArray from p) ?_
  refine ⟨s1.heap.objs.size, [s1.heap.objs.size], _, _, H1, rfl, I1.kept (t' := s1.toks) fun b o e => Heap.get?_push_of_some _ e, turn_tuple a _, ⟨_, Heap.get?_push_size _ rfl, rfl, rfl⟩, fun b hb => ?_, q⟩
  have e : b = s1.heap.objs.size := by simpa using hb
  subst e
  exact I1.fpOk (Nat.le_refl _) (I1.hok.fresh (Nat.le_refl _))
/-- a range object just made, walked -/
theorem range_it {pins : List (Addr × Obj)} {σ : St} {H : Hp} {s : Shared} {R : It → Hp → Prop} {E : Value → Shared → Prop} {lo hi : Int} {t u v : Tok} {tk : Nat} (I : Inv X pins σ H s) (h1 : -(2 ^ 62) ≤ lo) (h2 : lo < 2 ^ 62) (h3 : -(2 ^ 62) ≤ hi) (h4 : hi < 2 ^ 62)
    (q : R (Itr lo (hi - lo).toNat) H) : wpAny (model X.prog X.w) X.A (pyIter (.ref s.heap.objs.size)) (PIE X pins σ tg R) E { s with heap := s.heap.push { cls := .type "range", data := .fields #[.int lo t, .int hi u, .int 1 v] }, toks := tk } := by
  refine wpAny_pyIter_range (IsRange.new ..) (small_one h1 h2 h3 h4) ?_
  have I1 : Inv X pins σ H { s with heap := s.heap.push { cls := .type "range", data := .fields #[.int lo t, .int hi u, .int 1 v] }, toks := tk } := I.kept fun b o e => Heap.get?_push_of_some _ e
  refine ⟨(s.heap.push { cls := .type "range", data := .fields #[.int lo t, .int hi u, .int 1 v] }).objs.size, [(s.heap.push { cls := .type "range", data := .fields #[.int lo t, .int hi u, .int 1 v] }).objs.size], _, _, H, rfl,
    I1.kept (t' := tk) fun b o e => Heap.get?_push_of_some _ e, turn_range _ lo (hi - lo).toNat, ?_, fun b hb => ?_, q⟩
  · have e1 : lo + ((0 : Nat) : Int) * 1 = lo := by simp
    have e2 : (((hi - lo).toNat : Nat) : Int) - ((0 : Nat) : Int) = Builtin.Range.rangeSize lo hi 1 := by rw [rangeSize_one]; split <;> omega
    show IsRangeIter _ _ (lo + ((0 : Nat) : Int) * 1) ((((hi - lo).toNat : Nat) : Int) - ((0 : Nat) : Int)) 1
    rw [e1, e2]
    exact Heap.get?_push_size _ rfl
  · have e : b = (s.heap.push { cls := .type "range", data := .fields #[.int lo t, .int hi u, .int 1 v] }).objs.size := by simpa using hb
    subst e
    exact I1.fpOk (Nat.le_refl _) (I1.hok.fresh (Nat.le_refl _))
def iRng1 (ta : TA) : TI := fun σ H R => ta σ H fun vs H1 => ∃ j : Int, vs = [.int j] ∧ -(2 ^ 62) ≤ j ∧ j < 2 ^ 62 ∧ R (Itr 0 j.toNat) H1
theorem pi_range1 {a : Expr} {ta : TA} {p pos : Pos} (hg : Gl X "range") (hm : X.mg "range" = none) (ha : PA X [a] ta) (hs : starEach [a] X.env = [(false, eval a X.env)] := by rfl) : PI X tg (.Call (.Name "range" p) [a] [] pos) (iRng1 ta) := by
  intro pins s σ H R I h
  refine Call_ (ld_blt I hg hm boot_range (PyProof.Rows.callWith_type1 (thn (ha pos pins s σ H _ I h) fun us s1 ⟨vs, H1, I1, r1, q1⟩ => ?_) hs rfl))
  obtain ⟨j, e, q1, q2, q⟩ := q1
  subst e
  cases r1 with
  | cons r rr =>
    cases rr
    obtain ⟨t, rfl⟩ := r
    exact call_range_1 (range_it I1 (by omega) (by omega) q1 q2 (by simpa using q))
/-! ### for -/
/-- W: the invariant by the turn and a measure; N: what the body is to reach -/
def tFor (wi : TI) (g : TG) (tb : TS) : TS := fun D σ H => wi σ H fun J H1 => ∃ W : Nat → Nat → St → Hp → Prop, (∃ m, W 0 m σ H1) ∧ ∀ i m σ H, W i m σ H →
  (J.stop i H ∧ D.nx σ H) ∨ (J.go i H ∧ ∃ N : St → Hp → Prop, (∀ σ' H', N σ' H' → ∃ m', m' < m ∧ W (i + 1) m' σ' H') ∧ ∀ x H', J.yld i H x H' → g x σ H' fun σ2 H2 => tb { D with nx := N, ct := N, bk := D.nx } σ2 H2)
/-- the records at fp as they stand -/
def pinsAt (fp : List Addr) (h : Heap) : List (Addr × Obj) := fp.filterMap fun b => (h.get? b).map fun o => (b, o)
theorem mem_pinsAt {fp : List Addr} {h : Heap} {b : Addr} {o : Obj} (hb : b ∈ fp) (e : h.get? b = some o) : (b, o) ∈ pinsAt fp h := List.mem_filterMap.mpr ⟨b, hb, by rw [e]; rfl⟩
theorem of_pinsAt {fp : List Addr} {h : Heap} {p : Addr × Obj} (hp : p ∈ pinsAt fp h) : p.1 ∈ fp ∧ h.get? p.1 = some p.2 := by
  obtain ⟨b, hb, e⟩ := List.mem_filterMap.mp hp
  cases q : h.get? b with
  | none => rw [q] at e; cases e
  | some o =>
    rw [q] at e
    have e' : (b, o) = p := Option.some.inj e
    subst e'
    exact ⟨hb, q⟩
theorem Inv.pinned {pins : List (Addr × Obj)} {σ : St} {H : Hp} {s : Shared} {fp : List Addr} (I : Inv X pins σ H s) (hf : ∀ b ∈ fp, FpOk X pins H b) (ho : ∀ b ∈ fp, ∃ o, s.heap.get? b = some o ∧ ∀ v, o.data ≠ .cell v) : Inv X (pins ++ pinsAt fp s.heap) σ H s :=
  I.pins_of fun p hp => (List.mem_append.mp hp).elim (fun z => I.pin p (List.mem_append_right _ z)) fun z => by
    obtain ⟨hb, e⟩ := of_pinsAt z
    obtain ⟨f0, f1, f2, _⟩ := hf p.1 hb
    obtain ⟨o, e', d⟩ := ho p.1 hb
    rw [e] at e'; cases e'
    exact ⟨e, f0, f1, f2, d⟩
theorem Inv.unpinned {pins pl : List (Addr × Obj)} {σ : St} {H : Hp} {s : Shared} (I : Inv X (pins ++ pl) σ H s) : Inv X pins σ H s := I.pins_of fun p hp => I.pin p (List.mem_append_right _ (List.mem_append_left _ hp))
theorem ps_for {iter : Expr} {body : List Stmt} {wi : TI} {g : TG} {tb : TS} {pos : Pos} (hp : PassesOwn (model X.prog X.w) X.A X.env X.xe) (hc : X.calm = true) (hi : PI X tg iter wi) (hg : PG X tg g) (hb : PSs X body tb)
    (hs : ∀ x, foldedSetIterable iter X.env x = pure x := by intro _; rfl) : PS X (.For tg iter body [] pos) (tFor wi g tb) := by
  intro pins s σ H D I h
  refine wpAny_For (thn (hi pins s σ H _ I h) fun v s1 h1 => thn h1 fun itv s2 h2 => ?_) hs
  obtain ⟨it, fp, tn, J, H2, e, I2, T, st2, f2, W, ⟨m0, w0⟩, turn⟩ := h2
  subst e
  -- what stays true of the iterator's objects through the loop
  have stat : ∀ {H' : Hp}, (∀ b ∈ fp, H' b = none) → ∀ b ∈ fp, FpOk X pins H' b := fun hn b hb => ⟨hn b hb, (f2 b hb).2⟩
  refine codeAny_forLoop_any (fun n s' => ∃ i σ' H', Inv X pins σ' H' s' ∧ tn i s'.heap ∧ (∀ b ∈ fp, H' b = none) ∧ W i n σ' H') ?_ m0 ⟨0, σ, H2, I2, st2, fun b hb => (f2 b hb).1, w0⟩
  rintro n s3 ⟨i, σ3, H3, I3, st3, fr3, w3⟩
  rcases turn i n σ3 H3 w3 with ⟨stop, qn⟩ | ⟨go, N, hN, step⟩
  · refine wpAny_passesOwn hp (thn (T.done X rfl rfl rfl hc i pins s3 σ3 H3 X.xe I3 (stat fr3) st3 stop) fun r s4 ⟨hr, I4⟩ => ?_)
    subst hr
    exact wpAny_execs_nil ⟨σ3, H3, I4, qn⟩
  · refine wpAny_passesOwn hp (thn (T.item X rfl rfl rfl hc i pins s3 σ3 H3 X.xe I3 (stat fr3) st3 go) fun r s4 ⟨u, hr, h4⟩ => ?_)
    subst hr
    refine wpAny_passesOwn hp (thn h4 fun _ s5 ⟨x, H5, I5, r5, y5, st5, fr5⟩ => ?_)
    have I5' := I5.pinned (stat fr5) (T.obj _ _ st5)
    refine wpAny_passesOwn hp (thn (hg _ s5 σ3 H5 x u _ I5' r5 (step x H5 y5)) fun _ s6 ⟨σ6, H6, I6, q6⟩ => ?_)
    refine wpAny_passesOwn hp (thn (hb _ s6 σ6 H6 _ I6 q6) fun f s7 q7 => ?_)
    have again : ∀ {σ7 : St} {H7 : Hp}, Inv X (pins ++ pinsAt fp s5.heap) σ7 H7 s7 → N σ7 H7 → ∃ m, m < n ∧ ∃ i σ' H', Inv X pins σ' H' s7 ∧ tn i s7.heap ∧ (∀ b ∈ fp, H' b = none) ∧ W i m σ' H' := fun {σ7 H7} I7 n7 => by
      obtain ⟨m', hm, w7⟩ := hN σ7 H7 n7
      refine ⟨m', hm, i + 1, σ7, H7, I7.unpinned, T.keep _ _ _ st5 fun b hb o e => (I7.pin (b, o) (List.mem_append_right _ (List.mem_append_right _ (mem_pinsAt hb e)))).1, fun b hb => ?_, w7⟩
      obtain ⟨o, e, d⟩ := T.obj _ _ st5 b hb
      exact (I7.pin (b, o) (List.mem_append_right _ (List.mem_append_right _ (mem_pinsAt hb e)))).2.1
    cases f with
    | next => obtain ⟨σ7, H7, I7, n7⟩ := q7; exact again I7 n7
    | cont => obtain ⟨σ7, H7, I7, n7⟩ := q7; exact again I7 n7
    | brk => obtain ⟨σ7, H7, I7, q7⟩ := q7; exact ⟨σ7, H7, I7.unpinned, q7⟩
    | ret v => obtain ⟨x7, σ7, H7, I7, r7, q7⟩ := q7; exact ⟨x7, σ7, H7, I7.unpinned, r7, q7⟩
end

/-! ### the forms one uses -/
/-- over a list that the body leaves as it is -/
theorem for_list {K : PySem.W.Frag} {a : Addr} {xs : List V} {g : TG} {tb : TS} {D : Ends} {σ : St} {H : Hp} (Pv : Nat → St → Hp → Prop) (h0 : Pv 0 σ H) (hl : ∀ i σ H, i ≤ xs.length → Pv i σ H → SqL K H a xs)
    (hs : ∀ i x σ H, xs[i]? = some x → Pv i σ H → g x σ H fun σ2 H2 => tb { D with nx := Pv (i + 1), ct := Pv (i + 1), bk := D.nx } σ2 H2) (hd : ∀ σ H, Pv xs.length σ H → D.nx σ H) :
    ∃ W : Nat → Nat → St → Hp → Prop, (∃ m, W 0 m σ H) ∧ ∀ i m σ H, W i m σ H →
      ((Itl K a).stop i H ∧ D.nx σ H) ∨ ((Itl K a).go i H ∧ ∃ N : St → Hp → Prop, (∀ σ' H', N σ' H' → ∃ m', m' < m ∧ W (i + 1) m' σ' H') ∧ ∀ x H', (Itl K a).yld i H x H' → g x σ H' fun σ2 H2 => tb { D with nx := N, ct := N, bk := D.nx } σ2 H2) := by
  refine ⟨fun i m σ H => m = xs.length - i ∧ i ≤ xs.length ∧ Pv i σ H, ⟨xs.length, by simp, Nat.zero_le _, h0⟩, ?_⟩
  rintro i m σ H ⟨rfl, hi, p⟩
  have q := hl i σ H hi p
  by_cases hlt : i < xs.length
  · refine .inr ⟨⟨xs, xs[i], q, by simp [hlt]⟩, Pv (i + 1), fun σ' H' p' => ⟨xs.length - (i + 1), by omega, rfl, hlt, p'⟩, fun x H' y => ?_⟩
    obtain ⟨e, y⟩ := y
    subst e
    exact hs i x σ _ (y xs q) p
  · have e : i = xs.length := by omega
    subst e
    exact .inl ⟨⟨xs, q, Nat.le_refl _⟩, hd σ H p⟩
theorem for_tup {K : PySem.W.Frag} {a : Addr} {xs : List V} {g : TG} {tb : TS} {D : Ends} {σ : St} {H : Hp} (Pv : Nat → St → Hp → Prop) (h0 : Pv 0 σ H) (hl : ∀ i σ H, i ≤ xs.length → Pv i σ H → SqT K H a xs)
    (hs : ∀ i x σ H, xs[i]? = some x → Pv i σ H → g x σ H fun σ2 H2 => tb { D with nx := Pv (i + 1), ct := Pv (i + 1), bk := D.nx } σ2 H2) (hd : ∀ σ H, Pv xs.length σ H → D.nx σ H) :
    ∃ W : Nat → Nat → St → Hp → Prop, (∃ m, W 0 m σ H) ∧ ∀ i m σ H, W i m σ H →
      ((Itt K a).stop i H ∧ D.nx σ H) ∨ ((Itt K a).go i H ∧ ∃ N : St → Hp → Prop, (∀ σ' H', N σ' H' → ∃ m', m' < m ∧ W (i + 1) m' σ' H') ∧ ∀ x H', (Itt K a).yld i H x H' → g x σ H' fun σ2 H2 => tb { D with nx := N, ct := N, bk := D.nx } σ2 H2) := by
  refine ⟨fun i m σ H => m = xs.length - i ∧ i ≤ xs.length ∧ Pv i σ H, ⟨xs.length, by simp, Nat.zero_le _, h0⟩, ?_⟩
  rintro i m σ H ⟨rfl, hi, p⟩
  have q := hl i σ H hi p
  by_cases hlt : i < xs.length
  · refine .inr ⟨⟨xs, xs[i], q, by simp [hlt]⟩, Pv (i + 1), fun σ' H' p' => ⟨xs.length - (i + 1), by omega, rfl, hlt, p'⟩, fun x H' y => ?_⟩
    obtain ⟨e, y⟩ := y
    subst e
    exact hs i x σ _ (y xs q) p
  · have e : i = xs.length := by omega
    subst e
    exact .inl ⟨⟨xs, q, Nat.le_refl _⟩, hd σ H p⟩
theorem for_range {lo : Int} {n : Nat} {g : TG} {tb : TS} {D : Ends} {σ : St} {H : Hp} (Pv : Nat → St → Hp → Prop) (h0 : Pv 0 σ H)
    (hs : ∀ i σ H, i < n → Pv i σ H → g (.int (lo + i)) σ H fun σ2 H2 => tb { D with nx := Pv (i + 1), ct := Pv (i + 1), bk := D.nx } σ2 H2) (hd : ∀ σ H, Pv n σ H → D.nx σ H) :
    ∃ W : Nat → Nat → St → Hp → Prop, (∃ m, W 0 m σ H) ∧ ∀ i m σ H, W i m σ H →
      ((Itr lo n).stop i H ∧ D.nx σ H) ∨ ((Itr lo n).go i H ∧ ∃ N : St → Hp → Prop, (∀ σ' H', N σ' H' → ∃ m', m' < m ∧ W (i + 1) m' σ' H') ∧ ∀ x H', (Itr lo n).yld i H x H' → g x σ H' fun σ2 H2 => tb { D with nx := N, ct := N, bk := D.nx } σ2 H2) := by
  refine ⟨fun i m σ H => m = n - i ∧ i ≤ n ∧ Pv i σ H, ⟨n, by simp, Nat.zero_le _, h0⟩, ?_⟩
  rintro i m σ H ⟨rfl, hi, p⟩
  by_cases hlt : i < n
  · refine .inr ⟨hlt, Pv (i + 1), fun σ' H' p' => ⟨n - (i + 1), by omega, rfl, hlt, p'⟩, fun x H' y => ?_⟩
    obtain ⟨e, y⟩ := y
    subst e y
    exact hs i σ _ hlt p
  · have e : i = n := by omega
    subst e
    exact .inl ⟨Nat.le_refl _, hd σ H p⟩
end L2

namespace L2
open PySem PySem.Spec PyProof.Rows

abbrev R2 := V → V → Hp → VK → Prop
/-- a two-place operation on values: f is binaryOp op, inplaceOp op or compareOp op -/
def OpR (X : Cx) (f : Value → Value → Sem Value) (r : R2) : Prop :=
  ∀ (pins : List (Addr × Obj)) (s : Shared) (σ : St) (H : Hp) (x y : V) (v u : Value) (Q : VK), Inv X pins σ H s → RelV x v → RelV y u → r x y H Q →
    wpAny (model X.prog X.w) X.A (f v u) (EP X pins σ Q) X.xe s
/-- a one-place operation -/
def UnR (X : Cx) (f : Value → Sem Value) (r : V → Hp → VK → Prop) : Prop :=
  ∀ (pins : List (Addr × Obj)) (s : Shared) (σ : St) (H : Hp) (x : V) (v : Value) (Q : VK), Inv X pins σ H s → RelV x v → r x H Q →
    wpAny (model X.prog X.w) X.A (f v) (EP X pins σ Q) X.xe s
/-- a call of a value that is known (a builtin, a type) with values -/
def CallR (X : Cx) (f : Value) (r : List V → Hp → VK → Prop) : Prop :=
  ∀ (pins : List (Addr × Obj)) (s : Shared) (σ : St) (H : Hp) (xs : List V) (us : List Value) (Q : VK), Inv X pins σ H s → Vals xs us → r xs H Q →
    wpAny (model X.prog X.w) X.A (call f us) (EP X pins σ Q) X.xe s
def tOp (r : R2) (ta tb : TE) : TE := fun σ H Q => ta σ H fun x H1 => tb σ H1 fun y H2 => r x y H2 Q
def tUn (r : V → Hp → VK → Prop) (ta : TE) : TE := fun σ H Q => ta σ H fun x H1 => r x H1 Q
/-- ints in, under C, and a value out -/
def rI (C : Int → Int → Prop) (g : Int → Int → V) : R2 := fun x y H Q => ∃ i j, x = .int i ∧ y = .int j ∧ C i j ∧ Q (g i j) H
def rI0 (g : Int → Int → V) : R2 := fun x y H Q => ∃ i j, x = .int i ∧ y = .int j ∧ Q (g i j) H
def rU (g : Int → V) : V → Hp → VK → Prop := fun x H Q => ∃ i, x = .int i ∧ Q (g i) H

section
variable {X : Cx} {a b c : Expr} {ta tb tc : TE} {pos : Pos}

theorem binT (ha : PE X a ta) (hb : PE X b tb) {pins : List (Addr × Obj)} {s : Shared} {σ : St} {H : Hp} {R : V → V → Hp → Prop} (I : Inv X pins σ H s)
    (h : ta σ H fun x H1 => tb σ H1 fun y H2 => R x y H2) {Q : Value → Shared → Prop} {f : Value → Value → Sem Value}
    (hf : ∀ v u s2 x y H2, Inv X pins σ H2 s2 → RelV x v → RelV y u → R x y H2 → wpAny (model X.prog X.w) X.A (f v u) Q X.xe s2) :
    wpAny (model X.prog X.w) X.A (eval a X.env) (fun v s₁ => wpAny (model X.prog X.w) X.A (eval b X.env) (fun u s₂ => wpAny (model X.prog X.w) X.A (f v u) Q X.xe s₂) X.xe s₁) X.xe s := by
  refine thn (ha pins s σ H _ I h) fun v s1 ⟨x, H1, I1, r1, q1⟩ => ?_
  refine thn (hb pins s1 σ H1 _ I1 q1) fun u s2 ⟨y, H2, I2, r2, q2⟩ => ?_
  exact hf v u s2 x y H2 I2 r1 r2 q2

theorem pe_op {op : Operator} {r : R2} (ho : OpR X (binaryOp op) r) (ha : PE X a ta) (hb : PE X b tb) : PE X (.BinOp a op b pos) (tOp r ta tb) := by
  intro pins s σ H Q I h
  exact wpAny_BinOp (binT ha hb I h fun v u s2 x y H2 I2 rx ry q => ho pins s2 σ H2 x y v u Q I2 rx ry q)
theorem pe_un {op : UnaryOp} {r : V → Hp → VK → Prop} (ho : UnR X (unaryOp op) r) (ha : PE X a ta) : PE X (.UnaryOp op a pos) (tUn r ta) := by
  intro pins s σ H Q I h
  exact UnaryOp_ (thn (ha pins s σ H _ I h) fun v s1 ⟨x, H1, I1, r1, q1⟩ => ho pins s1 σ H1 x v Q I1 r1 q1)
/-! ### ints -/
theorem opI {f : Value → Value → Sem Value} {C : Int → Int → Prop} {g : Int → Int → Int}
    (rule : ∀ (i j : Int) (t u : Tok) (s : Shared) (Q : Value → Shared → Prop) (E : Value → Shared → Prop), C i j → Q (.int (g i j) s.toks) { s with toks := s.toks + 1 } → wpAny (model X.prog X.w) X.A (f (.int i t) (.int j u)) Q E s) :
    OpR X f (rI C fun i j => .int (g i j)) := by
  intro pins s σ H x y v u Q I rx ry h
  obtain ⟨i, j, rfl, rfl, hc, q⟩ := h
  obtain ⟨t, rfl⟩ := rx
  obtain ⟨t', rfl⟩ := ry
  exact rule i j t t' s _ _ hc ⟨.int (g i j), H, I.tok _, ⟨_, rfl⟩, q⟩
theorem opI0 {f : Value → Value → Sem Value} {g : Int → Int → Int}
    (rule : ∀ (i j : Int) (t u : Tok) (s : Shared) (Q : Value → Shared → Prop) (E : Value → Shared → Prop), Q (.int (g i j) s.toks) { s with toks := s.toks + 1 } → wpAny (model X.prog X.w) X.A (f (.int i t) (.int j u)) Q E s) :
    OpR X f (rI0 fun i j => .int (g i j)) := by
  intro pins s σ H x y v u Q I rx ry h
  obtain ⟨i, j, rfl, rfl, q⟩ := h
  obtain ⟨t, rfl⟩ := rx
  obtain ⟨t', rfl⟩ := ry
  exact rule i j t t' s _ _ ⟨.int (g i j), H, I.tok _, ⟨_, rfl⟩, q⟩
theorem opB0 {f : Value → Value → Sem Value} {g : Int → Int → Bool}
    (rule : ∀ (i j : Int) (t u : Tok) (s : Shared) (Q : Value → Shared → Prop) (E : Value → Shared → Prop), Q (.bool (g i j)) s → wpAny (model X.prog X.w) X.A (f (.int i t) (.int j u)) Q E s) :
    OpR X f (rI0 fun i j => .bl (g i j)) := by
  intro pins s σ H x y v u Q I rx ry h
  obtain ⟨i, j, rfl, rfl, q⟩ := h
  obtain ⟨t, rfl⟩ := rx
  obtain ⟨t', rfl⟩ := ry
  exact rule i j t t' s _ _ ⟨.bl (g i j), H, I, rfl, q⟩

def CDiv (i j : Int) : Prop := 0 < j ∧ j < 1073741824
def CPow (i j : Int) : Prop := 0 ≤ j ∧ j ≤ 1000000 ∧ i.natAbs < 2 ^ 64
def CMul (i j : Int) : Prop := (-(2 ^ 64) < i ∧ i < 2 ^ 64) ∨ (-(2 ^ 64) < j ∧ j < 2 ^ 64)
theorem CMul.ok {i j : Int} (h : CMul i j) : IntMulOk i j := by
  rcases h with ⟨h1, h2⟩ | ⟨h1, h2⟩
  · exact .of_left (intBits_le_64 h1 h2)
  · exact .of_right (intBits_le_64 h1 h2)
theorem op_add : OpR X (binaryOp .Add) (rI0 fun i j => .int (i + j)) := opI0 fun _ _ _ _ _ _ _ q => add_int q
theorem op_sub : OpR X (binaryOp .Sub) (rI0 fun i j => .int (i - j)) := opI0 fun _ _ _ _ _ _ _ q => sub_int q
theorem op_mul : OpR X (binaryOp .Mult) (rI CMul fun i j => .int (i * j)) := opI fun _ _ _ _ _ _ _ hc q => mul_int q hc.ok
/-- // by a positive divisor -/
theorem op_fdiv : OpR X (binaryOp .FloorDiv) (rI CDiv fun i j => .int (i / j)) := opI fun i j _ _ _ _ _ hc q => by
  have h1 : (0 : Int) < j := hc.1
  have h2 : j < 1073741824 := hc.2
  exact floordiv_int (by omega) (by rw [Int.fdiv_eq_ediv_of_nonneg i (by omega)]; exact q) (.inl (PyProof.noPylong_small (by omega)))
/-- % by a positive divisor of any size -/
theorem op_mod : OpR X (binaryOp .Mod) (rI (fun _ j => 0 < j) fun i j => .int (i % j)) := opI fun i j _ _ _ _ _ hc q => by
  have h1 : (0 : Int) < j := hc
  exact mod_int' (by omega) (by rw [Int.fmod_eq_emod_of_nonneg i (by omega)]; exact q)
theorem op_pow : OpR X (binaryOp .Pow) (rI CPow fun i j => .int (i ^ j.toNat)) := opI fun _ _ _ _ _ _ _ hc q => pow_int_small hc.1 hc.2.1 hc.2.2 q
theorem op_xor : OpR X (binaryOp .BitXor) (rI0 fun i j => .int (Builtin.bitXor i j)) := opI0 fun _ _ _ _ _ _ _ q => xor_int q

theorem unI {f : Value → Sem Value} {g : Int → Int}
    (rule : ∀ (i : Int) (t : Tok) (s : Shared) (Q : Value → Shared → Prop) (E : Value → Shared → Prop), Q (.int (g i) s.toks) { s with toks := s.toks + 1 } → wpAny (model X.prog X.w) X.A (f (.int i t)) Q E s) :
    UnR X f (rU fun i => .int (g i)) := by
  intro pins s σ H x v Q I rx h
  obtain ⟨i, rfl, q⟩ := h
  obtain ⟨t, rfl⟩ := rx
  exact rule i t s _ _ ⟨.int (g i), H, I.tok _, ⟨_, rfl⟩, q⟩
theorem un_neg : UnR X (unaryOp .USub) (rU fun i => .int (-i)) := unI fun _ _ _ _ _ q => neg_int q
/-! ### bools among ints: n += (a < b) -/
end

/-! ### comparisons -/
/-- the scalars that == tells apart as data does -/
def scal : V → V → Bool
  | .non, .non => true | .non, .int _ => true | .int _, .non => true | .non, .bl _ => true | .bl _, .non => true | .non, .str _ => true | .str _, .non => true
  | .int _, .int _ => true | .bl _, .bl _ => true | .str _, .str _ => true | .byt _, .byt _ => true
  | .int _, .str _ => true | .str _, .int _ => true | .bl _, .str _ => true | .str _, .bl _ => true
  | _, _ => false
def rEq : R2 := fun x y H Q => scal x y = true ∧ Q (.bl (decide (x = y))) H
def rNe : R2 := fun x y H Q => scal x y = true ∧ Q (.bl (!decide (x = y))) H

theorem dec_int {i j : Int} : decide (V.int i = V.int j) = (i == j) := by
  rw [Bool.eq_iff_iff]
  simp
theorem dec_bl {i j : Bool} : decide (V.bl i = V.bl j) = (i == j) := by
  rw [Bool.eq_iff_iff]
  simp
theorem dec_str {i j : Str} : decide (V.str i = V.str j) = (i == j) := by
  rw [Bool.eq_iff_iff]
  simp
theorem dec_byt {i j : Array UInt8} : decide (V.byt i = V.byt j) = (i.toList == j.toList) := by
  rw [Bool.eq_iff_iff]
  cases i
  cases j
  simp

section
variable {X : Cx} {a b c : Expr} {ta tb tc : TE} {pos : Pos}
theorem fin_bl {pins : List (Addr × Obj)} {σ : St} {H : Hp} {s : Shared} {Q : VK} {k k' : Bool} (I : Inv X pins σ H s) (q : Q (.bl k) H) (e : k = k') : EP X pins σ Q (.bool k') s := by
  subst e
  exact ⟨.bl k, H, I, rfl, q⟩
theorem op_eq : OpR X (compareOp .Eq) rEq := by
  intro pins s σ H x y v u Q I rx ry h
  obtain ⟨hs, q⟩ := h
  cases x with
  | non =>
    cases rx
    cases y with
    | non => cases ry; exact PySem.EqNone.eq_none_none (fin_bl I q (by simp))
    | bl j => cases ry; exact PySem.EqNone.eq_none_bool (fin_bl I q (by simp))
    | int j => obtain ⟨t', rfl⟩ := ry; exact PySem.EqNone.eq_none_int (fin_bl I q (by simp))
    | str j => obtain ⟨t', rfl⟩ := ry; exact PySem.EqNone.eq_none_str (fin_bl I q (by simp))
    | _ => exact absurd (show false = true from hs) Bool.false_ne_true
  | bl i =>
    cases rx
    cases y with
    | non => cases ry; exact PySem.EqNone.eq_bool_none (fin_bl I q (by simp))
    | bl j => cases ry; exact eq_bool (fin_bl I q dec_bl)
    | str j => obtain ⟨t', rfl⟩ := ry; exact PySem.EqMixed.eq_bool_str (fin_bl I q (by simp))
    | _ => exact absurd (show false = true from hs) Bool.false_ne_true
  | int i =>
    obtain ⟨t, rfl⟩ := rx
    cases y with
    | non => cases ry; exact PySem.EqNone.eq_int_none (fin_bl I q (by simp))
    | int j => obtain ⟨t', rfl⟩ := ry; exact eq_int (fin_bl I q dec_int)
    | str j => obtain ⟨t', rfl⟩ := ry; exact PySem.EqMixed.eq_int_str (fin_bl I q (by simp))
    | _ => exact absurd (show false = true from hs) Bool.false_ne_true
  | str i =>
    obtain ⟨t, rfl⟩ := rx
    cases y with
    | non => cases ry; exact PySem.EqNone.eq_str_none (fin_bl I q (by simp))
    | bl j => cases ry; exact PySem.EqMixed.eq_str_bool (fin_bl I q (by simp))
    | int j => obtain ⟨t', rfl⟩ := ry; exact PySem.EqMixed.eq_str_int (fin_bl I q (by simp))
    | str j => obtain ⟨t', rfl⟩ := ry; exact eq_str (fin_bl I q dec_str)
    | _ => exact absurd (show false = true from hs) Bool.false_ne_true
  | byt i =>
    obtain ⟨t, rfl⟩ := rx
    cases y with
    | byt j => obtain ⟨t', rfl⟩ := ry; exact PySem.W.eq_bytes (fin_bl I q dec_byt)
    | _ => exact absurd (show false = true from hs) Bool.false_ne_true
  | _ => cases y <;> exact absurd (show false = true from hs) Bool.false_ne_true
theorem op_ne : OpR X (compareOp .NotEq) rNe := by
  intro pins s σ H x y v u Q I rx ry h
  obtain ⟨hs, q⟩ := h
  cases x with
  | non =>
    cases rx
    cases y with
    | non => cases ry; exact PySem.EqNone.ne_none_none (fin_bl I q (by simp))
    | bl j => cases ry; exact PySem.EqNone.ne_none_bool (fin_bl I q (by simp))
    | int j => obtain ⟨t', rfl⟩ := ry; exact PySem.EqNone.ne_none_int (fin_bl I q (by simp))
    | str j => obtain ⟨t', rfl⟩ := ry; exact PySem.EqNone.ne_none_str (fin_bl I q (by simp))
    | _ => exact absurd (show false = true from hs) Bool.false_ne_true
  | bl i =>
    cases rx
    cases y with
    | non => cases ry; exact PySem.EqNone.ne_bool_none (fin_bl I q (by simp))
    | bl j => cases ry; exact ne_bool (fin_bl I q (congrArg not dec_bl))
    | str j => obtain ⟨t', rfl⟩ := ry; exact PySem.EqMixed.ne_bool_str (fin_bl I q (by simp))
    | _ => exact absurd (show false = true from hs) Bool.false_ne_true
  | int i =>
    obtain ⟨t, rfl⟩ := rx
    cases y with
    | non => cases ry; exact PySem.EqNone.ne_int_none (fin_bl I q (by simp))
    | int j => obtain ⟨t', rfl⟩ := ry; exact ne_int (fin_bl I q (congrArg not dec_int))
    | str j => obtain ⟨t', rfl⟩ := ry; exact PySem.EqMixed.ne_int_str (fin_bl I q (by simp))
    | _ => exact absurd (show false = true from hs) Bool.false_ne_true
  | str i =>
    obtain ⟨t, rfl⟩ := rx
    cases y with
    | non => cases ry; exact PySem.EqNone.ne_str_none (fin_bl I q (by simp))
    | bl j => cases ry; exact PySem.EqMixed.ne_str_bool (fin_bl I q (by simp))
    | int j => obtain ⟨t', rfl⟩ := ry; exact PySem.EqMixed.ne_str_int (fin_bl I q (by simp))
    | str j => obtain ⟨t', rfl⟩ := ry; exact ne_str (fin_bl I q (congrArg not dec_str))
    | _ => exact absurd (show false = true from hs) Bool.false_ne_true
  | byt i =>
    obtain ⟨t, rfl⟩ := rx
    cases y with
    | byt j => obtain ⟨t', rfl⟩ := ry; exact PySem.W.ne_bytes (fin_bl I q (congrArg not dec_byt))
    | _ => exact absurd (show false = true from hs) Bool.false_ne_true
  | _ => cases y <;> exact absurd (show false = true from hs) Bool.false_ne_true

theorem op_lt : OpR X (compareOp .Lt) (rI0 fun i j => .bl (decide (i < j))) := opB0 fun _ _ _ _ _ _ _ q => lt_int q
theorem op_le : OpR X (compareOp .LtE) (rI0 fun i j => .bl (decide (i ≤ j))) := opB0 fun _ _ _ _ _ _ _ q => le_int q
theorem op_gt : OpR X (compareOp .Gt) (rI0 fun i j => .bl (decide (j < i))) := opB0 fun _ _ _ _ _ _ _ q => gt_int q
theorem nomark (b : Expr) {op : CmpOp} (h : op ≠ .In := by decide) (h2 : op ≠ .NotIn := by decide) : behindInMarks op b = false := by
  have e1 : (op == CmpOp.In) = false := by cases op <;> first | rfl | exact absurd rfl h
  have e2 : (op == CmpOp.NotIn) = false := by cases op <;> first | rfl | exact absurd rfl h2
  cases b <;> simp [behindInMarks, e1, e2]
/-- a comparison as a value; hm: nomark b, or (for in, not in) by with_unfolding_all rfl -/
theorem pe_cmpR {op : CmpOp} {r : R2} (ho : OpR X (compareOp op) r) (ha : PE X a ta) (hb : PE X b tb) (hm : behindInMarks op b = false) : PE X (.Compare a [op] [b] pos) (tOp r ta tb) := by
  intro pins s σ H Q I h
  exact wpAny_Compare1 (binT ha hb I h fun v u s2 x y H2 I2 rx ry q => ho pins s2 σ H2 x y v u Q I2 rx ry q) hm
/-- a reading of a value as a test -/
def tTest (t : TE) : TT := fun σ H Q => t σ H fun x H' => ∃ k, x = .bl k ∧ Q k H'
theorem pt_cmpR {op : CmpOp} {r : R2} (ho : OpR X (compareOp op) r) (ha : PE X a ta) (hb : PE X b tb) (hm : behindInMarks op b = false) : PT X (.Compare a [op] [b] pos) (tTest (tOp r ta tb)) := by
  intro pins s σ H Q I h
  refine wpAny_isTrue_Compare1 (thn (ha pins s σ H _ I h) fun v s1 ⟨x, H1, I1, r1, q1⟩ => thn (hb pins s1 σ H1 _ I1 q1) fun u s2 ⟨y, H2, I2, r2, q2⟩ =>
    thn (ho pins s2 σ H2 x y v u _ I2 r1 r2 q2) fun c s3 ⟨z, H3, I3, r3, k, e, q3⟩ => ?_) hm
  subst e
  cases r3
  exact wpAny_truthy_bool ⟨H3, I3, q3⟩
/-- a op1 b op2 c -/
def tChain (r r' : R2) (ta tb tc : TE) : TE := fun σ H Q => ta σ H fun x H1 => tb σ H1 fun y H2 => r x y H2 fun z H3 => ∃ k, z = .bl k ∧
  (if k = true then tc σ H3 fun w' H4 => r' y w' H4 Q else Q (.bl false) H3)
theorem pe_chain {op op' : CmpOp} {r r' : R2} (ho : OpR X (compareOp op) r) (ho' : OpR X (compareOp op') r') (ha : PE X a ta) (hb : PE X b tb) (hc : PE X c tc)
    (hm : lastMarks [op, op'] [b, c] = false := by with_unfolding_all rfl) : PE X (.Compare a [op, op'] [b, c] pos) (tChain r r' ta tb tc) := by
  intro pins s σ H Q I h
  refine Compare_chain (thn (ha pins s σ H _ I h) fun v s1 ⟨x, H1, I1, r1, q1⟩ => chain_link (thn (hb pins s1 σ H1 _ I1 q1) fun u s2 ⟨y, H2, I2, r2, q2⟩ =>
    thn (ho pins s2 σ H2 x y v u _ I2 r1 r2 q2) fun d s3 ⟨z, H3, I3, r3, k, e, q3⟩ => ?_)) hm
  subst e
  cases r3
  refine wpAny_truthy_bool ?_
  cases k with
  | false => exact ite_ff ⟨.bl false, H3, I3, rfl, q3⟩
  | true => exact ite_tt (chain_last (thn (hc pins s3 σ H3 _ I3 q3) fun w' s4 ⟨z', H4, I4, r4, q4⟩ => ho' pins s4 σ H4 y z' u w' Q I4 r2 r4 q4))
theorem pt_chain {op op' : CmpOp} {r r' : R2} (ho : OpR X (compareOp op) r) (ho' : OpR X (compareOp op') r') (ha : PE X a ta) (hb : PE X b tb) (hc : PE X c tc)
    (hm : lastMarks [op, op'] [b, c] = false := by with_unfolding_all rfl) : PT X (.Compare a [op, op'] [b, c] pos) (tTest (tChain r r' ta tb tc)) := by
  intro pins s σ H Q I h
  refine isTrue_chain (thn (ha pins s σ H _ I h) fun v s1 ⟨x, H1, I1, r1, q1⟩ => test_link (thn (hb pins s1 σ H1 _ I1 q1) fun u s2 ⟨y, H2, I2, r2, q2⟩ =>
    thn (ho pins s2 σ H2 x y v u _ I2 r1 r2 q2) fun d s3 ⟨z, H3, I3, r3, k, e, q3⟩ => ?_)) hm
  subst e
  cases r3
  refine wpAny_truthy_bool ?_
  cases k with
  | false =>
    obtain ⟨k', e', q'⟩ := q3
    cases e'
    exact ite_ff ⟨H3, I3, q'⟩
  | true =>
    refine ite_tt (test_last (thn (hc pins s3 σ H3 _ I3 q3) fun w' s4 ⟨z', H4, I4, r4, q4⟩ => thn (ho' pins s4 σ H4 y z' u w' _ I4 r2 r4 q4) fun d' s5 ⟨z2, H5, I5, r5, k2, e2, q5⟩ => ?_))
    subst e2
    cases r5
    exact wpAny_truthy_bool ⟨H5, I5, q5⟩

/-! ### truth -/
theorem line63 : (sizeLine : Nat) < 2 ^ 63 := by rw [sizeLine_eq]; decide
/-! ### strs and bytes -/
/-! ### scalar builtins, by CallR -/
theorem vals1 {x : V} {us : List Value} (r : Vals [x] us) : ∃ u, us = [u] ∧ RelV x u := by
  cases r with
  | cons r1 r2 => cases r2; exact ⟨_, rfl, r1⟩
theorem vals2 {x y : V} {us : List Value} (r : Vals [x, y] us) : ∃ u w', us = [u, w'] ∧ RelV x u ∧ RelV y w' := by
  cases r with
  | cons r1 r2 =>
    cases r2 with
    | cons r3 r4 => cases r4; exact ⟨_, _, rfl, r1, r3⟩
theorem call_max2 (hc : X.calm = true) : CallR X (.builtin "max") (fun xs H Q => ∃ i j, xs = [.int i, .int j] ∧ Q (.int (if j > i then j else i)) H) := by
  intro pins s σ H xs us Q I r h
  obtain ⟨i, j, rfl, q⟩ := h
  obtain ⟨u, w', rfl, ⟨t, rfl⟩, ⟨t', rfl⟩⟩ := vals2 r
  refine max_two_ints (I.ok.hd hc) fun h' tk k => ⟨_, H, I.kept k, ?_, q⟩
  by_cases hj : j > i
  · rw [if_pos hj, if_pos hj]; exact ⟨_, rfl⟩
  · rw [if_neg hj, if_neg hj]; exact ⟨_, rfl⟩
theorem call_min2 (hc : X.calm = true) : CallR X (.builtin "min") (fun xs H Q => ∃ i j, xs = [.int i, .int j] ∧ Q (.int (if j < i then j else i)) H) := by
  intro pins s σ H xs us Q I r h
  obtain ⟨i, j, rfl, q⟩ := h
  obtain ⟨u, w', rfl, ⟨t, rfl⟩, ⟨t', rfl⟩⟩ := vals2 r
  refine min_two_ints (I.ok.hd hc) fun h' tk k => ⟨_, H, I.kept k, ?_, q⟩
  by_cases hj : j < i
  · rw [if_pos hj, if_pos hj]; exact ⟨_, rfl⟩
  · rw [if_neg hj, if_neg hj]; exact ⟨_, rfl⟩
theorem call_int1 : CallR X (.type "int") (fun xs H Q => (∃ i, xs = [.int i] ∧ Q (.int i) H) ∨ ∃ k, xs = [.bl k] ∧ Q (.int (if k then 1 else 0)) H) := by
  intro pins s σ H xs us Q I r h
  rcases h with ⟨i, rfl, q⟩ | ⟨k, rfl, q⟩
  · obtain ⟨u, rfl, t, rfl⟩ := vals1 r
    exact call_int_int ⟨.int i, H, I, ⟨_, rfl⟩, q⟩
  · obtain ⟨u, rfl, r1⟩ := vals1 r
    cases r1
    exact call_int_bool ⟨.int (if k then 1 else 0), H, I.tok _, ⟨_, rfl⟩, q⟩
end
end L2

namespace L2
open PySem PySem.Spec PyProof.Rows

/-! ### an instance, its attributes a map -/
structure ObjM (h : Heap) (x dx C : Addr) (mA : Str → Option Value) : Prop where
  obj : h.get? x = some (PySem.W.instObj C dx)
  ns : h.Ns1 dx mA
  ne : dx ≠ x

theorem lookIn_ns {h : Heap} {dx : Addr} {mA : Str → Option Value} (n : h.Ns1 dx mA) : ∃ od, h.get? dx = some od ∧ ∀ name, PySem.W.lookIn name od = some (mA name) := by
  obtain ⟨o, es, ep, ho, hd, hk, _, hm⟩ := n
  refine ⟨o, ho, fun name => ?_⟩
  have e := hm name
  unfold nsFind findBy at e
  rw [← Array.find?_toList] at e
  unfold PySem.W.lookIn
  rw [hd]
  dsimp only
  split
  · rename_i y q
    rw [q] at e
    exact congrArg some e
  · rename_i q
    rw [q] at e
    have a : es.toList.any (·.refKey) = false := by
      rw [List.any_eq_false]
      intro y hy
      obtain ⟨z, t, hkey⟩ := hk y (Array.mem_toList_iff.mp hy)
      simp [DictEntry.refKey, hkey]
    have a' : ¬ es.toList.any (·.refKey) = true := by rw [a]; exact Bool.false_ne_true
    rw [if_neg a']
    exact congrArg some e

theorem ObjM.look {h : Heap} {x dx C : Addr} {mA : Str → Option Value} (I : ObjM h x dx C mA) : ∃ od, PySem.W.InstAt h x (PySem.W.instObj C dx) C (some od) ∧ ∀ name, PySem.W.lookIn name od = some (mA name) :=
  let ⟨od, ho, hl⟩ := lookIn_ns I.ns
  ⟨od, ⟨I.obj, rfl, rfl, ho⟩, hl⟩

section
variable {prog : Program} {w : World} {A : Around} {E : Value → Shared → Prop} {s : Shared} {K : PySem.W.Frag} {x dx C f : Addr} {mA : Str → Option Value} {name : Str} {v : Value}

theorem get_map {expr : Bool} {Q : Value → Shared → Prop} (X : K.In s.heap) (I : ObjM s.heap x dx C mA) (hg : PySem.W.plainGet K C name = true) (hh : PySem.W.hasDictIn K C = true)
    (ha : PySem.W.findIn K (.ref C) name = some none) (hv : mA name = some v) (hv' : PySem.W.handedIn v = true) (h : Q v { s with toks := s.toks + 1 }) :
    wpAny (model prog w) A (getAttr (.ref x) name expr) Q E s := by
  obtain ⟨od, J, hl⟩ := I.look
  exact PySem.W.get_value X J (PySem.W.plainGet_of hg).1 (PySem.W.findObj_own hh ha rfl (by rw [hl, hv])) hv' h

theorem set_map {ns : List Str} {Q : Unit → Shared → Prop} (X : K.In s.heap) (I : ObjM s.heap x dx C mA)
    (hs : PySem.W.findIn K (.ref C) "__setattr__" = some (some (.builtin "object.__setattr__"))) (hp : PySem.W.plainOver K C = true) (ht : PySem.W.takerIn K C name = some none) (hh : PySem.W.hasDictIn K C = true)
    (hw : PySem.Within mA ns) (hsz : ns.length ≤ sizeLine)
    (h : ∀ h', ObjM h' x dx C (fun y => if y = name then some v else mA y) → Heap.SameBut dx s.heap h' → Q () { s with heap := h', toks := s.toks + 2 }) :
    wpAny (model prog w) A (setAttr (.ref x) name v) Q E s := by
  obtain ⟨od, J, hl⟩ := I.look
  refine PySem.W.set_plain X J hs (PySem.W.osa_open (s := { s with toks := s.toks + 1 }) (r := none) X J hp ht fun b => ?_)
  obtain ⟨cd, hc, hd'⟩ := PySem.W.any_some hh
  have hx : s.heap.get? x = some ⟨.ref C, some dx, .plain, #[]⟩ := I.obj
  refine wpAny_bind (wpAny_pure (wpAny_bind (wpAny_bind (wpAny_loadPart hx (wpAny_bind (PySem.W.Looks.here (s := { s with toks := s.toks + 1 }) (PySem.W.looks_clsIn X hc) ?_))))))
  rw [hd']
  refine wpAny_pure (a := some dx) (wpAny_bind (wpAny_pure (wpAny_bind ?_)))
  refine wpAny_nsSet1 (s := { s with toks := s.toks + 1 }) I.ns fun h' hn2 hs2 => ?_
  obtain ⟨oD, esD, epD, hoD, hdD, hcD⟩ := hn2.count (PySem.Within.cons name v hw)
  refine wpAny_bind (wpAny_lookBehind hoD (by rw [hdD]; exact pastItsLine_dict (Nat.le_trans hcD (by rw [List.length_cons]; omega))) ?_)
  exact wpAny_pure (h _ ⟨(hs2.2 _ (Ne.symm I.ne)).trans I.obj, hn2, I.ne⟩ hs2)

/-- C(..): the dict at the heap's end, the instance behind it; then its __init__ -/
theorem make_map {R : Result → Shared → Prop} {vs : List Value} {kw : List (Str × Value)} (X : K.In s.heap) (hm : PySem.W.makesIn K C = true)
    (hi : PySem.W.findIn K (.ref C) "__init__" = some (some (.ref f))) (hf : PySem.W.typeIn K (.ref f) = some (.type "function"))
    (h : codeAny (model prog w) (A.under (.builtin "type.__call__" ⟨.ref C :: vs, kw⟩)) (.call (.ref f) ⟨.ref (s.heap.objs.size + 1) :: vs, kw⟩) (PySem.W.InitBack (s.heap.objs.size + 1) R)
      { s with heap := (s.heap.push PySem.W.emptyDict).push (PySem.W.instObj C s.heap.objs.size) }) :
    codeAny (model prog w) A (.call (.ref C) ⟨vs, kw⟩) R s := by
  obtain ⟨hh, g, d, t, os⟩ := s
  exact PySem.W.make_core (PySem.W.makes_of X hm) (PySem.W.looks_findIn X hi) (fun self => PySem.W.bind_fn X self hf) (.inl rfl) h
end

/-! ### the attributes as a list of pairs -/
def putF (f : Str) (v : V) : List (Str × V) → List (Str × V)
  | [] => [(f, v)]
  | (g, x) :: r => if g = f then (g, v) :: r else (g, x) :: putF f v r
theorem lookup_putF (f g : Str) (v : V) : ∀ fs : List (Str × V), (putF f v fs).lookup g = if g = f then some v else fs.lookup g
  | [] => by
    show List.lookup g [(f, v)] = _
    by_cases h : g = f
    · have hb : (g == f) = true := beq_iff_eq.mpr h
      simp only [List.lookup, hb, if_pos h]
    · have hb : (g == f) = false := beq_eq_false_iff_ne.mpr h
      simp only [List.lookup, hb, if_neg h]
  | (k, x) :: r => by
    have ih := lookup_putF f g v r
    rw [show putF f v ((k, x) :: r) = (if k = f then (k, v) :: r else (k, x) :: putF f v r) from rfl]
    by_cases hk : k = f
    · rw [if_pos hk]
      by_cases h : g = k
      · have hb : (g == k) = true := beq_iff_eq.mpr h
        simp only [List.lookup, hb, if_pos (h.trans hk)]
      · have hb : (g == k) = false := beq_eq_false_iff_ne.mpr h
        simp only [List.lookup, hb, if_neg (fun e : g = f => h (e.trans hk.symm))]
    · rw [if_neg hk]
      by_cases h : g = k
      · have hb : (g == k) = true := beq_iff_eq.mpr h
        simp only [List.lookup, hb, if_neg (fun e : g = f => hk (h.symm.trans e))]
      · have hb : (g == k) = false := beq_eq_false_iff_ne.mpr h
        simp only [List.lookup, hb]
        exact ih
theorem keys_putF (f : Str) (v : V) : ∀ fs : List (Str × V), f ∈ (putF f v fs).map (·.1) ∧ ∀ g, g ∈ fs.map (·.1) → g ∈ (putF f v fs).map (·.1)
  | [] => ⟨by simp [putF], fun g h => by simp at h⟩
  | (k, x) :: r => by
    obtain ⟨i1, i2⟩ := keys_putF f v r
    rw [show putF f v ((k, x) :: r) = (if k = f then (k, v) :: r else (k, x) :: putF f v r) from rfl]
    by_cases hk : k = f
    · rw [if_pos hk]
      subst hk
      exact ⟨by simp, fun g h => by simpa using h⟩
    · rw [if_neg hk]
      refine ⟨?_, fun g h => ?_⟩
      · rw [List.map_cons]
        exact List.mem_cons_of_mem _ i1
      · rw [List.map_cons] at h ⊢
        rcases List.mem_cons.mp h with e | e
        · exact List.mem_cons.mpr (.inl e)
        · exact List.mem_cons_of_mem _ (i2 g e)
theorem length_putF (f : Str) (v : V) : ∀ fs : List (Str × V), (putF f v fs).length ≤ fs.length + 1
  | [] => by simp [putF]
  | (k, x) :: r => by
    have ih := length_putF f v r
    rw [show putF f v ((k, x) :: r) = (if k = f then (k, v) :: r else (k, x) :: putF f v r) from rfl]
    by_cases hk : k = f
    · rw [if_pos hk, List.length_cons, List.length_cons]; omega
    · rw [if_neg hk, List.length_cons, List.length_cons]; omega

theorem RelO.some_of {v : V} {o : Option Value} (r : RelO (some v) o) : ∃ u, o = some u ∧ RelV v u := by
  cases o with
  | none => exact (show False from r).elim
  | some u => exact ⟨u, rfl, r⟩
theorem handed_of {v : V} {u : Value} (r : RelV v u) : PySem.W.handedIn u = true := by
  cases v with
  | non => cases (show u = Value.none from r); rfl
  | bl b => cases (show u = Value.bool b from r); rfl
  | int i => obtain ⟨t, e⟩ := (show ∃ t, u = Value.int i t from r); cases e; rfl
  | str x => obtain ⟨t, e⟩ := (show ∃ t, u = Value.str x t from r); cases e; rfl
  | byt b => obtain ⟨t, e⟩ := (show ∃ t, u = Value.bytes b t from r); cases e; rfl
  | flt b => obtain ⟨t, e⟩ := (show ∃ t, u = Value.float b t from r); cases e; rfl
  | ref a => cases (show u = Value.ref a from r); rfl
  | ty n => cases (show u = Value.type n from r); rfl

section
variable {P : Program} {w : World} {H H' : Hp} {h h' : Heap} {a C dx : Addr} {fs fs' : List (Str × V)}
theorem ins_get (hok : HOk P w H h) (e : H a = some (.ins C dx fs)) : ∃ mA, ObjM h a dx C mA ∧ (∀ f, RelO (fs.lookup f) (mA f)) ∧ PySem.Within mA (fs.map (·.1)) ∧ fs.length ≤ 1000 ∧ H dx = some (.own a) := by
  obtain ⟨d, z, ne, ob, mA, n, r, q⟩ := (show ObjOk P w H h a (.ins C dx fs) from hok a _ e)
  exact ⟨mA, ⟨ob, n, ne⟩, r, q, z, d⟩
end

/-! ### what of the text a class must have -/
structure Cls (K : PySem.W.Frag) (C : Addr) : Prop where
  pg : PySem.W.plainGet K C Str.empty = true
  hd : PySem.W.hasDictIn K C = true
  po : PySem.W.plainOver K C = true
  sa : PySem.W.findIn K (.ref C) "__setattr__" = some (some (.builtin "object.__setattr__"))
theorem Cls.get {K : PySem.W.Frag} {C : Addr} (c : Cls K C) (f : Str) : PySem.W.plainGet K C f = true := c.pg
/-- no class of it has the name -/
def NoAttr (K : PySem.W.Frag) (C : Addr) (f : Str) : Prop := PySem.W.findIn K (.ref C) f = some none
theorem NoAttr.taker {K : PySem.W.Frag} {C : Addr} {f : Str} (n : NoAttr K C f) : PySem.W.takerIn K C f = some none := by
  unfold PySem.W.takerIn
  rw [show PySem.W.findIn K (.ref C) f = some none from n]
  rfl
/-- a constant of the class -/
structure Con (K : PySem.W.Frag) (C : Addr) (f : Str) (v : V) (u : Value) : Prop where
  at_ : PySem.W.findIn K (.ref C) f = some (some u)
  rel : RelV v u
  get : PySem.W.specialIn K u "__get__" = some none
  cp : PySem.W.copiedNames.contains f = false
/-- a method: a plain def of the class or of one above it -/
structure Meth (K : PySem.W.Frag) (C : Addr) (m : Str) (f : Addr) : Prop where
  at_ : PySem.W.findIn K (.ref C) m = some (some (.ref f))
  fn : PySem.W.isFn K (.ref f) = true
  kp : PySem.W.keepIn K (.ref f) = true

section
variable {X : Cx} {pins : List (Addr × Obj)} {σ : St} {H : Hp} {s : Shared} {a C dx : Addr} {fs : List (Str × V)} {f : Str} {v : V} {A : Around} {E : Value → Shared → Prop}

theorem getattr_ok {b : Bool} {Q : Value → Shared → Prop} (I : Inv X pins σ H s) (e : H a = some (.ins C dx fs)) (c : Cls X.K C) (n : NoAttr X.K C f) (l : fs.lookup f = some v)
    (h : ∀ u s', Inv X pins σ H s' → RelV v u → Q u s') : wpAny (model X.prog X.w) A (getAttr (.ref a) f b) Q E s := by
  obtain ⟨mA, O, r, _, _, _⟩ := ins_get I.hok e
  obtain ⟨u, hu, ru⟩ := RelO.some_of (v := v) (o := mA f) (by rw [← l]; exact r f)
  exact get_map I.kIn O (c.get f) c.hd n hu (handed_of ru) (h u _ (I.tok _) ru)

theorem setattr_ok {y : V} {u : Value} {Q : Unit → Shared → Prop} (I : Inv X pins σ H s) (e : H a = some (.ins C dx fs)) (c : Cls X.K C) (n : NoAttr X.K C f) (hl : fs.length < 1000) (ry : RelV y u)
    (h : ∀ s', Inv X pins σ (upd H a (.ins C dx (putF f y fs))) s' → Q () s') : wpAny (model X.prog X.w) A (setAttr (.ref a) f u) Q E s := by
  obtain ⟨mA, O, r, wi, _, ho⟩ := ins_get I.hok e
  have hz : (fs.map (·.1)).length ≤ sizeLine := by rw [List.length_map, sizeLine_eq]; omega
  refine set_map I.kIn O c.sa c.po n.taker c.hd wi hz fun h' O' sb => h _ ?_
  have hd : ∃ o, h'.get? dx = some o := let ⟨o, _, _, e', _⟩ := O'.ns; ⟨o, e'⟩
  refine I.write (x := a) (e := dx) (by rw [e]; exact True.intro) (.inr ho) (fun b q hb z => (sb.2 b hb).trans z) hd ?_
  refine ⟨by rw [upd_ne O.ne]; exact ho, ?_, O.ne, O'.obj, _, O'.ns, fun g => ?_, fun g hg => ?_⟩
  · have := length_putF f y fs; omega
  · show RelO ((putF f y fs).lookup g) (if g = f then some u else mA g)
    rw [lookup_putF]
    by_cases q : g = f
    · rw [if_pos q, if_pos q]; exact ry
    · rw [if_neg q, if_neg q]; exact r g
  · by_cases q : g = f
    · rw [q]; exact (keys_putF f y fs).1
    · refine (keys_putF f y fs).2 g (wi g fun z => hg ?_)
      show (if g = f then some u else mA g) = none
      rw [if_neg q]; exact z

/-- a new instance, tracked, without attributes -/
theorem Inv.made (I : Inv X pins σ H s) : Inv X pins σ (upd (upd H s.heap.objs.size (.own (s.heap.objs.size + 1))) (s.heap.objs.size + 1) (.ins C s.heap.objs.size []))
    { s with heap := (s.heap.push PySem.W.emptyDict).push (PySem.W.instObj C s.heap.objs.size) } := by
  have e1 : (s.heap.push PySem.W.emptyDict).get? s.heap.objs.size = some PySem.W.emptyDict := Heap.get?_push_size s.heap rfl
  have e2 : ((s.heap.push PySem.W.emptyDict).push (PySem.W.instObj C s.heap.objs.size)).get? (s.heap.objs.size + 1) = some (PySem.W.instObj C s.heap.objs.size) := by
    have := Heap.get?_push_size (s.heap.push PySem.W.emptyDict) (o := PySem.W.instObj C s.heap.objs.size) rfl
    rwa [Heap.size_push] at this
  have e3 : (s.heap.push PySem.W.emptyDict).Ns s.heap.objs.size (fun _ => none) := ⟨PySem.W.emptyDict, #[], _, e1, rfl, (fun e he => absurd he (by simp)), fun _ => rfl⟩
  have I1 := I.laid (a := s.heap.objs.size) (o := .own (s.heap.objs.size + 1)) (h' := s.heap.push PySem.W.emptyDict) (t' := s.toks) (fun b u q => Heap.get?_push_of_some _ q) (Nat.le_refl _) ⟨_, e1⟩
  refine I1.laid (a := s.heap.objs.size + 1) (o := .ins C s.heap.objs.size []) (t' := s.toks) (fun b u q => Heap.get?_push_of_some _ q) (Nat.le_of_eq (Heap.size_push _ _)) ?_
  have ne : s.heap.objs.size ≠ s.heap.objs.size + 1 := Nat.ne_of_lt (Nat.lt_succ_self _)
  refine ⟨by rw [upd_ne ne, upd_same], Nat.zero_le _, ne, e2, fun _ => none, (Heap.Ns1.of_empty e3).at fun o q => Heap.get?_push_of_some _ q, fun _ => True.intro, fun y hy => absurd rfl hy⟩

/-- e.f where nothing but the object is asked: through attributeBase (super) and the last hold -/
theorem attr_of {prog : Program} {w : World} {env : Env} {e : Expr} {f : Str} {pos : Pos} {s : Shared} {Q : Value → Shared → Prop} (hb : attributeBase e f env (eval e env) = eval e env)
    (h : wpAny (model prog w) A (eval e env) (fun o s₁ => wpAny (model prog w) A (getAttr o f true) Q E s₁) E s) : wpAny (model prog w) A (eval (.Attribute e f pos) env) Q E s :=
  Attribute_any_ h (by rw [arm_eval_Attribute, hb])
end

/-! ### readings and rules -/
/-- e.f, an attribute of the instance -/
def tFld (K : PySem.W.Frag) (ta : TE) (f : Str) : TE := fun σ H Q => ta σ H fun x H1 => ∃ a C dx fs v, x = .ref a ∧ H1 a = some (.ins C dx fs) ∧ Cls K C ∧ NoAttr K C f ∧ fs.lookup f = some v ∧ Q v H1
/-- e.f = value -/
def sFld (K : PySem.W.Frag) (ta tv : TE) (f : Str) : TS := fun D σ H => tv σ H fun y H1 => ta σ H1 fun x H2 => ∃ a C dx fs, x = .ref a ∧ H2 a = some (.ins C dx fs) ∧ Cls K C ∧ NoAttr K C f ∧ fs.length < 1000 ∧
  D.nx σ (upd H2 a (.ins C dx (putF f y fs)))
section
variable {X : Cx} {o e value : Expr} {f : Str} {pos pos' tpos : Pos} {ta tv : TE}
theorem pe_fld (he : PE X e ta) (hb : attributeBase e f X.env (eval e X.env) = eval e X.env) : PE X (.Attribute e f pos) (tFld X.K ta f) := by
  intro pins s σ H Q I h
  refine attr_of hb (thn (he pins s σ H _ I h) fun u s1 ⟨x, H1, I1, rx, a, C, dx, fs, v, ex, ea, c, n, l, q⟩ => ?_)
  subst ex
  obtain rfl : u = Value.ref a := rx
  exact getattr_ok I1 ea c n l fun u' s2 I2 ru => ⟨v, H1, I2, ru, q⟩
theorem ps_fld (ha : PE X o ta) (hv : PE X value tv) (hs : swapsWith value (some (.Attribute o f pos')) pos.line X.env = pure false) : PS X (.Assign [.Attribute o f pos'] value pos) (sFld X.K ta tv f) := by
  intro pins s σ H D I h
  refine plainObj_wpAny_Assign_Attribute (thn (hv pins s σ H _ I h) fun u s1 ⟨y, H1, I1, ry, q⟩ => thn (ha pins s1 σ H1 _ I1 q) fun ov s2 ⟨x, H2, I2, rx, a, C, dx, fs, ex, ea, c, n, l, q2⟩ => ?_) hs
  subst ex
  obtain rfl : ov = Value.ref a := rx
  exact setattr_ok I2 ea c n l ry fun s3 I3 => ⟨σ, _, I3, q2⟩
end

/-! ### isinstance -/
section
variable {X : Cx} {pins : List (Addr × Obj)} {σ : St} {H : Hp} {s : Shared} {A : Around} {E : Value → Shared → Prop} {Q : Value → Shared → Prop} {c : Value} {b : Bool}
/-- the type of a value, as the fragment's deciders take it; for an instance its class -/
inductive TyOf (K : PySem.W.Frag) (H : Hp) : V → Value → Prop where
  | non : TyOf K H .non (.type "NoneType")
  | bl (x : Bool) : TyOf K H (.bl x) (.type "bool")
  | int (i : Int) : TyOf K H (.int i) (.type "int")
  | str (x : Str) : TyOf K H (.str x) (.type "str")
  | flt (x : UInt64) : TyOf K H (.flt x) (.type "float")
  | lst {a : Addr} {xs : List V} (e : H a = some (.lst xs)) : TyOf K H (.ref a) (.type "list")
  | frz {a : Addr} {o : Obj} {xs : List V} (e : H a = some (.frz o (.lst xs))) : TyOf K H (.ref a) (.type "list")
  | tup {a : Addr} {xs : List V} (e : H a = some (.tup xs)) : TyOf K H (.ref a) (.type "tuple")
  | dK {a : Addr} {kvs : List (Key × V)} (e : H a = some (.dK kvs)) : TyOf K H (.ref a) (.type "dict")
  | dT {a : Addr} {kvs : List (List Key × V)} (e : H a = some (.dT kvs)) : TyOf K H (.ref a) (.type "dict")
  | ins {a C dx : Addr} {fs : List (Str × V)} (e : H a = some (.ins C dx fs)) (cl : Cls K C) (ha : PySem.W.findIn K (.ref C) "__class__" = some (some (.builtin "object.__class__")))
      (hn : PySem.W.specialIn K (.builtin "object.__class__") "__get__" = some (some (.builtin "getset_descriptor.__get__"))) (htk : PySem.W.takesIn K (.builtin "object.__class__") = some true)
      (hm : PySem.W.mroIn K C (.type "object") = some true) : TyOf K H (.ref a) (.ref C)
/-- isinstance(x, c) for one class c, a built-in or an own one: kitOne's answer -/
theorem isinst_ok {x : V} {u t : Value} (I : Inv X pins σ H s) (rx : RelV x u) (ty : TyOf X.K H x t) (e : PySem.W.kitOne X.K t c = some b) (h : ∀ tk, Q (.bool b) { s with toks := tk }) :
    wpAny (model X.prog X.w) A (call (.builtin "isinstance") [u, c]) Q E s := by
  cases ty with
  | non => cases (show u = Value.none from rx); exact PySem.W.kia_one PySem.W.kitx_none I.kIn True.intro e (fun z => nomatch z) h
  | bl y => cases (show u = Value.bool y from rx); exact PySem.W.kia_one PySem.W.kitx_bool I.kIn True.intro e (fun z => nomatch z) h
  | int i => obtain ⟨t, q⟩ := (show ∃ t, u = Value.int i t from rx); cases q; exact PySem.W.kia_one PySem.W.kitx_int I.kIn True.intro e (fun z => nomatch z) h
  | str y => obtain ⟨t, q⟩ := (show ∃ t, u = Value.str y t from rx); cases q; exact PySem.W.kia_one PySem.W.kitx_str I.kIn True.intro e (fun z => nomatch z) h
  | flt y => obtain ⟨t, q⟩ := (show ∃ t, u = Value.float y t from rx); cases q; exact PySem.W.kia_one PySem.W.kitx_float I.kIn True.intro e (fun z => nomatch z) h
  | @lst a xs ea =>
    cases (show u = Value.ref a from rx)
    obtain ⟨_, _, n, _, h1⟩ := (show ObjOk X.prog X.w H s.heap a (.lst xs) from I.hok a _ ea)
    exact PySem.W.kia_one PySem.W.kitx_list I.kIn ⟨_, h1, rfl⟩ e (fun z => nomatch z) h
  | @frz a ob xs ea =>
    cases (show u = Value.ref a from rx)
    obtain ⟨_, _, _, n, _, h1⟩ := (show ObjOk X.prog X.w H s.heap a (.frz ob (.lst xs)) from I.hok a _ ea)
    exact PySem.W.kia_one PySem.W.kitx_list I.kIn ⟨_, h1, rfl⟩ e (fun z => nomatch z) h
  | @tup a xs ea =>
    cases (show u = Value.ref a from rx)
    obtain ⟨_, _, _, p⟩ := (show ObjOk X.prog X.w H s.heap a (.tup xs) from I.hok a _ ea)
    obtain ⟨o, h1, h2, _⟩ := p
    exact PySem.W.kia_one PySem.W.kitx_tuple I.kIn ⟨o, h1, h2⟩ e (fun z => nomatch z) h
  | @dK a kvs ea =>
    cases (show u = Value.ref a from rx)
    obtain ⟨_, _, vs, _, p⟩ := (show ObjOk X.prog X.w H s.heap a (.dK kvs) from I.hok a _ ea)
    obtain ⟨o, es, ep, h1, h2, _⟩ := p
    exact PySem.W.kia_one PySem.W.kitx_dict I.kIn ⟨o, h1, h2.1⟩ e (fun z => nomatch z) h
  | @dT a kvs ea =>
    cases (show u = Value.ref a from rx)
    obtain ⟨_, _, xs, _, o, es, ep, h1, h2, _⟩ := (show ObjOk X.prog X.w H s.heap a (.dT kvs) from I.hok a _ ea)
    exact PySem.W.kia_one PySem.W.kitx_dict I.kIn ⟨o, h1, h2.1⟩ e (fun z => nomatch z) h
  | @ins a C dx fs ea cl ha hn htk hm =>
    cases (show u = Value.ref a from rx)
    obtain ⟨mA, O, _⟩ := ins_get I.hok ea
    obtain ⟨od, J, _⟩ := O.look
    exact PySem.W.kia_one (PySem.W.kitx_own (cl.get _) cl.hd ha hn htk hm) I.kIn J e (fun z => nomatch z) h
end
end L2

namespace L2
open PySem PySem.Spec PyProof.Rows

/-! ### room -/
structure Room (k : Nat) (A : Around) : Prop where
  hd : A.handled = none
  dp : A.depth + 3 * k + 5 < recursionLimit
  un : A.units + 16 * k + 200 < cLine
theorem Room.mono {j k : Nat} {A : Around} (r : Room k A) (h : j ≤ k) : Room j A := ⟨r.hd, by have := r.dp; omega, by have := r.un; omega⟩
theorem Room.deeper {k : Nat} {A : Around} (r : Room (k + 1) A) (env : Env) : Room k (A.deeper env) :=
  ⟨r.hd, by have := r.dp; show A.depth + 1 + 3 * k + 5 < _; omega, by have := r.un; show A.units + 3 + 16 * k + 200 < _; omega⟩
theorem make_depth {A : Around} {C : Addr} {us : List Value} {kw : List (Str × Value)} : (A.under (.builtin "type.__call__" ⟨.ref C :: us, kw⟩)).depth = A.depth + 1 := by
  first | rfl | simp [Around.under, Code.weight, Code.isCreation, Code.isGuard, Code.isCaller, Code.frames, Code.isFrame, guardIds]
theorem make_units {A : Around} {C : Addr} {us : List Value} {kw : List (Str × Value)} : (A.under (.builtin "type.__call__" ⟨.ref C :: us, kw⟩)).units = A.units + 1 := by
  first | rfl | simp [Around.under, Code.cUnits, Code.frames, Code.isFrame]
theorem Room.make {k : Nat} {A : Around} (r : Room (k + 1) A) (C : Addr) (us : List Value) (kw : List (Str × Value)) : Room k (A.under (.builtin "type.__call__" ⟨.ref C :: us, kw⟩)) :=
  ⟨r.hd, by have := r.dp; rw [make_depth]; omega, by have := r.un; rw [make_units]; omega⟩
theorem Room.depth {k : Nat} {A : Around} (r : Room k A) : A.depth < recursionLimit := by have := r.dp; omega
theorem Room.units {k : Nat} {A : Around} (r : Room k A) : A.units + 64 < cLine := by have := r.un; omega
/-! ### argument lists and displays -/
def tNil : TA := fun _ H Q => Q [] H
def tCons (ta : TE) (tr : TA) : TA := fun σ H Q => ta σ H fun x H1 => tr σ H1 fun xs H2 => Q (x :: xs) H2
section
variable {X : Cx} {e : Expr} {es : List Expr} {te : TE} {t : TA} {pos : Pos}
theorem pa_nil : PA X [] tNil := fun _ _ _ _ H Q I h => Calls.spliced_nil ⟨[], H, I, .nil, h⟩
theorem pa_cons (ha : PE X e te) (hr : PA X es t) (hs : starEach (e :: es) X.env = (false, eval e X.env) :: starEach es X.env := by rfl) : PA X (e :: es) (tCons te t) := by
  intro pos pins s σ H Q I h
  rw [hs]
  show wpAny _ _ (spliced ((false, eval e X.env) :: backTo pos (starEach es X.env))) _ _ s
  refine Calls.spliced_cons (thn (ha pins s σ H _ I h) fun u s1 ⟨x, H1, I1, r1, q1⟩ => ?_)
  exact thn (hr pos pins s1 σ H1 _ I1 q1) fun us s2 ⟨xs, H2, I2, r2, q2⟩ => ⟨x :: xs, H2, I2, .cons r1 r2, q2⟩

/-- a tuple, a list of written items -/
def tTup (t : TA) : TE := fun σ H Q => t σ H fun xs H1 => xs.length ≤ sizeLine ∧ ∀ p, H1 p = none → Q (.ref p) (upd H1 p (.tup xs))
def tLst (t : TA) : TE := fun σ H Q => t σ H fun xs H1 => xs.length ≤ sizeLine ∧ ∀ p, H1 p = none → Q (.ref p) (upd H1 p (.lst xs))
theorem pe_tup {x1} (h : PA X es t) : PE X (.Tuple es x1 pos) (tTup t) := by
  intro pins s σ H Q I hq
  refine wpAny_Tuple_spliced (thn (h pos pins s σ H _ I hq) fun us s1 ⟨xs, H1, I1, r, z, q⟩ => ⟨by rw [← r.length]; exact z, ?_⟩)
  have hf : H1 s1.heap.objs.size = none := I1.hok.fresh (Nat.le_refl _)
  refine ⟨.ref s1.heap.objs.size, upd H1 s1.heap.objs.size (.tup xs), I1.laid (t' := s1.toks) (fun b u e => Heap.get?_push_of_some _ e) (Nat.le_refl _) ?_, rfl, q _ hf⟩
  exact ⟨z, us, r, ⟨_, Heap.get?_push_size _ rfl, rfl, _, rfl⟩⟩
theorem pe_lst (h : PA X es t) : PE X (.List es pos) (tLst t) := by
  intro pins s σ H Q I hq
  refine wpAny_List_spliced (thn (h pos pins s σ H _ I hq) fun us s1 ⟨xs, H1, I1, r, z, q⟩ => ⟨by rw [← r.length]; exact z, ?_⟩)
  have hf : H1 s1.heap.objs.size = none := I1.hok.fresh (Nat.le_refl _)
  refine ⟨.ref s1.heap.objs.size, upd H1 s1.heap.objs.size (.lst xs), I1.laid (t' := s1.toks) (fun b u e => Heap.get?_push_of_some _ e) (Nat.le_refl _) ?_, rfl, q _ hf⟩
  exact ⟨z, us, 0, r, Heap.get?_push_size _ rfl⟩
end

/-! ### what a def promises -/
/-- a def's promise: the bound arguments in the parameters' order, the heap, the wanted end, the wanted exception -/
abbrev Sp := List V → Hp → VK → XK → Prop
/-- how an exception lies behind a call (file 08 gives it): the callers' frames, abstract heap and state ahead of the call, the wish, the exception, the state -/
abbrev CXT := List Env → Hp → Shared → XK → Value → Shared → Prop

/-- the state at a call -/
structure Env0 (P : Program) (w : World) (K : PySem.W.Frag) (mg : Str → Option Value) (base : Heap) (A : Around) (outer : List Env) (s : Shared) (H : Hp) : Prop where
  frames : A.frames = some outer
  mod : Mod K mg base
  bs : ∀ b o, base.get? b = some o → s.heap.get? b = some o ∧ H b = none
  bsz : base.objs.size ≤ s.heap.objs.size
  funs : s.heap.FunFrames base outer
  frf : ∀ b ∈ frs outer, H b = none
  hok : HOk P w H s.heap
  bare : AllBare s.gens
/-- a call's end -/
def CE (outer : List Env) (P : Program) (w : World) (H : Hp) (s : Shared) (Q : VK) (u : Value) (s' : Shared) : Prop :=
  ∃ v H', s'.os = s.os ∧ AllBare s'.gens ∧ Un (frs outer) [] H H' s.heap s'.heap ∧ HOk P w H' s'.heap ∧ RelV v u ∧ Q v H'
def CR (CX : CXT) (outer : List Env) (P : Program) (w : World) (H : Hp) (s : Shared) (Q : VK) (E : XK) (r : Result) (s' : Shared) : Prop :=
  match r with
  | .ok (.ret u) => CE outer P w H s Q u s'
  | .ok _ => False
  | .error e => CX outer H s E e s'
structure FnOk (P : Program) (w : World) (K : PySem.W.Frag) (mg : Str → Option Value) (base : Heap) (CX : CXT) (k : Nat) (f : Addr) (fd : FuncData) (ps : List Str) (sp : Sp) : Prop where
  len : ∀ vs H Q E, sp vs H Q E → vs.length = ps.length
  run : ∀ (A : Around) (outer : List Env) (s : Shared) (H : Hp) (args : Args) (us : List Value) (vs : List V) (Q : VK) (E : XK), Room k A → Env0 P w K mg base A outer s H → BindsTo s fd args (ps.zip us) → Vals vs us → sp vs H Q E →
    codeAny (model P w) A (.call (.ref f) args) (CR CX outer P w H s Q E) s
theorem FnOk.mono {P : Program} {w : World} {K : PySem.W.Frag} {mg : Str → Option Value} {base : Heap} {CX : CXT} {j k : Nat} {f : Addr} {fd : FuncData} {ps : List Str} {sp : Sp} (F : FnOk P w K mg base CX j f fd ps sp) (h : j ≤ k) :
    FnOk P w K mg base CX k f fd ps sp := ⟨F.len, fun A outer s H args us vs Q E hr => F.run A outer s H args us vs Q E (hr.mono h)⟩
/-- a weaker promise -/
theorem FnOk.imp {P : Program} {w : World} {K : PySem.W.Frag} {mg : Str → Option Value} {base : Heap} {CX : CXT} {k : Nat} {f : Addr} {fd : FuncData} {ps : List Str} {sp sp' : Sp} (F : FnOk P w K mg base CX k f fd ps sp)
    (h : ∀ vs H Q E, sp' vs H Q E → sp vs H Q E) : FnOk P w K mg base CX k f fd ps sp' :=
  ⟨fun vs H Q E q => F.len vs H Q E (h _ _ _ _ q), fun A outer s H args us vs Q E hr he hb hv hs => F.run A outer s H args us vs Q E hr he hb hv (h _ _ _ _ hs)⟩

theorem Env0.make {P : Program} {w : World} {K : PySem.W.Frag} {mg : Str → Option Value} {base : Heap} {A : Around} {outer : List Env} {s : Shared} {H : Hp} (e : Env0 P w K mg base A outer s H) (C : Addr) (us : List Value) (kw : List (Str × Value)) :
    Env0 P w K mg base (A.under (.builtin "type.__call__" ⟨.ref C :: us, kw⟩)) outer s H := ⟨by first | exact e.frames | (simpa [Around.under, Code.envs, Code.isFrame, pushEnvs] using e.frames), e.mod, e.bs, e.bsz, e.funs, e.frf, e.hok, e.bare⟩
section
variable {X : Cx} {pins : List (Addr × Obj)} {σ : St} {H : Hp} {s s' : Shared}
/-- from a body: what a callee wants -/
theorem Inv.env0 (I : Inv X pins σ H s) : Env0 X.prog X.w X.K X.mg X.base X.A X.stack s H :=
  ⟨I.ok.frames, I.ok.mod, I.bs, Nat.le_trans I.ok.bsz I.sz, I.stack, I.stkFree, I.hok, I.bare⟩
/-- behind a call -/
theorem Inv.after {Q : VK} {u : Value} (I : Inv X pins σ H s) (h : CE X.stack X.prog X.w H s Q u s') : EP X pins σ Q u s' := by
  obtain ⟨v, H', os, bare, un, hok, r, q⟩ := h
  obtain ⟨hh, g, d, t, os'⟩ := s'
  obtain rfl : os' = s.os := os
  exact ⟨v, H', I.call (h' := hh) (g' := g) (d' := d) (t' := t) (ch := []) un hok bare (fun b z => absurd z (by simp)), r, q⟩
end

/-! ### calls -/
/-- f(..): the written arguments, then the defaults dvs; E: what is wanted of an exception -/
def tCall (sp : Sp) (dvs : List V) (E : XK) (t : TA) : TE := fun σ H Q => t σ H fun vs H1 => sp (vs ++ dvs) H1 Q E
/-- C(..): a new instance and its dict, then __init__ -/
def tMake (C : Addr) (sp : Sp) (dvs : List V) (E : XK) (t : TA) : TE := fun σ H Q => t σ H fun vs H1 => ∀ x dx, H1 x = none → H1 dx = none → dx ≠ x →
  sp (.ref x :: (vs ++ dvs)) (upd (upd H1 dx (.own x)) x (.ins C dx [])) (fun v H2 => v = .non ∧ Q (.ref x) H2) E

/-- how the parameters are bound: us the positional arguments, kw the keywords' values by name, ds the defaults that fill up -/
def Binds (K : PySem.W.Frag) (fd : FuncData) (ps : List Str) (ds : List Value) : Prop :=
  ∀ (s : Shared) (us : List Value), K.In s.heap → (us ++ ds).length = ps.length → BindsTo s fd ⟨us, []⟩ (ps.zip (us ++ ds))
/-- every parameter is given -/
theorem Binds.all {K : PySem.W.Frag} {fd : FuncData} {ps : List Str} (h : ∀ us : List Value, us.length = ps.length → bindArgs fd ⟨us, []⟩ = pure (ps.zip us)) : Binds K fd ps [] := fun s us _ hl => by
  rw [List.append_nil] at hl ⊢
  exact .of_eq (h us hl)

/-- an exception of a callee reaches what this body wants of exceptions -/
def Passes (CX : CXT) (X : Cx) (E : XK) : Prop := ∀ (pins : List (Addr × Obj)) (σ : St) (H : Hp) (s : Shared) (e : Value) (s' : Shared), Inv X pins σ H s → CX X.stack H s E e s' → X.xe e s'

section
variable {X : Cx} {CX : CXT} {k : Nat} {f C : Addr} {fd : FuncData} {ps : List Str} {sp : Sp} {dvs : List V} {ds : List Value} {E : XK} {x m : Str} {p pos apos : Pos} {e o : Expr} {es : List Expr} {ta : TE} {t : TA}

/-- the callee runs -/
theorem run_fn {pins : List (Addr × Obj)} {σ : St} {H : Hp} {s : Shared} {Q : VK} {us : List Value} {vs : List V} (F : FnOk X.prog X.w X.K X.mg X.base CX k f fd ps sp) (hr : Room k X.A) (hb : Binds X.K fd ps ds) (hd : Vals dvs ds) (hx : Passes CX X E)
    (I : Inv X pins σ H s) (r : Vals vs us) (h : sp (vs ++ dvs) H Q E) : wpAny (model X.prog X.w) X.A (call (.ref f) us) (EP X pins σ Q) X.xe s := by
  have r2 : Vals (vs ++ dvs) (us ++ ds) := r.append hd
  have hl : (us ++ ds).length = ps.length := by rw [← r2.length]; exact F.len _ _ _ _ h
  refine wpAny_call (codeAny_mono (F.run X.A X.stack s H ⟨us, []⟩ (us ++ ds) (vs ++ dvs) Q E hr I.env0 (hb s us I.kIn hl) r2 h) fun r s' hq => ?_)
  cases r with
  | error e => exact hx pins σ H s e s' I hq
  | ok fl =>
    cases fl with
    | ret u => exact I.after hq
    | next => exact False.elim hq
    | brk => exact False.elim hq
    | cont => exact False.elim hq

theorem pe_call (F : FnOk X.prog X.w X.K X.mg X.base CX k f fd ps sp) (hr : Room k X.A) (hg : Gl X x) (hm : X.mg x = some (.ref f)) (hk : PySem.W.keepIn X.K (.ref f) = true) (hb : Binds X.K fd ps ds) (hd : Vals dvs ds) (hx : Passes CX X E)
    (ha : PA X (e :: es) t) (hdb : (x == ("__debug__" : Str)) = false := by decide) (he : starEach (e :: es) X.env = (false, eval e X.env) :: starEach es X.env := by rfl) (hpl : (backTo pos (starEach es X.env)).any (·.1) = false := by rfl) :
    PE X (.Call (.Name x p) (e :: es) [] pos) (tCall sp dvs E t) := by
  intro pins s σ H Q I h
  refine wpAny_Call_Name_kw (ld_glob I hg hm ?_ hdb)
  refine PySem.W.callWith_K (h₀ := X.base) I.ok.mod.kin hk (thn (ha pos pins s σ H _ I h) fun us s1 ⟨vs, H1, I1, r, q⟩ => ⟨I1.kIn, ?_⟩) he hpl
  exact run_fn F hr hb hd hx I1 r q
/-- what a class must have to be made -/
structure Mk (K : PySem.W.Frag) (C f : Addr) : Prop where
  makes : PySem.W.makesIn K C = true
  init : PySem.W.findIn K (.ref C) "__init__" = some (some (.ref f))
  fn : PySem.W.isFn K (.ref f) = true
  kp : PySem.W.keepIn K (.ref C) = true

theorem run_make {pins : List (Addr × Obj)} {σ : St} {H : Hp} {s : Shared} {Q : VK} {us : List Value} {vs : List V} (M : Mk X.K C f) (F : FnOk X.prog X.w X.K X.mg X.base CX k f fd ps sp) (hr : Room (k + 1) X.A) (hb : Binds X.K fd ps ds) (hd : Vals dvs ds)
    (hx : Passes CX X E) (I : Inv X pins σ H s) (r : Vals vs us)
    (h : ∀ x dx, H x = none → H dx = none → dx ≠ x → sp (.ref x :: (vs ++ dvs)) (upd (upd H dx (.own x)) x (.ins C dx [])) (fun v H2 => v = .non ∧ Q (.ref x) H2) E) :
    wpAny (model X.prog X.w) X.A (call (.ref C) us) (EP X pins σ Q) X.xe s := by
  have hq := h (s.heap.objs.size + 1) s.heap.objs.size (I.hok.fresh (Nat.le_succ _)) (I.hok.fresh (Nat.le_refl _)) (Nat.ne_of_lt (Nat.lt_succ_self _))
  have I2 := Inv.made (C := C) I
  have r2 : Vals (V.ref (s.heap.objs.size + 1) :: (vs ++ dvs)) (Value.ref (s.heap.objs.size + 1) :: (us ++ ds)) := .cons rfl (r.append hd)
  have hl : (Value.ref (s.heap.objs.size + 1) :: us ++ ds).length = ps.length := by
    have e := r2.length
    rw [F.len _ _ _ _ hq] at e
    exact e.symm
  refine wpAny_call (make_map (f := f) I.kIn M.makes M.init (beq_iff_eq.mp M.fn) (codeAny_mono (F.run _ X.stack _ _ ⟨Value.ref (s.heap.objs.size + 1) :: us, []⟩ (Value.ref (s.heap.objs.size + 1) :: (us ++ ds)) _ _ E (hr.make C us [])
    (I2.env0.make C us []) (hb _ (Value.ref (s.heap.objs.size + 1) :: us) I2.kIn hl) r2 hq) fun r s' hq' => ?_))
  cases r with
  | error e => exact hx pins σ _ _ e s' I2 hq'
  | ok fl =>
    cases fl with
    | ret u =>
      obtain ⟨v, H', I3, rv, ev, q3⟩ := I2.after hq'
      subst ev
      exact ⟨rv, ⟨V.ref (s.heap.objs.size + 1), H', I3, rfl, q3⟩⟩
    | next => exact False.elim hq'
    | brk => exact False.elim hq'
    | cont => exact False.elim hq'
theorem pe_make (M : Mk X.K C f) (F : FnOk X.prog X.w X.K X.mg X.base CX k f fd ps sp) (hr : Room (k + 1) X.A) (hg : Gl X x) (hm : X.mg x = some (.ref C)) (hb : Binds X.K fd ps ds) (hd : Vals dvs ds) (hx : Passes CX X E)
    (ha : PA X (e :: es) t) (hdb : (x == ("__debug__" : Str)) = false := by decide) (he : starEach (e :: es) X.env = (false, eval e X.env) :: starEach es X.env := by rfl) (hpl : (backTo pos (starEach es X.env)).any (·.1) = false := by rfl) :
    PE X (.Call (.Name x p) (e :: es) [] pos) (tMake C sp dvs E t) := by
  intro pins s σ H Q I h
  refine wpAny_Call_Name_kw (ld_glob I hg hm ?_ hdb)
  refine PySem.W.callWith_K (h₀ := X.base) I.ok.mod.kin M.kp (thn (ha pos pins s σ H _ I h) fun us s1 ⟨vs, H1, I1, r, q⟩ => ⟨I1.kIn, ?_⟩) he hpl
  exact run_make M F hr hb hd hx I1 r q
end

/-! ### keywords -/
section
variable {X : Cx} {CX : CXT} {k : Nat} {f C : Addr} {fd : FuncData} {ps ks : List Str} {sp : Sp} {E : XK} {x m : Str} {p pos apos kpos : Pos} {e o : Expr} {es : List Expr} {kws : List Keyword} {te ta : TE} {t tk : TA} {nm : Option Str}
/-- how a call with keywords binds: g puts the positional values us and the keywords' values ws (names ks) in the parameters' order, defaults among them -/
structure KBinds (K : PySem.W.Frag) (fd : FuncData) (ps ks : List Str) (g : List Value → List Value → List Value) (gV : List V → List V → List V) : Prop where
  to : ∀ (s : Shared) (us ws : List Value), K.In s.heap → (g us ws).length = ps.length → BindsTo s fd ⟨us, ks.zip ws⟩ (ps.zip (g us ws))
  rel : ∀ {vs : List V} {us : List Value} {zs : List V} {ws : List Value}, Vals vs us → Vals zs ws → Vals (gV vs zs) (g us ws)
variable {g : List Value → List Value → List Value} {gV : List V → List V → List V}
end

/-! ### a def's body keeps its promise -/
/-- names: the parameters first -/
structure FnScope (N P : List Str) (sc : Scope) : Prop where
  kind : sc.kind = .function
  co : sc.isCoroutine = false
  gen : sc.isGenerator = false
  nd : N.Nodup
  pre : N.take P.length = P
  par : ∀ x ∈ P, sc.names.lookup x = some .local ∨ sc.names.lookup x = some .cell
  nofree : ∀ y ∈ sc.names, y.2 ≠ .free

theorem bindL_out {kindOf : Str → Option NameKind} {x : Str} : ∀ {binds : List (Str × Value)} {m : Str → Option Value}, (∀ v, (x, v) ∉ binds) → bindL kindOf binds m x = m x
  | [], _, _ => rfl
  | (n, v) :: r, m, h => by
    unfold bindL
    rw [bindL_out fun w hw => h w (List.mem_cons_of_mem _ hw)]
    split
    · have : x ≠ n := by rintro rfl; exact h v List.mem_cons_self
      simp [this]
    · rfl
theorem bindC_out {kindOf : Str → Option NameKind} {x : Str} : ∀ {binds : List (Str × Value)} {m : Str → Option Value}, (∀ v, (x, v) ∉ binds) → bindC kindOf binds m x = m x
  | [], _, _ => rfl
  | (n, v) :: r, m, h => by
    unfold bindC
    rw [bindC_out fun w hw => h w (List.mem_cons_of_mem _ hw)]
    split
    · rfl
    · have : x ≠ n := by rintro rfl; exact h v List.mem_cons_self
      simp [this]
theorem bindL_get {kindOf : Str → Option NameKind} {x : Str} {v : Value} : ∀ {P : List Str} {vs : List Value} {i : Nat} {m : Str → Option Value}, P.Nodup → P[i]? = some x → vs[i]? = some v → kindOf x = some .local →
    bindL kindOf (P.zip vs) m x = some v
  | [], _, _, _, _, h, _, _ => by simp at h
  | _ :: _, [], _, _, _, _, h, _ => by simp at h
  | p :: P, w :: vs, 0, m, nd, h1, h2, hk => by
    simp at h1 h2; subst h1; subst h2
    show bindL kindOf ((p, w) :: P.zip vs) m p = _
    unfold bindL
    rw [bindL_out fun v hv => (List.nodup_cons.mp nd).1 (List.of_mem_zip hv).1, if_pos hk]
    simp
  | p :: P, w :: vs, i + 1, m, nd, h1, h2, hk => by
    show bindL kindOf ((p, w) :: P.zip vs) m x = _
    unfold bindL
    exact bindL_get (i := i) (List.nodup_cons.mp nd).2 (by simpa using h1) (by simpa using h2) hk
theorem bindC_get {kindOf : Str → Option NameKind} {x : Str} {v : Value} : ∀ {P : List Str} {vs : List Value} {i : Nat} {m : Str → Option Value}, P.Nodup → P[i]? = some x → vs[i]? = some v → kindOf x ≠ some .local →
    bindC kindOf (P.zip vs) m x = some v
  | [], _, _, _, _, h, _, _ => by simp at h
  | _ :: _, [], _, _, _, _, h, _ => by simp at h
  | p :: P, w :: vs, 0, m, nd, h1, h2, hk => by
    simp at h1 h2; subst h1; subst h2
    show bindC kindOf ((p, w) :: P.zip vs) m p = _
    unfold bindC
    rw [bindC_out fun v hv => (List.nodup_cons.mp nd).1 (List.of_mem_zip hv).1, if_neg hk]
    simp
  | p :: P, w :: vs, i + 1, m, nd, h1, h2, hk => by
    show bindC kindOf ((p, w) :: P.zip vs) m x = _
    unfold bindC
    exact bindC_get (i := i) (List.nodup_cons.mp nd).2 (by simpa using h1) (by simpa using h2) hk

/-- the names' values at the entry -/
def start (N : List Str) (vs : List V) : St := vs.map some ++ List.replicate (N.length - vs.length) none

/-- the context of a def's body, at its entry; an exception leaves the frame, then lies as CX says -/
def cxOf (CX : CXT) (P : Program) (w : World) (K : PySem.W.Frag) (mg : Str → Option Value) (base : Heap) (N : List Str) (qual : Str) (scope : Scope) (f : Addr) (cd : Value) (A : Around) (outer : List Env) (s : Shared) (H : Hp) (E : XK) : Cx where
  prog := P
  w := w
  K := K
  mg := mg
  base := base
  A := A.deeper (envOfC qual scope s.heap.objs.size f cd)
  N := N
  s₀ := s
  H₀ := H
  env := envOfC qual scope s.heap.objs.size f cd
  outer := outer
  stack := envOfC qual scope s.heap.objs.size f cd :: outer
  ex := []
  calm := true
  fn := fun _ => true
  pn := []
  xe := fun e s' => wpAny (model P w) (A.deeper (envOfC qual scope s.heap.objs.size f cd)) (leaving (envOfC qual scope s.heap.objs.size f cd) e) (fun _ s'' => CX outer H s E e s'') (fun e' s'' => CX outer H s E e' s'') s'

theorem cell_has {sc : Scope} {n : Nat} {x : Str} (h : sc.names.lookup x = some .cell) : ∃ c, (cellsFrom n sc.names []).lookup x = some c := by
  have q := PySem.W.cellsFrom_some sc.names n [] (.inl h)
  exact Option.isSome_iff_exists.mp q

theorem inv_start {CX : CXT} {P : Program} {w : World} {K : PySem.W.Frag} {mg : Str → Option Value} {base : Heap} {N ps : List Str} {qual : Str} {scope : Scope} {f : Addr} {cd : Value} {A : Around} {outer : List Env} {s s1 : Shared} {H : Hp} {E : XK} {us : List Value} {vs : List V}
    (S : FnScope N ps scope) (hd : A.handled = none) (e0 : Env0 P w K mg base A outer s H) (hl : vs.length = ps.length) (r : Vals vs us)
    (x : InCallC s s.heap.objs.size (bindL (envOfC qual scope s.heap.objs.size f cd).kindOf (ps.zip us) fun _ => none) (cellsFrom (s.heap.objs.size + 1) scope.names []) (bindC (envOfC qual scope s.heap.objs.size f cd).kindOf (ps.zip us) fun _ => none) s1) :
    Inv (cxOf CX P w K mg base N qual scope f cd A outer s H E) [] (start N vs) H s1 := by
  have hpl : ps.length ≤ N.length := by have := congrArg List.length S.pre; rw [List.length_take] at this; omega
  obtain ⟨h1, tk, rfl, hk⟩ := x.done
  have noA : ∀ b : Addr, b ∉ (cxOf CX P w K mg base N qual scope f cd A outer s H E).ex := fun b z => absurd (show b ∈ ([] : List Addr) from z) (by simp)
  refine ⟨⟨e0.mod, S.kind, rfl, rfl, Nat.le_refl _, fun y z c h1 h2 => ?_, fun y hy => ?_, fun y c _ h => ?_, fun _ => hd, Around.frames_deeper e0.frames, .inr ⟨rfl, rfl⟩, fun b z => absurd z (noA b), e0.bs, e0.bsz, fun b _ _ => noA b, fun b z => absurd z (noA b), e0.funs, e0.frf⟩,
    rfl, e0.bare, Un.kept hk, ⟨_, x.toInCall.ns, fun i y v h1 h2 h3 => ?_⟩, fun y c h => ⟨_, x.cell y c h⟩, e0.hok.fresh (Nat.le_refl _), fun y c h => ?_, fun p hp => absurd (show p ∈ ([] : List (Addr × Obj)) from hp) (by simp), e0.hok.kept hk, ?_⟩
  · exact name_of_addr x.apart (PySem.mem_of_lookup h1) (PySem.mem_of_lookup h2)
  · have hy : scope.names.lookup y = some .cell ∨ scope.names.lookup y = some .free := hy
    rcases hy with hy | hy
    · exact cell_has hy
    · exact absurd rfl (S.nofree _ (PySem.mem_of_lookup hy))
  · exact Nat.le_of_lt (x.above y c (PySem.mem_of_lookup h))
  · have hi : i < vs.length := by
      unfold start at h2
      by_cases hi : i < vs.length
      · exact hi
      · rw [List.getElem?_append_right (by simpa using hi)] at h2
        rw [List.getElem?_replicate] at h2
        split at h2 <;> cases h2
    have ha : vs[i]? = some v := by
      unfold start at h2
      rw [List.getElem?_append_left (by simpa using hi), List.getElem?_map] at h2
      cases e : vs[i]? with
      | none => rw [e] at h2; cases h2
      | some a => rw [e] at h2; cases h2; rfl
    obtain ⟨u, hu, rv⟩ := r.get ha
    have hp : ps[i]? = some y := by
      rw [← S.pre, List.getElem?_take_of_lt (by omega)]; exact h1
    have ndP : ps.Nodup := by rw [← S.pre]; exact S.nd.sublist (List.take_sublist _ _)
    refine ⟨u, rv, ?_⟩
    rcases S.par y (List.mem_of_getElem? hp) with k | k
    · exact .inl ⟨k, bindL_get ndP hp hu k⟩
    · obtain ⟨c, e⟩ := cell_has (n := s.heap.objs.size + 1) k
      refine .inr ⟨.inl k, c, e, ?_⟩
      have q := x.cell y c e
      rw [bindC_get ndP hp hu (by show scope.names.lookup y ≠ _; rw [k]; decide)] at q
      exact q
  · exact e0.hok.fresh (Nat.le_of_lt (x.above y c (PySem.mem_of_lookup h)))
  · unfold start
    show _ = N.length
    rw [List.length_append, List.length_map, List.length_replicate]
    omega

/-- THE RULE: a def (or a method) of the text, by its body. The body's reading t is chosen for each entry; it is run at the parameters' values -/
theorem fn_of {CX : CXT} {P : Program} {w : World} {K : PySem.W.Frag} {mg : Str → Option Value} {base : Heap} {k : Nat} {f : Addr} {name qual : Str} {params : Arguments} {body : List Stmt} {scope : Scope} {dV kV doc pm cdv ct oc : Value} {an od : Option Addr}
    {osl : Array (Option Value)} {N ps : List Str} {sp : Sp} (lk : K.lookup f = some ⟨oc, od, .func (PySem.W.fnOf name qual params body scope dV kV doc pm an cdv ct), osl⟩) (hcd : PySem.W.codeIn K cdv qual = true) (S : FnScope N ps scope)
    (len : ∀ vs H Q E, sp vs H Q E → vs.length = ps.length)
    (hbody : ∀ (A : Around) (outer : List Env) (s : Shared) (H : Hp) (vs : List V) (Q : VK) (E : XK), Room k (A.deeper (envOfC qual scope s.heap.objs.size f cdv)) → sp vs H Q E →
      ∃ t, PSs (cxOf CX P w K mg base N qual scope f cdv A outer s H E) body t ∧ t { nx := fun _ H' => Q .non H', rt := Q } (start N vs) H) :
    FnOk P w K mg base CX (k + 1) f (PySem.W.fnOf name qual params body scope dV kV doc pm an cdv ct) ps sp := by
  refine ⟨len, fun A outer s H args us vs Q E hr e0 hb r hsp => ?_⟩
  have hl := len _ _ _ _ hsp
  have KX : K.In s.heap := e0.mod.kin.keeps fun b o e => (e0.bs b o e).1
  have lim : s.heap.NoLimit := e0.mod.nolimit.keeps fun b o e => (e0.bs b o e).1
  have hkind : ∀ y ∈ ps.zip us, scope.names.lookup y.1 = some .local ∨ (scope.names.lookup y.1 = some .cell ∧ ((cellsFrom (s.heap.objs.size + 1) scope.names []).lookup y.1).isSome = true) := fun ⟨n, v⟩ hy => by
    rcases S.par n (List.of_mem_zip hy).1 with q | q
    · exact .inl q
    · exact .inr ⟨q, PySem.W.cellsFrom_some _ _ _ (.inl q)⟩
  refine codeAny_call_function hr.depth (KX _ _ lk) rfl S.co S.gen rfl (PySem.W.codeRec_of KX hcd) (hb _ _ _ _ ?_)
  refine wpAny_newFunctionEnv_cells S.kind hkind fun env he s1 x => ?_
  subst he
  refine ⟨lim.keeps x.toInCall.keep, codeAny_func ?_⟩
  obtain ⟨t, ht, hq⟩ := hbody A outer s H vs Q E (hr.deeper _) hsp
  have I : Inv (cxOf CX P w K mg base N qual scope f cdv A outer s H E) [] (start N vs) H s1 := inv_start S hr.hd e0 hl r x
  refine wpAny_mono (ht [] s1 (start N vs) H _ I hq) (fun fl s' hs => ?_) fun e s' hs => hs
  have fin : ∀ {σ' : St} {H' : Hp} {v : V} {u : Value}, Inv (cxOf CX P w K mg base N qual scope f cdv A outer s H E) [] σ' H' s' → RelV v u → Q v H' → CE outer P w H s Q u s' :=
    fun {σ' H' v u} J rv q => ⟨v, H', J.os, J.bare, J.base, J.hok, rv, q⟩
  cases fl with
  | ret u =>
    obtain ⟨v, σ', H', J, rv, q⟩ := hs
    exact fin J rv q
  | next =>
    obtain ⟨σ', H', J, q⟩ := hs
    exact fin (v := V.non) (u := Value.none) J rfl q
  | brk =>
    obtain ⟨_, _, _, q⟩ := hs
    exact False.elim q
  | cont =>
    obtain ⟨_, _, _, q⟩ := hs
    exact False.elim q
end L2

namespace L2
open PySem PySem.Spec PyProof.Rows
section
variable {X : Cx} {x : Str} {p pos : Pos} {e : Expr} {es : List Expr} {t : TA} {id T : String} {r : List V → Hp → VK → Prop}

def tCB (r : List V → Hp → VK → Prop) (t : TA) : TE := fun σ H Q => t σ H fun vs H1 => r vs H1 Q
/-- f(e, ..), f a built-in function -/
theorem pe_callB (hc : CallR X (.builtin id) r) (hg : Gl X x) (hm : X.mg x = none) (hv : bootBuiltins x = some (.builtin id)) (ha : PA X (e :: es) t) (hn : x ≠ "__name__" := by decide) (hdb : (x == ("__debug__" : Str)) = false := by decide)
    (he : starEach (e :: es) X.env = (false, eval e X.env) :: starEach es X.env := by rfl) (hpl : (backTo pos (starEach es X.env)).any (·.1) = false := by rfl) : PE X (.Call (.Name x p) (e :: es) [] pos) (tCB r t) := by
  intro pins s σ H Q I h
  refine wpAny_Call_Name_kw (ld_blt I hg hm hv ?_ hn hdb)
  exact PyProof.Rows.callWith_builtin1 (thn (ha pos pins s σ H _ I h) fun us s1 ⟨vs, H1, I1, r1, q1⟩ => hc pins s1 σ H1 vs us Q I1 r1 q1) he hpl
/-- T(e, ..), T a built-in type -/
theorem pe_callTy (hc : CallR X (.type T) r) (hg : Gl X x) (hm : X.mg x = none) (hv : bootBuiltins x = some (.type T)) (ha : PA X (e :: es) t) (hn : x ≠ "__name__" := by decide) (hdb : (x == ("__debug__" : Str)) = false := by decide)
    (he : starEach (e :: es) X.env = (false, eval e X.env) :: starEach es X.env := by rfl) (hpl : (backTo pos (starEach es X.env)).any (·.1) = false := by rfl) : PE X (.Call (.Name x p) (e :: es) [] pos) (tCB r t) := by
  intro pins s σ H Q I h
  refine wpAny_Call_Name_kw (ld_blt I hg hm hv ?_ hn hdb)
  exact PyProof.Rows.callWith_type1 (thn (ha pos pins s σ H _ I h) fun us s1 ⟨vs, H1, I1, r1, q1⟩ => hc pins s1 σ H1 vs us Q I1 r1 q1) he hpl
end
end L2

namespace HT
open PySem PyProof.Rows

section
open PySem.SeqAt
open PySem.AutoSeq1 (wpAny_loadPart')
open PySem.MeetsSeq PySem.MeetsSeq2 PySem.MeetsSeq3

end

section
variable {prog : Program} {w : World} {A : Around} {E : Value → Shared → Prop} {s : Shared}

/-! ### t[a:b], not the whole -/
/-- a slice's bound as a place among n (d where it is left out) -/
def sIx (n d : Nat) : Option Int → Nat
  | none => d
  | some v => if v < 0 then (v + (n : Int)).toNat else min v.toNat n
end
end HT

namespace L2
open PySem PySem.Spec PyProof.Rows

/-! ### the parts of a slice -/
abbrev TO := St → Hp → (Option Int → Hp → Prop) → Prop
/-- a slice's part (left out, or an int) -/
def PO (X : Cx) (e : Option Expr) (t : TO) : Prop :=
  ∀ (pins : List (Addr × Obj)) (s : Shared) (σ : St) (H : Hp) (Q : Option Int → Hp → Prop), Inv X pins σ H s → t σ H Q →
    wpAny (model X.prog X.w) X.A (evalPart e X.env) (fun u s' => ∃ o H', Inv X pins σ H' s' ∧ IsPart u o ∧ Q o H') X.xe s
def tNoPart : TO := fun _ H Q => Q none H
def tPart (t : TE) : TO := fun σ H Q => t σ H fun x H1 => ∃ i, x = .int i ∧ Q (some i) H1

section
variable {X : Cx} {e : Expr} {te : TE} {lo hi : Option Expr} {tl th : TO} {pos p2 : Pos}

theorem po_none : PO X none tNoPart := by
  intro pins s σ H Q I h
  rw [evalPart_none]
  exact wpAny_pure ⟨none, H, I, .none, h⟩
theorem po_some (h : PE X e te) : PO X (some e) (tPart te) := by
  intro pins s σ H Q I hw
  rw [evalPart_some]
  refine thn (h pins s σ H _ I hw) fun u s1 ⟨x, H1, I1, r1, q1⟩ => ?_
  obtain ⟨i, rfl, q⟩ := q1
  obtain ⟨t, rfl⟩ := r1
  exact ⟨some i, H1, I1, .int i t, q⟩

/-- what a slice of a value is, by values: the slice object stands at sl -/
def SlR (X : Cx) (r : V → Option Int → Option Int → Hp → VK → Prop) : Prop :=
  ∀ (pins : List (Addr × Obj)) (s : Shared) (σ : St) (H : Hp) (x : V) (v vl vu : Value) (lo hi : Option Int) (sl : Addr) (Q : VK), Inv X pins σ H s → RelV x v → s.heap.IsSliceOf sl vl vu .none → IsPart vl lo → IsPart vu hi → r x lo hi H Q →
    ∃ T id, typeLookup (.type T) "__getitem__" = pure (some (.builtin id)) ∧ s.TypeIs v T ∧ wpAny (model X.prog X.w) X.A (getItem v (.ref sl)) (EP X pins σ Q) X.xe s
def tSl (r : V → Option Int → Option Int → Hp → VK → Prop) (te : TE) (tl th : TO) : TE := fun σ H Q => te σ H fun x H1 => tl σ H1 fun l H2 => th σ H2 fun u H3 => r x l u H3 Q
/-- a[lo:hi], any a -/
theorem pe_slice {r : V → Option Int → Option Int → Hp → VK → Prop} (hr : SlR X r) (he : PE X e te) (hl : PO X lo tl) (hu : PO X hi th) : PE X (.Subscript e (.Slice lo hi none p2) pos) (tSl r te tl th) := by
  intro pins s σ H Q I h
  refine Subscript_ (thn (he pins s σ H _ I h) fun v s1 ⟨x, H1, I1, r1, q1⟩ => ?_)
  refine wpAny_Slice (thn (hl pins s1 σ H1 _ I1 q1) fun vl s2 ⟨l, H2, I2, pl, q2⟩ => thn (hu pins s2 σ H2 _ I2 q2) fun vu s3 ⟨u, H3, I3, pu, q3⟩ => ?_)
  rw [evalPart_none]
  refine wpAny_pure ?_
  have I4 : Inv X pins σ H3 { s3 with heap := s3.heap.push { cls := .type "slice", data := .fields #[vl, vu, .none] } } := I3.kept (t' := s3.toks) fun b ob q => Heap.get?_push_of_some _ q
  obtain ⟨T, id, hT, ht, hg⟩ := hr pins { s3 with heap := s3.heap.push { cls := .type "slice", data := .fields #[vl, vu, .none] } } σ H3 x v vl vu l u s3.heap.objs.size Q I4 r1 (Heap.IsSliceOf.new ..) pl pu q3
  show wpAny (model X.prog X.w) X.A (subscriptTail e (.Slice lo hi none p2) v (.ref s3.heap.objs.size)) (EP X pins σ Q) X.xe { s3 with heap := s3.heap.push { cls := .type "slice", data := .fields #[vl, vu, .none] } }
  exact tail_any (ops := [.ref s3.heap.objs.size, v]) ht hT hg (by with_unfolding_all rfl)

/-- the items of xs[lo:hi] -/
def cutV (xs : List V) (lo hi : Option Int) : List V := (xs.drop (HT.sIx xs.length 0 lo)).take (HT.sIx xs.length xs.length hi - HT.sIx xs.length 0 lo)
theorem cutV_length (xs : List V) (lo hi : Option Int) : (cutV xs lo hi).length ≤ xs.length := by
  unfold cutV
  rw [List.length_take, List.length_drop]
  omega
/-! ### t < u, t + u -/
end
end L2

namespace L2
open PySem PySem.Spec PyProof.Rows

/-! ### places -/
/-- the place that an index of any sign means -/
def ixN (n : Nat) (i : Int) : Option Nat := if 0 ≤ i then (if i < n then some i.toNat else none) else if -(n : Int) ≤ i then some (i + n).toNat else none
def atI {α : Type} (xs : List α) (i : Int) : Option α := (ixN xs.length i).bind fun j => xs[j]?
theorem ixN_seq {n : Nat} {i : Int} {j : Nat} (h : ixN n i = some j) : seqIndex? i n = some j ∧ j < n ∧ -(n : Int) ≤ i ∧ i < n := by
  unfold ixN at h
  by_cases h0 : 0 ≤ i
  · rw [if_pos h0] at h
    by_cases h1 : i < n
    · rw [if_pos h1] at h
      have e : i.toNat = j := Option.some.inj h
      exact ⟨by rw [seqIndex_of h0 h1, e], by omega, by omega, h1⟩
    · rw [if_neg h1] at h; cases h
  · rw [if_neg h0] at h
    by_cases h1 : -(n : Int) ≤ i
    · rw [if_pos h1] at h
      have e : (i + n).toNat = j := Option.some.inj h
      exact ⟨by rw [seqIndex_neg (by omega) h1, e], by omega, h1, by omega⟩
    · rw [if_neg h1] at h; cases h
theorem atI_get {α : Type} {xs : List α} {i : Int} {v : α} (h : atI xs i = some v) : ∃ j, seqIndex? i xs.length = some j ∧ xs[j]? = some v ∧ j < xs.length ∧ -(xs.length : Int) ≤ i ∧ i < xs.length := by
  unfold atI at h
  cases e : ixN xs.length i with
  | none => rw [e] at h; cases h
  | some j =>
    rw [e] at h
    obtain ⟨h1, h2, h3, h4⟩ := ixN_seq e
    exact ⟨j, h1, h, h2, h3, h4⟩
/-! ### what may be subscripted -/
/-- what stands as an index of a plain subscript -/
def PlainIx (b : Expr) : Prop := ∀ o i, subscripted b false o i = operate [o, i] (getItem o i)
/-- a subscript by values -/
def IxR (X : Cx) (r : R2) : Prop :=
  ∀ (value slice : Expr) (pins : List (Addr × Obj)) (s : Shared) (σ : St) (H : Hp) (x y : V) (v u : Value) (Q : VK), Inv X pins σ H s → RelV x v → RelV y u → r x y H Q →
    subscripted slice false v u = operate [v, u] (getItem v u) → wpAny (model X.prog X.w) X.A (subscriptTail value slice v u) (EP X pins σ Q) X.xe s
/-- a call of a builtin's method by values: the receiver, the arguments -/
def MtR (X : Cx) (id : String) (r : V → List V → Hp → VK → Prop) : Prop :=
  ∀ (pins : List (Addr × Obj)) (s : Shared) (σ : St) (H : Hp) (x : V) (xs : List V) (v : Value) (us : List Value) (Q : VK), Inv X pins σ H s → RelV x v → Vals xs us → r x xs H Q →
    wpAny (model X.prog X.w) X.A (call (.builtin id) (v :: us)) (EP X pins σ Q) X.xe s
section
variable {X : Cx} {a b : Expr} {ta tb : TE} {pos : Pos}
/-- a[b] -/
theorem pe_ix {r : R2} (hr : IxR X r) (ha : PE X a ta) (hb : PE X b tb) (hs : PlainIx b) : PE X (.Subscript a b pos) (tOp r ta tb) := by
  intro pins s σ H Q I h
  exact Subscript_ (binT ha hb I h fun v u s2 x y H2 I2 rx ry q => hr a b pins s2 σ H2 x y v u Q I2 rx ry q (hs _ _))

def rIxL (K : PySem.W.Frag) : R2 := fun x y H Q => ∃ p xs i v, x = .ref p ∧ y = .int i ∧ SqL K H p xs ∧ atI xs i = some v ∧ Q v H
def rIxT (K : PySem.W.Frag) : R2 := fun x y H Q => ∃ p xs i v, x = .ref p ∧ y = .int i ∧ SqT K H p xs ∧ atI xs i = some v ∧ Q v H
theorem ix_list : IxR X (rIxL X.K) := by
  intro value slice pins s σ H x y v u Q I rx ry h hs
  obtain ⟨p, xs, i, z, rfl, rfl, hq, he, q⟩ := h
  cases rx
  obtain ⟨t, rfl⟩ := ry
  obtain ⟨its, r, pl, hz⟩ := I.list hq
  obtain ⟨j, h1, h2, h3, h4, h5⟩ := atI_get he
  obtain ⟨w, ew, rw'⟩ := r.get h2
  have hl := r.length
  have hn := line63
  have fin : EP X pins σ Q w s := ⟨z, H, I, rw', q⟩
  by_cases h0 : 0 ≤ i
  · have hj : i.toNat = j := by
      rw [seqIndex_of h0 h5] at h1
      exact Option.some.inj h1
    exact item_listR pl.isList h0 (by omega) (by rw [hj]; simpa using ew) fin hs
  · have hj : (i + (its.toArray.size : Int)).toNat = j := by
      rw [seqIndex_neg (by omega) h4] at h1
      rw [List.size_toArray, ← hl]
      exact Option.some.inj h1
    exact subscriptTail_builtinR (x := w) pl.isList.typeIs slot_list_getitem.lookup
      (wpAny_getItem_list_neg (Q := fun r s' => r = w ∧ EP X pins σ Q r s') pl.isList (by omega) (by rw [List.size_toArray] <;> omega) (by omega) (by rw [hj]; simpa using ew) ⟨rfl, fin⟩) hs
theorem ix_tup : IxR X (rIxT X.K) := by
  intro value slice pins s σ H x y v u Q I rx ry h hs
  obtain ⟨p, xs, i, z, rfl, rfl, hq, he, q⟩ := h
  cases rx
  obtain ⟨t, rfl⟩ := ry
  obtain ⟨its, r, pl, hz⟩ := I.tuple hq
  obtain ⟨j, h1, h2, h3, h4, h5⟩ := atI_get he
  obtain ⟨w, ew, rw'⟩ := r.get h2
  have hl := r.length
  have hn := line63
  have fin : EP X pins σ Q w s := ⟨z, H, I, rw', q⟩
  exact subscriptTail_builtinR (x := w) pl.typeIs slot_tuple_getitem.lookup
    (getItem_tuple (j := j) (Q := fun r s' => r = w ∧ EP X pins σ Q r s') pl (by omega) (by omega) (by rw [List.size_toArray, ← hl]; exact h1) (by simpa using ew) ⟨rfl, fin⟩) hs
/-! ### xs[i] = v, any sign -/
/-- the list's object behind a store -/
theorem mapSeq_set (its : List Value) (n j : Nat) (u : Value) : Obj.mapSeq (·.setIfInBounds j u) { cls := .type "list", data := .seq its.toArray n } = { cls := .type "list", data := .seq (its.set j u).toArray n } := by
  simp [Obj.mapSeq]
theorem Inv.lst {pins : List (Addr × Obj)} {σ : St} {H : Hp} {s : Shared} {p : Addr} {xs : List V} (I : Inv X pins σ H s) (h : H p = some (.lst xs)) :
    ∃ (its : List Value) (n : Nat), Vals xs its ∧ s.heap.get? p = some { cls := .type "list", data := .seq its.toArray n } ∧ xs.length ≤ sizeLine := by
  obtain ⟨z, its, n, r, e⟩ := I.hok p _ h
  exact ⟨its, n, r, e, z⟩
/-- the list at p is written by an update of its object -/
theorem Inv.lstUpd {pins : List (Addr × Obj)} {σ : St} {H : Hp} {s : Shared} {p : Addr} {xs ys : List V} {its its' : List Value} {n n' : Nat} {f : Obj → Obj} (I : Inv X pins σ H s) (h : H p = some (.lst xs))
    (ho : s.heap.get? p = some { cls := .type "list", data := .seq its.toArray n }) (hf : f { cls := .type "list", data := .seq its.toArray n } = { cls := .type "list", data := .seq its'.toArray n' }) (r : Vals ys its') (hz : ys.length ≤ sizeLine) (t : Nat) :
    Inv X pins σ (upd H p (.lst ys)) { s with heap := s.heap.update p f, toks := t } := by
  have e : (s.heap.update p f).get? p = some { cls := .type "list", data := .seq its'.toArray n' } := by
    rw [Heap.get?_update_self f ho (by rw [hf] <;> rfl), hf]
  refine I.write (x := p) (e := p) (by rw [h]; trivial) (.inl rfl) (fun b u hb q => (Heap.get?_update_other _ _ (Ne.symm hb)).trans q) ⟨_, e⟩ ?_
  exact ⟨hz, its', n', r, e⟩
def rSetL : V → V → V → Hp → (Hp → Prop) → Prop := fun o i v H Q => ∃ p xs k j, o = .ref p ∧ i = .int k ∧ H p = some (.lst xs) ∧ ixN xs.length k = some j ∧ Q (upd H p (.lst (xs.set j v)))
theorem set_list : PSet X rSetL := by
  intro pins s σ H o i v ov iv u Q I ro ri rv h
  obtain ⟨p, xs, k, j, rfl, rfl, hp, hj, q⟩ := h
  cases ro
  obtain ⟨t, rfl⟩ := ri
  obtain ⟨its, n, r, ho, hz⟩ := I.lst hp
  obtain ⟨h1, h2, h3, h4⟩ := ixN_seq hj
  have hl := r.length
  have hn := line63
  have I' : Inv X pins σ (upd H p (.lst (xs.set j v))) { s with heap := s.heap.update p (Obj.mapSeq (·.setIfInBounds j u)) } :=
    I.lstUpd hp ho (mapSeq_set its n j u) (r.set rv j) (by rw [List.length_set]; exact hz) s.toks
  by_cases h0 : 0 ≤ k
  · have hk : k.toNat = j := by
      rw [seqIndex_of h0 h4] at h1
      exact Option.some.inj h1
    exact PySem.W.ki_setAt ho h0 (by omega) (by rw [List.size_toArray, ← hl]; exact h4) (by rw [hk]; exact ⟨_, I', q⟩)
  · have hk : (k + (its.toArray.size : Int)).toNat = j := by
      rw [seqIndex_neg (by omega) h3] at h1
      rw [List.size_toArray, ← hl]
      exact Option.some.inj h1
    exact PySem.W.ki_setBack ho (by omega) (by rw [List.size_toArray, ← hl]; exact h3) (by omega) (by rw [hk]; exact ⟨_, I', q⟩)

/-! ### slices -/
theorem slice_bounds (lo hi : Option Int) (n : Nat) : (sliceBounds lo hi none n).1 = ((HT.sIx n 0 lo : Nat) : Int) ∧ (sliceBounds lo hi none n).2.1 = ((HT.sIx n n hi : Nat) : Int) ∧ (sliceBounds lo hi none n).2.2 = 1 := by
  refine ⟨?_, ?_, rfl⟩
  · cases lo with
    | none => simp [sliceBounds, HT.sIx]
    | some i =>
      simp only [sliceBounds, HT.sIx, Option.getD_none, show (1 : Int) > 0 by decide, if_true]
      by_cases h : i < 0
      · simp only [h, if_true] <;> omega
      · simp only [h, if_false] <;> omega
  · cases hi with
    | none => simp [sliceBounds, HT.sIx]
    | some i =>
      simp only [sliceBounds, HT.sIx, Option.getD_none, show (1 : Int) > 0 by decide, if_true]
      by_cases h : i < 0
      · simp only [h, if_true] <;> omega
      · simp only [h, if_false] <;> omega
theorem slicePick_cut (its : List Value) (lo hi : Option Int) : slicePick its.toArray lo hi none = ((its.drop (HT.sIx its.length 0 lo)).take (HT.sIx its.length its.length hi - HT.sIx its.length 0 lo)).toArray := by
  obtain ⟨h1, h2, h3⟩ := slice_bounds lo hi its.toArray.size
  unfold slicePick
  rw [h1, h2, h3]
  simp only [sliceRange_one, pick_run, List.size_toArray] <;> rfl
/-- xs[lo:hi] of a list: a new list -/
def rSlL (K : PySem.W.Frag) : V → Option Int → Option Int → Hp → VK → Prop := fun x lo hi H Q => ∃ a xs, x = .ref a ∧ SqL K H a xs ∧ ∀ p, H p = none → Q (.ref p) (upd H p (.lst (cutV xs lo hi)))
theorem sl_list : SlR X (rSlL X.K) := by
  intro pins s σ H x v vl vu lo hi sl Q I rx hs pl pu h
  obtain ⟨a, xs, rfl, hx, q⟩ := h
  cases rx
  obtain ⟨its, r, ht, hz⟩ := I.list hx
  have hlen := r.length
  refine ⟨"list", _, slot_list_getitem.lookup, ht.isList.typeIs, ?_⟩
  refine wpAny_getItem_list_slice ht.isList hs pl pu .none (by simp) ?_ (by rw [List.size_toArray] <;> omega)
  rw [slicePick_cut, ← hlen]
  refine ⟨.ref s.heap.objs.size, _, I.laid (t' := s.toks) (o := .lst (cutV xs lo hi)) (fun b ob q => Heap.get?_push_of_some _ q) (Nat.le_refl _) ?_, rfl, q _ (I.hok.fresh (Nat.le_refl _))⟩
  exact ⟨Nat.le_trans (cutV_length xs lo hi) hz, _, 0, (r.drop (HT.sIx xs.length 0 lo)).take (HT.sIx xs.length xs.length hi - HT.sIx xs.length 0 lo), Heap.get?_push_size _ rfl⟩

/-! ### in, not in: flat items -/
def flatV : V → Bool
  | .non => true
  | .bl _ => true
  | .int _ => true
  | .str _ => true
  | _ => false
/-- == of flat values -/
def eqV : V → V → Bool
  | .non, .non => true
  | .bl a, .bl b => a == b
  | .bl a, .int b => (if a then 1 else 0) == b
  | .int a, .bl b => a == (if b then 1 else 0)
  | .int a, .int b => a == b
  | .str a, .str b => a == b
  | _, _ => false
theorem eqAt_V {A : Around} {s : Shared} {y x : V} {u v : Value} (ry : RelV y u) (rx : RelV x v) (fy : flatV y = true) (fx : flatV x = true) : SeqAt.EqAt A s u v (eqV y x) := by
  cases y with
  | non =>
    cases ry
    cases x with
    | non => cases rx; exact SeqAt.EqAt.same _
    | bl b => cases rx; exact SeqAt.EqAt.none_bool b
    | int b => obtain ⟨t, rfl⟩ := rx; exact SeqAt.EqAt.none_int b t
    | str b => obtain ⟨t, rfl⟩ := rx; exact SeqAt.EqAt.none_str b t
    | _ => exact absurd (show false = true from fx) Bool.false_ne_true
  | bl a =>
    cases ry
    cases x with
    | non => cases rx; exact SeqAt.EqAt.bool_none a
    | bl b => cases rx; exact SeqAt.EqAt.bool_bool a b
    | int b => obtain ⟨t, rfl⟩ := rx; exact SeqAt.EqAt.bool_int a b t
    | str b => obtain ⟨t, rfl⟩ := rx; exact SeqAt.EqAt.bool_str a b t
    | _ => exact absurd (show false = true from fx) Bool.false_ne_true
  | int a =>
    obtain ⟨t', rfl⟩ := ry
    cases x with
    | non => cases rx; exact SeqAt.EqAt.int_none a t'
    | bl b => cases rx; exact SeqAt.EqAt.int_bool a t' b
    | int b => obtain ⟨t, rfl⟩ := rx; exact SeqAt.EqAt.int_int a t' b t
    | str b => obtain ⟨t, rfl⟩ := rx; exact SeqAt.EqAt.int_str a t' b t
    | _ => exact absurd (show false = true from fx) Bool.false_ne_true
  | str a =>
    obtain ⟨t', rfl⟩ := ry
    cases x with
    | non => cases rx; exact SeqAt.EqAt.str_none a t'
    | bl b => cases rx; exact SeqAt.EqAt.str_bool a t' b
    | int b => obtain ⟨t, rfl⟩ := rx; exact SeqAt.EqAt.str_int a t' b t
    | str b => obtain ⟨t, rfl⟩ := rx; exact SeqAt.EqAt.str_str a t' b t
    | _ => exact absurd (show false = true from fx) Bool.false_ne_true
  | _ => exact absurd (show false = true from fy) Bool.false_ne_true
/-! ### len, list(x), tuple(x) of any list or tuple that is read -/
theorem call_len_seq : CallR X (.builtin "len") (fun xs H Q => ∃ p ys, xs = [.ref p] ∧ (SqL X.K H p ys ∨ SqT X.K H p ys) ∧ Q (.int ys.length) H) := by
  intro pins s σ H xs us Q I r h
  obtain ⟨p, ys, rfl, hq, q⟩ := h
  obtain ⟨u, rfl, rx⟩ := vals1 r
  cases rx
  have hn := line63
  rcases hq with hq | hq
  · obtain ⟨its, r', pl, hz⟩ := I.list hq
    have hlen := r'.length
    exact Calls.call_len_list pl.isList (by simp only [List.size_toArray] <;> omega) ⟨.int ys.length, H, I.tok _, ⟨s.toks + 1, by rw [List.size_toArray, hlen]⟩, q⟩
  · obtain ⟨its, r', pl, hz⟩ := I.tuple hq
    have hlen := r'.length
    exact len_tuple pl (by simp only [List.size_toArray] <;> omega) ⟨.int ys.length, H, I.tok _, ⟨s.toks + 1, by rw [List.size_toArray, hlen]⟩, q⟩
theorem call_list_of : CallR X (.type "list") (fun xs H Q => ∃ p ys, xs = [.ref p] ∧ (SqL X.K H p ys ∨ SqT X.K H p ys) ∧ ∀ l, H l = none → Q (.ref l) (upd H l (.lst ys))) := by
  intro pins s σ H xs us Q I r h
  obtain ⟨p, ys, rfl, hq, q⟩ := h
  obtain ⟨u, rfl, rx⟩ := vals1 r
  cases rx
  have fin : ∀ (its : List Value), Vals ys its → ys.length ≤ sizeLine → ∀ (h' : Heap) (c' : Nat), (∀ b o', s.heap.get? b = some o' → h'.get? b = some o') →
      h'.get? s.heap.objs.size = some { cls := .type "list", dict := none, data := .seq its.toArray c', slots := #[] } → EP X pins σ Q (.ref s.heap.objs.size) { s with heap := h' } := fun its r' hz h' c' kp e =>
    ⟨.ref s.heap.objs.size, _, I.laid (t' := s.toks) kp (Nat.le_refl _) (show ObjOk X.prog X.w _ h' _ (.lst ys) from ⟨hz, its, c', r', e⟩), rfl, q _ (I.hok.fresh (Nat.le_refl _))⟩
  rcases hq with hq | hq
  · obtain ⟨its, r', pl, hz⟩ := I.list hq
    have hlen := r'.length
    obtain ⟨o, ho, hc, n, hd⟩ := pl.isList
    exact call_list_seq p (.inl rfl) ho hc hd (fun h' c' kp e => fin its r' hz h' c' kp e) (by simp only [List.size_toArray] <;> omega)
  · obtain ⟨its, r', pl, hz⟩ := I.tuple hq
    have hlen := r'.length
    obtain ⟨o, ho, hc, n, hd⟩ := pl
    exact call_list_seq p (.inr rfl) ho hc hd (fun h' c' kp e => fin its r' hz h' c' kp e) (by simp only [List.size_toArray] <;> omega)
theorem call_tuple_of : CallR X (.type "tuple") (fun xs H Q => ∃ p ys, xs = [.ref p] ∧ ((SqL X.K H p ys ∧ ∀ l, H l = none → Q (.ref l) (upd H l (.tup ys))) ∨ (SqT X.K H p ys ∧ Q (.ref p) H))) := by
  intro pins s σ H xs us Q I r h
  obtain ⟨p, ys, rfl, h⟩ := h
  obtain ⟨u, rfl, rx⟩ := vals1 r
  cases rx
  rcases h with ⟨hq, q⟩ | ⟨hq, q⟩
  · obtain ⟨its, r', pl, hz⟩ := I.list hq
    have hlen := r'.length
    refine call_tuple_list pl.isList (fun h' kp => ?_) (by simp only [List.size_toArray] <;> omega)
    have I1 : Inv X pins σ H { s with heap := h' } := I.kept (t' := s.toks) kp
    have I2 : Inv X pins σ (upd H h'.objs.size (.tup ys)) { s with heap := h'.push { cls := .type "tuple", data := .seq its.toArray } } :=
      I1.laid (t' := s.toks) (fun b o e => Heap.get?_push_of_some _ e) (Nat.le_refl _) (show ObjOk X.prog X.w _ _ _ (.tup ys) from ⟨hz, its, r', IsTup.new _ _⟩)
    exact ⟨.ref h'.objs.size, _, I2, rfl, q _ (I1.hok.fresh (Nat.le_refl _))⟩
  · obtain ⟨its, r', pl, hz⟩ := I.tuple hq
    exact call_tuple_same pl ⟨.ref p, H, I, rfl, q⟩

/-! ### the call of a builtin's method: o.m(..) -/
/-- the value is of that builtin type -/
def tyV (K : PySem.W.Frag) (T : String) (x : V) (H : Hp) : Prop := match x with
  | .str _ => T = "str"
  | .int _ => T = "int"
  | .ref p => (T = "list" ∧ ∃ xs, SqL K H p xs) ∨ (T = "tuple" ∧ ∃ o, K.lookup p = some o ∧ o.cls = .type "tuple" ∧ o.dict = none) ∨
      (T = "dict" ∧ ((∃ kvs, H p = some (.dK kvs)) ∨ ∃ kvs, H p = some (.dT kvs))) ∨ (T = "set" ∧ ∃ S n, H p = some (.set S n))
  | _ => False
theorem tyV_is {pins : List (Addr × Obj)} {σ : St} {H : Hp} {s : Shared} {T : String} {x : V} {v : Value} (I : Inv X pins σ H s) (r : RelV x v) (ty : tyV X.K T x H) :
    s.TypeIs v T ∧ ∀ a, v = .ref a → ∃ ob, s.heap.get? a = some ob ∧ ob.dict = none := by
  cases x with
  | str z =>
    obtain ⟨t, rfl⟩ := r
    cases (show T = "str" from ty)
    exact ⟨typeIs_str s z t, fun _ e => nomatch e⟩
  | int i =>
    obtain ⟨t, rfl⟩ := r
    cases (show T = "int" from ty)
    exact ⟨typeIs_int s i t, fun _ e => nomatch e⟩
  | ref p =>
    cases r
    rcases ty with ⟨rfl, xs, hq⟩ | ⟨rfl, o, hk, hc, hd⟩ | ⟨rfl, hk⟩ | ⟨rfl, S, n, hk⟩
    · obtain ⟨its, _, pl, _⟩ := I.list hq
      refine ⟨pl.isList.typeIs, fun a e => ?_⟩
      cases e
      obtain ⟨o, n, e, c, hd, _⟩ := pl
      exact ⟨o, e, hd⟩
    · refine ⟨⟨o, I.kIn p o hk, hc⟩, fun a e => ?_⟩
      cases e
      exact ⟨o, I.kIn _ o hk, hd⟩
    · have z : ∃ o, s.heap.get? p = some o ∧ o.ExactDict := by
        rcases hk with ⟨kvs, hk⟩ | ⟨kvs, hk⟩
        · obtain ⟨_, _, _, _, o, _, _, e, ex, _⟩ := I.hok p _ hk
          exact ⟨o, e, ex⟩
        · obtain ⟨_, _, _, _, o, _, _, e, ex, _⟩ := I.hok p _ hk
          exact ⟨o, e, ex⟩
      obtain ⟨o, e, ex⟩ := z
      refine ⟨⟨o, e, ex.1⟩, fun a e2 => ?_⟩
      cases e2
      exact ⟨o, e, ex.2.1⟩
    · obtain ⟨o, _, _, _, e, ex, _⟩ := I.hok p _ hk
      refine ⟨⟨o, e, ex.1⟩, fun a e2 => ?_⟩
      cases e2
      exact ⟨o, e, ex.2.1⟩
  | _ => exact False.elim ty
def tBM0 (K : PySem.W.Frag) (T : String) (r : V → List V → Hp → VK → Prop) (to : TE) : TE := fun σ H Q => to σ H fun x H1 => tyV K T x H1 ∧ r x [] H1 Q
def tBM (K : PySem.W.Frag) (T : String) (r : V → List V → Hp → VK → Prop) (to : TE) (t : TA) : TE := fun σ H Q => to σ H fun x H1 => tyV K T x H1 ∧ t σ H1 fun xs H2 => r x xs H2 Q
variable {o e : Expr} {es : List Expr} {to : TE} {t : TA} {name : Str} {apos cpos : Pos} {T id : String} {r : V → List V → Hp → VK → Prop}
theorem pe_bm0 (pa : PlainAttrs T) (slot : Slot T name id) (hty : typeOf (.builtin id) = pure (.type "method_descriptor")) (hm : MtR X id r) (ho : PE X o to)
    (hbase : attributeBase o name X.env (eval o X.env) = eval o X.env := by rfl) (hline : (apos.endLine == cpos.line) = true := by rfl) : PE X (.Call (.Attribute o name apos) [] [] cpos) (tBM0 X.K T r to) := by
  intro pins s σ H Q I h
  refine wpAny_Call_method0_late hbase hline (thn (ho pins s σ H _ I h) fun v s1 ⟨x, H1, I1, r1, ty, q1⟩ => ?_)
  obtain ⟨h1, h2⟩ := tyV_is I1 r1 ty
  exact ⟨T, id, pa, slot, hty, h1, h2, Calls.callWith_builtin rfl (PySem.evalArgs_none (hm pins s1 σ H1 x [] v [] Q I1 r1 .nil q1))⟩
theorem pe_bm (pa : PlainAttrs T) (slot : Slot T name id) (hty : typeOf (.builtin id) = pure (.type "method_descriptor")) (hm : MtR X id r) (ho : PE X o to) (ha : PA X (e :: es) t)
    (hbase : attributeBase o name X.env (eval o X.env) = eval o X.env := by rfl)
    (hfew : ((backTo cpos (starEach (e :: es) X.env)).all (fun x => !x.1) && (backToKw cpos (keywordEach [] X.env)).all (fun x => x.1.isSome)
      && decide ((e :: es).length + ([] : List Keyword).length + (if ([] : List Keyword).isEmpty then 0 else 1) < 30)) = true := by rfl)
    (hline : (apos.endLine == cpos.line) = true := by rfl) (hs : starEach (e :: es) X.env = (false, eval e X.env) :: starEach es X.env := by rfl) (hplain : (backTo cpos (starEach es X.env)).any (·.1) = false := by rfl) :
    PE X (.Call (.Attribute o name apos) (e :: es) [] cpos) (tBM X.K T r to t) := by
  intro pins s σ H Q I h
  refine wpAny_Call_method_late hbase hfew hline rfl (thn (ho pins s σ H _ I h) fun v s1 ⟨x, H1, I1, r1, ty, q1⟩ => ?_)
  obtain ⟨h1, h2⟩ := tyV_is I1 r1 ty
  refine ⟨T, id, pa, slot, hty, h1, h2, ?_⟩
  have hA := ha cpos pins s1 σ H1 _ I1 q1
  rw [hs] at hA ⊢
  refine Calls.callWith_builtin (by show (false || (backTo cpos (starEach es X.env)).any (·.1)) = false; rw [hplain] <;> rfl) (Calls.evalArgs_plain ?_)
  exact thn hA fun us s2 ⟨vs, H2, I2, r2, q2⟩ => hm pins s2 σ H2 x vs v us Q I2 r1 r2 q2
/- xs.append(e), list.index on a module's tuple .. are MtR facts of 06m -/
end
end L2

namespace L2
open PySem PySem.Spec PyProof.Rows

def MtM (X : Cx) (id : String) (r : V → List V → Hp → VK → Prop) : Prop :=
  ∀ (pins : List (Addr × Obj)) (s : Shared) (σ : St) (H : Hp) (x : V) (xs : List V) (v : Value) (us : List Value) (Q : VK), Inv X pins σ H s → RelV x v → Vals xs us → r x xs H Q →
    wpAny (model X.prog X.w) X.A (call (.builtin id) (v :: us)) (EP X pins σ Q) X.xe s

/-! ### lists of values -/
theorem Vals.one : ∀ {x : V} {us : List Value}, Vals [x] us → ∃ u, us = [u] ∧ RelV x u
  | _, _, .cons r .nil => ⟨_, rfl, r⟩
theorem Vals.eraseIdx : ∀ {xs : List V} {us : List Value} (i : Nat), Vals xs us → Vals (xs.eraseIdx i) (us.eraseIdx i)
  | _, _, _, .nil => .nil
  | _, _, 0, .cons _ t => t
  | _, _, i + 1, .cons r t => .cons r (Vals.eraseIdx i t)
theorem len_erase {α : Type} : ∀ (l : List α) (i : Nat), (l.eraseIdx i).length ≤ l.length
  | [], _ => Nat.le_refl _
  | _ :: _, 0 => Nat.le_succ _
  | _ :: r, i + 1 => Nat.succ_le_succ (len_erase r i)
section
variable {X : Cx} {pins : List (Addr × Obj)} {σ : St} {H : Hp} {s : Shared} {l b : Addr} {xs ys zs : List V}

/-! ### the two steps: a tracked list is rewritten, a new list is laid -/
theorem Inv.lset {its its' : List Value} {n : Nat} {f : Array Value → Array Value} {t' : Nat} (I : Inv X pins σ H s) (hH : H l = some (.lst xs))
    (e : s.heap.get? l = some { cls := .type "list", data := .seq its.toArray n }) (hf : f its.toArray = its'.toArray) (hv : Vals ys its') (hz : ys.length ≤ sizeLine) :
    Inv X pins σ (upd H l (.lst ys)) { s with heap := s.heap.update l (Obj.mapSeq f), toks := t' } := by
  have q := PySem.IsL.update e f
  rw [hf] at q
  refine I.write (x := l) (e := l) (by rw [hH]; exact trivial) (.inl rfl) (fun b' u hb hu => (Heap.get?_update_other s.heap (Obj.mapSeq f) (Ne.symm hb)).trans hu) ⟨_, q⟩ ?_
  exact ⟨hz, its', _, hv, q⟩
theorem Inv.lnew {its : List Value} {t' : Nat} (I : Inv X pins σ H s) (hv : Vals ys its) (hz : ys.length ≤ sizeLine) :
    Inv X pins σ (upd H s.heap.objs.size (.lst ys)) { s with heap := s.heap.push { cls := .type "list", data := .seq its.toArray }, toks := t' } :=
  I.laid (fun _ _ q => Heap.get?_push_of_some _ q) (Nat.le_refl _) ⟨hz, its, 0, hv, Heap.get?_push_size _ rfl⟩
theorem Inv.fresh (I : Inv X pins σ H s) : H s.heap.objs.size = none := I.hok.fresh (Nat.le_refl _)
theorem Inv.lstM (I : Inv X pins σ H s) (hH : H l = some (.lst xs)) : xs.length ≤ sizeLine ∧ ∃ (its : List Value) (n : Nat), Vals xs its ∧ xs.length = its.length ∧ s.heap.get? l = some { cls := .type "list", data := .seq its.toArray n } := by
  obtain ⟨z, its, n, r, e⟩ := I.hok l _ hH
  exact ⟨z, its, n, r, r.length, e⟩

end

section
variable {X : Cx}

/-! ### methods -/
def rAppend : V → List V → Hp → VK → Prop := fun x vs H Q => ∃ l xs y, x = .ref l ∧ vs = [y] ∧ H l = some (.lst xs) ∧ xs.length < sizeLine ∧ Q .non (upd H l (.lst (xs ++ [y])))
theorem mt_append : MtM X "list.append" rAppend := by
  intro pins s σ H x vs v us Q I rx rv h
  obtain ⟨l, xs, y, rfl, rfl, hH, hz, q⟩ := h
  cases rx
  obtain ⟨u, rfl, ru⟩ := rv.one
  obtain ⟨z, its, n, r, hl, e⟩ := I.lstM hH
  refine call_meets F.slot_list_append ⟨_, e, rfl⟩ F.entry_list_append (F.args_list_append_2 _ _) (PySem.list_append l its.toArray n u (by rw [List.size_toArray]; omega)) ⟨e, ?_⟩
  refine ⟨.non, _, I.lset (its' := its ++ [u]) hH e (by simp) (r.append (.cons ru .nil)) ?_, rfl, q⟩
  rw [List.length_append, List.length_singleton]
  omega

def rPopAt : V → List V → Hp → VK → Prop := fun x vs H Q => ∃ l xs i k y, x = .ref l ∧ vs = [.int i] ∧ H l = some (.lst xs) ∧ -(2 ^ 63) ≤ i ∧ i < 2 ^ 63 ∧ seqIndex? i xs.length = some k ∧ xs[k]? = some y ∧ Q y (upd H l (.lst (xs.eraseIdx k)))
theorem mt_popAt : MtM X "list.pop" rPopAt := by
  intro pins s σ H x vs v us Q I rx rv h
  obtain ⟨l, xs, i, k, y, rfl, rfl, hH, h1, h2, hk, hy, q⟩ := h
  cases rx
  obtain ⟨u, rfl, ru⟩ := rv.one
  obtain ⟨t, rfl⟩ := ru
  obtain ⟨z, its, n, r, hl, e⟩ := I.lstM hH
  obtain ⟨w, hw, rw'⟩ := r.get hy
  refine call_meets F.slot_list_pop ⟨_, e, rfl⟩ F.entry_list_pop (F.args_list_pop_2 _ _)
    (MeetsSeq.list_pop_at l its.toArray n i t k w (fitsIndex_both h1 h2) (by rw [List.size_toArray, ← hl]; exact hk) (by rw [← Array.getElem?_toList]; exact hw) (by rw [List.size_toArray]; omega)) ⟨e, ?_⟩
  refine ⟨y, _, I.lset (its' := its.eraseIdx k) hH e ?_ (r.eraseIdx k) ?_, rw', q⟩
  · show its.toArray.eraseIdxIfInBounds k = (its.eraseIdx k).toArray
    rw [List.eraseIdxIfInBounds_toArray]
  · have := len_erase xs k
    omega

/-! ### list + list, list += list, list * int -/
def rCat : R2 := fun x y H Q => ∃ l b xs zs, x = .ref l ∧ y = .ref b ∧ H l = some (.lst xs) ∧ H b = some (.lst zs) ∧ xs.length + zs.length ≤ sizeLine ∧ ∀ p, H p = none → Q (.ref p) (upd H p (.lst (xs ++ zs)))
theorem op_cat : OpR X (binaryOp .Add) rCat := by
  intro pins s σ H x y v u Q I rx ry h
  obtain ⟨l, b, xs, zs, rfl, rfl, hH, hB, hz, q⟩ := h
  cases rx
  cases ry
  obtain ⟨z, its, n, r, hl, e⟩ := I.lstM hH
  obtain ⟨z2, its2, n2, r2, hl2, e2⟩ := I.lstM hB
  refine PySem.P.add_list e e2 ?_ (by rw [List.size_toArray, List.size_toArray]; omega)
  have ea : its.toArray ++ its2.toArray = (its ++ its2).toArray := by simp
  rw [ea]
  exact ⟨.ref _, _, I.lnew (t' := s.toks) (r.append r2) (by rw [List.length_append]; omega), rfl, q _ I.fresh⟩
/-! ### del xs[i] -/
end

/-! ### xs[a:b] = ys -/
section
variable {prog : Program} {w : World} {A : Around} {E : Value → Shared → Prop} {s : Shared}
end

section
variable {X : Cx}
end
end L2

namespace L2
open PySem PySem.Spec PyProof.Rows

/-! ### lists of pairs as tables -/
section
variable {κ : Type} [DecidableEq κ]
def valV (kvs : List (κ × V)) (k : κ) : Option V := (kvs.find? fun kv => decide (kv.1 = k)).map (·.2)
/-- in its place, or at the end -/
def putK (kvs : List (κ × V)) (k : κ) (v : V) : List (κ × V) :=
  if (kvs.any fun kv => decide (kv.1 = k)) = true then kvs.map (fun kv => if kv.1 = k then (kv.1, v) else kv) else kvs ++ [(k, v)]
theorem valV_nil {k : κ} : valV ([] : List (κ × V)) k = none := rfl
theorem valV_pos {p : κ × V} {r : List (κ × V)} {k : κ} (e : p.1 = k) : valV (p :: r) k = some p.2 := by simp [valV, List.find?_cons, e]
theorem valV_neg {p : κ × V} {r : List (κ × V)} {k : κ} (e : ¬ p.1 = k) : valV (p :: r) k = valV r k := by simp [valV, List.find?_cons, e]
theorem valV_any (k : κ) : ∀ kvs : List (κ × V), (kvs.any fun kv => decide (kv.1 = k)) = (valV kvs k).isSome
  | [] => rfl
  | p :: r => by
    rw [List.any_cons]
    by_cases e : p.1 = k
    · simp only [valV_pos e, decide_eq_true e, Bool.true_or, Option.isSome_some]
    · rw [valV_neg e, decide_eq_false e, Bool.false_or]; exact valV_any k r
theorem valV_map (k j : κ) (y : V) : ∀ kvs : List (κ × V), valV (kvs.map fun kv => if kv.1 = k then (kv.1, y) else kv) j = (valV kvs j).map fun x => if j = k then y else x
  | [] => rfl
  | p :: r => by
    have ih := valV_map k j y r
    rw [List.map_cons]
    by_cases h : p.1 = k
    · rw [if_pos h]
      by_cases e : p.1 = j
      · rw [valV_pos (p := (p.1, y)) e, valV_pos e, Option.map_some, if_pos (e.symm.trans h)]
      · rw [valV_neg (p := (p.1, y)) e, valV_neg e, ih]
    · rw [if_neg h]
      by_cases e : p.1 = j
      · rw [valV_pos (p := p) e, valV_pos e, Option.map_some, if_neg (fun z => h (e.trans z))]
      · rw [valV_neg (p := p) e, valV_neg e, ih]
theorem valV_snoc (k j : κ) (y : V) : ∀ kvs : List (κ × V), valV kvs k = none → valV (kvs ++ [(k, y)]) j = if j = k then some y else valV kvs j
  | [], _ => by
    by_cases e : k = j
    · rw [if_pos e.symm]; exact valV_pos (p := (k, y)) e
    · rw [if_neg (fun z => e z.symm)]; exact valV_neg (p := (k, y)) e
  | p :: r, hn => by
    rw [List.cons_append]
    have hk : ¬ p.1 = k := fun z => by rw [valV_pos z] at hn; cases hn
    rw [valV_neg hk] at hn
    have ih := valV_snoc k j y r hn
    by_cases e : p.1 = j
    · rw [valV_pos e, valV_pos e, if_neg (fun z => hk (e.trans z))]
    · rw [valV_neg e, valV_neg e, ih]
theorem valV_put (kvs : List (κ × V)) (k j : κ) (y : V) : valV (putK kvs k y) j = if j = k then some y else valV kvs j := by
  unfold putK
  by_cases a : (kvs.any fun kv => decide (kv.1 = k)) = true
  · rw [if_pos a, valV_map]
    rw [valV_any] at a
    by_cases e : j = k
    · obtain ⟨x, hx⟩ := Option.isSome_iff_exists.mp a
      rw [if_pos e, e, hx, Option.map_some, if_pos rfl]
    · rw [if_neg e]
      cases valV kvs j with
      | none => rfl
      | some x => rw [Option.map_some, if_neg e]
  · rw [if_neg a]
    refine valV_snoc k j y kvs ?_
    rw [valV_any] at a
    cases q : valV kvs k with
    | none => rfl
    | some x => rw [q] at a; exact (a rfl).elim
theorem length_putK (kvs : List (κ × V)) (k : κ) (v : V) : (putK kvs k v).length ≤ kvs.length + 1 := by
  unfold putK
  split
  · rw [List.length_map]; omega
  · rw [List.length_append, List.length_cons, List.length_nil]; omega
theorem putK_new {kvs : List (κ × V)} {k : κ} (v : V) (h : valV kvs k = none) : putK kvs k v = kvs ++ [(k, v)] := by
  unfold putK
  rw [valV_any, h]
  exact if_neg (by decide)

theorem RelO.isSome_eq {o : Option V} {u : Option Value} (r : RelO o u) : o.isSome = u.isSome := by
  cases o with
  | none => cases u with
    | none => rfl
    | some _ => exact (show False from r).elim
  | some _ => cases u with
    | none => exact (show False from r).elim
    | some _ => rfl
theorem RelO.getD {o : Option V} {u : Option Value} {d : V} {d' : Value} (r : RelO o u) (rd : RelV d d') : RelV (o.getD d) (u.getD d') := by
  cases o with
  | none => cases u with
    | none => exact rd
    | some _ => exact (show False from r).elim
  | some _ => cases u with
    | none => exact (show False from r).elim
    | some _ => exact r

/-- raw tables of the same keys -/
theorem KV.val {kvs : List (κ × V)} {vs : List (κ × Value)} (r : KV kvs vs) (k : κ) : RelO (valV kvs k) (valueAt vs k) := by
  unfold KV at r
  induction r with
  | nil => exact True.intro
  | @cons p q ps qs h t ih =>
    obtain ⟨h1, h2⟩ := h
    by_cases e : p.1 = k
    · have e' : q.1 = k := h1.symm.trans e
      have b : valueAt (q :: qs) k = some q.2 := by simp [valueAt, List.find?_cons, e']
      rw [valV_pos e, b]; exact h2
    · have e' : ¬ q.1 = k := fun z => e (h1.trans z)
      have b : valueAt (q :: qs) k = valueAt qs k := by simp [valueAt, List.find?_cons, e']
      rw [valV_neg e, b]; exact ih
theorem KV.any {kvs : List (κ × V)} {vs : List (κ × Value)} (r : KV kvs vs) (k : κ) : (kvs.any fun kv => decide (kv.1 = k)) = vs.any fun kv => decide (kv.1 = k) := by
  unfold KV at r
  induction r with
  | nil => rfl
  | cons h t ih => rw [List.any_cons, List.any_cons, ih, h.1]
theorem KV.repl {kvs : List (κ × V)} {vs : List (κ × Value)} (r : KV kvs vs) (k : κ) {y : V} {u : Value} (ry : RelV y u) :
    KV (kvs.map fun kv => if kv.1 = k then (kv.1, y) else kv) (vs.map fun kv => if kv.1 = k then (kv.1, u) else kv) := by
  unfold KV at r ⊢
  induction r with
  | nil => exact .nil
  | @cons p q ps qs h t ih =>
    rw [List.map_cons, List.map_cons]
    refine .cons ?_ ih
    obtain ⟨h1, h2⟩ := h
    by_cases e : p.1 = k
    · rw [if_pos e, if_pos (h1.symm.trans e)]; exact ⟨h1, ry⟩
    · rw [if_neg e, if_neg (fun z => e (h1.trans z))]; exact ⟨h1, h2⟩
theorem KV.put {kvs : List (κ × V)} {vs : List (κ × Value)} (r : KV kvs vs) (k : κ) {y : V} {u : Value} (ry : RelV y u) : KV (putK kvs k y) (stored vs k u) := by
  unfold putK stored
  rw [r.any k]
  by_cases e : (vs.any fun kv => decide (kv.1 = k)) = true
  · rw [if_pos e, if_pos e]; exact r.repl k ry
  · rw [if_neg e, if_neg e]; exact Paired.snoc r ⟨rfl, ry⟩
theorem KV.length {kvs : List (κ × V)} {vs : List (κ × Value)} (r : KV kvs vs) : kvs.length = vs.length := Paired.length r
end


/-! ### a tracked dict, its keys ints and texts or tuples of these -/
theorem kV_is {P : Program} {w : World} {k : Key} {u : Value} (r : RelV (kV k) u) : (mixKind P w).is k u = true := by
  cases k with
  | inl i => obtain ⟨t, e⟩ := (show ∃ t, u = Value.int i t from r); subst e; exact mixKind_int P w i t
  | inr x => obtain ⟨t, e⟩ := (show ∃ t, u = Value.str x t from r); subst e; exact mixKind_str P w x t
theorem items_are {P : Program} {w : World} : ∀ {ks : List Key} {us : List Value}, Vals (ks.map kV) us → ItemsAre (mixKind P w) ks us
  | [], _, r => by rw [List.map_nil] at r; cases r; exact .nil
  | k :: ks, _, r => by
    rw [List.map_cons] at r
    cases r with
    | cons h t => exact .cons (kV_is h) (items_are t)

/-- raw entries of a dict with tuple keys -/
abbrev KT (H : Hp) : List (List Key × V) → List (List Key × Addr × Value) → Prop := Paired fun p q => p.1 = q.1 ∧ H q.2.1 = some (.tup (p.1.map kV)) ∧ RelV p.2 q.2.2
theorem KT.val {H : Hp} {kvs : List (List Key × V)} {xs : List (List Key × Addr × Value)} (r : KT H kvs xs) (k : List Key) : RelO (valV kvs k) ((atKey xs k).map (·.2)) := by
  induction r with
  | nil => exact True.intro
  | @cons p q ps qs h t ih =>
    obtain ⟨h1, _, h2⟩ := h
    by_cases e : p.1 = k
    · have e' : q.1 = k := h1.symm.trans e
      have b : atKey (q :: qs) k = some q.2 := by simp [atKey, List.find?_cons, e']
      rw [valV_pos e, b]; exact h2
    · have e' : ¬ q.1 = k := fun z => e (h1.trans z)
      have b : atKey (q :: qs) k = atKey qs k := by simp [atKey, List.find?_cons, e']
      rw [valV_neg e, b]; exact ih
theorem KT.repl {H : Hp} {kvs : List (List Key × V)} {xs : List (List Key × Addr × Value)} (r : KT H kvs xs) (k : List Key) {y : V} {u : Value} (ry : RelV y u) :
    KT H (kvs.map fun kv => if kv.1 = k then (kv.1, y) else kv) (xs.map (putAt k u)) := by
  induction r with
  | nil => exact .nil
  | @cons p q ps qs h t ih =>
    rw [List.map_cons, List.map_cons]
    refine .cons ?_ ih
    obtain ⟨h1, h2, h3⟩ := h
    unfold putAt
    by_cases e : p.1 = k
    · rw [if_pos e, if_pos (h1.symm.trans e)]; exact ⟨h1, h2, ry⟩
    · rw [if_neg e, if_neg (fun z => e (h1.trans z))]; exact ⟨h1, h2, h3⟩
theorem KT.put {H : Hp} {kvs : List (List Key × V)} {xs : List (List Key × Addr × Value)} (r : KT H kvs xs) (k : List Key) {b : Addr} {y : V} {u : Value} (hb : H b = some (.tup (k.map kV))) (ry : RelV y u) :
    KT H (putK kvs k y) (storedH xs k b u) := by
  have e : (kvs.any fun kv => decide (kv.1 = k)) = (atKey xs k).isSome := by
    rw [valV_any, (r.val k).isSome_eq, Option.isSome_map]
  unfold putK storedH
  rw [e]
  by_cases q : (atKey xs k).isSome = true
  · rw [if_pos q, if_pos q]; exact r.repl k ry
  · rw [if_neg q, if_neg q]; exact Paired.snoc r ⟨rfl, hb, ry⟩
theorem KT.keeps {H H' : Hp} {kvs : List (List Key × V)} {xs : List (List Key × Addr × Value)} (r : KT H kvs xs) (ht : ∀ b ys, H b = some (.tup ys) → H' b = some (.tup ys)) : KT H' kvs xs :=
  Paired.mapP r fun _ _ z => ⟨z.1, ht _ _ z.2.1, z.2.2⟩

section
variable {P : Program} {w : World} {H : Hp} {h : Heap} {a : Addr}
theorem rd_of {u : HO} (ok : HOk P w H h) (e : Rd H a u) : ObjOk P w H h a u := e.ok ok
theorem dk_rd {kvs : List (Key × V)} (ok : HOk P w H h) (e : Rd H a (.dK kvs)) : kvs.length ≤ sizeLine ∧ (a == sysModules) = false ∧ ∃ vs, KV kvs vs ∧ h.DictOf (mixKind P w) a vs :=
  show ObjOk P w H h a (.dK kvs) from rd_of ok e
theorem dk_of {kvs : List (Key × V)} (ok : HOk P w H h) (e : H a = some (.dK kvs)) : kvs.length ≤ sizeLine ∧ (a == sysModules) = false ∧ ∃ vs, KV kvs vs ∧ h.DictOf (mixKind P w) a vs := dk_rd ok (.inl e)
/-- a tracked tuple of ints and texts is a key -/
theorem key_of {ks : List Key} (ok : HOk P w H h) (e : H a = some (.tup (ks.map kV))) : (tupleKind (mixKind P w)).is h ks a := by
  obtain ⟨_, its, r, o, h1, h2, n, h3⟩ := (show ObjOk P w H h a (.tup (ks.map kV)) from ok a _ e)
  exact ⟨o, its.toArray, n, h1, h2, h3, by simpa using items_are r⟩
theorem dt_rd {kvs : List (List Key × V)} (ok : HOk P w H h) (e : Rd H a (.dT kvs)) : kvs.length ≤ sizeLine ∧ (a == sysModules) = false ∧
    ∃ xs, KT H kvs xs ∧ h.DictOfH (tupleKind (mixKind P w)) a xs := by
  obtain ⟨z, y, xs, r, o, es, ep, h1, h2, h3, h4, h5⟩ := (show ObjOk P w H h a (.dT kvs) from rd_of ok e)
  refine ⟨z, y, xs, r, o, es, ep, h1, h2, h3, h4, fun x hx => ?_, h5⟩
  have all : ∀ {l : List (List Key × V)} {m : List (List Key × Addr × Value)}, KT H l m → ∀ x ∈ m, (tupleKind (mixKind P w)).is h x.1 x.2.1 := by
    intro l m q
    induction q with
    | nil => intro x hx; exact nomatch hx
    | @cons p q ps qs hq t ih =>
      intro x hx
      rcases List.mem_cons.mp hx with e | hx
      · subst e
        exact key_of ok (by rw [← hq.1]; exact hq.2.1)
      · exact ih x hx
  exact all r x hx
theorem dt_of {kvs : List (List Key × V)} (ok : HOk P w H h) (e : H a = some (.dT kvs)) : kvs.length ≤ sizeLine ∧ (a == sysModules) = false ∧
    ∃ xs, KT H kvs xs ∧ h.DictOfH (tupleKind (mixKind P w)) a xs := dt_rd ok (.inl e)
end

/-- what the dict at a holds at the key y -/
def DGet (H : Hp) (a : Addr) (y : V) (r : Option V) : Prop :=
  (∃ kvs k, Rd H a (.dK kvs) ∧ y = kV k ∧ r = valV kvs k) ∨ ∃ kvs k b, Rd H a (.dT kvs) ∧ y = .ref b ∧ H b = some (.tup (k.map kV)) ∧ r = valV kvs k
/-- the heap behind a[y] = v -/
def DPut (H : Hp) (a : Addr) (y v : V) (H' : Hp) : Prop :=
  (∃ kvs k, H a = some (.dK kvs) ∧ y = kV k ∧ kvs.length < sizeLine ∧ H' = upd H a (.dK (putK kvs k v))) ∨
  ∃ kvs k b, H a = some (.dT kvs) ∧ y = .ref b ∧ H b = some (.tup (k.map kV)) ∧ kvs.length < sizeLine ∧ H' = upd H a (.dT (putK kvs k v))
theorem DGet.k {H : Hp} {a : Addr} {kvs : List (Key × V)} {k : Key} (e : H a = some (.dK kvs)) : DGet H a (kV k) (valV kvs k) := .inl ⟨kvs, k, .inl e, rfl, rfl⟩
theorem DPut.k {H : Hp} {a : Addr} {kvs : List (Key × V)} {k : Key} {v : V} (e : H a = some (.dK kvs)) (hl : kvs.length < sizeLine) : DPut H a (kV k) v (upd H a (.dK (putK kvs k v))) := .inl ⟨kvs, k, e, rfl, hl, rfl⟩
section
variable {X : Cx} {pins : List (Addr × Obj)} {σ : St} {H : Hp} {s : Shared} {a : Addr} {y v : V} {u r : Value} {o : Option V} {A : Around} {E : Value → Shared → Prop}

theorem Inv.big (I : Inv X pins σ H s) : sysModules < s.heap.objs.size := by
  have h : mainGlobals < s.heap.objs.size := (I.mod.glob.keeps I.bk).lt
  exact Nat.lt_trans (by decide) h

/-- d[y], there -/
theorem d_getItem {Q : Value → Shared → Prop} (hu : A.units + 1 < cLine) (I : Inv X pins σ H s) (g : DGet H a y (some v)) (ry : RelV y u) (h : ∀ w' s', Inv X pins σ H s' → RelV v w' → Q w' s') :
    wpAny (model X.prog X.w) A (getItem (.ref a) u) Q E s := by
  rcases g with ⟨kvs, k, e, ey, l⟩ | ⟨kvs, k, b, e, ey, eb, l⟩
  · subst ey
    obtain ⟨z, hd, vs, rel, dd⟩ := dk_rd I.hok e
    obtain ⟨w', hw, rw'⟩ := RelO.some_of (v := v) (o := valueAt vs k) (by rw [l]; exact rel.val k)
    exact wpAny_getItem_of (kV_is ry) dd.mapOf hw (h w' _ (I.tok _) rw')
  · subst ey
    cases (show u = Value.ref b from ry)
    obtain ⟨z, hd, xs, rel, dd⟩ := dt_rd I.hok e
    obtain ⟨w', hw, rw'⟩ := RelO.some_of (v := v) (o := (atKey xs k).map (·.2)) (by rw [l]; exact rel.val k)
    obtain ⟨p, hp, hp2⟩ := Option.map_eq_some_iff.mp hw
    refine wpAny_getItem_heap (tupleKind_room_in1 hu) (key_of I.hok eb) dd hp ?_
    rw [hp2]
    exact h w' _ (I.tok _) rw'
theorem d_notIn {Q : Value → Shared → Prop} (hu : A.units + 1 < cLine) (I : Inv X pins σ H s) (g : DGet H a y o) (ry : RelV y u) (h : ∀ s', Inv X pins σ H s' → Q (.bool (!o.isSome)) s') :
    wpAny (model X.prog X.w) A (compareOp .NotIn u (.ref a)) Q E s := by
  rcases g with ⟨kvs, k, e, ey, l⟩ | ⟨kvs, k, b, e, ey, eb, l⟩
  · subst ey
    obtain ⟨z, hd, vs, rel, dd⟩ := dk_rd I.hok e
    refine wpAny_notIn_of (kV_is ry) hd dd.mapOf ?_
    rw [← (rel.val k).isSome_eq, ← l]
    exact h _ (I.tok _)
  · subst ey
    cases (show u = Value.ref b from ry)
    obtain ⟨z, hd, xs, rel, dd⟩ := dt_rd I.hok e
    refine wpAny_notIn_heap (tupleKind_room_in1 hu) (key_of I.hok eb) hd dd ?_
    have q := (rel.val k).isSome_eq
    rw [Option.isSome_map] at q
    rw [← q, ← l]
    exact h _ (I.tok _)
/-- a dict's object is replaced -/
theorem d_write {h' : Heap} {t' : Nat} {ob : HO} (I : Inv X pins σ H s) (mu : Mut (H a)) (hs : Heap.SameBut a s.heap h') (he : ∃ q, h'.get? a = some q) (new : ObjOk X.prog X.w (upd H a ob) h' a ob) :
    Inv X pins σ (upd H a ob) { s with heap := h', toks := t' } :=
  I.write (x := a) (e := a) mu (.inl rfl) (fun b q hb z => (hs.2 b hb).trans z) he new
theorem dk_new {P : Program} {w : World} {H' : Hp} {h' : Heap} {kvs : List (Key × V)} {vs : List (Key × Value)} (z : kvs.length ≤ sizeLine) (hd : (a == sysModules) = false) (rel : KV kvs vs) (dd : h'.DictOf (mixKind P w) a vs) :
    ObjOk P w H' h' a (.dK kvs) := ⟨z, hd, vs, rel, dd⟩
/-- d[y] = v -/
theorem d_setItem {H' : Hp} {Q : Unit → Shared → Prop} (hu : A.units + 1 < cLine) (I : Inv X pins σ H s) (g : DPut H a y v H') (ry : RelV y u) (rv : RelV v r) (h : ∀ s', Inv X pins σ H' s' → Q () s') :
    wpAny (model X.prog X.w) A (setItem (.ref a) u r) Q E s := by
  rcases g with ⟨kvs, k, e, ey, l, eH⟩ | ⟨kvs, k, b, e, ey, eb, l, eH⟩
  · subst ey eH
    obtain ⟨z, hd, vs, rel, dd⟩ := dk_of I.hok e
    have hz : vs.length ≤ sizeLine := by rw [← rel.length]; exact z
    have hl : (putK kvs k v).length ≤ sizeLine := by have := length_putK kvs k v; omega
    refine wpAny_setItem_pairs (hsz := hz) (kV_is ry) dd fun h' dd' hs => h _ ?_
    have he : ∃ q, h'.get? a = some q := let ⟨q, _, _, hq, _⟩ := dd'; ⟨q, hq⟩
    exact d_write I (by rw [e]; exact True.intro) hs he (dk_new hl hd (rel.put k rv) dd')
  · subst ey eH
    cases (show u = Value.ref b from ry)
    obtain ⟨z, hd, xs, rel, dd⟩ := dt_of I.hok e
    have hz : xs.length ≤ sizeLine := by rw [← Paired.length rel]; exact z
    have hl : (putK kvs k v).length ≤ sizeLine := by have := length_putK kvs k v; omega
    refine wpAny_setItem_heap (hsz := hz) (tupleKind_room_in1 hu) (key_of I.hok eb) dd fun h' dd' hs => h _ ?_
    obtain ⟨q, es, ep, hq, h2, h3, h4, _, h5⟩ := dd'
    refine d_write I (by rw [e]; exact True.intro) hs ⟨q, hq⟩ ⟨hl, hd, _, (rel.put k eb rv).keeps fun c ys ec => ?_, q, es, ep, hq, h2, h3, h4, h5⟩
    rw [upd_ne (ne_of ec e (fun z => nomatch z))]
    exact ec
end

section
variable {X : Cx} {pins : List (Addr × Obj)} {σ : St} {H : Hp} {s : Shared} {a : Addr} {kvs : List (Key × V)} {k : Key} {u : Value} {A : Around} {E : Value → Shared → Prop}
end


/-! ### readings and rules -/
/-- the element of a subscription, not a slice -/
def NoSl (i : Expr) : Prop := ∀ ov iv, subscripted i false ov iv = operate [ov, iv] (getItem ov iv)
theorem subD_of {prog : Program} {w : World} {A : Around} {E : Value → Shared → Prop} {s : Shared} {env : Env} {value slice : Expr} {pos : Pos} {T id : String} {Q : Value → Shared → Prop}
    (hl : typeLookup (.type T) "__getitem__" = pure (some (.builtin id))) (hs : NoSl slice)
    (h : wpAny (model prog w) A (eval value env) (fun o s₁ => wpAny (model prog w) A (eval slice env) (fun i s₂ => s₂.TypeIs o T ∧ wpAny (model prog w) A (getItem o i) Q E s₂) E s₁) E s) :
    wpAny (model prog w) A (eval (.Subscript value slice pos) env) Q E s := by
  refine Subscript_ (wpAny_mono h (fun o s₁ h₁ => wpAny_mono h₁ (fun i s₂ h₂ => ?_) fun _ _ x => x) fun _ _ x => x)
  obtain ⟨hT, h₂⟩ := h₂
  unfold subscriptTail
  refine wpAny_bind ?_
  rw [getitemInPython_of_ne hT.not_modules]
  refine wpAny_bind (wpAny_specialOf hT hl ?_)
  have fin : wpAny (model prog w) A (subscripted slice false o i) (fun r s₃ => wpAny (model prog w) A (letTemporaryGo value o r >>= fun _ => pure r) Q E s₃) E s₂ := by
    rw [hs o i]
    exact wpAny_operating (wpAny_mono h₂ (fun r s₃ h₃ => wpAny_bind (wpAny_letTemporaryGo (wpAny_pure h₃))) fun _ _ x => x)
  first
    | exact wpAny_pure (wpAny_bind fin)
    | exact wpAny_bind (wpAny_pure (wpAny_bind fin))
    | exact wpAny_bind fin

theorem dict_typeIs {X : Cx} {pins : List (Addr × Obj)} {σ : St} {H : Hp} {s : Shared} {a : Addr} {y : V} {o : Option V} (I : Inv X pins σ H s) (g : DGet H a y o) : s.TypeIs (.ref a) "dict" := by
  rcases g with ⟨kvs, k, e, _, _⟩ | ⟨kvs, k, b, e, _, _, _⟩
  · obtain ⟨_, _, vs, _, dd⟩ := dk_rd I.hok e
    exact dd.typeIs
  · obtain ⟨_, _, xs, _, dd⟩ := dt_rd I.hok e
    exact dd.typeIs
/-- d[y] -/
def tDGet (td ty : TE) : TE := fun σ H Q => td σ H fun x H1 => ty σ H1 fun y H2 => ∃ a v, x = .ref a ∧ DGet H2 a y (some v) ∧ Q v H2
def tDNotIn (ty td : TE) : TE := fun σ H Q => ty σ H fun y H1 => td σ H1 fun x H2 => ∃ a o, x = .ref a ∧ DGet H2 a y o ∧ Q (.bl (!o.isSome)) H2
/-- d[y] = v -/
def sDPut (td ty tv : TE) : TS := fun D σ H => tv σ H fun v H1 => td σ H1 fun x H2 => ty σ H2 fun y H3 => ∃ a H4, x = .ref a ∧ DPut H3 a y v H4 ∧ D.nx σ H4
section
variable {X : Cx} {o i e value : Expr} {pos pos' tpos : Pos} {td ty tv : TE}
theorem pe_dget (hu : X.A.units + 1 < cLine) (ho : PE X o td) (hi : PE X i ty) (hs : NoSl i) : PE X (.Subscript o i pos) (tDGet td ty) := by
  intro pins s σ H Q I h
  refine subD_of PySem.F.slot_dict_getitem.lookup hs (thn (ho pins s σ H _ I h) fun u s1 ⟨x, H1, I1, rx, q1⟩ => thn (hi pins s1 σ H1 _ I1 q1) fun iv s2 ⟨y, H2, I2, ry, a, v, ex, g, q2⟩ => ?_)
  subst ex
  obtain rfl : u = Value.ref a := rx
  exact ⟨dict_typeIs I2 g, d_getItem hu I2 g ry fun w' s3 I3 rw' => ⟨v, H2, I3, rw', q2⟩⟩
theorem pc_dnotin (hu : X.A.units + 1 < cLine) (hi : PE X i ty) (ho : PE X o td) : PC X .NotIn i o (tDNotIn ty td) := by
  intro pins s σ H Q I h
  refine thn (hi pins s σ H _ I h) fun iv s1 ⟨y, H1, I1, ry, q1⟩ => thn (ho pins s1 σ H1 _ I1 q1) fun u s2 ⟨x, H2, I2, rx, a, ov, ex, g, q2⟩ => ?_
  subst ex
  obtain rfl : u = Value.ref a := rx
  exact d_notIn hu I2 g ry fun s3 I3 => ⟨.bl (!ov.isSome), H2, I3, rfl, q2⟩
theorem ps_dput (hu : X.A.units + 1 < cLine) (ho : PE X o td) (hi : PE X i ty) (hv : PE X value tv) (hs : swapsWith value (some (.Subscript o i pos')) pos.line X.env = pure false) :
    PS X (.Assign [.Subscript o i pos'] value pos) (sDPut td ty tv) := by
  intro pins s σ H D I h
  refine wpAny_Assign_Subscript (thn (hv pins s σ H _ I h) fun r s1 ⟨v, H1, I1, rv, q1⟩ => thn (ho pins s1 σ H1 _ I1 q1) fun u s2 ⟨x, H2, I2, rx, q2⟩ => thn (hi pins s2 σ H2 _ I2 q2) fun iv s3 ⟨y, H3, I3, ry, a, H4, ex, g, q3⟩ => ?_) hs
  subst ex
  obtain rfl : u = Value.ref a := rx
  exact d_setItem hu I3 g ry rv fun s4 I4 => ⟨σ, H4, I4, q3⟩
end


/-! ### displays -/
theorem dk_empty {P : Program} {w : World} {H : Hp} (h : Heap) (hb : sysModules < h.objs.size) : ObjOk P w H (h.push { cls := .type "dict", data := .dict #[] }) h.objs.size (.dK []) :=
  ⟨Nat.zero_le _, beq_eq_false_iff_ne.mpr (Ne.symm (Nat.ne_of_lt hb)), [], .nil, Heap.DictOf.new h⟩
/-- {}, to be a dict of the kind that is wanted -/
def tDNewK : TE := fun _ H Q => ∀ p, H p = none → Q (.ref p) (upd H p (.dK []))
section
variable {X : Cx} {pos : Pos}
theorem pe_dnewK : PE X (.Dict [] [] pos) tDNewK := fun pins s σ H Q I h =>
  wpAny_Dict_empty ⟨.ref s.heap.objs.size, _, I.laid (a := s.heap.objs.size) (o := .dK []) (t' := s.toks) (fun _ _ q => Heap.get?_push_of_some _ q) (Nat.le_refl _) (dk_empty s.heap I.big), rfl, h _ (I.hok.fresh (Nat.le_refl _))⟩
end

/-! ### methods -/
/-- a method call o.m(e) of a built-in, with one argument: what must be seen of the text -/
structure M1 (X : Cx) (o : Expr) (m : Str) (apos : Pos) (e : Expr) (cpos : Pos) : Prop where
  base : attributeBase o m X.env (eval o X.env) = eval o X.env
  few : ((backTo cpos (starEach [e] X.env)).all (fun x => !x.1) && (backToKw cpos (keywordEach [] X.env)).all (fun x => x.1.isSome)
    && decide (([e] : List Expr).length + ([] : List Keyword).length + (if ([] : List Keyword).isEmpty then 0 else 1) < 30)) = true
  line : (apos.endLine == cpos.line) = true
  trees : backTo cpos (starEach [e] X.env) = [(false, eval e X.env)]
structure M2 (X : Cx) (o : Expr) (m : Str) (apos : Pos) (e f : Expr) (cpos : Pos) : Prop where
  base : attributeBase o m X.env (eval o X.env) = eval o X.env
  few : ((backTo cpos (starEach [e, f] X.env)).all (fun x => !x.1) && (backToKw cpos (keywordEach [] X.env)).all (fun x => x.1.isSome)
    && decide (([e, f] : List Expr).length + ([] : List Keyword).length + (if ([] : List Keyword).isEmpty then 0 else 1) < 30)) = true
  line : (apos.endLine == cpos.line) = true
  trees : backTo cpos (starEach [e, f] X.env) = [(false, eval e X.env), (false, eval f X.env)]

section
variable {X : Cx} {pins : List (Addr × Obj)} {σ : St} {H : Hp} {s : Shared} {a : Addr} {y d : V} {u r : Value} {o : Option V} {A : Around} {E : Value → Shared → Prop}
end

section
variable {X : Cx} {o e f : Expr} {apos cpos : Pos} {td ty tx : TE}
end

/-! ### dict(d): a copy -/
section
variable {X : Cx} {pins : List (Addr × Obj)} {σ : St} {H : Hp} {s : Shared} {a : Addr} {kvs : List (Key × V)} {A : Around} {E : Value → Shared → Prop}
end


section
variable {X : Cx} {pins : List (Addr × Obj)} {σ : St} {H : Hp} {s : Shared} {a : Addr} {y : V} {u : Value} {A : Around} {E : Value → Shared → Prop}
end
end L2


namespace Att
open PySem PySem.W PySem.Calls PyProof.Rows

/-! ### the script -/
theorem ints_of_wellAll {P : Params} {h : Heap} : ∀ (ns : List Int) (vs : List Value), WellAll P h vs (ns.map WData.int) → IntsAre vs ns := by
  intro ns
  induction ns with
  | nil =>
    intro vs w
    rw [List.map_nil] at w
    cases w
    exact .nil
  | cons n ns ih =>
    intro vs w
    rw [List.map_cons] at w
    cases w with
    | cons a b =>
      cases a
      exact .cons _ _ (ih _ b)

theorem script_of {l : OpenLaw} {n : Nat} (hn : l.most = some n) {P : Params} {h : Heap} {args : List WData} {vals : List Value}
    (hpre : l.row.toRowW.claim.pre args = true) (hwl : WellAll P h vals args) :
    ∃ a vs ns, vals = [Value.ref a] ∧ args = [WData.list (ns.map WData.int)] ∧ h.get? a = some { cls := .type "list", data := .seq vs.toArray } ∧ IntsAre vs ns ∧ ns.length ≤ n := by
  have hsh : WShape.hasAll [] args [.list .int] = true := (pre_splitW hpre).1
  have hc : l.pre.holds [] { args := args } = true := (pre_splitW hpre).2
  obtain ⟨d, r, rfl, h1, h2⟩ := hasAllW_cons hsh
  obtain rfl := hasAllW_nil h2
  obtain ⟨xs, rfl, h3⟩ := hasW_list h1
  obtain ⟨ns, rfl⟩ := items_int h3
  have hlen : ns.length ≤ n := by
    unfold OpenLaw.pre at hc
    have h4 : (WTm.not (.lt (.lit (.int (n : Int))) (.len (.arg 0)))).holds [] { args := [.list (ns.map .int)] } = true := by
      have h4 := (holds_andW hc).1
      rw [hn] at h4
      exact h4
    have h5 := condW_of h4 (w_not (w_lt w_lit (w_len_list (w_arg rfl))))
    rw [List.length_map] at h5
    refine Nat.le_of_not_lt fun q => ?_
    have q' : (n : Int) < ((ns.length : Nat) : Int) := by omega
    first
      | (rw [decide_eq_true q'] at h5; exact absurd h5 (by decide))
      | (simp at h5; omega)
  cases hwl with
  | cons w1 w2 =>
    cases w2
    cases w1 with
    | list ho hall => exact ⟨_, _, ns, rfl, rfl, ho, ints_of_wellAll ns _ hall, hlen⟩

theorem post_true (l : OpenLaw) (args : List WData) : l.row.toRowW.claim.post args (.bool true) args = true :=
  postW_of (r := l.row.toRowW) (X := (true == true))
    (show WShape.has [] (.bool true) .bool = true by first | rfl | decide | simp [WShape.has, WShape.arms, WShape.armsAll])
    (show (WTm.eq .res (.lit (.bool true))).value [] { args := args, res := some (.bool true), after := args } = some (.bool (true == true)) from w_eq_bool (w_res rfl) w_lit) rfl

/-! ### the attachment: holds_open's last premise (the goal 'hc' behind k_head) from a wpAny of the law's body -/
/-- the same from a codeAny of the CALL (for a layer whose function contracts speak of calls) -/
theorem attach_call {l : OpenLaw} {n : Nat} {q : Program} {loose : List Str} {XP : (Str → Option Value) → Heap → Prop} {YP : World → Heap → Prop} {d : DefRec}
    (hn : l.most = some n) (hdf : d.params.defaults = [])
    (call : ∀ (w : World) (s₀ s₁ : Shared) (mg mb : Str → Option Value) (fa : Addr) (o : Obj) (pm cd doc : Value) (a : Addr) (vs : List Value) (ns : List Int),
      Ground q loose [] XP w s₀ mg mb s₁.heap → YP w s₁.heap →
      s₁.heap.get? fa = some o → o.data = .func (docDef d.name d.params d.body d.scope pm cd doc) → s₁.heap.CodeRec cd d.name → mg d.name = some (.ref fa) →
      s₁.heap.get? a = some { cls := .type "list", data := .seq vs.toArray } → IntsAre vs ns → ns.length ≤ n → s₁.gens = #[] →
      codeAny (model l.prog w) callerA (.call (.ref fa) ⟨[.ref a], []⟩) (fun r s' => r = .ok (.ret (.bool true)) ∧ OldK s₁.heap s'.heap ∧ s'.os = s₁.os ∧ AllBare s'.gens) s₁) :
    WalkO q loose XP YP l.row.toRowW d [] (fun f vs => PySem.call f vs) := by
  intro w s₀ s₁ mg mb G Y fa o pm cd doc dV kV ho hd hcd hD hmg hg args vals as hpre hlay hrd hwl hlo
  obtain rfl : dV = .none := Dflts.none hD hdf
  obtain rfl : kV = .none := Dflts.noKw hD
  obtain ⟨a, vs, ns, rfl, rfl, hobj, hints, hlen⟩ := script_of hn hpre hwl
  refine enter_call (codeAny_mono (call w s₀ s₁ mg mb fa o pm cd doc a vs ns G Y ho (fd_plain hd) hcd hmg hobj hints hlen hg) fun r s' hq => ?_)
  obtain ⟨rfl, h2, h3, h4⟩ := hq
  exact ⟨.inl ⟨.bool true, .bool true, [], rfl, fun _ => rfl, .bool true, post_true l _, fun _ => ⟨List.Pairwise.nil, fun _ hm => (nomatch hm)⟩⟩, h2, h3, h4⟩

/-! ### rules over ANY heap (no ledger) from facts about the written part K: the library's own take a ledger (News) for what they write -/
section
variable {prog : Program} {w : World} {A : Around} {E : Value → Shared → Prop} {s : Shared} {K : Frag}

/-! the whole heap as the ledger: makes every rule that writes through a ledger a rule over any heap -/
def ledger (h : Heap) (L d : Addr) : List (Addr × Obj) := (List.range h.objs.size).filterMap fun a => if a = L ∨ a = d then none else (h.get? a).map fun o => (a, o)
end
end Att

namespace L2
open PySem PySem.Spec PyProof.Rows

theorem vals_ints : ∀ {vs : List Value} {ns : List Int}, IntsAre vs ns → Vals (ns.map V.int) vs
  | _, _, .nil => .nil
  | _, _, .cons n t h => .cons ⟨t, rfl⟩ (vals_ints h)

/-- nothing is tracked but the script, known to the object (or it is an object of the module) -/
def Only (H : Hp) : Prop := ∀ b, H b = none ∨ ∃ o xs, H b = some (.frz o (.lst xs))

/-- THE HEAD: the law's promise, at the heap behind the top. F, the promise of the law's def, may use that base is part of the heap (so K.In base, base.Ns mainGlobals mg stand in Mod) -/
theorem law_call {P : Program} {w : World} {K : PySem.W.Frag} {mg mb : Str → Option Value} {CX : CXT} {k : Nat} {fa a : Addr} {fd : FuncData} {x : Str} {sp : Sp} {s₁ : Shared} {vs : List Value} {ns : List Int}
    (KX : K.In s₁.heap) (hns : s₁.heap.Ns mainGlobals mg) (hb : s₁.heap.Ns builtinsNs mb) (hbb : ∀ x : Str, x ≠ "__name__" → mb x = bootBuiltins x) (hlim : s₁.heap.NoLimit) (hg : s₁.gens = #[])
    (ha : s₁.heap.get? a = some { cls := .type "list", data := .seq vs.toArray }) (hi : IntsAre vs ns) (hl : ns.length ≤ sizeLine) (hr : Room k callerA)
    (F : ∀ base : Heap, K.In base → base.Ns mainGlobals mg → FnOk P w K mg base CX k fa fd [x] sp) (hbind : ∀ (s : Shared) (u : Value), BindsTo s fd ⟨[u], []⟩ [(x, u)])
    (hsp : ∀ H : Hp, Only H → SqL K H a (ns.map V.int) → sp [.ref a] H (fun v _ => v = .bl true) fun _ _ _ => False)
    (hCX : ∀ H e s', CX [] H s₁ (fun _ _ _ => False) e s' → False) :
    codeAny (model P w) callerA (.call (.ref fa) ⟨[.ref a], []⟩) (fun r s' => r = .ok (.ret (.bool true)) ∧ OldK s₁.heap s'.heap ∧ s'.os = s₁.os ∧ AllBare s'.gens) s₁ := by
  have rv := vals_ints hi
  have lenV := hi.length
  -- from an abstract heap in which nothing but the script may be tracked
  have core : ∀ H : Hp, Only H → SqL K H a (ns.map V.int) → HOk P w H s₁.heap → (∀ b, H b ≠ none → b = a) → (H a ≠ none → K.lookup a = none) →
      codeAny (model P w) callerA (.call (.ref fa) ⟨[.ref a], []⟩) (fun r s' => r = .ok (.ret (.bool true)) ∧ OldK s₁.heap s'.heap ∧ s'.os = s₁.os ∧ AllBare s'.gens) s₁ := by
    intro H hO hS hok hA hK
    have base_of : ∀ {b : Addr} {o : Obj}, s₁.heap.get? b = some o → H b = none → (hidT s₁.heap H).get? b = some o := fun e n => hidT_get e n
    have noA : ∀ {b : Addr} {o : Obj} {es : Array DictEntry} {ep : Nat}, s₁.heap.get? b = some o → o.data = .dict es ep → H b = none := fun {b o es ep} e d => by
      cases q : H b with
      | none => rfl
      | some u =>
        have e' : b = a := hA b (by rw [q]; simp)
        subst e'
        rw [ha] at e; cases e
        have d' : Data.seq vs.toArray _ = Data.dict es ep := d
        cases d'
    have nsK : ∀ {b : Addr} {m : Str → Option Value}, s₁.heap.Ns b m → (hidT s₁.heap H).Ns b m := fun {b m} ⟨o, es, ep, e, d, r⟩ => ⟨o, es, ep, base_of e (noA e d), d, r⟩
    have hKb : K.In (hidT s₁.heap H) := fun b o e => base_of (KX b o e) (by
      cases q : H b with
      | none => rfl
      | some u =>
        have e' : b = a := hA b (by rw [q]; simp)
        subst e'
        rw [hK (by rw [q]; simp)] at e; cases e)
    have hM : Mod K mg (hidT s₁.heap H) := ⟨hKb, nsK hns, ⟨mb, nsK hb, hbb⟩, let ⟨mc, h1, h2⟩ := hlim; ⟨mc, nsK h1, h2⟩⟩
    have e0 : Env0 P w K mg (hidT s₁.heap H) callerA [] s₁ H := ⟨rfl, hM, fun b o e => of_hidT e, Nat.le_of_eq (hidT_size _ _), trivial, fun b hb => absurd (show b ∈ ([] : List Addr) from hb) (by simp), hok, .of_eq hg⟩
    refine codeAny_mono ((F _ hKb (nsK hns)).run callerA [] s₁ H ⟨[.ref a], []⟩ [.ref a] [.ref a] _ _ hr e0 (hbind s₁ (.ref a)) (.cons rfl .nil) (hsp H hO hS)) fun r s' h => ?_
    cases r with
    | error e => exact (hCX H e s' h).elim
    | ok fl =>
      cases fl with
      | next => exact False.elim h
      | brk => exact False.elim h
      | cont => exact False.elim h
      | ret u =>
        obtain ⟨v, H', os, bare, un, hok', r', q⟩ := h
        have q' : v = .bl true := q
        subst q'
        obtain rfl : u = Value.bool true := r'
        refine ⟨rfl, OldK.of_keep fun b o e => ?_, os, bare⟩
        cases q : H b with
        | none => exact un.keep b o e q (by intro z; exact absurd (show b ∈ ([] : List Addr) from z) (by simp)) (by simp)
        | some u =>
          rcases hO b with z | ⟨ob, xs, z⟩
          · rw [q] at z; cases z
          · have z2 := un.frzs b ob _ z
            obtain ⟨e1, _⟩ := hok b _ z
            obtain ⟨e2, _⟩ := hok' b _ z2
            rw [e] at e1; cases e1
            exact e2
  cases hk : K.lookup a with
  | some o =>
    -- the script is one of the module's own objects
    have e := KX a o hk
    rw [ha] at e
    cases e
    refine core (fun _ => none) (fun _ => .inl rfl) (.inr ⟨_, vs.toArray, _, hk, rfl, rfl, rfl, by rw [List.size_toArray, lenV]; exact hl, by simpa using rv⟩) (fun b u z => by have z' : (none : Option HO) = some u := z; cases z') (fun b z => absurd rfl z) fun z => absurd rfl z
  | none =>
    refine core (fun b => if b = a then some (.frz { cls := .type "list", data := .seq vs.toArray } (.lst (ns.map V.int))) else none) (fun b => ?_) (.inl (.inr ⟨{ cls := .type "list", data := .seq vs.toArray }, if_pos rfl⟩)) (fun b u z => ?_) (fun b z => ?_) fun _ => hk
    · by_cases hb : b = a
      · exact .inr ⟨_, _, if_pos hb⟩
      · exact .inl (if_neg hb)
    · by_cases hb : b = a
      · have z' := (if_pos hb).symm.trans z
        cases z'
        subst hb
        exact ⟨ha, by rw [List.length_map]; exact hl, vs, _, rv, ha⟩
      · have z' := (if_neg hb).symm.trans z
        cases z'
    · by_cases hb : b = a
      · exact hb
      · exact absurd (if_neg hb) z
end L2

namespace L2
open PySem PySem.Spec PyProof.Rows

abbrev KOf {K : PySem.W.Frag} {h : Heap} (_ : K.In h) : PySem.W.Frag := K

/-- the goal that k_head leaves (case hc), from the law's promise. F gives the function object fd (K's own) once, then the promise over every base -/
theorem walk_of {l : PySem.W.OpenLaw} {n k : Nat} {q : Program} {loose : List Str} {XP : (Str → Option Value) → Heap → Prop} {YP : World → Heap → Prop} {d : DefRec} {K : Params → PySem.W.Frag} {CX : World → CXT} {sp : World → Sp} {x : Str}
    (hn : l.most = some n) (hn2 : n ≤ sizeLine) (hdf : d.params.defaults = []) (hr : Room k callerA)
    (hY : ∀ (w : World) (h : Heap), YP w h → (K w.params).In h)
    (F : ∀ (w : World) (mg : Str → Option Value) (fa : Addr) (h : Heap), (K w.params).In h → h.Ns mainGlobals mg → mg d.name = some (.ref fa) →
      ∃ fd : FuncData, (∀ (s : Shared) (u : Value), BindsTo s fd ⟨[u], []⟩ [(x, u)]) ∧
        ∀ base : Heap, (K w.params).In base → base.Ns mainGlobals mg → FnOk l.prog w (K w.params) mg base (CX w) k fa fd [x] (sp w))
    (hsp : ∀ (w : World) (H : Hp) (a : Addr) (ns : List Int), ns.length ≤ n → Only H → SqL (K w.params) H a (ns.map V.int) → sp w [.ref a] H (fun v _ => v = .bl true) fun _ _ _ => False)
    (hCX : ∀ (w : World) (H : Hp) (s : Shared) (e : Value) (s' : Shared), CX w [] H s (fun _ _ _ => False) e s' → False) :
    PySem.W.WalkO q loose XP YP l.row.toRowW d [] (fun f vs => PySem.call f vs) := by
  refine Att.attach_call hn hdf fun w s₀ s₁ mg mb fa o pm cd doc a vs ns G Y ho hd hcd hmg hobj hints hlen hg => ?_
  have KX := hY w _ Y
  obtain ⟨fd, hb, hF⟩ := F w mg fa _ KX G.T.g hmg
  exact law_call KX G.T.g G.T.b G.T.builtins G.T.nolimit hg hobj hints (Nat.le_trans hlen hn2) hr hF hb (fun H hO hS => hsp w H a ns hlen hO hS) fun H e s' => hCX w H s₁ e s'
/-- the same where the promise hangs on the written part alone: (sp := My.sp_law), no hole under a binder -/
theorem walk_ofK {l : PySem.W.OpenLaw} {n k : Nat} {q : Program} {loose : List Str} {XP : (Str → Option Value) → Heap → Prop} {YP : World → Heap → Prop} {d : DefRec} {K : Params → PySem.W.Frag} {CX : CXT} {sp : PySem.W.Frag → Sp} {x : Str}
    (hn : l.most = some n) (hn2 : n ≤ sizeLine) (hdf : d.params.defaults = []) (hr : Room k callerA)
    (hY : ∀ (w : World) (h : Heap), YP w h → (K w.params).In h)
    (F : ∀ (w : World) (mg : Str → Option Value) (fa : Addr) (h : Heap), (K w.params).In h → h.Ns mainGlobals mg → mg d.name = some (.ref fa) →
      ∃ fd : FuncData, (∀ (s : Shared) (u : Value), BindsTo s fd ⟨[u], []⟩ [(x, u)]) ∧
        ∀ base : Heap, (K w.params).In base → base.Ns mainGlobals mg → FnOk l.prog w (K w.params) mg base CX k fa fd [x] (sp (K w.params)))
    (hsp : ∀ (K : PySem.W.Frag) (H : Hp) (a : Addr) (ns : List Int), ns.length ≤ n → Only H → SqL K H a (ns.map V.int) → sp K [.ref a] H (fun v _ => v = .bl true) fun _ _ _ => False)
    (hCX : ∀ (H : Hp) (s : Shared) (e : Value) (s' : Shared), CX [] H s (fun _ _ _ => False) e s' → False) :
    PySem.W.WalkO q loose XP YP l.row.toRowW d [] (fun f vs => PySem.call f vs) :=
  walk_of (K := K) (CX := fun _ => CX) (sp := fun w => sp (K w.params)) hn hn2 hdf hr hY F (fun w H a ns h1 h2 h3 => hsp (K w.params) H a ns h1 h2 h3) fun _ H s e s' => hCX H s e s'
end L2

/- THE LAST THEOREM (shape; LID, My.* are yours):
   My.Adr: a structure of the addresses that your layer names (classes, functions); My.Txt K t: a structure (Prop) of the equations over K;
   My.txt_mk : {K} {implicit addresses ..} (e1 : nsIn K mainGlobals "law" = some (some (.ref f))) (e2 : K.lookup f = some ⟨oc, od, .func (fnOf "law" "law" params body scope dV kV doc pm an cdv ct), sl⟩) (e3 : codeIn K cdv "law" = true) .. : ∃ t, My.Txt K t

set_option maxRecDepth 100000 in
set_option maxHeartbeats 0 in
theorem PySem.Challenge.cw_LID_holds : PySem.Challenge.rw_LID.Holds := by
  w_on; o_law; k_head; (case hw => w_witness2)
  k_fill
  refine L2.walk_of (l := PySem.Challenge.rw_LID) (n := 63) (k := 40) (x := "script") (CX := fun w => ..) (sp := fun _ => My.sp_law) rfl (by decide) rfl ⟨rfl, by decide, by decide⟩ (fun w h Y => PySem.W.kIn_of Y) ?F ?S ?C
  case F =>
    intro w mg fa h KX G hmg
    have T : ∃ t, My.Txt (L2.KOf KX) t := by
      dsimp only [L2.KOf]                          -- K must stand as «<heap const> w.params» for k_is
      refine' My.txt_mk ?e1 ?e2 ?e3 ..
      (case e1 => PySem.W.k_is)                    -- in the order: a name -> its address -> its object -> its parts
      (case e2 => PySem.W.k_is)
      ..
    obtain ⟨t, T⟩ := T
    have e0 := hmg.symm.trans (PySem.W.mg_of KX G T.law)
    cases e0                                       -- fa is the law's own address
    exact ⟨_, fun s u => .of_eq rfl, fun base kb nb => My.law_fn T kb nb⟩     -- if «.of_eq rfl» comes too early: refine' ⟨_, ?b, fun base kb nb => My.law_fn T kb nb⟩; exact fun s u => .of_eq rfl
  case S => exact fun w H a ns hl hO hS => ..
  case C => exact ..
(the tactic k_is has no namespace: write k_is) -/

/-! SHORT WORDS over the layer: a def of the text, its body, what a loop and a test want. -/
namespace L2
open PySem PySem.Spec PyProof.Rows

/-! ### the text by places -/
/-- the j-th statement of a class's body -/
def inClass (s : Stmt) (j : Nat) : Stmt := match s with
  | .ClassDef _ _ _ body _ _ _ _ _ _ _ => body.getD j (.Pass ⟨0, 0, 0, 0⟩)
  | _ => .Pass ⟨0, 0, 0, 0⟩
def defArgs (s : Stmt) : Arguments := match s with
  | .FunctionDef _ a _ _ _ _ _ _ _ _ => a
  | _ => { posonlyargs := [], args := [], vararg := none, kwonlyargs := [], kw_defaults := [], kwarg := none, defaults := [] }
def defBody (s : Stmt) : List Stmt := match s with
  | .FunctionDef _ _ b _ _ _ _ _ _ _ => b
  | _ => []
def defScope (s : Stmt) : Scope := match s with
  | .FunctionDef _ _ _ _ _ _ sc _ _ _ => sc
  | _ => { kind := .function, names := [], isGenerator := false, isCoroutine := false }

/-! ### no exception leaves a def -/
abbrev CX0 : CXT := fun _ _ _ _ _ _ => False
abbrev E0 : XK := fun _ _ _ => False
theorem pass0 {X : Cx} : Passes CX0 X E0 := fun _ _ _ _ _ _ _ h => h.elim

/-! ### a def (or method) of the text as it stands behind the top -/
structure Fun (K : PySem.W.Frag) (x qual : Str) (st : Stmt) (f : Addr) (fd : FuncData) : Prop where
  ex : ∃ (oc : Value) (od : Option Addr) (kV doc pm : Value) (an : Option Addr) (cdv ct : Value) (osl : Array (Option Value)),
    fd = PySem.W.fnOf x qual (defArgs st) (defBody st) (defScope st) .none kV doc pm an cdv ct ∧ K.lookup f = some ⟨oc, od, .func fd, osl⟩ ∧ PySem.W.codeIn K cdv qual = true
  kp : PySem.W.keepIn K (.ref f) = true
section
variable {P : Program} {w : World} {K : PySem.W.Frag} {mg : Str → Option Value} {base : Heap}
/-- THE RULE for a def: its body as a term of rules, and the reading of that term -/
theorem Fun.ok {x qual : Str} {st : Stmt} {f : Addr} {fd : FuncData} {N ps : List Str} {k : Nat} {sp : Sp} (F : Fun K x qual st f fd) (S : FnScope N ps (defScope st)) (len : ∀ vs H Q E, sp vs H Q E → vs.length = ps.length)
    (hbody : ∀ (cdv : Value) (A : Around) (outer : List Env) (s : Shared) (H : Hp) (vs : List V) (Q : VK) (E : XK), Room k (A.deeper (envOfC qual (defScope st) s.heap.objs.size f cdv)) → sp vs H Q E →
      ∃ t, PSs (cxOf CX0 P w K mg base N qual (defScope st) f cdv A outer s H E).nox (defBody st) t ∧ t { nx := fun _ H' => Q .non H', rt := Q } (start N vs) H) : FnOk P w K mg base CX0 (k + 1) f fd ps sp := by
  obtain ⟨oc, od, kV, doc, pm, an, cdv, ct, osl, rfl, lk, hcd⟩ := F.ex
  refine fn_of lk hcd S len fun A outer s H vs Q E hr hsp => ?_
  obtain ⟨t, h, q⟩ := hbody cdv A outer s H vs Q E hr hsp
  exact ⟨t, h.nox, q⟩
/-- how its arguments bind (no defaults): h is «fun _ _ _ _ _ _ us hl => match us, hl with | [_, _], _ => rfl», one _ a parameter -/
theorem Fun.binds {x qual : Str} {st : Stmt} {f : Addr} {fd : FuncData} {ps : List Str} (F : Fun K x qual st f fd)
    (h : ∀ (kV doc pm : Value) (an : Option Addr) (cdv ct : Value) (us : List Value), us.length = ps.length → bindArgs (PySem.W.fnOf x qual (defArgs st) (defBody st) (defScope st) .none kV doc pm an cdv ct) ⟨us, []⟩ = pure (ps.zip us)) : Binds K fd ps [] := by
  obtain ⟨oc, od, kV, doc, pm, an, cdv, ct, osl, rfl, lk, hcd⟩ := F.ex
  exact .all (h kV doc pm an cdv ct)
theorem fun_mk {x qual : Str} {st : Stmt} {f : Addr} {oc : Value} {od an : Option Addr} {osl : Array (Option Value)} {kV doc pm cdv ct : Value} (l : K.lookup f = some ⟨oc, od, .func (PySem.W.fnOf x qual (defArgs st) (defBody st) (defScope st) .none kV doc pm an cdv ct), osl⟩)
    (c : PySem.W.codeIn K cdv qual = true) (k : PySem.W.keepIn K (.ref f) = true) : Fun K x qual st f (PySem.W.fnOf x qual (defArgs st) (defBody st) (defScope st) .none kV doc pm an cdv ct) := ⟨⟨oc, od, kV, doc, pm, an, cdv, ct, osl, rfl, l, c⟩, k⟩
end
theorem hu_of {A : Around} {k : Nat} (hr : Room k A) : A.units + 1 < cLine := Nat.lt_of_le_of_lt (Nat.add_le_add_left (by decide : 1 ≤ 64) _) hr.units
/-! ### expressions in short: the name that stands in the i-th slot -/
section
variable {X : Cx}
theorem pv (i : Nat) {x : Str} {pos : Pos} (hN : X.N[i]? = some x := by rfl) (hv : Vis X.env.scope x := by first | exact Or.inl rfl | exact Or.inr (Or.inl rfl) | exact Or.inr (Or.inr rfl)) (hd : (x == ("__debug__" : Str)) = false := by decide)
    (hcd : (x == ("__classdict__" : Str)) = false := by decide) : PE X (.Name x pos) (tVar i) := pe_var hN hv hd hcd
end

/-! ### tests -/
theorem iteF {A B : Prop} (h : B) : if false = true then A else B := by
  rw [if_neg Bool.false_ne_true]
  exact h
theorem iteT {A B : Prop} (h : A) : if true = true then A else B := by
  rw [if_pos rfl]
  exact h
theorem ite2 {c A B : Prop} [Decidable c] (h1 : c → A) (h2 : ¬ c → B) : if c then A else B := by
  by_cases h : c
  · rw [if_pos h]
    exact h1 h
  · rw [if_neg h]
    exact h2 h
/-! ### heaps -/
/-- all that was tracked is as it was -/
def Same (H H' : Hp) : Prop := ∀ b o, H b = some o → H' b = some o
theorem Same.refl (H : Hp) : Same H H := fun _ _ h => h
theorem Same.trans {H H1 H2 : Hp} (a : Same H H1) (b : Same H1 H2) : Same H H2 := fun c o h => b c o (a c o h)
theorem Same.free {H H' : Hp} (e : Same H H') {l : Addr} (h : H' l = Option.none) : H l = Option.none := by
  cases q : H l with
  | none => rfl
  | some o =>
    rw [e l o q] at h
    cases h
theorem Same.seq {K : PySem.W.Frag} {H H' : Hp} {a : Addr} {xs : List V} (e : Same H H') (h : SqL K H a xs) : SqL K H' a xs := by
  rcases h with (h | ⟨o, h⟩) | h
  · exact .inl (.inl (e _ _ h))
  · exact .inl (.inr ⟨o, e _ _ h⟩)
  · exact .inr h

end L2


/-! ## comprehensions, over the layer -/
namespace L2
open PySem PySem.Spec PyProof.Rows

/-- the tests of a comprehension -/
def PTs (X : Cx) (ifs : List Expr) (t : TT) : Prop :=
  ∀ (pins : List (Addr × Obj)) (s : Shared) (σ : St) (H : Hp) (Q : Bool → Hp → Prop), Inv X pins σ H s → t σ H Q →
    wpAny (model X.prog X.w) X.A (forIn ifs true fun c r => if r = true then do let ok ← isTrue c X.env (eval c X.env); pure (ForInStep.yield ok) else pure (ForInStep.yield r)) (TP X pins σ Q) X.xe s
def tYes : TT := fun _ H Q => Q true H
theorem pts_nil {X : Cx} : PTs X [] tYes := fun _ _ _ H _ I h => wpAny_tests_nil ⟨H, I, h⟩
theorem pts_one {X : Cx} {c : Expr} {t : TT} (hc : PT X c t) : PTs X [c] t := fun pins s σ H Q I h => wpAny_tests_one (hc pins s σ H Q I h)

/-- a comprehension's turn, whatever the iterator keeps -/
theorem compLoop_any {prog : Program} {w : World} {A : Around} {s : Shared} {R : Result → Shared → Prop} {elt target iter : Expr} {ifs : List Expr} {scope : Scope} {pos : Pos} {it acc : Value} {env : Env} (J : Nat → Shared → Prop)
    (turn : ∀ n s, J n s → wpAny (model prog w) A (pyNext it) (fun r s1 => match r with
      | none => R (.ok .next) s1
      | some v => wpAny (model prog w) A (letOwnedTupleGo target it v) (fun _ s2 => wpAny (model prog w) A (assign target env v) (fun _ s3 =>
          wpAny (model prog w) A (forIn ifs true fun c r => if r = true then do let ok ← isTrue c env (eval c env); pure (ForInStep.yield ok) else pure (ForInStep.yield r)) (fun ok s4 =>
            if ok = true then wpAny (model prog w) A (eval elt env) (fun x s5 =>
              wpAny (model prog w) A (call (.builtin "list.append") [acc, x]) (fun _ s6 => ∃ m, m < n ∧ J m s6) (fun _ _ => False) s5) (fun _ _ => False) s4
            else ∃ m, m < n ∧ J m s4) (fun _ _ => False) s3) (fun _ _ => False) s2) (fun _ _ => False) s1) (fun _ _ => False) s)
    (n : Nat) (h : J n s) : codeAny (model prog w) A (.compLoop (.ListComp elt [⟨target, iter, ifs, 0⟩] scope pos) 0 it acc env) R s := by
  refine codeAny_loop rfl J (fun n s hI => ?_) n h
  show wpAny _ A ((compTurn (.ListComp elt [⟨target, iter, ifs, 0⟩] scope pos) 0 it acc env).onRaise (fun x => do noteFrame x env; theTreesLotGoes x)) _ _ s
  refine wpAny_noted ?_
  rw [compTurn_list]
  refine wpAny_bind (wpAny_standAt (wpAny_bind (wpAny_mono (turn n s hI) (fun r s1 h1 => ?_) fun _ _ z => z.elim)))
  cases r with
  | none => exact wpAny_pure h1
  | some v =>
    refine wpAny_bind (wpAny_mono h1 (fun _ s2 h2 => ?_) fun _ _ z => z.elim)
    refine wpAny_bind (wpAny_mono h2 (fun _ s3 h3 => wpAny_bind (wpAny_mono h3 (fun ok s4 h4 => ?_) fun _ _ z => z.elim)) fun _ _ z => z.elim)
    cases ok with
    | false => exact wpAny_pure ⟨rfl, h4⟩
    | true =>
      exact wpAny_bind (wpAny_bind (wpAny_mono h4 (fun x s5 h5 => wpAny_bind (wpAny_mono h5 (fun _ s6 h6 => wpAny_pure (wpAny_pure ⟨rfl, h6⟩)) fun _ _ z => z.elim)) fun _ _ z => z.elim))

/-! ### the cells that a block sees -/
def closL (cells : List (Str × Addr)) : List (Str × NameKind) → List (Str × Addr) → List (Str × Addr)
  | [], acc => acc
  | (n, k) :: r, acc => if k == .free then closL cells r ((n, (cells.lookup n).getD 0) :: acc) else closL cells r acc
theorem closure_go {env : Env} : ∀ (names : List (Str × NameKind)) (acc : List (Str × Addr)), (∀ y ∈ names, y.2 = .free → ∃ c, env.cells.lookup y.1 = some c) →
    (forIn names acc fun (x : Str × NameKind) (cs : List (Str × Addr)) => (if (x.2 == .free) = true then do let a ← cellOf env x.1; pure (ForInStep.yield ((x.1, a) :: cs)) else pure (ForInStep.yield cs) : Sem (ForInStep (List (Str × Addr))))) = pure (closL env.cells names acc)
  | [], acc, _ => rfl
  | (n, k) :: r, acc, h => by
    have ih := fun acc => closure_go r acc fun y hy => h y (List.mem_cons_of_mem _ hy)
    rw [List.forIn_cons]
    unfold closL
    by_cases hk : (k == NameKind.free) = true
    · obtain ⟨c, hc⟩ := h (n, k) List.mem_cons_self (by simpa using hk)
      have e : cellOf env n = pure c := by
        unfold cellOf
        rw [show env.cells.lookup n = some c from hc]
      simp only [hk, if_true, e, pure_bind]
      rw [ih, show env.cells.lookup n = some c from hc]
      rfl
    · simp only [hk, Bool.false_eq_true, if_false, pure_bind]
      exact ih acc
theorem closure_of {env : Env} {scope : Scope} (h : ∀ y ∈ scope.names, y.2 = .free → ∃ c, env.cells.lookup y.1 = some c) : closureFor scope env = pure (closL env.cells scope.names []) := by
  have e := closure_go scope.names [] h
  unfold closureFor
  simp only [bind_pure] at e ⊢
  exact e
theorem closL_sub {env : Env} : ∀ (names : List (Str × NameKind)) (acc : List (Str × Addr)), (∀ y ∈ names, y.2 = .free → ∃ c, env.cells.lookup y.1 = some c) → (∀ x c, acc.lookup x = some c → env.cells.lookup x = some c) →
    ∀ x c, (closL env.cells names acc).lookup x = some c → env.cells.lookup x = some c
  | [], acc, _, ha, x, c, e => ha x c e
  | (n, k) :: r, acc, h, ha, x, c, e => by
    unfold closL at e
    by_cases hk : (k == NameKind.free) = true
    · rw [if_pos hk] at e
      obtain ⟨d, hd⟩ := h (n, k) List.mem_cons_self (by simpa using hk)
      refine closL_sub r _ (fun y hy => h y (List.mem_cons_of_mem _ hy)) (fun y b q => ?_) x c e
      rw [List.lookup_cons] at q
      by_cases hy : (y == n) = true
      · rw [hy] at q
        have hy' : y = n := by simpa using hy
        have hd' : env.cells.lookup n = some d := hd
        rw [hd'] at q
        have q' : d = b := Option.some.inj q
        rw [hy', hd', q']
      · have hy' : (y == n) = false := by simpa using hy
        rw [hy'] at q
        exact ha y b q
    · rw [if_neg hk] at e
      exact closL_sub r acc (fun y hy => h y (List.mem_cons_of_mem _ hy)) ha x c e
theorem closL_acc {cells : List (Str × Addr)} : ∀ (names : List (Str × NameKind)) (acc : List (Str × Addr)) (x : Str), (acc.lookup x).isSome = true → ((closL cells names acc).lookup x).isSome = true
  | [], _, _, h => h
  | (n, k) :: r, acc, x, h => by
    unfold closL
    by_cases hk : (k == NameKind.free) = true
    · rw [if_pos hk]
      refine closL_acc r _ x ?_
      rw [List.lookup_cons]
      by_cases hx : (x == n) = true
      · rw [hx]; rfl
      · have hx' : (x == n) = false := by simpa using hx
        rw [hx']; exact h
    · rw [if_neg hk]
      exact closL_acc r acc x h
theorem closL_has {cells : List (Str × Addr)} : ∀ (names : List (Str × NameKind)) (acc : List (Str × Addr)) (x : Str), (x, NameKind.free) ∈ names → ((closL cells names acc).lookup x).isSome = true
  | [], _, _, h => nomatch h
  | (n, k) :: r, acc, x, h => by
    unfold closL
    rcases List.mem_cons.mp h with e | h
    · cases e
      rw [if_pos (by rfl)]
      refine closL_acc r _ _ ?_
      rw [List.lookup_cons]
      simp
    · by_cases hk : (k == NameKind.free) = true
      · rw [if_pos hk]; exact closL_has r _ x h
      · rw [if_neg hk]; exact closL_has r _ x h
theorem lookup_relabel {env : Env} : ∀ {names : List (Str × NameKind)} {x : Str} {k : NameKind}, (names.map fun (n, k) => if (k == NameKind.free && env.scope.kind == .function && env.kindOf n == some .cell) then (n, NameKind.cell) else (n, k)).lookup x = some k →
    (k = .cell ∨ k = .free) → (x, NameKind.free) ∈ names ∨ (x, NameKind.cell) ∈ names
  | [], _, _, h, _ => by simp at h
  | (n, q) :: r, x, k, h, hk => by
    have h' : List.lookup x ((if (q == NameKind.free && env.scope.kind == .function && env.kindOf n == some .cell) = true then (n, NameKind.cell) else (n, q)) :: r.map fun (n, k) => if (k == NameKind.free && env.scope.kind == .function && env.kindOf n == some .cell) then (n, NameKind.cell) else (n, k)) = some k := h
    by_cases hc : (q == NameKind.free && env.scope.kind == .function && env.kindOf n == some .cell) = true
    · rw [if_pos hc, List.lookup_cons] at h'
      have hq : q = .free := by
        simp only [Bool.and_eq_true, beq_iff_eq] at hc
        exact hc.1.1
      by_cases hx : (x == n) = true
      · have hx' : x = n := by simpa using hx
        subst hx'; subst hq
        exact .inl List.mem_cons_self
      · have hx' : (x == n) = false := by simpa using hx
        rw [hx'] at h'
        rcases lookup_relabel (env := env) h' hk with z | z
        · exact .inl (List.mem_cons_of_mem _ z)
        · exact .inr (List.mem_cons_of_mem _ z)
    · rw [if_neg hc, List.lookup_cons] at h'
      by_cases hx : (x == n) = true
      · rw [hx] at h'
        have hx' : x = n := by simpa using hx
        subst hx'
        have e : q = k := Option.some.inj h'
        subst e
        rcases hk with rfl | rfl
        · exact .inr List.mem_cons_self
        · exact .inl List.mem_cons_self
      · have hx' : (x == n) = false := by simpa using hx
        rw [hx'] at h'
        rcases lookup_relabel (env := env) h' hk with z | z
        · exact .inl (List.mem_cons_of_mem _ z)
        · exact .inr (List.mem_cons_of_mem _ z)
theorem relabel_free {env : Env} : ∀ {names : List (Str × NameKind)} {x : Str}, names.lookup x = some .free →
    (names.map fun (n, k) => if (k == NameKind.free && env.scope.kind == .function && env.kindOf n == some .cell) then (n, NameKind.cell) else (n, k)).lookup x = some .cell ∨
    (names.map fun (n, k) => if (k == NameKind.free && env.scope.kind == .function && env.kindOf n == some .cell) then (n, NameKind.cell) else (n, k)).lookup x = some .free
  | [], _, h => by simp at h
  | (n, q) :: r, x, h => by
    show List.lookup x ((if (q == NameKind.free && env.scope.kind == .function && env.kindOf n == some .cell) = true then (n, NameKind.cell) else (n, q)) :: _) = _ ∨ List.lookup x ((if (q == NameKind.free && env.scope.kind == .function && env.kindOf n == some .cell) = true then (n, NameKind.cell) else (n, q)) :: _) = _
    rw [List.lookup_cons] at h
    by_cases hc : (q == NameKind.free && env.scope.kind == .function && env.kindOf n == some .cell) = true
    · rw [if_pos hc, List.lookup_cons]
      by_cases hx : (x == n) = true
      · rw [hx]; exact .inl rfl
      · have hx' : (x == n) = false := by simpa using hx
        rw [hx'] at h ⊢
        exact relabel_free h
    · rw [if_neg hc, List.lookup_cons]
      by_cases hx : (x == n) = true
      · rw [hx] at h ⊢; exact .inr h
      · have hx' : (x == n) = false := by simpa using hx
        rw [hx'] at h ⊢
        exact relabel_free h

/-! ### the block -/
/-- the context of a comprehension's block -/
def cxC (X : Cx) (N' : List Str) (scope : Scope) (C : Addr) (s : Shared) (H : Hp) (fp : List Addr) : Cx where
  prog := X.prog
  w := X.w
  K := X.K
  mg := X.mg
  base := X.base
  A := X.A
  N := N'
  s₀ := s
  H₀ := H
  env := compEnvC scope (closL X.env.cells scope.names []) C X.env
  outer := X.stack
  stack := X.stack
  ex := fp
  fn := fun _ => false
  calm := X.calm
  pn := []
  xe := fun _ _ => False
/-- the block's values at a turn's start: its own names unknown, the seen ones as they are -/
def σC (o : Nat) (fr : List Nat) (σ : St) : St := List.replicate o none ++ fr.map fun j => (σ[j]?).join
/-- what the text must be like: sc0, N: the scope and the names around; names N' of the block, its o own ones first, behind them those it sees, at the places fr of N -/
structure CompScope (sc0 : Scope) (N N' : List Str) (o : Nat) (fr : List Nat) (scope : Scope) : Prop where
  kind : scope.kind = .function
  nocell : (scope.names.all fun y => y.2 != .cell) = true
  loc : (scope.names.all fun y => y.2 != .local || scope.names.lookup y.1 == some .local) = true
  free : (scope.names.all fun y => y.2 != .free || sc0.names.lookup y.1 == some .cell || sc0.names.lookup y.1 == some .free) = true
  len : N'.length = o + fr.length
  sees : ((List.range fr.length).all fun j => match fr[j]? with
    | none => false
    | some y => match N[y]? with
      | none => false
      | some x => N'[o + j]? == some x && scope.names.lookup x == some .free) = true
/-- the reading. W: turn, measure, the items so far, heap -/
def LcR (J : It) (g : TG) (tt : TT) (te : TE) (o : Nat) (fr : List Nat) (σ : St) (H1 : Hp) (Q : VK) : Prop := ∃ W : Nat → Nat → List V → Hp → Prop, (∃ m, W 0 m [] H1) ∧ ∀ i m ys H, W i m ys H →
  (J.stop i H ∧ ys.length ≤ sizeLine ∧ ∀ p, H p = none → Q (.ref p) (upd H p (.lst ys))) ∨
  (J.go i H ∧ ys.length < sizeLine ∧ ∀ x H', J.yld i H x H' → g x (σC o fr σ) H' fun σ2 H2 => tt σ2 H2 fun b H3 => if b = true then te σ2 H3 fun y H4 => ∃ m', m' < m ∧ W (i + 1) m' (ys ++ [y]) H4 else ∃ m', m' < m ∧ W (i + 1) m' ys H3)
def tLc (wi : TI) (g : TG) (tt : TT) (te : TE) (o : Nat) (fr : List Nat) : TE := fun σ H Q => wi σ H fun J H1 => LcR J g tt te o fr σ H1 Q
/-- a target that stores into the own names alone -/
def OwnG (o : Nat) (g : TG) : Prop := ∀ (x : V) (ow fr : St) (H : Hp) (Q : St → Hp → Prop), ow.length = o → g x (ow ++ fr) H Q → g x (ow ++ fr) H fun σ2 H2 => (∃ ow', ow'.length = o ∧ σ2 = ow' ++ fr) ∧ Q σ2 H2
theorem own_name {o i : Nat} (h : i < o) : OwnG o (gName i) := fun x ow fr H Q hl q => ⟨⟨ow.set i (some x), by rw [List.length_set]; exact hl, by rw [List.set_append_left _ _ (by omega)]⟩, q⟩
section
variable {X : Cx} {pins : List (Addr × Obj)} {σ : St} {H : Hp} {s : Shared} {N' : List Str} {o : Nat} {fr : List Nat} {scope : Scope} {fp : List Addr}
abbrev accObj (us : List Value) : Obj := { cls := .type "list", data := .seq us.toArray us.length }
theorem CompScope.nocell' {sc0 : Scope} {N : List Str} (S : CompScope sc0 N N' o fr scope) : ∀ y ∈ scope.names, y.2 ≠ .cell := fun y hy e => by
  have q := List.all_eq_true.mp S.nocell y hy
  rw [e] at q
  exact absurd q (by decide)
theorem CompScope.loc' {sc0 : Scope} {N : List Str} (S : CompScope sc0 N N' o fr scope) : ∀ y ∈ scope.names, y.2 = .local → scope.names.lookup y.1 = some .local := fun y hy e => by
  have q := List.all_eq_true.mp S.loc y hy
  rw [e] at q
  simpa using q
theorem CompScope.free' {sc0 : Scope} {N : List Str} (S : CompScope sc0 N N' o fr scope) (hs : X.env.scope = sc0) : ∀ y ∈ scope.names, y.2 = .free → X.env.kindOf y.1 = some .cell ∨ X.env.kindOf y.1 = some .free := fun y hy e => by
  have q := List.all_eq_true.mp S.free y hy
  rw [e] at q
  show X.env.scope.names.lookup y.1 = _ ∨ X.env.scope.names.lookup y.1 = _
  rw [hs]
  simpa using q
theorem CompScope.sees' {sc0 : Scope} {N : List Str} (S : CompScope sc0 N N' o fr scope) : ∀ j y, fr[j]? = some y → ∃ x, N[y]? = some x ∧ N'[o + j]? = some x ∧ scope.names.lookup x = some .free := fun j y e => by
  have hj : j < fr.length := (List.getElem?_eq_some_iff.mp e).1
  have q := List.all_eq_true.mp S.sees j (List.mem_range.mpr hj)
  rw [e] at q
  dsimp only at q
  cases ex : N[y]? with
  | none => rw [ex] at q; cases q
  | some x =>
    rw [ex] at q
    dsimp only at q
    rw [Bool.and_eq_true, beq_iff_eq, beq_iff_eq] at q
    exact ⟨x, rfl, q.1, q.2⟩
theorem CompScope.cells {sc0 : Scope} {N0 : List Str} (S : CompScope sc0 N0 N' o fr scope) (hs : X.env.scope = sc0) (I : Inv X pins σ H s) : ∀ y ∈ scope.names, y.2 = .free → ∃ c, X.env.cells.lookup y.1 = some c := fun y hy e => I.ok.has y.1 (S.free' hs y hy e)
theorem CompScope.sub {sc0 : Scope} {N0 : List Str} (S : CompScope sc0 N0 N' o fr scope) (hs : X.env.scope = sc0) (I : Inv X pins σ H s) : ∀ x c, (closL X.env.cells scope.names []).lookup x = some c → X.env.cells.lookup x = some c :=
  closL_sub (env := X.env) scope.names [] (S.cells hs I) (fun _ _ z => nomatch z)
/-- the block's entry: the list at D, the block's names at C -/
theorem Inv.block {sc0 : Scope} {N0 : List Str} (S : CompScope sc0 N0 N' o fr scope) (hs : X.env.scope = sc0) (hN : X.N = N0) (I : Inv X pins σ H s) (hf : ∀ b ∈ fp, FpOk X pins H b) (hfl : ∀ b ∈ fp, b < s.heap.objs.size) {h1 : Heap} {C D : Addr} {m : Str → Option Value} {us : List Value} {t : Nat}
    (hC : s.heap.objs.size ≤ C) (hD : s.heap.objs.size ≤ D) (hDC : D ≠ C)
    (old : ∀ b ob, s.heap.get? b = some ob → h1.get? b = some ob) (hn : h1.Ns C m) (ha : h1.get? D = some (accObj us)) : Inv (cxC X N' scope C s H fp) [(D, accObj us)] (σC o fr σ) H { s with heap := h1, toks := t } := by
  have sub := S.sub hs I
  have frC : ∀ b ∈ frs X.stack, b < s.heap.objs.size := fun b hb => by
    obtain ⟨_, ob, ho, _⟩ := I.stack.mem hb
    exact Heap.lt_size ho
  refine ⟨⟨I.ok.mod, S.kind, I.ok.glob, I.ok.blt, hC, fun x y c h1 h2 => I.ok.inj x y c (sub x c h1) (sub y c h2), fun x hx => ?_, fun x c hfx _ => (nomatch hfx), I.ok.hd, I.ok.frames, .inl rfl, fun b hb => ?_, I.bs, Nat.le_trans I.ok.bsz I.sz, fun b ob e hb => ?_, fun b hb hb' => ?_, I.stack, I.stkFree⟩,
    rfl, I.bare, Un.kept old, ⟨m, hn, fun i x v e1 e2 e3 => ?_⟩, fun x c e => ?_, I.hok.fresh hC, fun x c e => I.freeC x c (sub x c e), fun p hp => ?_, I.hok.kept old, ?_⟩
  · have hx' : (relabel scope X.env).names.lookup x = some .cell ∨ (relabel scope X.env).names.lookup x = some .free := hx
    have key : (x, NameKind.free) ∈ scope.names := by
      rcases hx' with z | z
      · rcases lookup_relabel (env := X.env) z (.inl rfl) with q | q
        · exact q
        · exact absurd rfl (S.nocell' _ q)
      · rcases lookup_relabel (env := X.env) z (.inr rfl) with q | q
        · exact q
        · exact absurd rfl (S.nocell' _ q)
    exact Option.isSome_iff_exists.mp (closL_has (cells := X.env.cells) scope.names [] x key)
  · obtain ⟨f0, f1, f2, f3, f4, f5⟩ := hf b hb
    exact ⟨Nat.ne_of_lt (Nat.lt_of_lt_of_le (hfl b hb) hC), fun x c e => f4 x c (sub x c e)⟩
  · obtain ⟨f0, f1, f2, f3, f4, f5⟩ := hf b hb
    rcases f3 with z | z
    · exact I.ok.noex b ob e z
    · exact absurd (Nat.lt_of_lt_of_le (Heap.lt_size e) (Nat.le_trans I.ok.bsz z)) (Nat.lt_irrefl _)
  · obtain ⟨f0, f1, f2, f3, f4, f5⟩ := hf b hb
    rcases List.mem_cons.mp (I.stkSub b hb') with z | z
    · exact f1 z
    · exact f2 z
  · unfold σC at e2
    by_cases hi : i < o
    · rw [List.getElem?_append_left (by rw [List.length_replicate]; exact hi), List.getElem?_replicate, if_pos hi] at e2
      cases e2
    · rw [List.getElem?_append_right (by rw [List.length_replicate]; exact Nat.not_lt.mp hi), List.length_replicate, List.getElem?_map] at e2
      cases hy : fr[i - o]? with
      | none => rw [hy] at e2; cases e2
      | some y =>
        rw [hy] at e2
        have e2' : (σ[y]?).join = some v := Option.some.inj e2
        have e3' : σ[y]? = some (some v) := by
          cases q : σ[y]? with
          | none => rw [q] at e2'; cases e2'
          | some z => rw [q] at e2'; exact congrArg some e2'
        obtain ⟨x', s2, s1, s3⟩ := S.sees' (i - o) y hy
        rw [← hN] at s2
        rw [show o + (i - o) = i by omega] at s1
        have ex : x = x' := by
          have e1' : N'[i]? = some x := e1
          rw [e1'] at s1
          exact Option.some.inj s1
        subst ex
        have hmem := PySem.mem_of_lookup s3
        obtain ⟨m0, _, hl⟩ := I.loc
        have hk := S.free' hs (x, .free) hmem rfl
        obtain ⟨u, ru, lk⟩ := hl y x v s2 e3' (by rcases hk with z | z; exact .inr (.inl z); exact .inr (.inr z))
        refine ⟨u, ru, .inr ⟨relabel_free (env := X.env) s3, ?_⟩⟩
        obtain ⟨c', hc'⟩ := Option.isSome_iff_exists.mp (closL_has (cells := X.env.cells) scope.names [] x hmem)
        refine ⟨c', hc', ?_⟩
        rcases lk with ⟨z, _⟩ | ⟨_, c, e, ob, ho, hd⟩
        · rcases hk with z' | z'
          · rw [z] at z'; cases z'
          · rw [z] at z'; cases z'
        · have ec : c = c' := by
            have := sub x c' hc'
            rw [e] at this
            exact Option.some.inj this
          subst ec
          exact ⟨ob, old _ _ ho, hd⟩
  · obtain ⟨v, ob, ho, hd⟩ := I.cell x c (sub x c e)
    exact ⟨v, ob, old _ _ ho, hd⟩
  · have e : p = (D, accObj us) := by simpa using (show p ∈ ([] : List (Addr × Obj)) ++ [(D, accObj us)] from hp)
    subst e
    refine ⟨ha, I.hok.fresh hD, hDC, fun z => absurd (Nat.lt_of_lt_of_le (frC D z) hD) (Nat.lt_irrefl _), fun v z => nomatch z⟩
  · show (σC o fr σ).length = N'.length
    unfold σC
    rw [List.length_append, List.length_replicate, List.length_map, S.len]
/-- the block's end, seen from the def: the new list is tracked, the block's names are pinned -/
theorem Inv.unblock (I : Inv X pins σ H s) (hf : ∀ b ∈ fp, FpOk X pins H b) {C D : Addr} {us : List Value} {ys : List V} {σ' : St} {H' : Hp} {s' : Shared} (hC : s.heap.objs.size ≤ C) (hD : s.heap.objs.size ≤ D) (hDC : D ≠ C)
    (I' : Inv (cxC X N' scope C s H fp) [(D, accObj us)] σ' H' s') (r : Vals ys us) (hz : ys.length ≤ sizeLine) : ∃ oC m, s'.heap.get? C = some oC ∧ s'.heap.Ns C m ∧ Inv X (pins ++ [(C, oC)]) σ (upd H' D (.lst ys)) s' := by
  obtain ⟨aD, nD, _, _, _⟩ := I'.pin (D, accObj us) (by simp)
  have aD : s'.heap.get? D = some (accObj us) := aD
  have nD : H' D = none := nD
  have un : Un (frs X.stack) fp H H' s.heap s'.heap := I'.base
  have lt : ∀ b u, H b = some u → b ≠ D := fun b u e => Nat.ne_of_lt (Nat.lt_of_lt_of_le (I.hok.lt e) hD)
  have un2 : Un (frs X.stack) fp H (upd H' D (.lst ys)) s.heap s'.heap := by
    refine ⟨un.keep, un.slot, fun b ob e n hx => ?_, un.there, fun b xs e => ?_, fun b ob u e => ?_, fun b ps e => ?_⟩
    · rw [upd_ne (Nat.ne_of_lt (Nat.lt_of_lt_of_le (Heap.lt_size e) hD))]
      exact un.free b ob e n hx
    · rw [upd_ne (lt b _ e)]; exact un.tups b xs e
    · rw [upd_ne (lt b _ e)]; exact un.frzs b ob u e
    · obtain ⟨more, q⟩ := un.tbls b ps e
      exact ⟨more, by rw [upd_ne (lt b _ e)]; exact q⟩
  have hok : HOk X.prog X.w (upd H' D (.lst ys)) s'.heap := fun b u e => by
    by_cases hb : b = D
    · subst hb
      rw [upd_same] at e
      cases e
      exact ⟨hz, us, us.length, r, aD⟩
    · rw [upd_ne hb] at e
      exact (I'.hok b u e).stay (fun c v _ q => q) (fun c q => by rw [upd_ne (ne_of_none q nD)]; exact q) fun c xs q => by rw [upd_ne (ne_of_none q nD)]; exact q
  have os : s'.os = s.os := I'.os
  have J : Inv X pins σ (upd H' D (.lst ys)) s' := I.call' (ch := fp) os un2 hok I'.bare fun b hb => by
    obtain ⟨f0, f1, f2, f3, f4, f5⟩ := hf b hb
    exact ⟨f3, f1, f4, f5⟩
  obtain ⟨m, hn, _⟩ := I'.loc
  have hn : s'.heap.Ns C m := hn
  obtain ⟨oC, es, ep, hoC, hdC, _⟩ := id hn
  refine ⟨oC, m, hoC, hn, J.pins_of fun p hp => ?_⟩
  rcases List.mem_append.mp hp with z | z
  · exact J.pin p (List.mem_append_right _ z)
  · have e : p = (C, oC) := by simpa using z
    subst e
    have nC : H' C = none := I'.free
    refine ⟨hoC, by rw [upd_ne (Ne.symm hDC)]; exact nC, Nat.ne_of_gt (Nat.lt_of_lt_of_le I.lt hC), I.nofs hC, fun v z => ?_⟩
    have z' : oC.data = .cell v := z
    rw [hdC] at z'
    cases z'
end

section
variable {X : Cx} {N' : List Str} {o : Nat} {fr : List Nat} {scope : Scope} {elt tg iter : Expr} {ifs : List Expr} {pos : Pos} {wi : TI} {g : TG} {tt : TT} {te : TE}
/-- a comprehension runs; use: what is done with the list while the block's names still stand -/
theorem lc_run (hc : X.calm = true) {sc0 : Scope} {N0 : List Str} (S : CompScope sc0 N0 N' o fr scope) (hi : PI X tg iter wi) (ho : OwnG o g)
    (hg : ∀ (C : Addr) (s : Shared) (H : Hp) (fp : List Addr), PG (cxC X N' scope C s H fp) tg g)
    (ht : ∀ (C : Addr) (s : Shared) (H : Hp) (fp : List Addr), PTs (cxC X N' scope C s H fp) ifs tt)
    (he : ∀ (C : Addr) (s : Shared) (H : Hp) (fp : List Addr), PE (cxC X N' scope C s H fp) elt te)
    (hs : ∀ x, foldedSetIterable iter X.env x = pure x) (hsc : X.env.scope = sc0) (hN0 : X.N = N0) {pins : List (Addr × Obj)} {s : Shared} {σ : St} {H : Hp} {Qv : VK} (I : Inv X pins σ H s) (h : tLc wi g tt te o fr σ H Qv)
    {use : Option (Value → Sem Unit)} {Q : Value → Shared → Prop} {E : Value → Shared → Prop}
    (hE : ∀ e s', X.xe e s' → E e s')
    (fin : ∀ (C oC D : _) (m : Str → Option Value) (H' : Hp) (ys : List V) (s' : Shared), Inv X (pins ++ [(C, oC)]) σ (upd H' D (.lst ys)) s' → Qv (.ref D) (upd H' D (.lst ys)) → s'.heap.Ns C m → H' C = none → C ≠ D →
      C ≠ X.env.locals → X.s₀.heap.objs.size ≤ C → (∀ x c, X.env.cells.lookup x = some c → c ≠ C) → (∀ p ∈ X.pn ++ pins, p.1 ≠ C) → compPost (model X.prog X.w) X.A E use Q (.ref D) C (.ok .next) s') :
    wpAny (model X.prog X.w) X.A (comprehension (.ListComp elt [⟨tg, iter, ifs, 0⟩] scope pos) scope X.env (firstIterPos [⟨tg, iter, ifs, 0⟩] pos) (newList []) false (eval iter X.env) use) Q E s := by
  refine wpAny_comprehension_free (use := use) rfl hs (closure_of (S.cells hsc I)) S.kind S.loc' (wpAny_mono (hi pins s σ H _ I h) (fun xv s1 h1 => wpAny_mono h1 (fun itv s2 h2 => ?_) hE) hE)
  obtain ⟨it, fp, tn, J, H2, rfl, I2, T, st2, f2, W, ⟨m0, w0⟩, turn⟩ := h2
  have hfl : ∀ b ∈ fp, b < s2.heap.objs.size := fun b hb => by
    obtain ⟨ob, e, _⟩ := T.obj 0 _ st2 b hb
    exact Heap.lt_size e
  refine wpAny_newObj_type (wpAny_newFunctionEnv S.nocell' (by intro y hy; simp at hy) (fun h1 hns1 hsb1 => ?_) S.kind)
  dsimp only at hns1 hsb1 ⊢
  generalize hH2 : s2.heap.push { cls := .type "list", dict := none, data := .seq ([] : List Value).toArray } = G at hns1 hsb1 ⊢
  have hCe : G.objs.size = s2.heap.objs.size + 1 := by rw [← hH2, Heap.size_push]
  have hC : s2.heap.objs.size ≤ G.objs.size := by rw [hCe]; exact Nat.le_succ _
  have hDC : s2.heap.objs.size ≠ G.objs.size := by rw [hCe]; exact Nat.ne_of_lt (Nat.lt_succ_self _)
  have old : ∀ b ob, s2.heap.get? b = some ob → h1.get? b = some ob := fun b ob e =>
    hsb1.extBut b ob (Nat.ne_of_lt (Nat.lt_of_lt_of_le (Heap.lt_size e) hC)) (Heap.get?_push_of_some _ (hH2 ▸ Heap.get?_push_of_some _ e))
  have hacc : h1.get? s2.heap.objs.size = some (accObj []) := hsb1.extBut _ _ hDC (Heap.get?_push_of_some _ (hH2 ▸ Heap.get?_push_size _ rfl))
  have st1 : tn 0 h1 := T.keep _ _ _ st2 fun b _ ob e => old b ob e
  have fpC : ∀ {us : List Value} {H' : Hp}, (∀ b ∈ fp, H' b = none) → ∀ b ∈ fp, FpOk (cxC X N' scope G.objs.size s2 H2 fp) [(s2.heap.objs.size, accObj us)] H' b := fun {us H'} hn b hb => by
    obtain ⟨f0, f1, f3, f4, f5, f6⟩ := f2 b hb
    refine ⟨hn b hb, Nat.ne_of_lt (Nat.lt_of_lt_of_le (hfl b hb) hC), fun z => ?_, .inl hb, fun x c e => f5 x c (S.sub hsc I2 x c e), fun p hp => ?_⟩
    · rcases List.mem_cons.mp (I2.stkSub b z) with q | q
      · exact f1 q
      · exact f3 q
    · have e : p = (s2.heap.objs.size, accObj us) := by simpa using (show p ∈ ([] : List (Addr × Obj)) ++ [(s2.heap.objs.size, accObj us)] from hp)
      subst e
      exact Nat.ne_of_gt (hfl b hb)
  have loop : ∀ s3 : Shared, s3 = { s2 with heap := h1, toks := s2.toks + ([] : List (Str × Value)).length } →
      codeAny (model X.prog X.w) X.A (.compLoop (.ListComp elt [⟨tg, iter, ifs, 0⟩] scope pos) 0 (.ref it) (.ref s2.heap.objs.size) (compEnvC scope (closL X.env.cells scope.names []) G.objs.size X.env))
        (compPost (model X.prog X.w) X.A E use Q (.ref s2.heap.objs.size) G.objs.size) s3 := by
    rintro s3 rfl
    refine compLoop_any (fun n s' => ∃ i σ' H' ys us, Inv (cxC X N' scope G.objs.size s2 H2 fp) [(s2.heap.objs.size, accObj us)] σ' H' s' ∧ σ' = σC o fr σ ∧ Vals ys us ∧ tn i s'.heap ∧ (∀ b ∈ fp, H' b = none) ∧ W i n ys H') ?_ m0
      ⟨0, _, H2, [], [], I2.block S hsc hN0 f2 hfl hC (Nat.le_refl _) hDC old hns1 hacc, rfl, .nil, st1, fun b hb => (f2 b hb).1, w0⟩
    rintro n s' ⟨i, σ', H', ys, us, I', rfl, rv, st', fr', w'⟩
    rcases turn i n ys H' w' with ⟨stop, hz, q⟩ | ⟨go, hz, step⟩
    · refine thn (T.done (cxC X N' scope G.objs.size s2 H2 fp) rfl rfl rfl hc i _ s' _ H' _ I' (fpC fr') st' stop) fun r s4 ⟨hr, I4⟩ => ?_
      subst hr
      obtain ⟨oC, m, hoC, hn, J4⟩ := I2.unblock f2 hC (Nat.le_refl _) hDC I4 rv hz
      exact fin _ oC _ m H' ys s4 J4 (q _ (I4.pin (s2.heap.objs.size, accObj us) (by simp)).2.1) hn I4.free (Ne.symm hDC) (Nat.ne_of_gt (Nat.lt_of_lt_of_le I2.lt hC)) (Nat.le_trans I2.sz hC)
        (fun x c e => by obtain ⟨v, z⟩ := I2.cell x c e; exact Nat.ne_of_lt (Nat.lt_of_lt_of_le z.lt hC)) fun p hp => Nat.ne_of_lt (Nat.lt_of_lt_of_le (Heap.lt_size (I2.pin p hp).1) hC)
    · refine thn (T.item (cxC X N' scope G.objs.size s2 H2 fp) rfl rfl rfl hc i _ s' _ H' _ I' (fpC fr') st' go) fun r s4 ⟨u, hr, h4⟩ => ?_
      subst hr
      refine thn h4 fun _ s5 ⟨x, H5, I5, r5, y5, st5, fr5⟩ => ?_
      have hst := step x H5 y5
      have hst' := ho x (List.replicate o none) (fr.map fun j => (σ[j]?).join) H5 _ (List.length_replicate ..) hst
      -- the iterator's records are pinned while the block's own code runs
      have I5' := I5.pinned (fpC (us := us) fr5) (T.obj _ _ st5)
      refine thn (hg _ _ _ _ _ s5 _ H5 x u _ I5' r5 hst') fun _ s6 ⟨σ6, H6, I6, ⟨ow, hol, e6⟩, q6⟩ => ?_
      subst e6
      refine thn (ht _ _ _ _ _ s6 _ H6 _ I6 q6) fun b s7 ⟨H7, I7, q7⟩ => ?_
      have back : ∀ {us' : List Value} {σ8 : St} {H8 : Hp} {s8 : Shared}, Inv (cxC X N' scope G.objs.size s2 H2 fp) ([(s2.heap.objs.size, accObj us')] ++ pinsAt fp s5.heap) (ow ++ fr.map fun j => (σ[j]?).join) H8 s8 →
          Inv (cxC X N' scope G.objs.size s2 H2 fp) [(s2.heap.objs.size, accObj us')] (σC o fr σ) H8 s8 ∧ tn (i + 1) s8.heap ∧ ∀ b ∈ fp, H8 b = none := fun {us' σ8 H8 s8} I8 => by
        refine ⟨I8.unpinned.weak ?_ fun j v e => ?_, T.keep _ _ _ st5 fun b hb ob e => (I8.pin (b, ob) (List.mem_append_right _ (List.mem_append_right _ (mem_pinsAt hb e)))).1, fun b hb => ?_⟩
        · unfold σC
          rw [List.length_append, List.length_append, List.length_replicate, hol]
        · unfold σC at e
          by_cases hj : j < o
          · rw [List.getElem?_append_left (by rw [List.length_replicate]; exact hj), List.getElem?_replicate, if_pos hj] at e
            cases e
          · rw [List.getElem?_append_right (by rw [List.length_replicate]; exact Nat.not_lt.mp hj), List.length_replicate] at e
            rw [List.getElem?_append_right (by rw [hol]; exact Nat.not_lt.mp hj), hol]
            exact e
        · obtain ⟨ob, e, _⟩ := T.obj _ _ st5 b hb
          exact (I8.pin (b, ob) (List.mem_append_right _ (List.mem_append_right _ (mem_pinsAt hb e)))).2.1
      cases b with
      | false =>
        rw [if_neg Bool.false_ne_true] at q7 ⊢
        obtain ⟨m', hm, w7⟩ := q7
        obtain ⟨I8, st8, fr8⟩ := back (us' := us) (σ8 := []) I7
        exact ⟨m', hm, i + 1, _, H7, ys, us, I8, rfl, rv, st8, fr8, w7⟩
      | true =>
        rw [if_pos rfl] at q7 ⊢
        refine thn (he _ _ _ _ _ s7 _ H7 _ I7 q7) fun y s8 ⟨yv, H8, I8, r8, m', hm, w8⟩ => ?_
        obtain ⟨aD, nD, _, _, _⟩ := I8.pin (s2.heap.objs.size, accObj us) (by simp)
        have aD : s8.heap.get? s2.heap.objs.size = some (accObj us) := aD
        have nD : H8 s2.heap.objs.size = none := nD
        have hul : us.length ≤ sizeLine := by rw [← rv.length]; exact Nat.le_of_lt hz
        refine append_at (hsz := by show us.toArray.size ≤ sizeLine; rw [List.size_toArray]; exact hul) aD fun h9 hs9 hD9 => ?_
        have hD9' : h9.get? s2.heap.objs.size = some (accObj (us ++ [y])) := by
          rw [hD9]
          show some ({ cls := .type "list", data := .seq (us.toArray.push y) (us.length + 1) } : Obj) = some { cls := .type "list", data := .seq (us ++ [y]).toArray (us ++ [y]).length }
          rw [List.length_append, List.length_singleton, List.push_toArray]
        have I9 : Inv (cxC X N' scope G.objs.size s2 H2 fp) (pinsAt fp s5.heap) (ow ++ fr.map fun j => (σ[j]?).join) H8 { s8 with heap := h9 } :=
          (I8.pins_of (pins' := pinsAt fp s5.heap) fun p hp => I8.pin p (List.mem_append_right _ (List.mem_append_right _ hp))).turned (t' := s8.toks) (it := s2.heap.objs.size) (fun b ob hb e => hs9.extBut b ob hb e) nD hDC (.inr (Nat.le_refl _))
            (fun x c e => by
              obtain ⟨v, z⟩ := I2.cell x c (S.sub hsc I2 x c e)
              exact Nat.ne_of_lt z.lt)
            fun p hp => by
              obtain ⟨hb, _⟩ := of_pinsAt (show p ∈ pinsAt fp s5.heap from by simpa [cxC] using hp)
              exact Nat.ne_of_lt (hfl p.1 hb)
        have I9' : Inv (cxC X N' scope G.objs.size s2 H2 fp) ([(s2.heap.objs.size, accObj (us ++ [y]))] ++ pinsAt fp s5.heap) (ow ++ fr.map fun j => (σ[j]?).join) H8 { s8 with heap := h9 } :=
          I9.pins_of fun p hp => by
            rcases List.mem_append.mp hp with z | z
            · have e : p = (s2.heap.objs.size, accObj (us ++ [y])) := by simpa using z
              subst e
              refine ⟨hD9', nD, hDC, fun z => ?_, fun v z => nomatch z⟩
              obtain ⟨_, ob, hob, _⟩ := I2.stack.mem z
              exact Nat.lt_irrefl _ (Heap.lt_size hob)
            · exact I9.pin p (List.mem_append_right _ z)
        obtain ⟨I10, st10, fr10⟩ := back (us' := us ++ [y]) (σ8 := []) I9'
        exact ⟨m', hm, i + 1, _, H8, ys ++ [yv], us ++ [y], I10, rfl, Vals.append rv (.cons r8 .nil), st10, fr10, w8⟩
  exact codeAny_compStart_list (loop _ rfl) (T.self _ 0 _ _ _ st1 (loop _ rfl))

/-- [elt for tg in iter if ..] -/
theorem pe_lc (hc : X.calm = true) {sc0 : Scope} {N0 : List Str} (S : CompScope sc0 N0 N' o fr scope) (hi : PI X tg iter wi) (ho : OwnG o g)
    (hg : ∀ (C : Addr) (s : Shared) (H : Hp) (fp : List Addr), PG (cxC X N' scope C s H fp) tg g)
    (ht : ∀ (C : Addr) (s : Shared) (H : Hp) (fp : List Addr), PTs (cxC X N' scope C s H fp) ifs tt)
    (he : ∀ (C : Addr) (s : Shared) (H : Hp) (fp : List Addr), PE (cxC X N' scope C s H fp) elt te)
    (hs : ∀ x, foldedSetIterable iter X.env x = pure x := by intro _; rfl) (hsc : X.env.scope = sc0 := by rfl) (hN0 : X.N = N0 := by rfl) : PE X (.ListComp elt [⟨tg, iter, ifs, 0⟩] scope pos) (tLc wi g tt te o fr) := by
  intro pins s σ H Q I h
  rw [eval_ListComp]
  refine lc_run hc S hi ho hg ht he hs hsc hN0 I h (use := none) (fun _ _ z => z) fun C oC D m H' ys s' J q hn nC hCD hCL hCs hCc hCp => ?_
  refine ⟨m, hn, fun h' hs' => ⟨.ref D, upd H' D (.lst ys), ?_, rfl, q⟩⟩
  refine J.unpinned.turned (t' := s'.toks) (it := C) (fun b ob hb e => hs'.extBut b ob hb e) (by rw [upd_ne hCD]; exact nC) hCL (.inr hCs) hCc hCp
/-- name = [elt for tg in iter if ..], where the name is stored while the block's names still stand -/
theorem ps_lc {i : Nat} {x : Str} {px : Pos} {spos : Pos} (hc : X.calm = true) (hN : X.N.Nodup) (hx : X.N[i]? = some x) (hl : X.env.kindOf x = some .local) {sc0 : Scope} {N0 : List Str} (S : CompScope sc0 N0 N' o fr scope) (hi : PI X tg iter wi) (ho : OwnG o g)
    (hg : ∀ (C : Addr) (s : Shared) (H : Hp) (fp : List Addr), PG (cxC X N' scope C s H fp) tg g)
    (ht : ∀ (C : Addr) (s : Shared) (H : Hp) (fp : List Addr), PTs (cxC X N' scope C s H fp) ifs tt)
    (he : ∀ (C : Addr) (s : Shared) (H : Hp) (fp : List Addr), PE (cxC X N' scope C s H fp) elt te)
    (hs : ∀ x, foldedSetIterable iter X.env x = pure x := by intro _; rfl) (hsc : X.env.scope = sc0 := by rfl) (hN0 : X.N = N0 := by rfl)
    (hsw : swapsWith (.ListComp elt [⟨tg, iter, ifs, 0⟩] scope pos) (some (.Name x px)) spos.line X.env = pure true := by rfl) :
    PS X (.Assign [.Name x px] (.ListComp elt [⟨tg, iter, ifs, 0⟩] scope pos) spos) (tAsg (tLc wi g tt te o fr) (gName i)) := by
  intro pins s σ H D I h
  rw [exec_Assign_Name_used _ _ _ _ hsw]
  refine wpAny_bind (wpAny_standAt (wpAny_bind ?_))
  show wpAny _ X.A (do let _ ← comprehension (.ListComp elt [⟨tg, iter, ifs, 0⟩] scope pos) scope X.env (firstIterPos [⟨tg, iter, ifs, 0⟩] pos) (newList []) false (eval iter X.env) (some (assign (.Name x px) X.env))) _ _ s
  refine wpAny_bind (wpAny_mono (lc_run (Q := fun _ s' => SP X pins D .next s') hc S hi ho hg ht he hs hsc hN0 I h (use := some (assign (.Name x px) X.env)) (fun _ _ z => z) fun C oC Dd m H' ys s' J q hn nC hCD hCL hCs hCc hCp => ?_) (fun _ s' hq => wpAny_pure (wpAny_pure hq)) fun _ _ e => e)
  show wpAny _ X.A (assign (.Name x px) X.env (.ref Dd)) _ _ _
  refine wpAny_assign_Name (store_ok J hN hx (.inl hl) (v := .ref Dd) rfl (fun s2 I2 => ?_) (.inr hl))
  have g1 := (I2.pin (C, oC) (by simp)).1
  have g1 : s2.heap.get? C = some oC := g1
  have n2 : s2.heap.Ns C m := by
    obtain ⟨oc, es, ep, e, r⟩ := hn
    have e0 := (J.pin (C, oC) (by simp)).1
    have e0 : s'.heap.get? C = some oC := e0
    rw [e] at e0
    cases e0
    exact ⟨_, es, ep, g1, r⟩
  refine ⟨m, n2, fun h' hs' => ⟨_, upd H' Dd (.lst ys), ?_, q⟩⟩
  exact I2.unpinned.turned (t' := s2.toks) (it := C) (fun b ob hb e => hs'.extBut b ob hb e) (by rw [upd_ne hCD]; exact nC) hCL (.inr hCs) hCc hCp
end
end L2

/-! ## more rules over the layer: range as a value, sum, set, enumerate, dict methods, deep == -/
namespace L2
open PySem PySem.Spec PyProof.Rows
section
variable {X : Cx}
theorem vals_two : ∀ {x y : V} {us : List Value}, Vals [x, y] us → ∃ u v, us = [u, v] ∧ RelV x u ∧ RelV y v
  | _, _, _, .cons r (.cons r' .nil) => ⟨_, _, rfl, r, r'⟩
theorem ints_of_vals : ∀ {ns : List Int} {us : List Value}, Vals (ns.map V.int) us → IntsAre us ns
  | [], _, .nil => .nil
  | n :: ns, _, .cons r t => by
    obtain ⟨tk, rfl⟩ := r
    exact .cons n tk (ints_of_vals t)
/-! ### range(..) as an object -/
theorem call_rng1 : CallR X (.type "range") (fun xs H Q => ∃ j : Int, xs = [.int j] ∧ ∀ p, H p = none → Q (.ref p) (upd H p (.rng 0 j))) := by
  intro pins s σ H xs us Q I r h
  obtain ⟨j, rfl, q⟩ := h
  obtain ⟨u, rfl, t, rfl⟩ := vals1 r
  refine call_range_1 ?_
  exact ⟨.ref s.heap.objs.size, _, I.laid (o := .rng 0 j) (fun b u e => Heap.get?_push_of_some _ e) (Nat.le_refl _) ⟨_, _, _, Heap.get?_push_size _ rfl⟩, rfl, q _ (I.hok.fresh (Nat.le_refl _))⟩
/-- lo, lo + 1, .. below hi -/
def rngI (lo hi : Int) : List Int := (List.range (hi - lo).toNat).map fun (i : Nat) => lo + (i : Int)
theorem rngI_length (lo hi : Int) : (rngI lo hi).length = (hi - lo).toNat := by unfold rngI; rw [List.length_map, List.length_range]
theorem vals_rng {lo : Int} {n : Nat} : ∀ {us : List Value}, us.length = n → (∀ (j : Nat) (v : Value), us[j]? = some v → ∃ t, v = Value.int (lo + (j : Int)) t) → Vals (((List.range n).map fun (i : Nat) => lo + (i : Int)).map V.int) us := by
  induction n generalizing lo with
  | zero =>
    intro us h _
    rw [List.length_eq_zero_iff.mp h]
    exact .nil
  | succ n ih =>
    intro us h hv
    cases us with
    | nil => cases h
    | cons u us =>
      rw [List.range_succ_eq_map, List.map_cons, List.map_cons]
      refine .cons ?_ ?_
      · obtain ⟨t, e⟩ := hv 0 u rfl
        exact ⟨t, e⟩
      · have q := ih (lo := lo + 1) (us := us) (Nat.succ.inj h) fun j v e => by
          obtain ⟨t, e'⟩ := hv (j + 1) v (by simpa using e)
          refine ⟨t, ?_⟩
          rw [e']
          congr 1
          omega
        have e : (List.range n).map (fun (i : Nat) => lo + 1 + (i : Int)) = ((List.range n).map Nat.succ).map (fun (i : Nat) => lo + (i : Int)) := by
          rw [List.map_map]
          refine List.map_congr_left fun i _ => ?_
          show lo + 1 + (i : Int) = lo + ((i + 1 : Nat) : Int)
          omega
        rw [e] at q
        exact q
theorem call_list_rng (hc : X.calm = true) : CallR X (.type "list") (fun xs H Q => ∃ p lo hi, xs = [.ref p] ∧ H p = some (.rng lo hi) ∧ (-(2 ^ 62) ≤ lo ∧ lo < 2 ^ 62 ∧ -(2 ^ 62) ≤ hi ∧ hi < 2 ^ 62) ∧ (hi - lo).toNat ≤ 16777216 ∧
    ∀ l, H l = none → Q (.ref l) (upd H l (.lst ((rngI lo hi).map V.int)))) := by
  intro pins s σ H xs us Q I r h
  obtain ⟨p, lo, hi, rfl, hp, ⟨b1, b2, b3, b4⟩, hz, q⟩ := h
  obtain ⟨u, rfl, ru⟩ := vals1 r
  obtain rfl : u = Value.ref p := ru
  obtain ⟨t, u, v, e⟩ := (show ObjOk X.prog X.w H s.heap p (.rng lo hi) from I.hok p _ hp)
  have hn : Builtin.Range.rangeSize lo hi 1 = (((hi - lo).toNat : Nat) : Int) := by rw [rangeSize_one]; split <;> omega
  refine call_list_range (I.ok.hd hc) (t := t) (u := u) (v := v) e (small_one b1 b2 b3 b4) hn hz fun h' tk acc c' hk hS ha => ?_
  have hl : acc.toList.length = (hi - lo).toNat := by rw [Array.length_toList]; exact ha.1
  have rv : Vals ((rngI lo hi).map V.int) acc.toList := vals_rng (lo := lo) hl fun j w ew => by
    obtain ⟨t, e⟩ := ha.2 j w (by simpa using ew)
    exact ⟨t, by rw [e, Int.mul_one]⟩
  refine ⟨.ref s.heap.objs.size, _, I.laid (o := .lst ((rngI lo hi).map V.int)) hk (Nat.le_refl _) ⟨?_, acc.toList, c', rv, ?_⟩, rfl, q _ (I.hok.fresh (Nat.le_refl _))⟩
  · rw [List.length_map, rngI_length]
    have : sizeLine = 16777216 := sizeLine_eq
    omega
  · rw [hS]
/-! ### sum of ints -/
/-! ### set(list of ints), its length -/
def seen (ns : List Int) : List Int := firstMet (fun i => ns.getD i 0) ns.length
theorem call_set_ints (hc : X.calm = true) : CallR X (.type "set") (fun xs H Q => ∃ (p : Addr) (ns : List Int), xs = [.ref p] ∧ SqL X.K H p (ns.map V.int) ∧ ns.length + 1 < scanBound ∧
    ∀ l, H l = none → Q (.ref l) (upd H l (.set (fun k => (seen ns).any (· == k)) (seen ns).length))) := by
  intro pins s σ H xs us Q I r h
  obtain ⟨p, ns, rfl, hq, hb, q⟩ := h
  obtain ⟨u, rfl, ru⟩ := vals1 r
  obtain rfl : u = Value.ref p := ru
  obtain ⟨its, rv, pl, hz⟩ := I.list hq
  have hi := ints_of_vals rv
  have hl : its.toArray.size = ns.length := by rw [List.size_toArray, ← rv.length, List.length_map]
  refine call_set_list (I.ok.hd hc) pl.isList (ns := ns) (by simpa using hi) (by omega) fun h' tk hs hk => ?_
  refine ⟨.ref s.heap.objs.size, _, I.laid (o := .set (fun k => (seen ns).any (· == k)) (seen ns).length) (fun b ob e => hk b ob (Heap.lt_size e) e) (Nat.le_refl _) ?_, rfl, q _ (I.hok.fresh (Nat.le_refl _))⟩
  unfold seen
  rw [← hl]
  exact hs
theorem call_len_setI : CallR X (.builtin "len") (fun xs H Q => ∃ p S n, xs = [.ref p] ∧ H p = some (.set S n) ∧ (n : Int) < 2 ^ 63 ∧ Q (.int n) H) := by
  intro pins s σ H xs us Q I r h
  obtain ⟨p, S, n, rfl, hp, hn, q⟩ := h
  obtain ⟨u, rfl, ru⟩ := vals1 r
  obtain rfl : u = Value.ref p := ru
  obtain ⟨o, es, ep, t, e, hx, hd, _, _, _, hf, hz⟩ := (show ObjOk X.prog X.w H s.heap p (.set S n) from I.hok p _ hp)
  subst hz
  exact call_len_set e hx hd hf hn ⟨.int es.size, H, I.tok _, ⟨_, rfl⟩, q⟩
/-! ### isinstance against a built-in type -/
theorem call_isi {T : String} : CallR X (.builtin "isinstance") (fun xs H Q => ∃ x t b, xs = [x, .ty T] ∧ TyOf X.K H x t ∧ PySem.W.kitOne X.K t (.type T) = some b ∧ Q (.bl b) H) := by
  intro pins s σ H xs us Q I r h
  obtain ⟨x, t, b, rfl, ty, e, q⟩ := h
  obtain ⟨u, v, rfl, ru, rv⟩ := vals_two r
  obtain rfl : v = Value.type T := rv
  exact isinst_ok I ru ty e fun tk => ⟨.bl b, H, I.tok tk, rfl, q⟩
/-! ### for i, x in enumerate(list) -/
/-- at turn i: a new pair (i, the list's i-th) -/
def Ite (K : PySem.W.Frag) (a : Addr) : It :=
  ⟨fun i H => ∃ xs x, SqL K H a xs ∧ xs[i]? = some x, fun i H v H' => ∃ T x, H T = none ∧ v = .ref T ∧ H' = upd H T (.tup [.int i, x]) ∧ ∀ xs, SqL K H a xs → xs[i]? = some x, fun i H => ∃ xs, SqL K H a xs ∧ xs.length ≤ i⟩
def iEnum (K : PySem.W.Frag) (ta : TA) : TI := fun σ H R => ta σ H fun vs H1 => ∃ a, vs = [.ref a] ∧ (∃ xs, SqL K H1 a xs) ∧ R (Ite K a) H1
theorem turn_enum {P : Program} {w : World} {K : PySem.W.Frag} {elts : List Expr} {x1 : Nat} {pos : Pos} (a e it : Addr) (hne : e ≠ it) : Turn P w K (.Tuple elts x1 pos) (Ite K a) [e, it] e (fun i h => (∃ old, IsEnum h e it i old) ∧ h.IsListIter it a i) where
  mem := by simp
  obj := fun i h st b hb => by
    obtain ⟨⟨old, he⟩, o, eo, c, d⟩ := st
    rcases List.mem_cons.mp hb with z | hb
    · subst z
      exact ⟨_, he, fun v z => by
        have z' : Data.fields _ = Data.cell v := z
        cases z'⟩
    · have z : b = it := by simpa using hb
      subst z
      exact ⟨o, eo, fun v z => by rw [d] at z; cases z⟩
  keep := fun i h h' st k => by
    obtain ⟨⟨old, he⟩, hit⟩ := st
    exact ⟨⟨old, k e (by simp) _ he⟩, hit.at fun o x => k it (by simp) o x⟩
  item := by
    intro X hP hw hK hc i pins s σ H E I hf st hg
    subst hP hw hK
    obtain ⟨xs, x, hq, hx⟩ := hg
    obtain ⟨⟨old, he⟩, hit⟩ := st
    obtain ⟨its, rv, p, hz⟩ := I.list hq
    obtain ⟨u, hu, ru⟩ := rv.get hx
    obtain ⟨f0, f1, f2, f3, f4, f5⟩ := hf e (by simp)
    obtain ⟨g0, g1, g2, g3, g4, g5⟩ := hf it (by simp)
    have hT0 : H s.heap.objs.size = none := I.hok.fresh (Nat.le_refl _)
    refine wpAny_pyNext_enum_item he hit p.isList (x := u) (by simpa using hu) hne fun h' ho hit' hT hsz hk => ?_
    have ltT : ∀ b ob, s.heap.get? b = some ob → b ≠ s.heap.objs.size := fun b ob z => Nat.ne_of_lt (Heap.lt_size z)
    have ltH : ∀ b ob, H b = some ob → b ≠ s.heap.objs.size := fun b ob z => Nat.ne_of_lt (I.hok.lt z)
    have nof : ∀ b ob, H b = some ob → b ≠ e ∧ b ≠ it := fun b ob z => ⟨fun q => (by rw [q, f0] at z; cases z), fun q => (by rw [q, g0] at z; cases z)⟩
    have I1 : Inv X pins σ (upd H s.heap.objs.size (.tup [.int i, x])) { s with heap := h', toks := s.toks + 1 } := by
      refine I.step (g' := s.gens) (d' := s.drawn) (ch := [e, it]) (fun b hb => ?_) (fun b o _ _ hcx z _ => hk b o (fun q => hcx (by simp [q])) (fun q => hcx (by simp [q])) z) (fun b o _ _ hcx z _ => ⟨o.slots, hk b o (fun q => hcx (by simp [q])) (fun q => hcx (by simp [q])) z⟩)
        (fun b o _ z n => by rw [upd_ne (ltT b o z)]; exact n) (fun b o hcx z => ⟨o, hk b o (fun q => hcx (by simp [q])) (fun q => hcx (by simp [q])) z⟩) (fun b ys z => by rw [upd_ne (ltH b _ z)]; exact z) (fun b o v z => by rw [upd_ne (ltH b _ z)]; exact z)
        (fun b ps z => ⟨#[], by rw [upd_ne (ltH b _ z), z]; simp⟩) (fun m hm => ?_) (fun b v z => ?_) I.bare
      · rcases List.mem_cons.mp hb with q | hb
        · rw [q]; exact ⟨f3, f1, f4, f5⟩
        · have q : b = it := by simpa using hb
          rw [q]; exact ⟨g3, g1, g4, g5⟩
      · obtain ⟨o, es, ep, ho', r⟩ := hm
        exact ⟨o, es, ep, hk _ o (Ne.symm f1) (Ne.symm g1) ho', r⟩
      · by_cases hb : b = s.heap.objs.size
        · subst hb
          rw [upd_same] at z
          cases z
          exact ⟨by show 2 ≤ sizeLine; decide, [.int i s.toks, u], .cons ⟨_, rfl⟩ (.cons ru .nil), ⟨_, hT, rfl, _, rfl⟩⟩
        · rw [upd_ne hb] at z
          refine (I.hok b v z).stay (fun c w' hc' q => ?_) (fun c q => by rw [upd_ne (ltH c _ q)]; exact q) fun c ys q => by rw [upd_ne (ltH c _ q)]; exact q
          rcases hc' with rfl | hc'
          · exact hk c w' (nof c _ z).1 (nof c _ z).2 q
          · exact hk c w' (nof c _ hc').1 (nof c _ hc').2 q
    refine ⟨_, rfl, wpAny_letOwnedTupleGo_enum ho fun h2 he2 hs2 => ?_⟩
    have fT : e ≠ s.heap.objs.size := ltT e _ he
    have I2 : Inv X pins σ (upd H s.heap.objs.size (.tup [.int i, x])) { s with heap := h2, toks := s.toks + 1 } := Inv.turned (s := { s with heap := h', toks := s.toks + 1 }) (h' := h2) (t' := s.toks + 1) (it := e) I1 (fun b o hb z => hs2.extBut b o hb z) (by rw [upd_ne fT]; exact f0) f1 f3 f4 f5
    refine ⟨.ref s.heap.objs.size, _, I2, rfl, ⟨_, x, hT0, rfl, rfl, fun ys hy => by rw [I.list_inj hy hq]; exact hx⟩, ⟨⟨u, by simpa using he2⟩, hit'.at fun o z => hs2.extBut it o (Ne.symm hne) z⟩, fun b hb => ?_⟩
    rcases List.mem_cons.mp hb with q | hb
    · rw [q, upd_ne fT]; exact f0
    · have q : b = it := by simpa using hb
      obtain ⟨o, eo, _⟩ := hit
      rw [q, upd_ne (ltT it o eo)]; exact g0
  done := by
    intro X hP hw hK hc i pins s σ H E I hf st hg
    subst hP hw hK
    obtain ⟨xs, hq, hx⟩ := hg
    obtain ⟨⟨old, he⟩, hit⟩ := st
    obtain ⟨its, rv, p, hz⟩ := I.list hq
    obtain ⟨g0, g1, g2, g3, g4, g5⟩ := hf it (by simp)
    have hl := rv.length
    exact wpAny_pyNext_enum_end (I.ok.hd hc) he hit p.isList (by simp; omega) fun h' eb => ⟨rfl, I.turned (t' := s.toks) (it := it) (fun b o hb z => eb b o hb z) g0 g1 g3 g4 g5⟩
  self := fun _ _ _ _ _ st h => let ⟨⟨_, he⟩, _⟩ := st; wpAny_pyIter_enum he h
theorem pi_enum {elts : List Expr} {x1 : Nat} {tpos : Pos} {a : Expr} {ta : TA} {p pos : Pos} (hg : Gl X "enumerate") (hm : X.mg "enumerate" = none) (ha : PA X [a] ta) (hs : starEach [a] X.env = [(false, eval a X.env)] := by rfl) :
    PI X (.Tuple elts x1 tpos) (.Call (.Name "enumerate" p) [a] [] pos) (iEnum X.K ta) := by
  intro pins s σ H R I h
  refine Call_ (ld_blt I hg hm Boot.«enumerate» (PyProof.Rows.callWith_type1 (thn (ha pos pins s σ H _ I h) fun us s1 ⟨vs, H1, I1, r1, q1⟩ => ?_) hs rfl))
  obtain ⟨b, e, ⟨xs, hq⟩, q⟩ := q1
  subst e
  obtain ⟨u, rfl, ru⟩ := vals1 r1
  obtain rfl : u = Value.ref b := ru
  obtain ⟨its, rv, pl, hz⟩ := I1.list hq
  refine call_enumerate_list pl.isList fun h' he hit hsz hk => ?_
  have I2 : Inv X pins σ H1 { s1 with heap := h' } := I1.kept (t' := s1.toks) hk
  refine wpAny_pyIter_enum he ?_
  have nn : ∀ k, s1.heap.objs.size ≤ k → H1 k = none := fun k hk => I1.hok.fresh hk
  refine ⟨s1.heap.objs.size + 1, [s1.heap.objs.size + 1, s1.heap.objs.size], _, _, H1, rfl, I2, turn_enum b _ _ (Nat.succ_ne_self _), ⟨⟨_, he⟩, hit⟩, fun c hc => ?_, q⟩
  have hle : s1.heap.objs.size ≤ c := by
    rcases List.mem_cons.mp hc with q | hc
    · rw [q]; exact Nat.le_succ _
    · have q : c = s1.heap.objs.size := by simpa using hc
      rw [q]; exact Nat.le_refl _
  exact I1.fpOk hle (nn c hle)
end
end L2

/-! ## a dict's setdefault and values; == of lists and tuples to any depth -/
namespace L2
open PySem PySem.Spec PyProof.Rows
section
variable {X : Cx}
theorem kV_vals {k : Key} {y : V} {us : List Value} (r : Vals [kV k, y] us) : ∃ u v, us = [u, v] ∧ RelV (kV k) u ∧ RelV y v := vals_two r
/-- d.setdefault(k, y) -/
def rSetDef : V → List V → Hp → VK → Prop := fun x vs H Q => ∃ d kvs k y, x = .ref d ∧ vs = [kV k, y] ∧ H d = some (.dK kvs) ∧ kvs.length < sizeLine ∧ (∀ v, valV kvs k = some v → Q v H) ∧ (valV kvs k = none → Q y (upd H d (.dK (kvs ++ [(k, y)]))))
theorem mt_setdefault : MtM X "dict.setdefault" rSetDef := by
  intro pins s σ H x vs v us Q I rx rv h
  obtain ⟨d, kvs, k, y, rfl, rfl, hH, hz, h1, h2⟩ := h
  cases rx
  obtain ⟨uk, uy, rfl, rk, ry⟩ := kV_vals rv
  obtain ⟨z, hd, ws, rel, dd⟩ := dk_of I.hok hH
  refine call_meetsIn PySem.F.slot_dict_setdefault dd.typeIs PySem.F.entry_dict_setdefault (PySem.F.args_dict_setdefault_3 _ _ _) (kt_meets_setdefault (mixKind X.prog X.w) d (kV_is rk) hd uy)
    ⟨ws, dd, by rw [← rel.length]; exact z, fun v' hv' => ?_, fun hn h' dd' hs => ?_⟩
  · cases e : valV kvs k with
    | none =>
      have q := rel.val k
      rw [e, hv'] at q
      exact False.elim q
    | some w' =>
      have q := rel.val k
      rw [e, hv'] at q
      exact ⟨w', H, I.tok _, q, h1 w' e⟩
  · have e : valV kvs k = none := by
      cases e : valV kvs k with
      | none => rfl
      | some w' =>
        have q := rel.val k
        rw [e, hn] at q
        exact False.elim q
    have he : ∃ q, h'.get? d = some q := let ⟨q, _, _, hq, _⟩ := dd'; ⟨q, hq⟩
    refine ⟨y, _, d_write (ob := .dK (putK kvs k y)) I (by rw [hH]; exact True.intro) hs he (dk_new ?_ hd (rel.put k ry) dd'), ry, ?_⟩
    · have := length_putK kvs k y; omega
    · rw [putK_new y e]; exact h2 e
/-- a view of a dict's values -/
def viewO (p d : Addr) : HO := .ext fun h => h.IsValuesView p d
def rValues : V → List V → Hp → VK → Prop := fun x vs H Q => ∃ d kvs, x = .ref d ∧ vs = [] ∧ H d = some (.dK kvs) ∧ ∀ p, H p = none → Q (.ref p) (upd H p (viewO p d))
theorem mt_values : MtM X "dict.values" rValues := by
  intro pins s σ H x vs v us Q I rx rv h
  obtain ⟨d, kvs, rfl, rfl, hH, q⟩ := h
  cases rx
  cases rv
  obtain ⟨z, hd, ws, rel, dd⟩ := dk_of I.hok hH
  refine call_meetsIn PySem.F.slot_dict_values dd.typeIs PySem.F.entry_dict_values (PySem.F.args_dict_values_1 _) (meets_dict_values (mixKind X.prog X.w) d hd) ⟨⟨ws, dd⟩, ?_⟩
  refine ⟨.ref s.heap.objs.size, _, I.laid (o := viewO s.heap.objs.size d) (fun b u e => Heap.get?_push_of_some _ e) (Nat.le_refl _) ?_, rfl, q _ (I.hok.fresh (Nat.le_refl _))⟩
  have e := Heap.get?_push_size s.heap (o := { cls := .type "dict_values", data := .fields #[.ref d] }) rfl
  exact ⟨⟨_, e, rfl, rfl⟩, ⟨_, e⟩, fun h1 h2 ⟨o, ho, r⟩ k => ⟨o, k o ho, r⟩⟩
theorem dictAt_of {P : Program} {w : World} {h : Heap} {d : Addr} {ws : List (Key × Value)} (dd : h.DictOf (mixKind P w) d ws) : ∃ ep, h.DictAt (mixKind P w) d ws ep := by
  obtain ⟨o, es, ep, r⟩ := dd
  exact ⟨ep, o, es, r⟩
theorem vals_snd {κ : Type} : ∀ {kvs : List (κ × V)} {ws : List (κ × Value)}, KV kvs ws → Vals (kvs.map (·.2)) (ws.map (·.2))
  | _, _, .nil => .nil
  | _, _, .cons r t => .cons r.2 (vals_snd t)
theorem call_list_view (hc : X.calm = true) : CallR X (.type "list") (fun xs H Q => ∃ p d kvs, xs = [.ref p] ∧ H p = some (viewO p d) ∧ H d = some (.dK kvs) ∧ ∀ l, H l = none → Q (.ref l) (upd H l (.lst (kvs.map (·.2))))) := by
  intro pins s σ H xs us Q I r h
  obtain ⟨p, d, kvs, rfl, hp, hd, q⟩ := h
  obtain ⟨u, rfl, ru⟩ := vals1 r
  obtain rfl : u = Value.ref p := ru
  obtain ⟨hv, _, _⟩ := (show ObjOk X.prog X.w H s.heap p (viewO p d) from I.hok p _ hp)
  obtain ⟨z, hds, ws, rel, dd⟩ := dk_of I.hok hd
  obtain ⟨ep, da⟩ := dictAt_of dd
  have hl : ws.length = kvs.length := rel.length.symm
  refine PySem.W.kdl_call (PySem.W.kdl_values (knd := mixKind X.prog X.w) (kvs := ws) (ep := ep) (r := p) (d := d)) (I.ok.hd hc) ⟨hv, da⟩ (by omega) fun h' tk acc c' hk hS ha => ?_
  have ea : acc.toList = ws.map (·.2) := by
    refine List.ext_getElem? fun i => ?_
    cases e : acc.toList[i]? with
    | none =>
      have : ws.length ≤ i := by
        have := List.getElem?_eq_none_iff.mp e
        rw [Array.length_toList, ha.1] at this
        exact this
      rw [List.getElem?_eq_none_iff.mpr (by rw [List.length_map]; exact this)]
    | some v =>
      obtain ⟨k, ek⟩ := ha.2 i v (by simpa using e)
      rw [List.getElem?_map, ek]
      rfl
  refine ⟨.ref s.heap.objs.size, _, I.laid (o := .lst (kvs.map (·.2))) hk (Nat.le_refl _) ⟨by rw [List.length_map]; exact z, acc.toList, c', ?_, by rw [hS]⟩, rfl, q _ (I.hok.fresh (Nat.le_refl _))⟩
  rw [ea]
  exact vals_snd rel
end

/-! ### == to any depth -/
/-- the answer of x == y by the abstract heap, down to depth n -/
inductive EqD (K : PySem.W.Frag) (H : Hp) : Nat → V → V → Bool → Prop
  | flat {n : Nat} {x y : V} (fx : flatV x = true) (fy : flatV y = true) : EqD K H n x y (eqV x y)
  | lsts {n : Nat} {a b : Addr} {xs ys : List V} {e : Nat → Bool} (ha : SqL K H a xs) (hb : SqL K H b ys) (hl : xs.length = ys.length) (h : ∀ i x y, xs[i]? = some x → ys[i]? = some y → EqD K H n x y (e i)) : EqD K H (n + 1) (.ref a) (.ref b) ((List.range xs.length).all e)
  | lens {n : Nat} {a b : Addr} {xs ys : List V} (ha : SqL K H a xs) (hb : SqL K H b ys) (hl : xs.length ≠ ys.length) : EqD K H (n + 1) (.ref a) (.ref b) false
  | tups {n : Nat} {a b : Addr} {xs ys : List V} {e : Nat → Bool} (ha : SqT K H a xs) (hb : SqT K H b ys) (h : ∀ i x y, xs[i]? = some x → ys[i]? = some y → EqD K H n x y (e i)) :
      EqD K H (n + 1) (.ref a) (.ref b) ((List.range (min xs.length ys.length)).all e && xs.length == ys.length)
theorem eqV_self {x : V} (h : flatV x = true) : eqV x x = true := by
  cases x <;> first | rfl | (simp [eqV]; done) | exact absurd (show false = true from h) Bool.false_ne_true
section
variable {X : Cx} {pins : List (Addr × Obj)} {σ : St} {H : Hp} {s : Shared}
theorem Vals.at {xs : List V} {us : List Value} {j : Nat} (r : Vals xs us) (h : j < us.length) : ∃ x, xs[j]? = some x ∧ RelV x us[j] := by
  have hl := r.length
  have hx : xs[j]? = some (xs[j]'(by omega)) := List.getElem?_eq_getElem (by omega)
  obtain ⟨u, e, ru⟩ := r.get hx
  rw [List.getElem?_eq_getElem h] at e
  cases e
  exact ⟨_, hx, ru⟩
/-- a thing and itself -/
theorem EqD.self {n : Nat} {x y : V} {b : Bool} (q : EqD X.K H n x y b) (I : Inv X pins σ H s) : x = y → b = true := by
  induction q with
  | flat fx fy => intro e; subst e; exact eqV_self fx
  | @lsts n a b xs ys e ha hb hl h ih =>
    intro z
    cases z
    have e1 : xs = ys := I.list_inj ha hb
    subst e1
    rw [List.all_eq_true]
    intro i hi
    have hx : xs[i]? = some (xs[i]'(List.mem_range.mp hi)) := List.getElem?_eq_getElem _
    exact ih i _ _ hx hx rfl
  | @lens n a b xs ys ha hb hl =>
    intro z
    cases z
    exact absurd (congrArg List.length (I.list_inj ha hb)) hl
  | @tups n a b xs ys e ha hb h ih =>
    intro z
    cases z
    have e1 : xs = ys := I.tuple_inj ha hb
    subst e1
    rw [Nat.min_self, Bool.and_eq_true, List.all_eq_true]
    refine ⟨fun i hi => ?_, by simp⟩
    have hx : xs[i]? = some (xs[i]'(List.mem_range.mp hi)) := List.getElem?_eq_getElem _
    exact ih i _ _ hx hx rfl
theorem EqD.at {n : Nat} {x y : V} {b : Bool} (q : EqD X.K H n x y b) (I : Inv X pins σ H s) : ∀ {A : Around} {u v : Value}, A.units + n < cLine → RelV x u → RelV y v → SeqAt.EqAt A s u v b := by
  induction q with
  | flat fx fy => intro A u v _ ru rv; exact eqAt_V ru rv fx fy
  | @lsts n a b xs ys e ha hb hl h ih =>
    intro A u v hu ru rv
    obtain rfl : u = Value.ref a := ru
    obtain rfl : v = Value.ref b := rv
    by_cases hab : a = b
    · have z := EqD.self (EqD.lsts ha hb hl h) I (congrArg V.ref hab)
      rw [z, hab]
      exact SeqAt.EqAt.same _
    obtain ⟨us, rx, px, _⟩ := I.list ha
    obtain ⟨vs, ry, py, _⟩ := I.list hb
    have l1 := rx.length
    have l2 := ry.length
    have z := SeqAt.RcAt.lists (A := A) (s := s) (e := e) px.isList py.isList (by rw [List.size_toArray, List.size_toArray]; omega) (by omega) fun j h1 h2 => by
      obtain ⟨x, ex, rx'⟩ := rx.at (j := j) (by simpa using h1)
      obtain ⟨y, ey, ry'⟩ := ry.at (j := j) (by simpa using h2)
      exact ih j x y ex ey (A := A.in1) (by show A.units + 1 + n < cLine; omega) (by simpa using rx') (by simpa using ry')
    rw [List.size_toArray, ← l1] at z
    exact SeqAt.EqAt.of_refs hab z
  | @lens n a b xs ys ha hb hl =>
    intro A u v hu ru rv
    obtain rfl : u = Value.ref a := ru
    obtain rfl : v = Value.ref b := rv
    obtain ⟨us, rx, px, _⟩ := I.list ha
    obtain ⟨vs, ry, py, _⟩ := I.list hb
    have l1 := rx.length
    have l2 := ry.length
    have hab : a ≠ b := fun z => by
      subst z
      exact hl (congrArg List.length (I.list_inj ha hb))
    exact SeqAt.EqAt.of_refs hab (SeqAt.RcAt.lists_lengths px.isList py.isList (by rw [List.size_toArray, List.size_toArray]; simp; omega) (by omega))
  | @tups n a b xs ys e ha hb h ih =>
    intro A u v hu ru rv
    obtain rfl : u = Value.ref a := ru
    obtain rfl : v = Value.ref b := rv
    by_cases hab : a = b
    · have z := EqD.self (EqD.tups ha hb h) I (congrArg V.ref hab)
      rw [z, hab]
      exact SeqAt.EqAt.same _
    obtain ⟨us, rx, px, _⟩ := I.tuple ha
    obtain ⟨vs, ry, py, _⟩ := I.tuple hb
    have l1 := rx.length
    have l2 := ry.length
    have z := SeqAt.RcAt.tuples (A := A) (s := s) (e := e) (show s.heap.IsTuple a us.toArray from px) (show s.heap.IsTuple b vs.toArray from py) (by omega) fun j h1 h2 => by
      obtain ⟨x, ex, rx'⟩ := rx.at (j := j) (by simpa using h1)
      obtain ⟨y, ey, ry'⟩ := ry.at (j := j) (by simpa using h2)
      exact ih j x y ex ey (A := A.in1) (by show A.units + 1 + n < cLine; omega) (by simpa using rx') (by simpa using ry')
    rw [List.size_toArray, List.size_toArray, ← l1, ← l2] at z
    exact SeqAt.EqAt.of_refs hab z
end
section
variable {X : Cx}
/-- x == y, x != y of two lists or two tuples -/
def rEqD (K : PySem.W.Frag) (neg : Bool) : R2 := fun x y H Q => ∃ n b p q, x = .ref p ∧ y = .ref q ∧ n ≤ 6 ∧ EqD K H n x y b ∧ Q (.bl (if neg then !b else b)) H
theorem op_eqD (hu : X.A.units + 8 < cLine) : OpR X (compareOp .Eq) (rEqD X.K false) := by
  intro pins s σ H x y u v Q I ru rv h
  obtain ⟨n, b, p, q, rfl, rfl, hn, d, hq⟩ := h
  obtain rfl : u = Value.ref p := ru
  obtain rfl : v = Value.ref q := rv
  have fin : EP X pins σ Q (.bool b) s := ⟨.bl b, H, I, rfl, hq⟩
  cases d with
  | flat fx fy => exact absurd (show false = true from fx) Bool.false_ne_true
  | @lsts n _ _ xs ys e ha hb hl h =>
    obtain ⟨us, rx, px, _⟩ := I.list ha
    obtain ⟨vs, ry, py, _⟩ := I.list hb
    have l1 := rx.length
    have l2 := ry.length
    refine SeqAt.eq_listAt (e := e) px.isList py.isList (by rw [List.size_toArray, List.size_toArray]; omega) (by omega) (fun j h1 h2 => ?_) (by rw [List.size_toArray, ← l1]; exact fin)
    obtain ⟨x, ex, rx'⟩ := rx.at (j := j) (by simpa using h1)
    obtain ⟨y, ey, ry'⟩ := ry.at (j := j) (by simpa using h2)
    exact (h j x y ex ey).at I (A := X.A.in1) (by show X.A.units + 1 + n < cLine; omega) (by simpa using rx') (by simpa using ry')
  | @lens n _ _ xs ys ha hb hl =>
    obtain ⟨us, rx, px, _⟩ := I.list ha
    obtain ⟨vs, ry, py, _⟩ := I.list hb
    have l1 := rx.length
    have l2 := ry.length
    exact SeqAt.eq_list_lengthsAt px.isList py.isList (by rw [List.size_toArray, List.size_toArray]; simp; omega) (by omega) fin
  | @tups n _ _ xs ys e ha hb h =>
    obtain ⟨us, rx, px, _⟩ := I.tuple ha
    obtain ⟨vs, ry, py, _⟩ := I.tuple hb
    have l1 := rx.length
    have l2 := ry.length
    refine SeqAt.eq_tupleAt (e := e) (show s.heap.IsTuple p us.toArray from px) (show s.heap.IsTuple q vs.toArray from py) (by omega) (fun j h1 h2 => ?_) (by rw [List.size_toArray, List.size_toArray, ← l1, ← l2]; exact fin)
    obtain ⟨x, ex, rx'⟩ := rx.at (j := j) (by simpa using h1)
    obtain ⟨y, ey, ry'⟩ := ry.at (j := j) (by simpa using h2)
    exact (h j x y ex ey).at I (A := X.A.in1) (by show X.A.units + 1 + n < cLine; omega) (by simpa using rx') (by simpa using ry')
theorem op_neD (hu : X.A.units + 8 < cLine) : OpR X (compareOp .NotEq) (rEqD X.K true) := by
  intro pins s σ H x y u v Q I ru rv h
  obtain ⟨n, b, p, q, rfl, rfl, hn, d, hq⟩ := h
  obtain rfl : u = Value.ref p := ru
  obtain rfl : v = Value.ref q := rv
  have fin : EP X pins σ Q (.bool (!b)) s := ⟨.bl (!b), H, I, rfl, hq⟩
  cases d with
  | flat fx fy => exact absurd (show false = true from fx) Bool.false_ne_true
  | @lsts n _ _ xs ys e ha hb hl h =>
    obtain ⟨us, rx, px, _⟩ := I.list ha
    obtain ⟨vs, ry, py, _⟩ := I.list hb
    have l1 := rx.length
    have l2 := ry.length
    refine SeqAt.RcNeAt.lists (e := e) px.isList py.isList (by rw [List.size_toArray, List.size_toArray]; omega) (by omega) (fun j h1 h2 => ?_) _ _ _ _ (by rw [List.size_toArray, ← l1]; exact fin)
    obtain ⟨x, ex, rx'⟩ := rx.at (j := j) (by simpa using h1)
    obtain ⟨y, ey, ry'⟩ := ry.at (j := j) (by simpa using h2)
    exact (h j x y ex ey).at I (A := X.A.in1) (by show X.A.units + 1 + n < cLine; omega) (by simpa using rx') (by simpa using ry')
  | @lens n _ _ xs ys ha hb hl =>
    obtain ⟨us, rx, px, _⟩ := I.list ha
    obtain ⟨vs, ry, py, _⟩ := I.list hb
    have l1 := rx.length
    have l2 := ry.length
    exact SeqAt.RcNeAt.lists_lengths px.isList py.isList (by rw [List.size_toArray, List.size_toArray]; simp; omega) (by omega) _ _ _ _ fin
  | @tups n _ _ xs ys e ha hb h =>
    obtain ⟨us, rx, px, _⟩ := I.tuple ha
    obtain ⟨vs, ry, py, _⟩ := I.tuple hb
    have l1 := rx.length
    have l2 := ry.length
    refine SeqAt.RcNeAt.tuples (e := e) (show s.heap.IsTuple p us.toArray from px) (show s.heap.IsTuple q vs.toArray from py) (by omega) (fun j h1 h2 => ?_) _ _ _ _ (by rw [List.size_toArray, List.size_toArray, ← l1, ← l2]; exact fin)
    obtain ⟨x, ex, rx'⟩ := rx.at (j := j) (by simpa using h1)
    obtain ⟨y, ey, ry'⟩ := ry.at (j := j) (by simpa using h2)
    exact (h j x y ex ey).at I (A := X.A.in1) (by show X.A.units + 1 + n < cLine; omega) (by simpa using rx') (by simpa using ry')
end
end L2

/-! ## own words over the layer: heaps, pairs, webs, loops over lists and tuples -/
namespace My
open PySem L2
abbrev IL (ns : List Int) : List V := ns.map V.int
theorem il_length (ns : List Int) : (IL ns).length = ns.length := List.length_map ..
theorem il_snoc (a : List Int) (r : Int) : IL (a ++ [r]) = IL a ++ [.int r] := List.map_append ..
theorem il_take (a : List Int) (n : Nat) : IL (a.take n) = (IL a).take n := List.map_take ..
theorem il_drop (a : List Int) (n : Nat) : IL (a.drop n) = (IL a).drop n := List.map_drop ..
theorem il_at {ns : List Int} {i : Nat} {z : Int} (h : ns[i]? = some z) : (IL ns)[i]? = some (.int z) := by rw [List.getElem?_map, h]; rfl
theorem il_get {ns : List Int} {i : Nat} {x : V} (h : (IL ns)[i]? = some x) : ∃ z, x = .int z ∧ ns[i]? = some z := by
  rw [List.getElem?_map] at h
  cases e : ns[i]? with
  | none => rw [e] at h; cases h
  | some z => rw [e] at h; exact ⟨z, (Option.some.inj h).symm, rfl⟩
theorem same_upd {H H2 : Hp} {a : Addr} {o : HO} (hn : H a = none) (s : Same H H2) : Same H (upd H2 a o) := fun b u e => by rw [upd_ne (ne_of_none e hn)]; exact s b u e
theorem same_new {H H2 : Hp} {p : Addr} {o : HO} (s : Same H H2) (hp : H2 p = none) : Same H (upd H2 p o) := same_upd (s.free hp) s
theorem same_at {H : Hp} {p : Addr} {o : HO} (hp : H p = none) : Same H (upd H p o) := same_new (Same.refl H) hp
theorem sqT_same {K : PySem.W.Frag} {H H' : Hp} {a : Addr} {xs : List V} (e : Same H H') (h : SqT K H a xs) : SqT K H' a xs := by
  rcases h with (h | ⟨o, h⟩) | h
  · exact .inl (.inl (e _ _ h))
  · exact .inl (.inr ⟨o, e _ _ h⟩)
  · exact .inr h
theorem small60 {n : Nat} (h : n ≤ 1000000) : n ≤ sizeLine := Nat.le_trans h (by decide)
theorem small60' {n : Nat} (h : n ≤ 1000000) : n < sizeLine := Nat.lt_of_le_of_lt h (by decide)
theorem hu8 {A : Around} {k : Nat} (hr : Room k A) : A.units + 8 < cLine := Nat.lt_of_le_of_lt (Nat.add_le_add_left (by decide : 8 ≤ 64) _) hr.units
/-- a list's item by a reckoned index -/
theorem atI_of {α : Type} {xs : List α} {i : Int} {n : Nat} {x : α} (hi : i = (n : Int)) (h : xs[n]? = some x) : atI xs i = some x := by
  subst hi
  have hn : n < xs.length := (List.getElem?_eq_some_iff.mp h).1
  unfold atI ixN
  rw [if_pos (Int.natCast_nonneg n), if_pos (by omega)]
  simpa using h
/-! ### tests -/
theorem itd {c A B : Prop} [Decidable c] (hc : c) (h : A) : if decide c = true then A else B := by rw [if_pos (decide_eq_true hc)]; exact h
theorem itdn {c A B : Prop} [Decidable c] (hc : ¬ c) (h : B) : if decide c = true then A else B := by rw [if_neg (by simp [hc])]; exact h
theorem itn {c A B : Prop} [Decidable c] (hc : c) (h : B) : if (!decide c) = true then A else B := by rw [if_neg (by simp [hc])]; exact h
theorem itnn {c A B : Prop} [Decidable c] (hc : ¬ c) (h : A) : if (!decide c) = true then A else B := by rw [if_pos (by simp [hc])]; exact h
theorem itd2 {c A B : Prop} [Decidable c] (h1 : c → A) (h2 : ¬ c → B) : if decide c = true then A else B := by
  by_cases h : c
  · exact itd h (h1 h)
  · exact itdn h (h2 h)
theorem itn2 {c A B : Prop} [Decidable c] (h1 : c → B) (h2 : ¬ c → A) : if (!decide c) = true then A else B := by
  by_cases h : c
  · exact itn h (h1 h)
  · exact itnn h (h2 h)
theorem itnb {b : Bool} {A B : Prop} (h1 : b = true → B) (h2 : b = false → A) : if (!b) = true then A else B := by
  cases b with
  | true => exact iteF (h1 rfl)
  | false => exact iteT (h2 rfl)
/-! ### lists or tuples -/
/-- a list (false) or a tuple (true) -/
def SqK (k : Bool) (K : PySem.W.Frag) (H : Hp) (a : Addr) (xs : List V) : Prop := match k with
  | false => SqL K H a xs
  | true => SqT K H a xs
theorem SqK.same {k : Bool} {K : PySem.W.Frag} {H H' : Hp} {a : Addr} {xs : List V} (e : Same H H') (h : SqK k K H a xs) : SqK k K H' a xs := by
  cases k with
  | false => exact e.seq h
  | true => exact sqT_same e h
theorem SqK.or {k : Bool} {K : PySem.W.Frag} {H : Hp} {a : Addr} {xs : List V} (h : SqK k K H a xs) : SqL K H a xs ∨ SqT K H a xs := by
  cases k with
  | false => exact .inl h
  | true => exact .inr h
def iSeq (K : PySem.W.Frag) (tl : TE) : TI := fun σ H R => tl σ H fun x H1 => ∃ a, x = .ref a ∧ (((∃ xs, SqL K H1 a xs) ∧ R (Itl K a) H1) ∨ ((∃ xs, SqT K H1 a xs) ∧ R (Itt K a) H1))
theorem pi_seq {X : Cx} {tg : Expr} {l : Expr} {tl : TE} (hl : PE X l tl) : PI X tg l (iSeq X.K tl) := by
  intro pins s σ H R I h
  refine thn (hl pins s σ H _ I h) fun v s1 ⟨x, H1, I1, r1, q1⟩ => ?_
  obtain ⟨a, e, q⟩ := q1
  subst e
  cases r1
  rcases q with ⟨⟨xs, hq⟩, q⟩ | ⟨⟨xs, hq⟩, q⟩
  · obtain ⟨its, rv, p, hz⟩ := I1.list hq
    refine wpAny_pyIter_list p.isList ?_
    refine ⟨s1.heap.objs.size, [s1.heap.objs.size], _, _, H1, rfl, I1.kept (t' := s1.toks) fun b o e => Heap.get?_push_of_some _ e, turn_list a _, ⟨_, Heap.get?_push_size _ rfl, rfl, rfl⟩, fun b hb => ?_, q⟩
    have e : b = s1.heap.objs.size := by simpa using hb
    subst e
    exact I1.fpOk (Nat.le_refl _) (I1.hok.fresh (Nat.le_refl _))
  · obtain ⟨its, rv, p, hz⟩ := I1.tuple hq
    refine wpAny_pyIter_tuple (show s1.heap.IsTuple a its.toArray from p) ?_
    refine ⟨s1.heap.objs.size, [s1.heap.objs.size], _, _, H1, rfl, I1.kept (t' := s1.toks) fun b o e => Heap.get?_push_of_some _ e, turn_tuple a _, ⟨_, Heap.get?_push_size _ rfl, rfl, rfl⟩, fun b hb => ?_, q⟩
    have e : b = s1.heap.objs.size := by simpa using hb
    subst e
    exact I1.fpOk (Nat.le_refl _) (I1.hok.fresh (Nat.le_refl _))
/-- a loop over a list or a tuple that the body leaves as it is -/
theorem for_seq {K : PySem.W.Frag} {k : Bool} {a : Addr} {xs : List V} {g : TG} {tb : TS} {D : Ends} {σ : St} {H : Hp} (Pv : Nat → St → Hp → Prop) (h0 : Pv 0 σ H) (hl : ∀ i σ H, i ≤ xs.length → Pv i σ H → SqK k K H a xs)
    (hs : ∀ i x σ H, xs[i]? = some x → Pv i σ H → g x σ H fun σ2 H2 => tb { D with nx := Pv (i + 1), ct := Pv (i + 1), bk := D.nx } σ2 H2) (hd : ∀ σ H, Pv xs.length σ H → D.nx σ H) :
    (((∃ xs, SqL K H a xs) ∧ ∃ W : Nat → Nat → St → Hp → Prop, (∃ m, W 0 m σ H) ∧ ∀ i m σ H, W i m σ H →
      ((Itl K a).stop i H ∧ D.nx σ H) ∨ ((Itl K a).go i H ∧ ∃ N : St → Hp → Prop, (∀ σ' H', N σ' H' → ∃ m', m' < m ∧ W (i + 1) m' σ' H') ∧ ∀ x H', (Itl K a).yld i H x H' → g x σ H' fun σ2 H2 => tb { D with nx := N, ct := N, bk := D.nx } σ2 H2)) ∨
     ((∃ xs, SqT K H a xs) ∧ ∃ W : Nat → Nat → St → Hp → Prop, (∃ m, W 0 m σ H) ∧ ∀ i m σ H, W i m σ H →
      ((Itt K a).stop i H ∧ D.nx σ H) ∨ ((Itt K a).go i H ∧ ∃ N : St → Hp → Prop, (∀ σ' H', N σ' H' → ∃ m', m' < m ∧ W (i + 1) m' σ' H') ∧ ∀ x H', (Itt K a).yld i H x H' → g x σ H' fun σ2 H2 => tb { D with nx := N, ct := N, bk := D.nx } σ2 H2))) := by
  cases k with
  | false => exact .inl ⟨⟨xs, hl 0 σ H (Nat.zero_le _) h0⟩, for_list (K := K) (a := a) (xs := xs) Pv h0 hl hs hd⟩
  | true => exact .inr ⟨⟨xs, hl 0 σ H (Nat.zero_le _) h0⟩, for_tup (K := K) (a := a) (xs := xs) Pv h0 hl hs hd⟩
/-! ### pairs of ints -/
def PairV (H : Hp) (v : V) (p : Int × Int) : Prop := ∃ t, v = .ref t ∧ H t = some (.tup [.int p.1, .int p.2])
def PairsV (H : Hp) (xs : List V) (ps : List (Int × Int)) : Prop := xs.length = ps.length ∧ ∀ (i : Nat) (p : Int × Int), ps[i]? = some p → ∃ v, xs[i]? = some v ∧ PairV H v p
theorem PairV.same {H H' : Hp} {v : V} {p : Int × Int} (s : Same H H') (h : PairV H v p) : PairV H' v p := let ⟨t, e, q⟩ := h; ⟨t, e, s _ _ q⟩
theorem PairsV.same {H H' : Hp} {xs : List V} {ps : List (Int × Int)} (s : Same H H') (h : PairsV H xs ps) : PairsV H' xs ps := ⟨h.1, fun i p e => let ⟨v, e1, q⟩ := h.2 i p e; ⟨v, e1, q.same s⟩⟩
theorem PairsV.at {H : Hp} {xs : List V} {ps : List (Int × Int)} (h : PairsV H xs ps) {i : Nat} {v : V} (e : xs[i]? = some v) : ∃ p, ps[i]? = some p ∧ PairV H v p := by
  have hi : i < xs.length := (List.getElem?_eq_some_iff.mp e).1
  have hp : i < ps.length := by rw [← h.1]; exact hi
  obtain ⟨v', e1, q⟩ := h.2 i ps[i] (List.getElem?_eq_getElem hp)
  rw [e] at e1
  cases e1
  exact ⟨_, List.getElem?_eq_getElem hp, q⟩
theorem PairsV.nil {H : Hp} : PairsV H [] [] := ⟨rfl, fun i p e => by simp at e⟩
theorem PairsV.snoc {H : Hp} {xs : List V} {ps : List (Int × Int)} {v : V} {p : Int × Int} (h : PairsV H xs ps) (q : PairV H v p) : PairsV H (xs ++ [v]) (ps ++ [p]) := by
  refine ⟨by rw [List.length_append, List.length_append, h.1]; rfl, fun i p' e => ?_⟩
  by_cases hi : i < ps.length
  · rw [List.getElem?_append_left hi] at e
    rw [List.getElem?_append_left (by rw [h.1]; exact hi)]
    exact h.2 i p' e
  · have hl : i = ps.length := by
      have := (List.getElem?_eq_some_iff.mp e).1
      rw [List.length_append, List.length_singleton] at this
      omega
    subst hl
    rw [List.getElem?_append_right (Nat.le_refl _), Nat.sub_self] at e
    rw [List.getElem?_append_right (by rw [h.1]; exact Nat.le_refl _), h.1, Nat.sub_self]
    have e' : p = p' := Option.some.inj e
    subst e'
    exact ⟨v, rfl, q⟩
theorem PairsV.app {H : Hp} {xs ys : List V} {ps qs : List (Int × Int)} (h : PairsV H xs ps) (h2 : PairsV H ys qs) : PairsV H (xs ++ ys) (ps ++ qs) := by
  refine ⟨by rw [List.length_append, List.length_append, h.1, h2.1], fun i p e => ?_⟩
  by_cases hi : i < ps.length
  · rw [List.getElem?_append_left hi] at e
    rw [List.getElem?_append_left (by rw [h.1]; exact hi)]
    exact h.2 i p e
  · rw [List.getElem?_append_right (by omega)] at e
    rw [List.getElem?_append_right (by rw [h.1]; omega), h.1]
    exact h2.2 _ p e
/-! ### a Web -/
theorem pt_ne : ¬ (("places" : Str) = "ties") := by decide +kernel
def wf (n : Int) (tl : Addr) : List (Str × V) := putF "ties" (.ref tl) (putF "places" (.int n) [])
theorem wf_places (n : Int) (tl : Addr) : (wf n tl).lookup ("places" : Str) = some (.int n) := by
  unfold wf
  rw [lookup_putF, if_neg pt_ne, lookup_putF, if_pos rfl]
theorem wf_ties (n : Int) (tl : Addr) : (wf n tl).lookup ("ties" : Str) = some (.ref tl) := by
  unfold wf
  rw [lookup_putF, if_pos rfl]
/-- a Web of n places stands at w, its ties ps -/
def WebAt (C : Addr) (H : Hp) (w : Addr) (n : Int) (ps : List (Int × Int)) : Prop := ∃ dx tl xs, H w = some (.ins C dx (wf n tl)) ∧ H tl = some (.lst xs) ∧ PairsV H xs ps
theorem WebAt.same {C : Addr} {H H' : Hp} {w : Addr} {n : Int} {ps : List (Int × Int)} (s : Same H H') (h : WebAt C H w n ps) : WebAt C H' w n ps := let ⟨dx, tl, xs, a, b, c⟩ := h; ⟨dx, tl, xs, s _ _ a, s _ _ b, c.same s⟩
/-- what a web keeps to -/
def GoodW (n : Int) (ps : List (Int × Int)) : Prop := 1 ≤ n ∧ n ≤ 14 ∧ ps.length ≤ 30 ∧ ∀ p ∈ ps, 0 ≤ p.1 ∧ p.1 < n ∧ 0 ≤ p.2 ∧ p.2 < n
/-! ### what the top has made -/
def FX (K : PySem.W.Frag) (mg : Str → Option Value) (x qual : Str) (st : Stmt) : Prop := ∃ (f : Addr) (fd : FuncData), mg x = some (.ref f) ∧ Fun K x qual st f fd
theorem fx_mk {K : PySem.W.Frag} {h : Heap} {mg : Str → Option Value} {x : Str} {st : Stmt} {f : Addr} {oc : Value} {od an : Option Addr} {osl : Array (Option Value)} {kV doc pm cdv ct : Value} (X : K.In h) (G : h.Ns mainGlobals mg)
    (a : PySem.W.nsIn K mainGlobals x = some (some (.ref f))) (l : K.lookup f = some ⟨oc, od, .func (PySem.W.fnOf x x (defArgs st) (defBody st) (defScope st) .none kV doc pm an cdv ct), osl⟩) (c : PySem.W.codeIn K cdv x = true) (k : PySem.W.keepIn K (.ref f) = true) : FX K mg x x st :=
  ⟨f, _, PySem.W.mg_of X G a, fun_mk l c k⟩
def CXF (K : PySem.W.Frag) (mg : Str → Option Value) (x qual : Str) (st : Stmt) (fs : List Str) : Prop := ∃ (C f : Addr) (fd : FuncData), mg x = some (.ref C) ∧ Fun K "__init__" qual st f fd ∧ Cls K C ∧ Mk K C f ∧ ∀ a ∈ fs, NoAttr K C a
theorem cx_mk {K : PySem.W.Frag} {h : Heap} {mg : Str → Option Value} {x qual : Str} {fs : List Str} {st : Stmt} {C f : Addr} {oc : Value} {od an : Option Addr} {osl : Array (Option Value)} {kV doc pm cdv ct : Value} (X : K.In h) (G : h.Ns mainGlobals mg)
    (aC : PySem.W.nsIn K mainGlobals x = some (some (.ref C))) (a : PySem.W.findIn K (.ref C) "__init__" = some (some (.ref f))) (i : PySem.W.isFn K (.ref f) = true)
    (l : K.lookup f = some ⟨oc, od, .func (PySem.W.fnOf "__init__" qual (defArgs st) (defBody st) (defScope st) .none kV doc pm an cdv ct), osl⟩) (c : PySem.W.codeIn K cdv qual = true) (k : PySem.W.keepIn K (.ref f) = true)
    (pg : PySem.W.plainGet K C Str.empty = true) (hd : PySem.W.hasDictIn K C = true) (po : PySem.W.plainOver K C = true) (sa : PySem.W.findIn K (.ref C) "__setattr__" = some (some (.builtin "object.__setattr__"))) (mk : PySem.W.makesIn K C = true) (kc : PySem.W.keepIn K (.ref C) = true)
    (na : ∀ a ∈ fs, PySem.W.findIn K (.ref C) a = some none) : CXF K mg x qual st fs :=
  ⟨C, f, _, PySem.W.mg_of X G aC, fun_mk l c k, ⟨pg, hd, po, sa⟩, ⟨mk, a, i, kc⟩, na⟩
theorem const_mk {K : PySem.W.Frag} {h : Heap} {mg : Str → Option Value} {x : Str} {z : Int} {v : Value} (X : K.In h) (G : h.Ns mainGlobals mg) (a : PySem.W.nsIn K mainGlobals x = some (some v)) (e : ∃ tk, v = .int z tk) : ∃ tk, mg x = some (.int z tk) := by
  obtain ⟨tk, rfl⟩ := e
  exact ⟨tk, PySem.W.mg_of X G a⟩
end My

/-! ## comprehensions: the forms one uses -/
namespace My
open PySem L2
theorem nmY {i : Nat} {x : V} {σ : St} {H : Hp} {A B : St → Hp → Prop} (h : A (σ.set i (some x)) H) : gName i x σ H fun σ2 H2 => tYes σ2 H2 fun b H3 => if b = true then A σ2 H3 else B σ2 H3 :=
  (show if true = true then A (σ.set i (some x)) H else B (σ.set i (some x)) H from iteT h)
theorem nm {i : Nat} {x : V} {σ : St} {H : Hp} {Q : St → Hp → Prop} (h : Q (σ.set i (some x)) H) : gName i x σ H Q := h
section
variable {K : PySem.W.Frag} {a : Addr} {xs : List V} {g : TG} {tt : TT} {te : TE} {o : Nat} {fr : List Nat} {σ : St} {H : Hp} {Q : VK}
/-- what a turn wants, by an invariant over turn, items so far, heap -/
abbrev LcTurn (Pv : Nat → List V → Hp → Prop) (g : TG) (tt : TT) (te : TE) (o : Nat) (fr : List Nat) (σ : St) (i : Nat) (x : V) (ys : List V) (H : Hp) : Prop :=
  ∀ S : Nat → List V → Hp → Prop, (∀ ys H, Pv (i + 1) ys H → S (i + 1) ys H) → g x (σC o fr σ) H fun σ2 H2 => tt σ2 H2 fun b H3 => if b = true then te σ2 H3 fun y H4 => S (i + 1) (ys ++ [y]) H4 else S (i + 1) ys H3
theorem lc_list (Pv : Nat → List V → Hp → Prop) (h0 : Pv 0 [] H) (hz : xs.length < sizeLine) (hl : ∀ i ys H, i ≤ xs.length → Pv i ys H → SqL K H a xs ∧ ys.length ≤ i)
    (hs : ∀ i x ys H, xs[i]? = some x → Pv i ys H → LcTurn Pv g tt te o fr σ i x ys H) (hd : ∀ ys H, Pv xs.length ys H → ∀ p, H p = none → Q (.ref p) (upd H p (.lst ys))) : LcR (Itl K a) g tt te o fr σ H Q := by
  refine ⟨fun i m ys H => m = xs.length - i ∧ i ≤ xs.length ∧ Pv i ys H, ⟨xs.length, by simp, Nat.zero_le _, h0⟩, ?_⟩
  rintro i m ys H ⟨rfl, hi, p⟩
  obtain ⟨q, hy⟩ := hl i ys H hi p
  by_cases hlt : i < xs.length
  · refine .inr ⟨⟨xs, xs[i], q, by simp [hlt]⟩, by omega, fun x H' ⟨e, y⟩ => ?_⟩
    subst e
    have hx := y xs q
    exact hs i x ys _ hx p (fun j ys H => ∃ m', m' < xs.length - i ∧ m' = xs.length - j ∧ j ≤ xs.length ∧ Pv j ys H) fun ys H p' => ⟨xs.length - (i + 1), by omega, rfl, hlt, p'⟩
  · have e : i = xs.length := by omega
    subst e
    exact .inl ⟨⟨xs, q, Nat.le_refl _⟩, by omega, hd ys H p⟩
theorem lc_tup (Pv : Nat → List V → Hp → Prop) (h0 : Pv 0 [] H) (hz : xs.length < sizeLine) (hl : ∀ i ys H, i ≤ xs.length → Pv i ys H → SqT K H a xs ∧ ys.length ≤ i)
    (hs : ∀ i x ys H, xs[i]? = some x → Pv i ys H → LcTurn Pv g tt te o fr σ i x ys H) (hd : ∀ ys H, Pv xs.length ys H → ∀ p, H p = none → Q (.ref p) (upd H p (.lst ys))) : LcR (Itt K a) g tt te o fr σ H Q := by
  refine ⟨fun i m ys H => m = xs.length - i ∧ i ≤ xs.length ∧ Pv i ys H, ⟨xs.length, by simp, Nat.zero_le _, h0⟩, ?_⟩
  rintro i m ys H ⟨rfl, hi, p⟩
  obtain ⟨q, hy⟩ := hl i ys H hi p
  by_cases hlt : i < xs.length
  · refine .inr ⟨⟨xs, xs[i], q, by simp [hlt]⟩, by omega, fun x H' ⟨e, y⟩ => ?_⟩
    subst e
    have hx := y xs q
    exact hs i x ys _ hx p (fun j ys H => ∃ m', m' < xs.length - i ∧ m' = xs.length - j ∧ j ≤ xs.length ∧ Pv j ys H) fun ys H p' => ⟨xs.length - (i + 1), by omega, rfl, hlt, p'⟩
  · have e : i = xs.length := by omega
    subst e
    exact .inl ⟨⟨xs, q, Nat.le_refl _⟩, by omega, hd ys H p⟩
theorem lc_seq {k : Bool} (Pv : Nat → List V → Hp → Prop) (h0 : Pv 0 [] H) (hz : xs.length < sizeLine) (hl : ∀ i ys H, i ≤ xs.length → Pv i ys H → SqK k K H a xs ∧ ys.length ≤ i)
    (hs : ∀ i x ys H, xs[i]? = some x → Pv i ys H → LcTurn Pv g tt te o fr σ i x ys H) (hd : ∀ ys H, Pv xs.length ys H → ∀ p, H p = none → Q (.ref p) (upd H p (.lst ys))) :
    ((∃ xs, SqL K H a xs) ∧ LcR (Itl K a) g tt te o fr σ H Q) ∨ ((∃ xs, SqT K H a xs) ∧ LcR (Itt K a) g tt te o fr σ H Q) := by
  cases k with
  | false => exact .inl ⟨⟨xs, (hl 0 [] H (Nat.zero_le _) h0).1⟩, lc_list Pv h0 hz hl hs hd⟩
  | true => exact .inr ⟨⟨xs, (hl 0 [] H (Nat.zero_le _) h0).1⟩, lc_tup Pv h0 hz hl hs hd⟩
theorem lc_range {lo : Int} {n : Nat} (Pv : Nat → List V → Hp → Prop) (h0 : Pv 0 [] H) (hz : n < sizeLine) (hl : ∀ i ys H, i ≤ n → Pv i ys H → ys.length ≤ i)
    (hs : ∀ i ys H, i < n → Pv i ys H → LcTurn Pv g tt te o fr σ i (.int (lo + i)) ys H) (hd : ∀ ys H, Pv n ys H → ∀ p, H p = none → Q (.ref p) (upd H p (.lst ys))) : LcR (Itr lo n) g tt te o fr σ H Q := by
  refine ⟨fun i m ys H => m = n - i ∧ i ≤ n ∧ Pv i ys H, ⟨n, by simp, Nat.zero_le _, h0⟩, ?_⟩
  rintro i m ys H ⟨rfl, hi, p⟩
  have hy := hl i ys H hi p
  by_cases hlt : i < n
  · refine .inr ⟨hlt, by omega, fun x H' ⟨e, y⟩ => ?_⟩
    subst e
    subst y
    exact hs i ys _ hlt p (fun j ys H => ∃ m', m' < n - i ∧ m' = n - j ∧ j ≤ n ∧ Pv j ys H) fun ys H p' => ⟨n - (i + 1), by omega, rfl, hlt, p'⟩
  · have e : i = n := by omega
    subst e
    exact .inl ⟨Nat.le_refl _, by omega, hd ys H p⟩
end
end My
namespace My
open PySem L2
theorem nodup_get {α : Type} {l : List α} (h : l.Nodup) {i j : Nat} {x : α} (a : l[i]? = some x) (b : l[j]? = some x) : i = j := by
  obtain ⟨h1, e1⟩ := List.getElem?_eq_some_iff.mp a
  obtain ⟨h2, e2⟩ := List.getElem?_eq_some_iff.mp b
  exact (List.getElem_inj h).mp (e1.trans e2.symm)
theorem getD_of {α : Type} {l : List α} {i : Nat} {x d : α} (h : l[i]? = some x) : l.getD i d = x := by rw [List.getD_eq_getElem?_getD, h]; rfl
theorem nd_snoc {α : Type} {l : List α} {x : α} (h : l.Nodup) (hx : x ∉ l) : (l ++ [x]).Nodup := by
  rw [List.nodup_append]
  refine ⟨h, by simp, fun a ha b hb => ?_⟩
  rw [List.mem_singleton] at hb
  subst hb
  rintro rfl
  exact hx ha
/-- for i, x in enumerate(a list that the body leaves as it is): a new pair at each turn -/
theorem for_enum {K : PySem.W.Frag} {a : Addr} {xs : List V} {g : TG} {tb : TS} {D : Ends} {σ : St} {H : Hp} (Pv : Nat → St → Hp → Prop) (h0 : Pv 0 σ H) (hl : ∀ i σ H, i ≤ xs.length → Pv i σ H → SqL K H a xs)
    (hs : ∀ (i : Nat) x σ H (p : Addr), H p = none → xs[i]? = some x → Pv i σ H → g (.ref p) σ (upd H p (.tup [.int i, x])) fun σ2 H2 => tb { D with nx := Pv (i + 1), ct := Pv (i + 1), bk := D.nx } σ2 H2) (hd : ∀ σ H, Pv xs.length σ H → D.nx σ H) :
    ∃ W : Nat → Nat → St → Hp → Prop, (∃ m, W 0 m σ H) ∧ ∀ i m σ H, W i m σ H →
      ((Ite K a).stop i H ∧ D.nx σ H) ∨ ((Ite K a).go i H ∧ ∃ N : St → Hp → Prop, (∀ σ' H', N σ' H' → ∃ m', m' < m ∧ W (i + 1) m' σ' H') ∧ ∀ x H', (Ite K a).yld i H x H' → g x σ H' fun σ2 H2 => tb { D with nx := N, ct := N, bk := D.nx } σ2 H2) := by
  refine ⟨fun i m σ H => m = xs.length - i ∧ i ≤ xs.length ∧ Pv i σ H, ⟨xs.length, by simp, Nat.zero_le _, h0⟩, ?_⟩
  rintro i m σ H ⟨rfl, hi, p⟩
  have q := hl i σ H hi p
  by_cases hlt : i < xs.length
  · refine .inr ⟨⟨xs, xs[i], q, by simp [hlt]⟩, Pv (i + 1), fun σ' H' p' => ⟨xs.length - (i + 1), by omega, rfl, hlt, p'⟩, fun x H' ⟨T, y, hT, ex, eH, hy⟩ => ?_⟩
    subst ex eH
    exact hs i y σ H T hT (hy xs q) p
  · have e : i = xs.length := by omega
    subst e
    exact .inl ⟨⟨xs, q, Nat.le_refl _⟩, hd σ H p⟩
end My
namespace My
open PySem L2
end My

/-! ## the rules that name the written part, with it named apart (for a comprehension's block) -/
namespace L2
open PySem PySem.Spec PyProof.Rows
section
variable {X : Cx} {a b o e : Expr} {es : List Expr} {ta tb te to : TE} {t : TA} {pos : Pos}
theorem ix_listK (K : PySem.W.Frag) (h : X.K = K := by rfl) : IxR X (rIxL K) := h ▸ ix_list
theorem ix_tupK (K : PySem.W.Frag) (h : X.K = K := by rfl) : IxR X (rIxT K) := h ▸ ix_tup
theorem sl_listK (K : PySem.W.Frag) (h : X.K = K := by rfl) : SlR X (rSlL K) := h ▸ sl_list
theorem op_eqDK (K : PySem.W.Frag) (hu : X.A.units + 8 < cLine) (h : X.K = K := by rfl) : OpR X (compareOp .Eq) (rEqD K false) := h ▸ op_eqD hu
theorem op_neDK (K : PySem.W.Frag) (hu : X.A.units + 8 < cLine) (h : X.K = K := by rfl) : OpR X (compareOp .NotEq) (rEqD K true) := h ▸ op_neD hu
theorem pe_fldK (K : PySem.W.Frag) {f : Str} (he : PE X e ta) (hb : attributeBase e f X.env (eval e X.env) = eval e X.env) (h : X.K = K := by rfl) : PE X (.Attribute e f pos) (tFld K ta f) := h ▸ pe_fld he hb
theorem call_lenK (K : PySem.W.Frag) (h : X.K = K := by rfl) : CallR X (.builtin "len") (fun xs H Q => ∃ p ys, xs = [.ref p] ∧ (SqL K H p ys ∨ SqT K H p ys) ∧ Q (.int ys.length) H) := h ▸ call_len_seq
theorem call_listK (K : PySem.W.Frag) (h : X.K = K := by rfl) : CallR X (.type "list") (fun xs H Q => ∃ p ys, xs = [.ref p] ∧ (SqL K H p ys ∨ SqT K H p ys) ∧ ∀ l, H l = none → Q (.ref l) (upd H l (.lst ys))) := h ▸ call_list_of
theorem call_tupleK (K : PySem.W.Frag) (h : X.K = K := by rfl) : CallR X (.type "tuple") (fun xs H Q => ∃ p ys, xs = [.ref p] ∧ ((SqL K H p ys ∧ ∀ l, H l = none → Q (.ref l) (upd H l (.tup ys))) ∨ (SqT K H p ys ∧ Q (.ref p) H))) := h ▸ call_tuple_of
theorem call_setK (K : PySem.W.Frag) (hc : X.calm = true) (h : X.K = K := by rfl) : CallR X (.type "set") (fun xs H Q => ∃ (p : Addr) (ns : List Int), xs = [.ref p] ∧ SqL K H p (ns.map V.int) ∧ ns.length + 1 < scanBound ∧
    ∀ l, H l = none → Q (.ref l) (upd H l (.set (fun k => (seen ns).any (· == k)) (seen ns).length))) := h ▸ call_set_ints hc
theorem call_isiK (K : PySem.W.Frag) {T : String} (h : X.K = K := by rfl) : CallR X (.builtin "isinstance") (fun xs H Q => ∃ x t b, xs = [x, .ty T] ∧ TyOf K H x t ∧ PySem.W.kitOne K t (.type T) = some b ∧ Q (.bl b) H) := h ▸ call_isi
theorem pi_listK (K : PySem.W.Frag) {tg : Expr} {l : Expr} {tl : TE} (hl : PE X l tl) (h : X.K = K := by rfl) : PI X tg l (iList K tl) := h ▸ pi_list hl
theorem pi_tupK (K : PySem.W.Frag) {tg : Expr} {l : Expr} {tl : TE} (hl : PE X l tl) (h : X.K = K := by rfl) : PI X tg l (iTup K tl) := h ▸ pi_tup hl
theorem pi_seqK (K : PySem.W.Frag) {tg : Expr} {l : Expr} {tl : TE} (hl : PE X l tl) (h : X.K = K := by rfl) : PI X tg l (My.iSeq K tl) := h ▸ My.pi_seq hl
theorem pi_enumK (K : PySem.W.Frag) {elts : List Expr} {x1 : Nat} {tpos : Pos} {a : Expr} {ta : TA} {p pos : Pos} (hg : Gl X "enumerate") (hm : X.mg "enumerate" = none) (ha : PA X [a] ta) (hs : starEach [a] X.env = [(false, eval a X.env)] := by rfl) (h : X.K = K := by rfl) :
    PI X (.Tuple elts x1 tpos) (.Call (.Name "enumerate" p) [a] [] pos) (iEnum K ta) := h ▸ pi_enum hg hm ha hs
theorem pg_tupK (K : PySem.W.Frag) {es : List Expr} {k : Nat} {t : TGs} {n : Nat} (hc : X.calm = true) (ht : PGs X es t)
    (hn : (assignEach es X.env).length = n := by rfl) (hst : (assignEach es X.env).findIdx? (·.1) = none := by rfl) (h : X.K = K := by rfl) : PG X (.Tuple es k pos) (gTup K n t) := h ▸ pg_tup hc ht hn hst
theorem pe_bmK (K : PySem.W.Frag) {name : Str} {apos cpos : Pos} {T id : String} {r : V → List V → Hp → VK → Prop} (pa : PlainAttrs T) (slot : Slot T name id) (hty : typeOf (.builtin id) = pure (.type "method_descriptor")) (hm : MtR X id r) (ho : PE X o to) (ha : PA X (e :: es) t)
    (hbase : attributeBase o name X.env (eval o X.env) = eval o X.env := by rfl)
    (hfew : ((backTo cpos (starEach (e :: es) X.env)).all (fun x => !x.1) && (backToKw cpos (keywordEach [] X.env)).all (fun x => x.1.isSome)
      && decide ((e :: es).length + ([] : List Keyword).length + (if ([] : List Keyword).isEmpty then 0 else 1) < 30)) = true := by rfl)
    (hline : (apos.endLine == cpos.line) = true := by rfl) (hs : starEach (e :: es) X.env = (false, eval e X.env) :: starEach es X.env := by rfl) (hplain : (backTo cpos (starEach es X.env)).any (·.1) = false := by rfl) (h : X.K = K := by rfl) :
    PE X (.Call (.Attribute o name apos) (e :: es) [] cpos) (tBM K T r to t) := h ▸ pe_bm pa slot hty hm ho ha hbase hfew hline hs hplain
theorem pe_bm0K (K : PySem.W.Frag) {name : Str} {apos cpos : Pos} {T id : String} {r : V → List V → Hp → VK → Prop} (pa : PlainAttrs T) (slot : Slot T name id) (hty : typeOf (.builtin id) = pure (.type "method_descriptor")) (hm : MtR X id r) (ho : PE X o to)
    (hbase : attributeBase o name X.env (eval o X.env) = eval o X.env := by rfl) (hline : (apos.endLine == cpos.line) = true := by rfl) (h : X.K = K := by rfl) : PE X (.Call (.Attribute o name apos) [] [] cpos) (tBM0 K T r to) := h ▸ pe_bm0 pa slot hty hm ho hbase hline
end
end L2

/-! ## marks: two ways to join, one partition -/
namespace My
/-- the mark at a place -/
abbrev mk (m : List Int) (i : Nat) : Int := m.getD i 0
/-- the program's step: the greater mark gives way -/
def pm (m : List Int) (a b : Nat) : List Int :=
  if min (mk m a) (mk m b) < max (mk m a) (mk m b) then m.map (fun k => if k = max (mk m a) (mk m b) then min (mk m a) (mk m b) else k) else m
/-- the other step: the second mark gives way -/
def lm (m : List Int) (a b : Nat) : List Int :=
  if mk m a ≠ mk m b then m.map (fun k => if k = mk m b then mk m a else k) else m
/-- the places fall alike -/
def SameP (m l : List Int) : Prop := m.length = l.length ∧ ∀ i j, i < m.length → j < m.length → (mk m i = mk m j ↔ mk l i = mk l j)
theorem mk_map (m : List Int) (f : Int → Int) {i : Nat} (h : i < m.length) : mk (m.map f) i = f (mk m i) := by
  simp [mk, List.getD_eq_getElem?_getD, List.getElem?_map, List.getElem?_eq_getElem h]
theorem pm_length (m : List Int) (a b : Nat) : (pm m a b).length = m.length := by unfold pm; split <;> simp
theorem lm_length (m : List Int) (a b : Nat) : (lm m a b).length = m.length := by unfold lm; split <;> simp
/-- two places are alike behind a step -/
def Mrg (m : List Int) (a b i j : Nat) : Prop := mk m i = mk m j ∨ ((mk m i = mk m a ∨ mk m i = mk m b) ∧ (mk m j = mk m a ∨ mk m j = mk m b))
theorem pm_iff {m : List Int} {a b i j : Nat} (hi : i < m.length) (hj : j < m.length) : mk (pm m a b) i = mk (pm m a b) j ↔ Mrg m a b i j := by
  unfold pm Mrg
  split
  · rename_i h
    rw [mk_map _ _ hi, mk_map _ _ hj]
    generalize mk m i = x at *
    generalize mk m j = y at *
    generalize mk m a = p at *
    generalize mk m b = q at *
    by_cases hpq : p < q
    · rw [Int.min_eq_left (by omega), Int.max_eq_right (by omega)]
      split <;> split <;> omega
    · rw [Int.min_eq_right (by omega), Int.max_eq_left (by omega)] at *
      split <;> split <;> omega
  · rename_i h
    generalize mk m i = x at *
    generalize mk m j = y at *
    generalize mk m a = p at *
    generalize mk m b = q at *
    omega
theorem lm_iff {m : List Int} {a b i j : Nat} (hi : i < m.length) (hj : j < m.length) : mk (lm m a b) i = mk (lm m a b) j ↔ Mrg m a b i j := by
  unfold lm Mrg
  split
  · rename_i h
    rw [mk_map _ _ hi, mk_map _ _ hj]
    generalize mk m i = x at *
    generalize mk m j = y at *
    generalize mk m a = p at *
    generalize mk m b = q at *
    split <;> split <;> omega
  · rename_i h
    generalize mk m i = x at *
    generalize mk m j = y at *
    generalize mk m a = p at *
    generalize mk m b = q at *
    omega
theorem SameP.step {m l : List Int} (s : SameP m l) {a b : Nat} (ha : a < m.length) (hb : b < m.length) : SameP (pm m a b) (lm l a b) := by
  obtain ⟨hl, h⟩ := s
  refine ⟨by rw [pm_length, lm_length, hl], fun i j hi hj => ?_⟩
  rw [pm_length] at hi hj
  rw [pm_iff hi hj, lm_iff (by omega) (by omega)]
  unfold Mrg
  rw [h i j hi hj, h i a hi ha, h i b hi hb, h j a hj ha, h j b hj hb]
/-- the marks behind a row of ties (their ends) -/
def pms (n : Nat) (es : List (Nat × Nat)) : List Int := es.foldl (fun m e => pm m e.1 e.2) ((List.range n).map fun (i : Nat) => (i : Int))
def lms (n : Nat) (es : List (Nat × Nat)) : List Int := es.foldl (fun m e => lm m e.1 e.2) ((List.range n).map fun (i : Nat) => (i : Int))
theorem pms_length (n : Nat) (es : List (Nat × Nat)) : (pms n es).length = n := by
  have : ∀ (es : List (Nat × Nat)) (m : List Int), (es.foldl (fun m e => pm m e.1 e.2) m).length = m.length := by
    intro es
    induction es with
    | nil => intro m; rfl
    | cons e es ih => intro m; rw [List.foldl_cons, ih, pm_length]
  unfold pms; rw [this]; simp
theorem lms_length (n : Nat) (es : List (Nat × Nat)) : (lms n es).length = n := by
  have : ∀ (es : List (Nat × Nat)) (m : List Int), (es.foldl (fun m e => lm m e.1 e.2) m).length = m.length := by
    intro es
    induction es with
    | nil => intro m; rfl
    | cons e es ih => intro m; rw [List.foldl_cons, ih, lm_length]
  unfold lms; rw [this]; simp
theorem lms_snoc (n : Nat) (es : List (Nat × Nat)) (e : Nat × Nat) : lms n (es ++ [e]) = lm (lms n es) e.1 e.2 := by unfold lms; rw [List.foldl_append]; rfl
theorem same_pms {n : Nat} : ∀ {es : List (Nat × Nat)}, (∀ e ∈ es, e.1 < n ∧ e.2 < n) → SameP (pms n es) (lms n es) := by
  intro es
  have key : ∀ (es : List (Nat × Nat)) (m l : List Int), SameP m l → m.length = n → (∀ e ∈ es, e.1 < n ∧ e.2 < n) → SameP (es.foldl (fun m e => pm m e.1 e.2) m) (es.foldl (fun m e => lm m e.1 e.2) l) := by
    intro es
    induction es with
    | nil => intro m l s _ _; exact s
    | cons e es ih =>
      intro m l s hm he
      have h1 := he e List.mem_cons_self
      exact ih _ _ (s.step (by omega) (by omega)) (by rw [pm_length]; exact hm) fun x hx => he x (List.mem_cons_of_mem _ hx)
  exact key es _ _ ⟨rfl, fun i j _ _ => Iff.rfl⟩ (by simp)
end My

/-! ## places by their marks -/
namespace My
def gstep (g : List (Int × List Int)) (place k : Int) : List (Int × List Int) :=
  if k ∈ g.map (·.1) then g.map (fun kv => if kv.1 = k then (kv.1, kv.2 ++ [place]) else kv) else g ++ [(k, [place])]
def grpA (M : List Int) : Nat → List (Int × List Int)
  | 0 => []
  | i + 1 => gstep (grpA M i) (i : Int) (mk M i)
def grp (M : List Int) : List (Int × List Int) := grpA M M.length
theorem gstep_keys (g : List (Int × List Int)) (p k : Int) : (gstep g p k).map (·.1) = if k ∈ g.map (·.1) then g.map (·.1) else g.map (·.1) ++ [k] := by
  unfold gstep
  split
  · rw [List.map_map]
    refine List.map_congr_left fun kv _ => ?_
    show (if kv.1 = k then (kv.1, kv.2 ++ [p]) else kv).1 = kv.1
    split <;> rfl
  · simp
theorem gstep_nodup {g : List (Int × List Int)} {p k : Int} (h : (g.map (·.1)).Nodup) : ((gstep g p k).map (·.1)).Nodup := by
  rw [gstep_keys]
  split
  · exact h
  · rename_i hk
    rw [List.nodup_append]
    refine ⟨h, by simp, fun a ha b hb => ?_⟩
    rw [List.mem_singleton] at hb
    subst hb
    rintro rfl
    exact hk ha
theorem grpA_nodup (M : List Int) : ∀ i, ((grpA M i).map (·.1)).Nodup
  | 0 => by simp [grpA]
  | i + 1 => gstep_nodup (grpA_nodup M i)
/-- what stands in the groups -/
theorem grpA_mem (M : List Int) : ∀ i kv, kv ∈ grpA M i → ∀ z : Int, z ∈ kv.2 ↔ (0 ≤ z ∧ z < (i : Int) ∧ mk M z.toNat = kv.1)
  | 0, kv, h, z => by simp [grpA] at h
  | i + 1, kv, h, z => by
    unfold grpA gstep at h
    split at h
    · rename_i hk
      obtain ⟨kv0, h0, e⟩ := List.mem_map.mp h
      have ih := grpA_mem M i kv0 h0 z
      by_cases hc : kv0.1 = mk M i
      · rw [if_pos hc] at e
        subst e
        rw [List.mem_append, ih, List.mem_singleton]
        constructor
        · rintro (⟨a, b, c⟩ | rfl)
          · exact ⟨a, by omega, c⟩
          · exact ⟨by omega, by omega, by simpa using hc.symm⟩
        · rintro ⟨a, b, c⟩
          by_cases hz : z < (i : Int)
          · exact .inl ⟨a, hz, c⟩
          · exact .inr (by omega)
      · rw [if_neg hc] at e
        subst e
        rw [ih]
        constructor
        · rintro ⟨a, b, c⟩; exact ⟨a, by omega, c⟩
        · rintro ⟨a, b, c⟩
          refine ⟨a, ?_, c⟩
          by_cases hz : z < (i : Int)
          · exact hz
          · have e : z.toNat = i := by omega
            rw [e] at c
            exact absurd c.symm hc
    · rename_i hk
      rcases List.mem_append.mp h with h0 | h0
      · have ih := grpA_mem M i kv h0 z
        rw [ih]
        constructor
        · rintro ⟨a, b, c⟩; exact ⟨a, by omega, c⟩
        · rintro ⟨a, b, c⟩
          refine ⟨a, ?_, c⟩
          by_cases hz : z < (i : Int)
          · exact hz
          · have e : z.toNat = i := by omega
            rw [e] at c
            exact absurd (List.mem_map.mpr ⟨kv, h0, c.symm⟩) hk
      · rw [List.mem_singleton] at h0
        subst h0
        simp only [List.mem_singleton]
        constructor
        · rintro rfl; exact ⟨by omega, by omega, by simp⟩
        · rintro ⟨a, b, c⟩
          by_cases hz : z < (i : Int)
          · exfalso
            have key := grpA_key M i z.toNat (by omega)
            rw [c] at key
            exact hk key
          · omega
where
  grpA_key (M : List Int) : ∀ i j, j < i → mk M j ∈ (grpA M i).map (·.1)
    | 0, j, h => absurd h (Nat.not_lt_zero j)
    | i + 1, j, h => by
      show mk M j ∈ (gstep (grpA M i) (i : Int) (mk M i)).map (·.1)
      rw [gstep_keys]
      by_cases hj : j < i
      · have := grpA_key M i j hj
        split
        · exact this
        · exact List.mem_append_left _ this
      · have e : j = i := by omega
        subst e
        split
        · assumption
        · simp
theorem grpA_key {M : List Int} {i j : Nat} (h : j < i) : mk M j ∈ (grpA M i).map (·.1) := grpA_mem.grpA_key M i j h
theorem grpA_of_key (M : List Int) : ∀ i k, k ∈ (grpA M i).map (·.1) → ∃ j, j < i ∧ mk M j = k
  | 0, k, h => by simp [grpA] at h
  | i + 1, k, h => by
    have h : k ∈ (gstep (grpA M i) (i : Int) (mk M i)).map (·.1) := h
    rw [gstep_keys] at h
    have old : k ∈ (grpA M i).map (·.1) → ∃ j, j < i + 1 ∧ mk M j = k := fun q => by
      obtain ⟨j, hj, e⟩ := grpA_of_key M i k q
      exact ⟨j, by omega, e⟩
    split at h
    · exact old h
    · rcases List.mem_append.mp h with q | q
      · exact old q
      · rw [List.mem_singleton] at q
        exact ⟨i, by omega, q.symm⟩
/-- one group just where all places are alike -/
theorem grp_one {M : List Int} (hM : 1 ≤ M.length) : (grp M).length = 1 ↔ ∀ i j, i < M.length → j < M.length → mk M i = mk M j := by
  unfold grp
  constructor
  · intro h i j hi hj
    obtain ⟨kv, e⟩ := List.length_eq_one_iff.mp h
    have h1 := grpA_key (M := M) hi
    have h2 := grpA_key (M := M) hj
    rw [e] at h1 h2
    rw [List.map_singleton, List.mem_singleton] at h1 h2
    rw [h1, h2]
  · intro h
    have nd := grpA_nodup M M.length
    have h0 := grpA_key (M := M) (i := M.length) (j := 0) (by omega)
    generalize hg : (grpA M M.length) = g at *
    match g, hg with
    | [], _ => simp at h0
    | [kv], _ => rfl
    | a :: b :: r, hg =>
      exfalso
      obtain ⟨i, hi, e1⟩ := grpA_of_key M M.length a.1 (by rw [hg]; simp)
      obtain ⟨j, hj, e2⟩ := grpA_of_key M M.length b.1 (by rw [hg]; simp)
      have e3 := h i j hi hj
      have : a.1 = b.1 := by rw [← e1, ← e2, e3]
      simp [this] at nd
/-- one value in a list just where all are alike -/
theorem SameP.one {m l : List Int} (s : SameP m l) : (∀ i j, i < m.length → j < m.length → mk m i = mk m j) ↔ (∀ i j, i < l.length → j < l.length → mk l i = mk l j) := by
  obtain ⟨hl, h⟩ := s
  rw [← hl]
  constructor
  · intro q i j hi hj; exact (h i j hi hj).mp (q i j hi hj)
  · intro q i j hi hj; exact (h i j hi hj).mpr (q i j hi hj)
end My
namespace My
theorem grpA_len {M : List Int} : ∀ {i : Nat} {kv : Int × List Int}, kv ∈ grpA M i → kv.2.length ≤ i
  | 0, kv, h => by simp [grpA] at h
  | i + 1, kv, h => by
    unfold grpA gstep at h
    split at h
    · obtain ⟨kv0, h0, e⟩ := List.mem_map.mp h
      have ih := grpA_len h0
      by_cases hc : kv0.1 = mk M i
      · rw [if_pos hc] at e
        subst e
        rw [List.length_append, List.length_singleton]
        omega
      · rw [if_neg hc] at e
        subst e
        omega
    · rcases List.mem_append.mp h with h0 | h0
      · have ih := grpA_len h0
        omega
      · rw [List.mem_singleton] at h0
        subst h0
        simp
end My

/-! ## sets of ints, in, isinstance -/
namespace My
open PySem L2 PyProof.Rows
theorem met_nodup (val : Nat → Int) : ∀ i, (firstMet val i).Nodup
  | 0 => List.nodup_nil
  | i + 1 => by
    rw [firstMet_succ]
    unfold step_dedup
    split
    · exact met_nodup val i
    · rename_i h
      refine nd_snoc (met_nodup val i) fun z => h ?_
      rw [List.any_eq_true]
      exact ⟨val i, z, by simp⟩
theorem met_mem (val : Nat → Int) : ∀ i (k : Int), k ∈ firstMet val i ↔ ∃ j, j < i ∧ val j = k
  | 0, k => by
    rw [firstMet_zero]
    constructor
    · intro h; cases h
    · rintro ⟨j, h, _⟩; exact absurd h (Nat.not_lt_zero j)
  | i + 1, k => by
    rw [firstMet_succ]
    have ih := met_mem val i k
    unfold step_dedup
    split
    · rename_i h
      rw [ih]
      constructor
      · rintro ⟨j, hj, e⟩; exact ⟨j, by omega, e⟩
      · rintro ⟨j, hj, e⟩
        by_cases hji : j < i
        · exact ⟨j, hji, e⟩
        · have e2 : j = i := by omega
          subst e2
          obtain ⟨y, hy, ey⟩ := List.any_eq_true.mp h
          have ey' : y = val j := by simpa using ey
          rw [ey', e] at hy
          exact ih.mp hy
    · rw [List.mem_append, ih, List.mem_singleton]
      constructor
      · rintro (⟨j, hj, e⟩ | e)
        · exact ⟨j, by omega, e⟩
        · exact ⟨i, by omega, e.symm⟩
      · rintro ⟨j, hj, e⟩
        by_cases hji : j < i
        · exact .inl ⟨j, hji, e⟩
        · have e2 : j = i := by omega
          subst e2
          exact .inr e.symm
theorem seen_one {ns : List Int} (h : 1 ≤ ns.length) : (L2.seen ns).length = 1 ↔ ∀ i j, i < ns.length → j < ns.length → mk ns i = mk ns j := by
  have nd := met_nodup (fun i => ns.getD i 0) ns.length
  have mm := met_mem (fun i => ns.getD i 0) ns.length
  unfold L2.seen
  generalize firstMet (fun i => ns.getD i 0) ns.length = l at *
  constructor
  · intro h1 i j hi hj
    obtain ⟨x, e⟩ := List.length_eq_one_iff.mp h1
    have a := (mm (ns.getD i 0)).mpr ⟨i, hi, rfl⟩
    have b := (mm (ns.getD j 0)).mpr ⟨j, hj, rfl⟩
    rw [e, List.mem_singleton] at a b
    show ns.getD i 0 = ns.getD j 0
    rw [a, b]
  · intro q
    have h0 := (mm (ns.getD 0 0)).mpr ⟨0, by omega, rfl⟩
    match l, nd, mm, h0 with
    | [], _, _, h0 => cases h0
    | [x], _, _, _ => rfl
    | x :: y :: r, nd, mm, _ =>
      exfalso
      obtain ⟨i, hi, e1⟩ := (mm x).mp (by simp)
      obtain ⟨j, hj, e2⟩ := (mm y).mp (by simp)
      have e3 : ns.getD i 0 = ns.getD j 0 := q i j hi hj
      have e : x = y := by rw [← e1, ← e2]; exact e3
      simp [e] at nd
theorem kit_same {K : PySem.W.Frag} {t : Value} : PySem.W.kitOne K t t = some true := by
  unfold PySem.W.kitOne
  rw [if_pos (beq_self_eq_true t)]
theorem dec_int {a b : Int} : decide (V.int a = V.int b) = decide (a = b) := by
  by_cases h : a = b
  · subst h; simp
  · have h' : ¬ V.int a = V.int b := fun z => h (V.int.inj z)
    rw [decide_eq_false h, decide_eq_false h']
theorem dec_bl {a b : Bool} : decide (V.bl a = V.bl b) = decide (a = b) := by
  by_cases h : a = b
  · subst h; simp
  · have h' : ¬ V.bl a = V.bl b := fun z => h (V.bl.inj z)
    rw [decide_eq_false h, decide_eq_false h']
end My

/-! ## own words about sets of ties, marks and groups -/
namespace My
open PySem L2
/-! from is_set.txt -/
/-- ascending numbers of ties -/
def IsSet (m : Nat) (ns : List Int) : Prop := ∀ i z, ns[i]? = some z → 0 ≤ z ∧ z < (m : Int) ∧ ∀ y, i ≠ 0 → ns[i - 1]? = some y → y < z
/-! from piece_marks.txt -/
/-- the ends of ties -/
def endsOf (ps : List (Int × Int)) (ns : List Int) : List (Nat × Nat) := ns.map fun z => ((ps.getD z.toNat (0, 0)).1.toNat, (ps.getD z.toNat (0, 0)).2.toNat)
theorem endsOf_snoc {ps : List (Int × Int)} {ns : List Int} {i : Nat} {z : Int} (h : ns[i]? = some z) : endsOf ps (ns.take (i + 1)) = endsOf ps (ns.take i) ++ [((ps.getD z.toNat (0, 0)).1.toNat, (ps.getD z.toNat (0, 0)).2.toNat)] := by
  unfold endsOf
  rw [List.take_succ, h]
  simp
theorem mk_some {m : List Int} {i : Nat} (h : i < m.length) : m[i]? = some (mk m i) := by
  rw [List.getElem?_eq_getElem h]
  simp [mk, List.getD_eq_getElem?_getD, List.getElem?_eq_getElem h]
theorem rngI_zero (n : Int) : rngI 0 n = (List.range n.toNat).map fun (i : Nat) => (i : Int) := by
  unfold rngI
  rw [Int.sub_zero]
  refine List.map_congr_left fun i _ => ?_
  omega
/-! from pieces_of.txt -/
/-- a dict of groups: as the addresses of its lists -/
def gkv (g : List (Int × List Int)) (as : List Addr) : List (Key × V) := List.zipWith (fun kv a => ((Sum.inl kv.1 : Key), V.ref a)) g as
theorem gkv_length {g : List (Int × List Int)} {as : List Addr} (h : as.length = g.length) : (gkv g as).length = g.length := by unfold gkv; rw [List.length_zipWith]; omega
theorem gkv_snd : ∀ {g : List (Int × List Int)} {as : List Addr}, as.length = g.length → (gkv g as).map (·.2) = as.map V.ref
  | [], [], _ => rfl
  | [], _ :: _, h => by simp at h
  | _ :: _, [], h => by simp at h
  | kv :: g, a :: as, h => by
    show V.ref a :: (gkv g as).map (·.2) = V.ref a :: as.map V.ref
    rw [gkv_snd (Nat.succ.inj h)]
theorem gkv_keys : ∀ {g g' : List (Int × List Int)} {as : List Addr}, g.map (·.1) = g'.map (·.1) → gkv g as = gkv g' as
  | [], [], _, _ => rfl
  | [], _ :: _, _, h => by simp at h
  | _ :: _, [], _, h => by simp at h
  | kv :: g, kv' :: g', [], _ => rfl
  | kv :: g, kv' :: g', a :: as, h => by
    rw [List.map_cons, List.map_cons, List.cons.injEq] at h
    show ((Sum.inl kv.1 : Key), V.ref a) :: gkv g as = ((Sum.inl kv'.1 : Key), V.ref a) :: gkv g' as
    rw [h.1, gkv_keys h.2]
theorem gkv_snoc : ∀ {g : List (Int × List Int)} {as : List Addr} {kv : Int × List Int} {a : Addr}, as.length = g.length → gkv (g ++ [kv]) (as ++ [a]) = gkv g as ++ [((Sum.inl kv.1 : Key), V.ref a)]
  | [], [], _, _, _ => rfl
  | [], _ :: _, _, _, h => by simp at h
  | _ :: _, [], _, _, h => by simp at h
  | x :: g, y :: as, kv, a, h => by
    show _ :: gkv (g ++ [kv]) (as ++ [a]) = _ :: (gkv g as ++ _)
    rw [gkv_snoc (Nat.succ.inj h)]
theorem gkv_val : ∀ {g : List (Int × List Int)} {as : List Addr} {k : Int}, as.length = g.length →
    (valV (gkv g as) (Sum.inl k : Key) = none ∧ k ∉ g.map (·.1)) ∨ ∃ (j : Nat) (kv : Int × List Int) (a : Addr), g[j]? = some kv ∧ as[j]? = some a ∧ kv.1 = k ∧ valV (gkv g as) (Sum.inl k : Key) = some (.ref a)
  | [], [], k, _ => .inl ⟨rfl, by simp⟩
  | [], _ :: _, _, h => by simp at h
  | _ :: _, [], _, h => by simp at h
  | kv :: g, a :: as, k, h => by
    by_cases e : kv.1 = k
    · refine .inr ⟨0, kv, a, rfl, rfl, e, ?_⟩
      show valV (((Sum.inl kv.1 : Key), V.ref a) :: gkv g as) _ = _
      rw [valV_pos (by rw [e])]
    · have e' : ¬ ((Sum.inl kv.1 : Key) = Sum.inl k) := fun z => e (Sum.inl.inj z)
      have ev : valV (gkv (kv :: g) (a :: as)) (Sum.inl k : Key) = valV (gkv g as) (Sum.inl k : Key) := valV_neg (p := ((Sum.inl kv.1 : Key), V.ref a)) e'
      rcases gkv_val (g := g) (as := as) (k := k) (Nat.succ.inj h) with ⟨h1, h2⟩ | ⟨j, kv', a', h1, h2, h3, h4⟩
      · refine .inl ⟨by rw [ev]; exact h1, ?_⟩
        rw [List.map_cons, List.mem_cons]
        rintro (z | z)
        · exact e z.symm
        · exact h2 z
      · exact .inr ⟨j + 1, kv', a', by simpa using h1, by simpa using h2, h3, by rw [ev]; exact h4⟩
/-- the groups' lists stand apart, and none of them stood ahead of the call -/
structure GrpAt (H0 H : Hp) (g : List (Int × List Int)) (as : List Addr) : Prop where
  len : as.length = g.length
  nd : as.Nodup
  at_ : ∀ (i : Nat) (kv : Int × List Int) (a : Addr), g[i]? = some kv → as[i]? = some a → H a = some (.lst (IL kv.2))
  new : ∀ a ∈ as, H0 a = none
theorem GrpAt.same {H0 H H' : Hp} {g : List (Int × List Int)} {as : List Addr} (s : Same H H') (h : GrpAt H0 H g as) : GrpAt H0 H' g as := ⟨h.len, h.nd, fun i kv a e1 e2 => s _ _ (h.at_ i kv a e1 e2), h.new⟩
theorem GrpAt.mem {H0 H : Hp} {g : List (Int × List Int)} {as : List Addr} (h : GrpAt H0 H g as) {a : Addr} (ha : a ∈ as) : ∃ l, H a = some (.lst l) := by
  obtain ⟨i, hi, e⟩ := List.getElem_of_mem ha
  have hg : i < g.length := by rw [← h.len]; exact hi
  exact ⟨_, h.at_ i g[i] a (List.getElem?_eq_getElem hg) (by rw [List.getElem?_eq_getElem hi, e])⟩
theorem IsSet.all {m : Nat} {ns : List Int} (h : IsSet m ns) : ∀ z ∈ ns, 0 ≤ z ∧ z < (m : Int) := fun z hz => by
  obtain ⟨i, hi, e⟩ := List.getElem_of_mem hz
  obtain ⟨a, b, _⟩ := h i z (by rw [List.getElem?_eq_getElem hi, e])
  exact ⟨a, b⟩
/-! from _law_some.txt -/
theorem IsSet.nil (m : Nat) : IsSet m [] := fun i z e => by simp at e
theorem IsSet.snoc {m : Nat} {ns : List Int} (h : IsSet m ns) : IsSet (m + 1) (ns ++ [(m : Int)]) := fun i z e => by
  by_cases hi : i < ns.length
  · rw [List.getElem?_append_left hi] at e
    obtain ⟨a, b, c⟩ := h i z e
    refine ⟨a, by omega, fun y h0 ey => ?_⟩
    rw [List.getElem?_append_left (by omega)] at ey
    exact c y h0 ey
  · have hl : i = ns.length := by
      have := (List.getElem?_eq_some_iff.mp e).1
      rw [List.length_append, List.length_singleton] at this
      omega
    subst hl
    rw [List.getElem?_append_right (Nat.le_refl _), Nat.sub_self] at e
    have e : (m : Int) = z := Option.some.inj e
    subst e
    refine ⟨by omega, by omega, fun y h0 ey => ?_⟩
    rw [List.getElem?_append_left (by omega)] at ey
    exact (h _ y ey).2.1
theorem IsSet.len {m : Nat} : ∀ {ns : List Int}, IsSet m ns → ns.length ≤ m := fun {ns} h => by
  have key : ∀ (i : Nat) (z : Int), ns[i]? = some z → (i : Int) ≤ z := by
    intro i
    induction i with
    | zero => intro z e; exact (h 0 z e).1
    | succ i ih =>
      intro z e
      have hi : i < ns.length := by have := (List.getElem?_eq_some_iff.mp e).1; omega
      have e2 : ns[i]? = some ns[i] := List.getElem?_eq_getElem hi
      have := ih _ e2
      have := (h (i + 1) z e).2.2 ns[i] (by omega) (by rw [Nat.add_sub_cancel]; exact e2)
      omega
  by_cases h0 : ns.length = 0
  · omega
  · have e : ns[ns.length - 1]? = some (ns[ns.length - 1]'(by omega)) := List.getElem?_eq_getElem _
    have a := key _ _ e
    have b := (h _ _ e).2.1
    omega
end My

/-! ## list.index, all and any over a list of bools, == of known data -/
namespace L2
open PySem PySem.Spec PyProof.Rows
section
variable {X : Cx}
end
end L2
namespace My
open PySem L2
section
variable {K : PySem.W.Frag} {H : Hp} {α : Type} [DecidableEq α]
/-- the values bear the data, place by place -/
def Bears (R : V → α → Prop) (xs : List V) (l : List α) : Prop := xs.length = l.length ∧ ∀ (i : Nat) (a : α), l[i]? = some a → ∃ x, xs[i]? = some x ∧ R x a
theorem Bears.at {R : V → α → Prop} {xs : List V} {l : List α} (h : Bears R xs l) {i : Nat} {x : V} (e : xs[i]? = some x) : ∃ a, l[i]? = some a ∧ R x a := by
  have hi : i < xs.length := (List.getElem?_eq_some_iff.mp e).1
  have hl : i < l.length := by rw [← h.1]; exact hi
  obtain ⟨x', e1, q⟩ := h.2 i l[i] (List.getElem?_eq_getElem hl)
  rw [e] at e1
  cases e1
  exact ⟨_, List.getElem?_eq_getElem hl, q⟩
theorem all_dec {l m : List α} (h : l.length = m.length) : (List.range l.length).all (fun i => decide (l[i]? = m[i]?)) = decide (l = m) := by
  rw [Bool.eq_iff_iff, List.all_eq_true, decide_eq_true_iff]
  constructor
  · intro q
    refine List.ext_getElem? fun i => ?_
    by_cases hi : i < l.length
    · exact of_decide_eq_true (q i (List.mem_range.mpr hi))
    · rw [List.getElem?_eq_none (by omega), List.getElem?_eq_none (by omega)]
  · rintro rfl i _
    simp
theorem eqd_lists {R : V → α → Prop} {n : Nat} {p q : Addr} {xs ys : List V} {l m : List α} (hp : SqL K H p xs) (hq : SqL K H q ys) (h1 : Bears R xs l) (h2 : Bears R ys m) (hR : ∀ x y a b, R x a → R y b → EqD K H n x y (decide (a = b))) : EqD K H (n + 1) (.ref p) (.ref q) (decide (l = m)) := by
  by_cases hl : xs.length = ys.length
  · have e := all_dec (l := l) (m := m) (by rw [← h1.1, ← h2.1, hl])
    rw [← e, ← h1.1]
    refine EqD.lsts hp hq hl fun i x y ex ey => ?_
    obtain ⟨a, ea, ra⟩ := h1.at ex
    obtain ⟨b, eb, rb⟩ := h2.at ey
    rw [ea, eb, show decide (some a = some b) = decide (a = b) by simp]
    exact hR x y a b ra rb
  · have e : decide (l = m) = false := decide_eq_false fun z => hl (by rw [h1.1, h2.1, z])
    rw [e]
    exact EqD.lens hp hq hl
theorem bears_ints (ns : List Int) : Bears (fun x (z : Int) => x = .int z) (IL ns) ns := ⟨il_length ns, fun i z e => ⟨_, il_at e, rfl⟩⟩
theorem eqd_int {n : Nat} {x y : V} {a b : Int} (hx : x = .int a) (hy : y = .int b) : EqD K H n x y (decide (a = b)) := by
  subst hx hy
  have e : decide (a = b) = eqV (.int a) (.int b) := by
    show decide (a = b) = (a == b)
    rw [Bool.beq_eq_decide_eq]
  rw [e]
  exact EqD.flat rfl rfl
/-- a list of lists of ints -/
def ListV (H : Hp) (v : V) (l : List Int) : Prop := ∃ a, v = .ref a ∧ H a = some (.lst (IL l))
theorem eqd_listv {n : Nat} {x y : V} {a b : List Int} (hx : ListV H x a) (hy : ListV H y b) : EqD K H (n + 1) x y (decide (a = b)) := by
  obtain ⟨t, rfl, ht⟩ := hx
  obtain ⟨u, rfl, hu⟩ := hy
  exact eqd_lists (SqL.of ht) (SqL.of hu) (bears_ints a) (bears_ints b) fun _ _ _ _ => eqd_int
theorem eqd_llints {p q : Addr} {xs ys : List V} {l m : List (List Int)} (hp : SqL K H p xs) (hq : SqL K H q ys) (h1 : Bears (ListV H) xs l) (h2 : Bears (ListV H) ys m) : EqD K H 2 (.ref p) (.ref q) (decide (l = m)) :=
  eqd_lists hp hq h1 h2 fun _ _ _ _ => eqd_listv
end
end My

/-! ## the groups by first places -/
namespace My
def fstB (M : List Int) (p : Nat) : Bool := (List.range p).all fun i => decide (mk M i ≠ mk M p)
def posA (M : List Int) (k : Int) (i : Nat) : List Int := ((List.range i).filter fun j => decide (mk M j = k)).map fun (j : Nat) => (j : Int)
def fstA (M : List Int) (i : Nat) : List Nat := (List.range i).filter (fstB M)
theorem fstB_iff {M : List Int} {p : Nat} : fstB M p = true ↔ ∀ i, i < p → mk M i ≠ mk M p := by
  unfold fstB
  rw [List.all_eq_true]
  constructor
  · intro h i hi; exact of_decide_eq_true (h i (List.mem_range.mpr hi))
  · intro h i hi; exact decide_eq_true (h i (List.mem_range.mp hi))
theorem posA_succ (M : List Int) (k : Int) (i : Nat) : posA M k (i + 1) = posA M k i ++ (if mk M i = k then [(i : Int)] else []) := by
  unfold posA
  rw [List.range_succ, List.filter_append, List.map_append]
  congr 1
  by_cases h : mk M i = k
  · rw [if_pos h, List.filter_cons, if_pos (by simpa using h)]; rfl
  · rw [if_neg h, List.filter_cons, if_neg (by simpa using h)]; rfl
theorem fstA_succ (M : List Int) (i : Nat) : fstA M (i + 1) = fstA M i ++ (if fstB M i = true then [i] else []) := by
  unfold fstA
  rw [List.range_succ, List.filter_append]
  congr 1
  by_cases h : fstB M i = true
  · rw [if_pos h, List.filter_cons, if_pos h]; rfl
  · rw [if_neg h, List.filter_cons, if_neg h]; rfl
theorem grpA_eq (M : List Int) : ∀ i, grpA M i = (fstA M i).map fun p => (mk M p, posA M (mk M p) i)
  | 0 => rfl
  | i + 1 => by
    have ih := grpA_eq M i
    show gstep (grpA M i) (i : Int) (mk M i) = _
    have hk : (mk M i ∈ (grpA M i).map (·.1)) ↔ fstB M i ≠ true := by
      constructor
      · intro h q
        obtain ⟨j, hj, e⟩ := grpA_of_key M i _ h
        exact fstB_iff.mp q j hj e
      · intro h
        by_cases q : ∃ j, j < i ∧ mk M j = mk M i
        · obtain ⟨j, hj, e⟩ := q
          rw [← e]
          exact grpA_key hj
        · exact absurd (fstB_iff.mpr fun j hj e => q ⟨j, hj, e⟩) h
    unfold gstep
    by_cases h : mk M i ∈ (grpA M i).map (·.1)
    · have hf := hk.mp h
      rw [if_pos h, fstA_succ, if_neg hf, List.append_nil, ih, List.map_map]
      refine List.map_congr_left fun p _ => ?_
      show (if mk M p = mk M i then (mk M p, posA M (mk M p) i ++ [(i : Int)]) else (mk M p, posA M (mk M p) i)) = (mk M p, posA M (mk M p) (i + 1))
      rw [posA_succ]
      by_cases e : mk M p = mk M i
      · rw [if_pos e, if_pos e.symm]
      · rw [if_neg e, if_neg (fun z => e z.symm), List.append_nil]
    · have hf : fstB M i = true := by
        cases q : fstB M i with
        | true => rfl
        | false => exact absurd (hk.mpr (by rw [q]; exact Bool.false_ne_true)) h
      rw [if_neg h, fstA_succ, if_pos hf, List.map_append, ih]
      congr 1
      · refine List.map_congr_left fun p hp => ?_
        have hpi : p < i := List.mem_range.mp (List.mem_filter.mp hp).1
        rw [posA_succ, if_neg (fun z => fstB_iff.mp hf p hpi z.symm), List.append_nil]
      · show [(mk M i, [(i : Int)])] = [(mk M i, posA M (mk M i) (i + 1))]
        rw [posA_succ, if_pos rfl]
        have e0 : posA M (mk M i) i = [] := by
          unfold posA
          rw [List.filter_eq_nil_iff.mpr fun j hj => by simpa using fstB_iff.mp hf j (List.mem_range.mp hj)]
          rfl
        rw [e0]
        rfl
end My

/-! ## more own words -/
namespace My
open PySem L2
theorem Bears.snoc {α : Type} [DecidableEq α] {R : V → α → Prop} {xs : List V} {l : List α} {x : V} {a : α} (h : Bears R xs l) (hx : R x a) : Bears R (xs ++ [x]) (l ++ [a]) := by
  refine ⟨by rw [List.length_append, List.length_append, h.1]; rfl, fun i b e => ?_⟩
  by_cases hi : i < l.length
  · rw [List.getElem?_append_left hi] at e
    rw [List.getElem?_append_left (by rw [h.1]; exact hi)]
    exact h.2 i b e
  · have hl : i = l.length := by
      have := (List.getElem?_eq_some_iff.mp e).1
      rw [List.length_append, List.length_singleton] at this
      omega
    subst hl
    rw [List.getElem?_append_right (Nat.le_refl _), Nat.sub_self] at e
    rw [List.getElem?_append_right (by rw [h.1]; exact Nat.le_refl _), h.1, Nat.sub_self]
    have e' : a = b := Option.some.inj e
    subst e'
    exact ⟨x, rfl, hx⟩
theorem Bears.imp {α : Type} [DecidableEq α] {R R' : V → α → Prop} {xs : List V} {l : List α} (h : Bears R xs l) (f : ∀ x a, R x a → R' x a) : Bears R' xs l := ⟨h.1, fun i a e => let ⟨x, e1, r⟩ := h.2 i a e; ⟨x, e1, f x a r⟩⟩
end My

/-! ## exceptions of own classes: raised, passing a def, caught by a try -/
namespace L2
open PySem PySem.Spec PyProof.Rows
theorem ObjOk.there {P : Program} {w : World} {H : Hp} {h : Heap} {a : Addr} {o : HO} (x : ObjOk P w H h a o) : ∃ u, h.get? a = some u := by
  cases o with
  | lst xs => obtain ⟨_, _, _, _, e⟩ := x; exact ⟨_, e⟩
  | tup xs => obtain ⟨_, _, _, o, e, _⟩ := x; exact ⟨_, e⟩
  | dK kvs => obtain ⟨_, _, _, _, o, _, _, e, _⟩ := x; exact ⟨_, e⟩
  | dT kvs => obtain ⟨_, _, _, _, o, _, _, e, _⟩ := x; exact ⟨_, e⟩
  | set S n => obtain ⟨o, _, _, _, e, _⟩ := x; exact ⟨_, e⟩
  | ins C dx fs => obtain ⟨_, _, _, e, _⟩ := x; exact ⟨_, e⟩
  | own y => exact x
  | xd fs => obtain ⟨_, ⟨_, _, _, e, _⟩, _⟩ := x; exact ⟨_, e⟩
  | rng lo hi => obtain ⟨_, _, _, e⟩ := x; exact ⟨_, e⟩
  | frz ob u => obtain ⟨e, _⟩ := x; exact ⟨_, e⟩
  | tbl ps => exact ⟨_, x⟩
  | met f y => exact ⟨_, x⟩
  | ext φ => obtain ⟨_, e, _⟩ := x; exact e
/-- an exception in flight at e, of the class C: it and its last entry are new and not tracked -/
structure Fly (h0 : Heap) (H : Hp) (e C : Addr) (h : Heap) : Prop where
  ex : ∃ oe vs T oT ts a0, h.get? e = some oe ∧ oe.cls = .ref C ∧ oe.data = .fields vs ∧ vs[0]? = some a0 ∧ vs[1]? = some (.ref T) ∧ T ≠ e ∧ h.get? T = some oT ∧ oT.data = .fields ts ∧ ts[3]? = some .none ∧ h0.get? T = none ∧ H T = none
  new : h0.get? e = none
  free : H e = none
/-- how it lies behind a call -/
def CXW (P : Program) (w : World) : CXT := fun outer H s E ev s' => ∃ (e C : Addr) (H' : Hp), ev = Value.ref e ∧ s'.os = s.os ∧ AllBare s'.gens ∧ Un (frs outer) [] H H' s.heap s'.heap ∧ HOk P w H' s'.heap ∧ Fly s.heap H' e C s'.heap ∧ E (.ref C) none H'
section
variable {X : Cx} {pins : List (Addr × Obj)} {σ : St} {H : Hp} {s : Shared} {e C : Addr}
/-- the ground that a step of an exception leaves as it is -/
abbrev grd (X : Cx) (h : Heap) (ns : List Addr) : Heap := PySem.W.hideAll h (frs X.stack ++ ns)
theorem grd_get {h : Heap} {ns : List Addr} {b : Addr} {o : Obj} (q : h.get? b = some o) (h1 : b ∉ frs X.stack) (h2 : b ∉ ns) : (grd X h ns).get? b = some o :=
  PySem.W.hideAll_get _ q fun z => (List.mem_append.mp z).elim h1 h2
theorem grd_of {h : Heap} {ns : List Addr} : (grd X h ns).StaysIn h := fun _ _ q => PySem.W.of_hideAll _ q
theorem Inv.was (I : Inv X pins σ H s) (hex : X.ex = []) {b : Addr} (h : s.heap.get? b = none) : X.s₀.heap.get? b = none := by
  cases q : X.s₀.heap.get? b with
  | none => rfl
  | some o =>
    obtain ⟨o', e⟩ := I.base.there b o q (by rw [hex]; simp)
    rw [h] at e; cases e
/-- what is kept where the ground stays -/
theorem hok_grd {P : Program} {w : World} {h' : Heap} {ns : List Addr} {h : Heap} (ok : HOk P w H h) (hf : ∀ b ∈ frs X.stack, H b = none) (hns : ∀ b ∈ ns, H b = none) (k : (grd X h ns).StaysIn h') : HOk P w H h' := fun a o q =>
  (ok a o q).stay (fun b u hb g => k b u (grd_get g (fun z => by
    have := hf b z
    rcases hb with rfl | hb
    · rw [q] at this; cases this
    · rw [hb] at this; cases this) fun z => by
    have := hns b z
    rcases hb with rfl | hb
    · rw [q] at this; cases this
    · rw [hb] at this; cases this)) (fun _ z => z) fun _ _ z => z
theorem frs_stack (hst : X.stack = X.env :: X.outer) (hfr : X.env.frame = some X.env.locals) : frs X.stack = X.env.locals :: frs X.outer := by
  rw [hst]
  unfold frs
  rw [List.filterMap_cons, hfr]
/-- behind the step by which it leaves the frame -/
theorem cx_left (hst : X.stack = X.env :: X.outer) (hfr : X.env.frame = some X.env.locals) (hex : X.ex = []) (I : Inv X pins σ H s) {ns : List Addr} (hns : ∀ b ∈ ns, X.s₀.heap.get? b = none ∧ H b = none) {h' : Heap} {a0 : Value} {E : XK} {s' : Shared}
    (hfl : Heap.FlyingW (grd X s.heap ns) X.outer e (.ref C) a0 h') (up : s.heap.UpToSlots h') (ne : X.s₀.heap.get? e = none) (fe : H e = none) (hE : E (.ref C) none H) (hs : s'.heap = h') (ho : s'.os = s.os) (hg : s'.gens = s.gens) :
    CXW X.prog X.w X.outer X.H₀ X.s₀ E (.ref e) s' := by
  subst hs
  have fst := frs_stack (X := X) hst hfr
  have noL : ∀ b o, X.s₀.heap.get? b = some o → b ≠ X.env.locals := fun b o q => Nat.ne_of_lt (Nat.lt_of_lt_of_le (Heap.lt_size q) I.ok.above)
  have nns : ∀ b o, X.s₀.heap.get? b = some o → b ∉ ns := fun b o q z => by rw [(hns b z).1] at q; cases q
  have nfs : ∀ b o, X.s₀.heap.get? b = some o → b ∉ frs X.outer → b ∉ frs X.stack := fun b o q n z => by
    rw [fst] at z
    rcases List.mem_cons.mp z with z | z
    · exact noL b o q z
    · exact n z
  have nex : ∀ b, b ∉ X.ex := fun b z => by rw [hex] at z; cases z
  have keep : ∀ b o u, X.s₀.heap.get? b = some o → b ∉ frs X.outer → s.heap.get? b = some u → s'.heap.get? b = some u := fun b o u q n g => hfl.1 b u (grd_get g (nfs b o q n) (nns b o q))
  have slot : ∀ b u, b ∈ frs X.outer → s.heap.get? b = some u → ∃ sl, s'.heap.get? b = some { u with slots := sl } := fun b u hb g => by
    obtain ⟨_, o', ho', hd⟩ := I.funs.mem hb
    rw [g] at ho'
    cases ho'
    exact up b u g hd
  refine ⟨e, C, H, rfl, ho.trans I.os, hg ▸ I.bare, ⟨fun b o q n hb _ => ?_, fun b o q n hb _ => ?_, fun b o q n _ => I.base.free b o q n (nex b), fun b o q _ => ?_, I.base.tups, I.base.frzs, I.base.tbls⟩, hok_grd I.hok I.stkFree (fun b hb => (hns b hb).2) hfl.1, ⟨?_, ne, fe⟩, hE⟩
  · exact keep b o o q hb (I.base.keep b o q n hb (nex b))
  · obtain ⟨sl, g⟩ := I.base.slot b o q n hb (nex b)
    obtain ⟨sl', g'⟩ := slot b _ hb g
    exact ⟨sl', g'⟩
  · obtain ⟨u, g⟩ := I.base.there b o q (nex b)
    by_cases hb : b ∈ frs X.outer
    · obtain ⟨sl, g'⟩ := slot b u hb g
      exact ⟨_, g'⟩
    · exact ⟨u, keep b o u q hb g⟩
  · obtain ⟨f1, f2, f3, oe, vs, T, oT, ts, he, ⟨hc, h0⟩, hd, h1, hnT, hTe, hT, hdT, h3⟩ := hfl
    refine ⟨oe, vs, T, oT, ts, a0, he, hc, hd, h0, h1, hTe, hT, hdT, h3, ?_, ?_⟩
    · cases q : X.s₀.heap.get? T with
      | none => rfl
      | some o =>
        obtain ⟨u, g⟩ := I.base.there T o q (nex T)
        by_cases hb : T ∈ frs X.outer
        · obtain ⟨_, o', ho', hd'⟩ := f3.mem hb
          rw [hT] at ho'
          cases ho'
          exact absurd hdT (hd' ts)
        · rw [grd_get g (nfs T o q hb) (nns T o q)] at hnT
          cases hnT
    · cases q : H T with
      | none => rfl
      | some ho =>
        obtain ⟨u, g⟩ := (I.hok T ho q).there
        rw [grd_get g (fun z => by rw [I.stkFree T z] at q; cases q) (fun z => by rw [(hns T z).2] at q; cases q)] at hnT
        cases hnT
theorem fly_base (hst : X.stack = X.env :: X.outer) (I : Inv X pins σ H s) {h0 : Heap} (F : Fly h0 H e C s.heap) : ∃ T a0, Heap.FlyingW (grd X s.heap [e, T]) X.stack e (.ref C) a0 s.heap ∧ h0.get? T = none ∧ H T = none := by
  obtain ⟨oe, vs, T, oT, ts, a0, he, hc, hd, h0', h1, hTe, hT, hdT, h3, nT, fT⟩ := F.ex
  refine ⟨T, a0, ⟨grd_of, PySem.W.hideAll_none _ (by simp), ?_, oe, vs, T, oT, ts, he, ⟨hc, h0'⟩, hd, h1, PySem.W.hideAll_none _ (by simp), hTe, hT, hdT, h3⟩, nT, fT⟩
  exact PySem.W.funFrames_hide I.stack fun env henv a hf => List.mem_append_left _ (List.mem_filterMap.mpr ⟨env, henv, hf⟩)
/-- it leaves the frame on its way -/
theorem leave_fly (hst : X.stack = X.env :: X.outer) (hfr : X.env.frame = some X.env.locals) (hex : X.ex = []) (I : Inv X pins σ H s) (F : Fly X.s₀.heap H e C s.heap) {E : XK} (hE : E (.ref C) none H) {E' : Value → Shared → Prop} :
    wpAny (model X.prog X.w) X.A (leaving X.env (.ref e)) (fun _ s'' => CXW X.prog X.w X.outer X.H₀ X.s₀ E (.ref e) s'') E' s := by
  obtain ⟨T, a0, fl, nT, fT⟩ := fly_base hst I F
  rw [hst] at fl
  refine wpAny_leaves_onW (by rw [I.ok.frames, hst]) hfr fl fun h' fl' up => ?_
  refine cx_left hst hfr hex I (fun b hb => ?_) fl' up F.new F.free hE rfl rfl rfl
  rcases List.mem_cons.mp hb with rfl | hb
  · exact ⟨F.new, F.free⟩
  · rw [List.mem_singleton.mp hb]; exact ⟨nT, fT⟩
/-- it is raised here and leaves the frame -/
theorem leave_made (hst : X.stack = X.env :: X.outer) (hfr : X.env.frame = some X.env.locals) (hex : X.ex = []) (I : Inv X pins σ H s) {h' : Heap} {vs : List Value} (hm : Heap.MadeExcOf s.heap h' e (.ref C) vs) {E : XK} (hE : E (.ref C) none H) {E' : Value → Shared → Prop} :
    wpAny (model X.prog X.w) X.A (leaving X.env (.ref e)) (fun _ s'' => CXW X.prog X.w X.outer X.H₀ X.s₀ E (.ref e) s'') E' { s with heap := h' } := by
  have ff : s.heap.FunFrames (grd X s.heap []) X.stack := PySem.W.funFrames_hide I.stack fun env henv a hf => List.mem_append_left _ (List.mem_filterMap.mpr ⟨env, henv, hf⟩)
  rw [hst] at ff
  refine wpAny_leaves_madeW (base := grd X s.heap []) (h := s.heap) (by rw [I.ok.frames, hst]) hfr grd_of ff hm fun h'' t fl _ _ up => ?_
  have fe : H e = none := by
    cases q : H e with
    | none => rfl
    | some ho =>
      obtain ⟨u, g⟩ := (I.hok e ho q).there
      rw [hm.new] at g
      cases g
  exact cx_left (s' := { s with heap := h'' }) hst hfr hex I (fun b hb => by cases hb) fl ((Heap.UpToSlots.of_keeps hm.keeps).trans up) (I.was hex hm.new) fe hE rfl rfl rfl
/-- the state behind a call that ended in an exception -/
theorem Inv.flown {E : XK} {ev : Value} {s' : Shared} (I : Inv X pins σ H s) (h : CXW X.prog X.w X.stack H s E ev s') : ∃ e C H', ev = Value.ref e ∧ Inv X pins σ H' s' ∧ Fly s.heap H' e C s'.heap ∧ E (.ref C) none H' := by
  obtain ⟨e, C, H', rfl, ho, hg, u, ok, F, hE⟩ := h
  exact ⟨e, C, H', rfl, I.call' (ch := []) ho u ok hg (fun _ z => nomatch z), F, hE⟩
theorem Fly.older {h0 h1 h : Heap} (F : Fly h0 H e C h) (k : ∀ b, h0.get? b = none → h1.get? b = none) : Fly h1 H e C h := by
  obtain ⟨oe, vs, T, oT, ts, a0, he, hc, hd, h0', h1', hTe, hT, hdT, h3, nT, fT⟩ := F.ex
  exact ⟨⟨oe, vs, T, oT, ts, a0, he, hc, hd, h0', h1', hTe, hT, hdT, h3, k _ nT, fT⟩, k _ F.new, F.free⟩
end
section
variable {P : Program} {w : World} {K : PySem.W.Frag} {mg : Str → Option Value} {base : Heap}
/-- a callee's exception passes a def -/
theorem pxs {N : List Str} {qual : Str} {scope : Scope} {f : Addr} {cd : Value} {A : Around} {outer : List Env} {s : Shared} {H : Hp} {E : XK} : Passes (CXW P w) (cxOf (CXW P w) P w K mg base N qual scope f cd A outer s H E) E := by
  intro pins σ H1 s1 ev s' I h
  obtain ⟨e, C, H', rfl, J, F, hE⟩ := I.flown h
  exact leave_fly rfl rfl rfl J (F.older fun b hb => I.was rfl hb) hE
/-- THE RULE for a def that may raise -/
theorem Fun.okX {x qual : Str} {st : Stmt} {f : Addr} {fd : FuncData} {N ps : List Str} {k : Nat} {sp : Sp} (F : Fun K x qual st f fd) (S : FnScope N ps (defScope st)) (len : ∀ vs H Q E, sp vs H Q E → vs.length = ps.length)
    (hbody : ∀ (cdv : Value) (A : Around) (outer : List Env) (s : Shared) (H : Hp) (vs : List V) (Q : VK) (E : XK), Room k (A.deeper (envOfC qual (defScope st) s.heap.objs.size f cdv)) → sp vs H Q E →
      ∃ t, PSs (cxOf (CXW P w) P w K mg base N qual (defScope st) f cdv A outer s H E) (defBody st) t ∧ t { nx := fun _ H' => Q .non H', rt := Q } (start N vs) H) : FnOk P w K mg base (CXW P w) (k + 1) f fd ps sp := by
  obtain ⟨oc, od, kV, doc, pm, an, cdv, ct, osl, rfl, lk, hcd⟩ := F.ex
  exact fn_of lk hcd S len fun A outer s H vs Q E hr hsp => hbody cdv A outer s H vs Q E hr hsp
end
/-- what of the text an own exception's class must have -/
structure XCls (K : PySem.W.Frag) (C : Addr) : Prop where
  ex : PySem.W.excIn K C [.type "ValueError", .type "Exception", .type "BaseException", .type "object"] "ValueError.__new__" = true
  ga : PySem.W.findIn K (.ref C) "__getattribute__" = some (some (.builtin "BaseException.__getattribute__"))
  gh : PySem.W.findIn K (.ref C) "__getattr__" = some none
  cl : PySem.W.findIn K (.ref C) "__class__" = some (some (.builtin "object.__class__"))
  ob : PySem.W.mroIn K C (.type "object") = some true
  bx : PySem.W.mroIn K C (.type "BaseException") = some true
theorem XCls.obj {K : PySem.W.Frag} {C : Addr} {h : Heap} (c : XCls K C) (X : K.In h) : ∃ bm N nm q bs hdct sn sub ab col dd k0 k1 k2 k3 k5 mN, h.get? C = some (excClassObj nm q C N bs bm hdct sn sub ab col dd k0 k1 k2 k3 k5 "ValueError.__new__") ∧ h.Ns N mN ∧ mN "__init__" = none ∧ OwnTail h [.type "ValueError", .type "Exception", .type "BaseException", .type "object"] bm := by
  have q := c.ex
  unfold PySem.W.excIn at q
  split at q
  · rename_i dd cd sl ho
    split at q
    · rename_i C' bm k0 k1 k2 k3 n k5 hm hs
      simp only [Bool.and_eq_true, beq_iff_eq, Bool.not_eq_true'] at q
      obtain ⟨⟨⟨⟨⟨rfl, rfl⟩, hdel⟩, ht⟩, hok⟩, hni⟩ := q
      obtain ⟨nm, bs, mro, ns, qn, hd, sn, sub, ab, col, del⟩ := cd
      dsimp only at hm hdel hok hni
      subst hm hdel
      have hsl : sl = #[k0, k1, k2, k3, some (.builtin "ValueError.__new__"), k5] := by
        obtain ⟨l⟩ := sl
        simp only at hs
        rw [hs]
      subst hsl
      exact ⟨bm, ns, nm, qn, bs, hd, sn, sub, ab, col, dd, k0, k1, k2, k3, k5, _, X _ _ ho, .of_isNs (PySem.W.isNs_of_in X hok), PySem.W.nsMap_none_of_in X hok hni, PySem.W.tail_of_in X ht⟩
    · cases q
  · cases q
/-- raise C(e, ..) -/
def tRaise (C : Addr) (E : XK) (t : TA) : TS := fun _ σ H => t σ H fun vs H1 => vs.length ≤ sizeLine ∧ E (.ref C) none H1
theorem ps_raise {P : Program} {w : World} {K : PySem.W.Frag} {mg : Str → Option Value} {base : Heap} {N : List Str} {qual : Str} {scope : Scope} {f : Addr} {cd : Value} {A : Around} {outer : List Env} {s0 : Shared} {H0 : Hp} {E : XK} {C : Addr} {x : Str} {np cpos pos : Pos} {e₀ : Expr} {rest : List Expr} {t : TA}
    (c : XCls K C) (hm : mg x = some (.ref C)) (ha : PA (cxOf (CXW P w) P w K mg base N qual scope f cd A outer s0 H0 E) (e₀ :: rest) t)
    (hg : Gl (cxOf (CXW P w) P w K mg base N qual scope f cd A outer s0 H0 E) x := by rfl) (hd : (x == ("__debug__" : Str)) = false := by decide)
    (he : starEach (e₀ :: rest) (cxOf (CXW P w) P w K mg base N qual scope f cd A outer s0 H0 E).env = (false, eval e₀ (cxOf (CXW P w) P w K mg base N qual scope f cd A outer s0 H0 E).env) :: starEach rest (cxOf (CXW P w) P w K mg base N qual scope f cd A outer s0 H0 E).env := by rfl)
    (hplain : (backTo cpos (starEach rest (cxOf (CXW P w) P w K mg base N qual scope f cd A outer s0 H0 E).env)).any (·.1) = false := by rfl) :
    PS (cxOf (CXW P w) P w K mg base N qual scope f cd A outer s0 H0 E) (.Raise (some (.Call (.Name x np) (e₀ :: rest) [] cpos)) none pos) (tRaise C E t) := by
  intro pins s σ H D I h
  obtain ⟨tl, NN, nm, q, bs, hdct, sn, sub, ab, col, dd, k0, k1, k2, k3, k5, mN, hC, hN, hni, T⟩ := c.obj I.ok.mod.kin
  refine wpAny_Raise_call_subT (C := C) (nm := nm) (q := q) (N := NN) (bs := bs) (bm := tl) (hdct := hdct) (sn := sn) (sub := sub) (ab := ab) (col := col) (dd := dd) (k0 := k0) (k1 := k1) (k2 := k2) (k3 := k3) (k5 := k5)
    PySem.F.excBase_ValueError (mN := mN) (T.hasType PySem.F.excBase_ValueError.hasBase) (I.ok.hd rfl) (by rw [he]; show (false || (backTo cpos (starEach rest _)).any (·.1)) = false; rw [hplain]; rfl) hni (ld_glob I hg hm ⟨rfl, ?_⟩ hd)
  have h := ha cpos pins s σ H _ I h
  rw [he] at h ⊢
  refine Calls.evalArgs_plain (wpAny_mono h (fun vs s₂ h₂ => ?_) fun _ _ y => y)
  obtain ⟨zs, H2, I2, rz, hz, hE⟩ := h₂
  refine ⟨rfl, by rw [← rz.length]; exact hz, I2.bk _ _ hC, hN.keeps I2.bk, T.keeps I2.bk, fun h' e hme => ?_⟩
  exact leave_made rfl rfl rfl I2 hme hE
end L2

/-! ## try, except C as e; isinstance of a caught exception -/
namespace L2
open PySem PySem.Spec PyProof.Rows
section
variable {X : Cx} {pins : List (Addr × Obj)} {σ : St} {H : Hp} {s : Shared} {e C : Addr}
end
/-! ### the contexts within a try -/
section
variable {X : Cx} {pins pins' : List (Addr × Obj)} {σ : St} {H : Hp} {s : Shared} {R : St → XK} {e C : Addr} {oe : Obj}
end
/-! ### calls that may raise, by what is wanted at these names' values -/
section
variable {X : Cx} {CX : CXT} {k : Nat} {f C : Addr} {fd : FuncData} {ps : List Str} {sp : Sp} {dvs : List V} {ds : List Value} {R : St → XK} {x m : Str} {p pos apos : Pos} {e o : Expr} {es : List Expr} {ta : TE} {t : TA}
end
/-! ### the statement -/
end L2

/-! ## isinstance of a caught exception -/
namespace L2
open PySem PySem.Spec PyProof.Rows PySem.W PySem.Calls Builtin Builtin.ObjectAttr Builtin.Getset_descriptor
section
variable {prog : Program} {w : World} {A : Around} {E : Value → Shared → Prop} {K : PySem.W.Frag} {x C : Addr} {ox : Obj}
end
theorem XCls.isSome {K : PySem.W.Frag} {C : Addr} (c : XCls K C) : (clsIn K C).isSome = true := by
  have q := c.ex
  unfold excIn at q
  unfold clsIn
  split at q
  · rename_i dd cd sl ho
    rw [ho]
    rfl
  · cases q
section
variable {X : Cx}
end
end L2

/-! ## f-texts of ints -/
namespace L2
open PySem PySem.Spec PyProof.Rows
theorem log_small {a : Int} (h1 : -(10 ^ 70) < a) (h2 : a < 10 ^ 70) : a.natAbs.log2 < 1920 := by
  have h : a.natAbs < 10 ^ 70 := by omega
  by_cases h0 : a.natAbs = 0
  · rw [h0]; decide
  · exact (Nat.log2_lt h0).mpr (Nat.lt_trans h (by decide))
/-- the parts of an f-text, from the left; n stand ahead -/
def PJ (X : Cx) (es : List Expr) (t : St → Hp → (Hp → Prop) → Prop) : Prop := ∀ (n : Nat) (pins : List (Addr × Obj)) (s : Shared) (σ : St) (H : Hp) (acc : Str) (Q : Hp → Prop), acc.length ≤ 4000 * n → n + es.length ≤ 100 → Inv X pins σ H s → t σ H Q →
  wpAny (model X.prog X.w) X.A (joinParts acc (evalEach es X.env)) (fun v s' => ∃ x tk H', v = Value.str x tk ∧ Inv X pins σ H' s' ∧ Q H') X.xe s
section
variable {X : Cx} {es : List Expr} {e : Expr} {te : TE} {t : St → Hp → (Hp → Prop) → Prop} {pos : Pos}
theorem line4 : 4000 * 100 ≤ sizeLine := by decide
theorem pj_nil : PJ X [] (fun _ H Q => Q H) := fun n pins s σ H acc Q ha hn I h => by
  refine joinParts_nil ⟨acc, _, H, rfl, I.tok _, h⟩ (Nat.le_trans ha (Nat.le_trans (Nat.mul_le_mul_left _ ?_) line4))
  simpa using hn
theorem pj_str {x : Str} {j : Nat} {p : Pos} (hr : PJ X es t) (hz : x.length ≤ 4000 := by decide +kernel) : PJ X (.Constant (.str x) j p :: es) t := fun n pins s σ H acc Q ha hn I h => by
  have hl : (acc ++ x).length = acc.length + x.length := strLen_append ..
  rw [List.length_cons] at hn
  have hb : (acc ++ x).length ≤ 4000 * (n + 1) := by rw [hl]; omega
  refine joinParts_cons (Calls.Constant_str ⟨Nat.le_trans hb (Nat.le_trans (Nat.mul_le_mul_left _ (by omega)) line4), ?_⟩)
  exact hr (n + 1) pins _ σ H _ Q hb (by omega) (I.tok _) h
def jInt (te : TE) (t : St → Hp → (Hp → Prop) → Prop) : St → Hp → (Hp → Prop) → Prop := fun σ H Q => te σ H fun v H1 => ∃ a : Int, v = .int a ∧ -(10 ^ 70) < a ∧ a < 10 ^ 70 ∧ t σ H1 Q
theorem pj_int {p : Pos} (he : PE X e te) (hr : PJ X es t) : PJ X (.FormattedValue e (-1) none p :: es) (jInt te t) := fun n pins s σ H acc Q ha hn I h => by
  rw [List.length_cons] at hn
  refine joinParts_cons (FormattedValue_plain (thn (he pins s σ H _ I h) fun u s1 ⟨v, H1, I1, r, a, ev, a1, a2, q⟩ => ?_))
  subst ev
  obtain ⟨tk, rfl⟩ := r
  have hlog := log_small a1 a2
  have hlen : (Str.ofString (toString a)).length ≤ 4000 := by
    have z := int_text_length_le (k := 1920) (by decide) hlog
    rw [PySem.ofString_length]
    omega
  refine formatField_int_small hlog ?_
  have hl : (acc ++ Str.ofString (toString a)).length = acc.length + (Str.ofString (toString a)).length := strLen_append ..
  have hb : (acc ++ Str.ofString (toString a)).length ≤ 4000 * (n + 1) := by rw [hl]; omega
  refine ⟨Nat.le_trans hb (Nat.le_trans (Nat.mul_le_mul_left _ (by omega)) line4), ?_⟩
  exact hr (n + 1) pins _ σ H1 _ Q hb (by omega) (I1.tok _) q
def tJoin (t : St → Hp → (Hp → Prop) → Prop) : TE := fun σ H Q => t σ H fun H' => ∀ x : Str, Q (.str x) H'
theorem pe_fstr {v₁ v₂ : Expr} {rest : List Expr} (h : PJ X (v₁ :: v₂ :: rest) t) (hn : (v₁ :: v₂ :: rest).length ≤ 100 := by decide) : PE X (.JoinedStr (v₁ :: v₂ :: rest) pos) (tJoin t) := fun pins s σ H Q I hq =>
  JoinedStr_many (thn (h 0 pins s σ H Str.empty _ (by decide) (by simpa using hn) I hq) fun u s1 ⟨x, tk, H1, eu, I1, q⟩ => by
    subst eu
    exact ⟨.str x, H1, I1, ⟨tk, rfl⟩, q x⟩)
end
end L2

namespace L2
open PySem PySem.Spec PyProof.Rows
/-- no exception is let through -/
theorem passN {P : Program} {w : World} {X : Cx} : Passes (CXW P w) X E0 := fun _ _ _ _ _ _ _ h => by
  obtain ⟨_, _, _, _, _, _, _, _, _, z⟩ := h
  exact z.elim
end L2

/-! ## lists of ints: slices, sums of lists -/
namespace My
open PySem L2
def cutI (ns : List Int) (lo hi : Option Int) : List Int := (ns.drop (HT.sIx ns.length 0 lo)).take (HT.sIx ns.length ns.length hi - HT.sIx ns.length 0 lo)
theorem cutI_eq (ns : List Int) (lo hi : Option Int) : cutV (IL ns) lo hi = IL (cutI ns lo hi) := by
  unfold cutV cutI
  rw [il_take, il_drop, il_length]
end My

/-! ## what the laws share: the web made, the number of turns -/
namespace My
open PySem L2
theorem xI {α : Type} {p : α → Prop} {w : α} (h : p w) : ∃ x, p x := ⟨w, h⟩
end My

/-! ## sorted(ints), reversed(list), list(reversed(list)) -/
namespace L2
open PySem PySem.Spec PyProof.Rows
theorem vals_of_ints : ∀ {us : List Value} {ns : List Int}, IntsAre us ns → Vals (ns.map V.int) us
  | [], [], _ => .nil
  | _ :: _, [], h => by cases h
  | [], _ :: _, h => by cases h
  | u :: us, n :: ns, h => by
    cases h with
    | cons _ _ t => exact .cons ⟨_, rfl⟩ (vals_of_ints t)
section
variable {X : Cx}
theorem call_sortedK (K : PySem.W.Frag) (hk : X.K = K := by rfl) : CallR X (.builtin "sorted") (fun xs H Q => ∃ (p : Addr) (ns : List Int), xs = [.ref p] ∧ SqL K H p (ns.map V.int) ∧ ns.length < 64 ∧
    ∀ ms : List Int, ms.Perm ns → ms.Pairwise (· ≤ ·) → ∀ l, H l = none → Q (.ref l) (upd H l (.lst (ms.map V.int)))) := by
  subst hk
  intro pins s σ H xs us Q I r h
  obtain ⟨p, ns, rfl, hq, hn, q⟩ := h
  obtain ⟨u, rfl, ru⟩ := vals1 r
  obtain rfl : u = Value.ref p := ru
  obtain ⟨its, rv, pl, hz⟩ := I.list hq
  have hi := ints_of_vals rv
  have hl : its.length = ns.length := by rw [← rv.length, List.length_map]
  refine sorted_ints pl.isList hi (by omega) fun out ms h1 h2 h3 => ?_
  obtain ⟨e, he⟩ := sortedAll_at s.heap its out
  have hml : ms.length = ns.length := h2.length_eq
  refine ⟨.ref (s.heap.objs.size + 1), _, I.laid (t' := s.toks) (o := .lst (ms.map V.int)) (fun b o g => sortedAll_old g) (Nat.le_succ _) ⟨?_, out.toList, e, vals_of_ints h1, ?_⟩, rfl, q ms h2 h3 _ (I.hok.fresh (Nat.le_succ _))⟩
  · rw [List.length_map, hml]
    have : sizeLine = 16777216 := sizeLine_eq
    omega
  · exact he
end
/-! ### reversed(list) -/
section
variable {X : Cx}
section
variable {prog : Program} {w : World} {A : Around} {E : Value → Shared → Prop} {s : Shared} {it a : Addr} {items : Array Value}
end
end
section
variable {X : Cx} {p p2 pos pos2 : Pos} {e : Expr} {t : TA}
end
end L2

/-! ## sets of ties: ascending lists -/
namespace My
open PySem L2
theorem isSet_iff {m : Nat} {ns : List Int} : IsSet m ns ↔ (∀ z ∈ ns, 0 ≤ z ∧ z < (m : Int)) ∧ ns.Pairwise (· < ·) := by
  constructor
  · intro h
    refine ⟨h.all, ?_⟩
    rw [List.pairwise_iff_getElem]
    intro i j hi hj hij
    induction j with
    | zero => exact absurd hij (Nat.not_lt_zero i)
    | succ j ih =>
      have hj' : j < ns.length := by omega
      have key := (h (j + 1) ns[j + 1] (List.getElem?_eq_getElem hj)).2.2 ns[j] (by omega) (by rw [Nat.add_sub_cancel]; exact List.getElem?_eq_getElem hj')
      by_cases e : i = j
      · subst e; exact key
      · have := ih hj' (by omega)
        omega
  · rintro ⟨ha, hp⟩ i z hz
    obtain ⟨hi, ei⟩ := List.getElem?_eq_some_iff.mp hz
    have hm := ha z (List.mem_of_getElem? hz)
    refine ⟨hm.1, hm.2, fun y h0 hy => ?_⟩
    obtain ⟨hi', ei'⟩ := List.getElem?_eq_some_iff.mp hy
    have := List.pairwise_iff_getElem.mp hp (i - 1) i hi' hi (by omega)
    rw [ei, ei'] at this
    exact this
theorem lt_nodup {ns : List Int} (h : ns.Pairwise (· < ·)) : ns.Nodup := h.imp fun hab e => by omega
theorem IsSet.nodup {m : Nat} {ns : List Int} (h : IsSet m ns) : ns.Nodup := lt_nodup (isSet_iff.mp h).2
end My

/-! ## joined places: the closure of the ties; how many pieces there are -/
namespace My
theorem snoc_ind {α : Type} {P : List α → Prop} (h0 : P []) (h1 : ∀ l x, P l → P (l ++ [x])) : ∀ l, P l := by
  intro l
  rw [← List.reverse_reverse l]
  induction l.reverse with
  | nil => exact h0
  | cons x r ih =>
    rw [List.reverse_cons]
    exact h1 _ _ ih
/-- two places are joined over ties -/
inductive Conn (es : List (Nat × Nat)) : Nat → Nat → Prop
  | refl (i : Nat) : Conn es i i
  | edge {a b : Nat} (h : (a, b) ∈ es) : Conn es a b
  | symm {i j : Nat} : Conn es i j → Conn es j i
  | trans {i j k : Nat} : Conn es i j → Conn es j k → Conn es i k
theorem Conn.mono {es fs : List (Nat × Nat)} (h : ∀ e ∈ es, e ∈ fs) {i j : Nat} (c : Conn es i j) : Conn fs i j := by
  induction c with
  | refl i => exact .refl i
  | edge q => exact .edge (h _ q)
  | symm _ ih => exact .symm ih
  | trans _ _ i1 i2 => exact .trans i1 i2
theorem mk_range {n i : Nat} (h : i < n) : mk ((List.range n).map fun (i : Nat) => (i : Int)) i = (i : Int) := by
  rw [mk_map' h]
where
  mk_map' {n i : Nat} (h : i < n) : mk ((List.range n).map fun (i : Nat) => (i : Int)) i = (i : Int) := by
    simp [mk, List.getD_eq_getElem?_getD, List.getElem?_map, List.getElem?_range h]
def InN (n : Nat) (es : List (Nat × Nat)) : Prop := ∀ e ∈ es, e.1 < n ∧ e.2 < n
theorem InN.snoc {n : Nat} {es : List (Nat × Nat)} {e : Nat × Nat} (h : InN n (es ++ [e])) : InN n es ∧ e.1 < n ∧ e.2 < n := ⟨fun x hx => h x (List.mem_append_left _ hx), h e (by simp)⟩
theorem lms_edge {n : Nat} : ∀ es : List (Nat × Nat), InN n es → ∀ e ∈ es, mk (lms n es) e.1 = mk (lms n es) e.2 := by
  refine snoc_ind (fun _ e h => by cases h) fun es x ih hn e he => ?_
  obtain ⟨h1, h2, h3⟩ := hn.snoc
  have hl := lms_length n es
  have hx := hn e he
  rw [lms_snoc]
  refine (lm_iff (by omega) (by omega)).mpr ?_
  rcases List.mem_append.mp he with q | q
  · exact .inl (ih h1 e q)
  · rw [List.mem_singleton.mp q]
    exact .inr ⟨.inl rfl, .inr rfl⟩
theorem lms_conn {n : Nat} : ∀ es : List (Nat × Nat), InN n es → ∀ i j, i < n → j < n → mk (lms n es) i = mk (lms n es) j → Conn es i j := by
  refine snoc_ind (fun _ i j hi hj h => ?_) fun es x ih hn i j hi hj h => ?_
  · have h : mk ((List.range n).map fun (i : Nat) => (i : Int)) i = mk ((List.range n).map fun (i : Nat) => (i : Int)) j := h
    rw [mk_range hi, mk_range hj] at h
    have : i = j := by omega
    subst this
    exact .refl i
  · obtain ⟨h1, h2, h3⟩ := hn.snoc
    have hl := lms_length n es
    have up : ∀ {i j : Nat}, Conn es i j → Conn (es ++ [x]) i j := fun c => c.mono fun e he => List.mem_append_left _ he
    have ex : Conn (es ++ [x]) x.1 x.2 := .edge (by simp)
    rw [lms_snoc] at h
    rcases (lm_iff (by omega) (by omega)).mp h with q | ⟨q1, q2⟩
    · exact up (ih h1 i j hi hj q)
    · have ci : Conn (es ++ [x]) i x.1 := by
        rcases q1 with q | q
        · exact up (ih h1 i _ hi h2 q)
        · exact (up (ih h1 i _ hi h3 q)).trans ex.symm
      have cj : Conn (es ++ [x]) j x.1 := by
        rcases q2 with q | q
        · exact up (ih h1 j _ hj h2 q)
        · exact (up (ih h1 j _ hj h3 q)).trans ex.symm
      exact ci.trans cj.symm
theorem conn_lms {n : Nat} {es : List (Nat × Nat)} (hn : InN n es) {i j : Nat} (c : Conn es i j) : i = j ∨ (i < n ∧ j < n ∧ mk (lms n es) i = mk (lms n es) j) := by
  induction c with
  | refl i => exact .inl rfl
  | edge q => exact .inr ⟨(hn _ q).1, (hn _ q).2, lms_edge es hn _ q⟩
  | symm _ ih =>
    rcases ih with e | ⟨a, b, c⟩
    · exact .inl e.symm
    · exact .inr ⟨b, a, c.symm⟩
  | trans _ _ i1 i2 =>
    rcases i1 with e | ⟨a, b, c⟩
    · rw [e]; exact i2
    · rcases i2 with e | ⟨a', b', c'⟩
      · rw [← e]; exact .inr ⟨a, b, c⟩
      · exact .inr ⟨a, b', c.trans c'⟩
theorem lms_iff {n : Nat} {es : List (Nat × Nat)} (hn : InN n es) {i j : Nat} (hi : i < n) (hj : j < n) : mk (lms n es) i = mk (lms n es) j ↔ Conn es i j := by
  constructor
  · exact lms_conn es hn i j hi hj
  · intro c
    rcases conn_lms hn c with e | ⟨_, _, e⟩
    · rw [e]
    · exact e
/-! ### how many pieces -/
def cnt (M : List Int) : Nat := (fstA M M.length).length
theorem fst_ex (M : List Int) {i : Nat} : ∃ p, p ≤ i ∧ mk M p = mk M i ∧ fstB M p = true := by
  induction i using Nat.strongRecOn with
  | ind i ih =>
    by_cases h : fstB M i = true
    · exact ⟨i, Nat.le_refl _, rfl, h⟩
    · have : ∃ j, j < i ∧ mk M j = mk M i := by
        by_cases q : ∃ j, j < i ∧ mk M j = mk M i
        · exact q
        · exact absurd (fstB_iff.mpr fun j hj e => q ⟨j, hj, e⟩) h
      obtain ⟨j, hj, e⟩ := this
      obtain ⟨p, h1, h2, h3⟩ := ih j hj
      exact ⟨p, by omega, h2.trans e, h3⟩
theorem count_less {p q : Nat → Bool} {x n : Nat} (hx : x < n) (hpx : p x = true) (h : ∀ y, y < n → q y = (p y && !decide (y = x))) : ((List.range n).filter q).length + 1 = ((List.range n).filter p).length := by
  induction n with
  | zero => exact absurd hx (Nat.not_lt_zero x)
  | succ n ih =>
    rw [List.range_succ, List.filter_append, List.filter_append, List.length_append, List.length_append]
    by_cases e : x = n
    · subst e
      have e1 : (List.range x).filter q = (List.range x).filter p := List.filter_congr fun y hy => by
        have hy := List.mem_range.mp hy
        rw [h y (by omega), show decide (y = x) = false from decide_eq_false (by omega)]
        simp
      have e2 : q x = false := by rw [h x (by omega)]; simp
      rw [e1]
      simp [List.filter_cons, e2, hpx]
    · have hq : q n = p n := by rw [h n (by omega), show decide (n = x) = false from decide_eq_false (fun z => e z.symm)]; simp
      have := ih (by omega) fun y hy => h y (by omega)
      simp only [List.filter_cons, List.filter_nil, hq]
      omega
theorem fst_uniq {M : List Int} {p q : Nat} (hp : fstB M p = true) (hq : fstB M q = true) (e : mk M p = mk M q) : p = q := by
  rcases Nat.lt_trichotomy p q with h | h | h
  · exact absurd e (fstB_iff.mp hq p h)
  · exact h
  · exact absurd e.symm (fstB_iff.mp hp q h)
theorem cnt_step {m : List Int} {a b : Nat} (ha : a < m.length) (hb : b < m.length) (hne : mk m a ≠ mk m b) : cnt (lm m a b) + 1 = cnt m := by
  obtain ⟨A, hA1, hA2, hA3⟩ := fst_ex m (i := a)
  obtain ⟨B, hB1, hB2, hB3⟩ := fst_ex m (i := b)
  have hAB : A ≠ B := fun e => hne (by rw [← hA2, ← hB2, e])
  unfold cnt fstA
  rw [lm_length]
  refine count_less (x := max A B) (by omega) ?_ fun y hy => ?_
  · rcases Nat.le_total A B with h | h
    · rw [Nat.max_eq_right h]; exact hB3
    · rw [Nat.max_eq_left h]; exact hA3
  · rw [Bool.eq_iff_iff, Bool.and_eq_true, fstB_iff, fstB_iff]
    have key : ∀ i, i < y → (mk (lm m a b) i = mk (lm m a b) y ↔ Mrg m a b i y) := fun i hi => lm_iff (by omega) hy
    have nmax : (!decide (y = max A B)) = true ↔ y ≠ max A B := by simp
    rw [nmax]
    constructor
    · intro q
      refine ⟨fun i hi e => q i hi ((key i hi).mpr (.inl e)), fun e => ?_⟩
      -- the other one is ahead
      rcases Nat.lt_or_gt_of_ne hAB with h | h
      · have ey : y = B := by omega
        subst ey
        exact q A h ((key A h).mpr (.inr ⟨.inl hA2, .inr hB2⟩))
      · have ey : y = A := by omega
        subst ey
        exact q B h ((key B h).mpr (.inr ⟨.inr hB2, .inl hA2⟩))
    · rintro ⟨q1, q2⟩ i hi e
      rcases (key i hi).mp e with e | ⟨e1, e2⟩
      · exact q1 i hi e
      · have fy : fstB m y = true := fstB_iff.mpr q1
        rcases e2 with e2 | e2
        · have ey : y = A := fst_uniq fy hA3 (e2.trans hA2.symm)
          rcases e1 with e1 | e1
          · exact q1 i hi (e1.trans e2.symm)
          · obtain ⟨p, p1, p2, p3⟩ := fst_ex m (i := i)
            have : p = B := fst_uniq p3 hB3 (by rw [p2, e1, hB2])
            omega
        · have ey : y = B := fst_uniq fy hB3 (e2.trans hB2.symm)
          rcases e1 with e1 | e1
          · obtain ⟨p, p1, p2, p3⟩ := fst_ex m (i := i)
            have : p = A := fst_uniq p3 hA3 (by rw [p2, e1, hA2])
            omega
          · exact q1 i hi (e1.trans e2.symm)
theorem cnt_range (n : Nat) : cnt ((List.range n).map fun (i : Nat) => (i : Int)) = n := by
  unfold cnt fstA
  rw [List.length_map, List.length_range]
  have e : (List.range n).filter (fstB ((List.range n).map fun (i : Nat) => (i : Int))) = List.range n := by
    refine List.filter_eq_self.mpr fun p hp => fstB_iff.mpr fun i hi e => ?_
    have hp := List.mem_range.mp hp
    rw [mk_range (by omega), mk_range hp] at e
    omega
  rw [e, List.length_range]
theorem cnt_one {M : List Int} (hM : 1 ≤ M.length) : cnt M = 1 ↔ ∀ i j, i < M.length → j < M.length → mk M i = mk M j := by
  have e : cnt M = (grp M).length := by
    unfold cnt grp
    rw [grpA_eq, List.length_map]
  rw [e]
  exact grp_one hM
end My

/-! ## trees -/
namespace My
open PySem L2
def IsTree (n : Int) (ps : List (Int × Int)) (ns : List Int) : Prop := IsSet ps.length ns ∧ (ns.length : Int) = n - 1 ∧ ∀ i j, i < n.toNat → j < n.toNat → Conn (endsOf ps ns) i j
theorem ends_in {n : Int} {ps : List (Int × Int)} {ns : List Int} (g : GoodW n ps) (h : ∀ z ∈ ns, 0 ≤ z ∧ z < (ps.length : Int)) : InN n.toNat (endsOf ps ns) := fun e he => by
  obtain ⟨z, hz, rfl⟩ := List.mem_map.mp he
  obtain ⟨z0, z1⟩ := h z hz
  have hp : ps[z.toNat]? = some (ps[z.toNat]'(by omega)) := List.getElem?_eq_getElem _
  rw [getD_of hp]
  obtain ⟨b1, b2, b3, b4⟩ := g.2.2.2 _ (List.mem_of_getElem? hp)
  exact ⟨by omega, by omega⟩
theorem ends_sub {ps : List (Int × Int)} {ns ms : List Int} (h : ∀ z ∈ ns, z ∈ ms) : ∀ e ∈ endsOf ps ns, e ∈ endsOf ps ms := fun e he => by
  obtain ⟨z, hz, rfl⟩ := List.mem_map.mp he
  exact List.mem_map.mpr ⟨z, h z hz, rfl⟩
/-- all places have one mark -/
theorem one_conn {n : Nat} {es : List (Nat × Nat)} (h : InN n es) : (∀ i j, i < (lms n es).length → j < (lms n es).length → mk (lms n es) i = mk (lms n es) j) ↔ ∀ i j, i < n → j < n → Conn es i j := by
  rw [lms_length]
  constructor
  · intro q i j hi hj; exact (lms_iff h hi hj).mp (q i j hi hj)
  · intro q i j hi hj; exact (lms_iff h hi hj).mpr (q i j hi hj)
theorem grp_conn {n : Nat} {es : List (Nat × Nat)} (hn : 1 ≤ n) (h : InN n es) : (grp (pms n es)).length = 1 ↔ ∀ i j, i < n → j < n → Conn es i j := by
  rw [grp_one (by rw [pms_length]; exact hn), (same_pms h).one]
  exact one_conn h
theorem seen_conn {n : Nat} {es : List (Nat × Nat)} (hn : 1 ≤ n) (h : InN n es) : (L2.seen (lms n es)).length = 1 ↔ ∀ i j, i < n → j < n → Conn es i j := by
  rw [seen_one (by rw [lms_length]; exact hn)]
  exact one_conn h
theorem seen_pos {L : List Int} (h : 1 ≤ L.length) : 1 ≤ (L2.seen L).length := by
  unfold L2.seen
  have mm := met_mem (fun i => L.getD i 0) L.length (L.getD 0 0)
  have := mm.mpr ⟨0, by omega, rfl⟩
  exact List.length_pos_of_mem this
theorem conn_perm {ps : List (Int × Int)} {ns ms : List Int} (h : ∀ z, z ∈ ns ↔ z ∈ ms) {i j : Nat} : Conn (endsOf ps ns) i j ↔ Conn (endsOf ps ms) i j :=
  ⟨fun c => c.mono (ends_sub fun z hz => (h z).mp hz), fun c => c.mono (ends_sub fun z hz => (h z).mpr hz)⟩
end My

/-! ## comprehensions over enumerate; cuts -/
namespace My
open PySem L2
section
variable {K : PySem.W.Frag} {a : Addr} {xs : List V} {g : TG} {tt : TT} {te : TE} {o : Nat} {fr : List Nat} {σ : St} {H : Hp} {Q : VK}
end
/-- the numbers of the ties whose ends have unlike marks -/
def unlike (M : List Int) (ps : List (Int × Int)) (i : Nat) : List Int := ((List.range i).filter fun k => decide (mk M (ps.getD k (0, 0)).1.toNat ≠ mk M (ps.getD k (0, 0)).2.toNat)).map fun (k : Nat) => (k : Int)
/-- the ties other than one -/
def wo (ns : List Int) (z : Int) : List Int := ns.filter fun y => decide (y ≠ z)
theorem wo_mem {ns : List Int} {z y : Int} : y ∈ wo ns z ↔ y ∈ ns ∧ y ≠ z := by unfold wo; rw [List.mem_filter]; simp
end My

/-! ## rings -/
namespace My
open PySem L2
/-- the ties of a tree whose cut has the tie -/
def ringA (n : Int) (ps : List (Int × Int)) (ns : List Int) (z : Int) (l : List Int) : List Int := l.filter fun y => decide (z ∈ unlike (lms n.toNat (endsOf ps (wo ns y))) ps ps.length)
theorem unlike_mem {M : List Int} {ps : List (Int × Int)} {z : Int} (h0 : 0 ≤ z) (h1 : z < (ps.length : Int)) : z ∈ unlike M ps ps.length ↔ mk M (ps.getD z.toNat (0, 0)).1.toNat ≠ mk M (ps.getD z.toNat (0, 0)).2.toNat := by
  unfold unlike
  rw [List.mem_map]
  constructor
  · rintro ⟨k, hk, rfl⟩
    have := of_decide_eq_true (List.mem_filter.mp hk).2
    rw [Int.toNat_natCast]
    exact this
  · intro h
    exact ⟨z.toNat, List.mem_filter.mpr ⟨List.mem_range.mpr (by omega), decide_eq_true h⟩, by omega⟩
end My

/-! ## sorted(tuple of ints) -/
namespace L2
open PySem PySem.Spec PyProof.Rows
section
variable {prog : Program} {w : World} {A : Around} {E : Value → Shared → Prop} {s : Shared}
theorem collect_tup {tp : Addr} {vs : List Value} {Q : List Value → Shared → Prop} {ot : Obj} {m : Nat} (ht : s.heap.get? tp = some ot) (hc : ot.cls = .type "tuple") (hd : ot.data = .seq vs.toArray m) (hz : vs.length ≤ sizeLine)
    (k : Q vs { s with heap := (s.heap.push (seqObj "list" #[] 0)).update s.heap.objs.size (Obj.mapSeq (· ++ vs.toArray)) }) : wpAny (model prog w) A (collect (.ref tp)) Q E s := by
  have ht1 : (s.heap.push (seqObj "list" #[] 0)).get? tp = some ot := Heap.get?_push_of_some _ ht
  have hL1 : (s.heap.push (seqObj "list" #[] 0)).get? s.heap.objs.size = some (seqObj "list" #[] 0) := Heap.get?_push_size _ rfl
  unfold collect
  refine wpAny_bind (wpAny_runValue (codeAny_builtin entry_proto_collect' ?_))
  show wpAny _ _ (do again (.builtin "list.__iadd__" ⟨[← newList [], .ref tp], []⟩)) _ _ s
  refine wpAny_bind (wpAny_newList (wpAny_pure ⟨Code.quiet_builtin _ (by decide +kernel), codeAny_builtin entry_list_iadd' ?_⟩))
  show wpAny _ _ (Builtin.List.listExtendWith (.ref s.heap.objs.size) (.ref tp) (.ref s.heap.objs.size)) _ _ { s with heap := s.heap.push (seqObj "list" #[] 0) }
  unfold Builtin.List.listExtendWith
  refine wpAny_bind (wpAny_typeOf (T := "tuple") ⟨ot, ht1, hc⟩ ?_)
  rw [if_pos (by rw [show (Value.type "tuple" == Value.type "tuple") = true from rfl]; simp)]
  refine wpAny_bind (listItems_at ht1 hd ?_)
  refine wpAny_bind (listItems_at (xs := #[]) (n := 0) hL1 rfl ?_)
  rw [if_neg (by simp)]
  refine wpAny_bind (listUpdate_at (xs := #[]) (n := 0) hL1 rfl ?_ (Nat.zero_le _) (by show (#[] ++ vs.toArray).size ≤ sizeLine + 1; simp only [Array.size_append, List.size_toArray, List.length_nil]; omega))
  refine wpAny_pure ?_
  refine wpAny_bind (wpAny_load (get?_update_seq hL1 _) ?_)
  show wpAny _ _ (pure ((#[] : Array Value) ++ vs.toArray).toList) Q E _
  rw [show ((#[] : Array Value) ++ vs.toArray).toList = vs by simp]
  exact wpAny_pure k
theorem sorted_tupI {tp : Addr} {vs : List Value} {ns : List Int} {Q : Value → Shared → Prop} {ot : Obj} {m : Nat} (ht : s.heap.get? tp = some ot) (hc : ot.cls = .type "tuple") (hd : ot.data = .seq vs.toArray m) (hI : IntsAre vs ns) (h64 : vs.length < 64)
    (k : ∀ (out : Array Value) (ms : List Int), IntsAre out.toList ms → ms.Perm ns → ms.Pairwise (· ≤ ·) → Q (.ref (s.heap.objs.size + 1)) { s with heap := sortedAll s.heap vs out }) :
    wpAny (model prog w) A (call (.builtin "sorted") [.ref tp]) Q E s := by
  have hsl : sizeLine = 16777216 := sizeLine_eq
  have hsz : ((s.heap.push (seqObj "list" #[] 0)).update s.heap.objs.size (Obj.mapSeq (· ++ vs.toArray))).objs.size = s.heap.objs.size + 1 := by
    rw [Heap.size_update, size_push']
  have hoL : (((s.heap.push (seqObj "list" #[] 0)).update s.heap.objs.size (Obj.mapSeq (· ++ vs.toArray))).push (seqObj "list" vs.toArray 0)).get? (s.heap.objs.size + 1) = some (seqObj "list" vs.toArray 0) := by
    rw [← hsz]
    exact Heap.get?_push_size _ rfl
  refine Calls.call_function_entry kind_sorted plain_sorted entry_sorted (args_sorted1 _) ?_
  unfold Builtin.«sorted»
  refine wpAny_bind (m := checkCount "sorted" 1 1 _) (wpAny_pure ?_)
  refine wpAny_bind (collect_tup ht hc hd (by omega) ?_)
  refine wpAny_bind (wpAny_newList ?_)
  show wpAny _ _ _ _ _ { s with heap := ((s.heap.push (seqObj "list" #[] 0)).update s.heap.objs.size (Obj.mapSeq (· ++ vs.toArray))).push (seqObj "list" vs.toArray 0) }
  rw [hsz]
  refine wpAny_bind (wpAny_holding (wpAny_call_entry slot_list_sort ⟨_, hoL, rfl⟩ entry_list_sort (list_sort_tree hoL hI h64 fun out ms b1 b2 b3 => ⟨_, rfl, ?_⟩) (args_list_sort _)))
  exact wpAny_pure ⟨_, rfl, k out ms b1 b2 b3⟩
end
section
variable {X : Cx}
theorem call_sortedT (K : PySem.W.Frag) (hk : X.K = K := by rfl) : CallR X (.builtin "sorted") (fun xs H Q => ∃ (p : Addr) (ns : List Int), xs = [.ref p] ∧ SqT K H p (ns.map V.int) ∧ ns.length < 64 ∧
    ∀ ms : List Int, ms.Perm ns → ms.Pairwise (· ≤ ·) → ∀ l, H l = none → Q (.ref l) (upd H l (.lst (ms.map V.int)))) := by
  subst hk
  intro pins s σ H xs us Q I r h
  obtain ⟨p, ns, rfl, hq, hn, q⟩ := h
  obtain ⟨u, rfl, ru⟩ := vals1 r
  obtain rfl : u = Value.ref p := ru
  obtain ⟨its, rv, ⟨ot, h1, h2, m, h3⟩, hz⟩ := I.tuple hq
  have hi := ints_of_vals rv
  have hl : its.length = ns.length := by rw [← rv.length, List.length_map]
  refine sorted_tupI h1 h2 h3 hi (by omega) fun out ms b1 b2 b3 => ?_
  obtain ⟨e, he⟩ := sortedAll_at s.heap its out
  have hml : ms.length = ns.length := b2.length_eq
  refine ⟨.ref (s.heap.objs.size + 1), _, I.laid (t' := s.toks) (o := .lst (ms.map V.int)) (fun b o g => sortedAll_old g) (Nat.le_succ _) ⟨?_, out.toList, e, vals_of_ints b1, he⟩, rfl, q ms b2 b3 _ (I.hok.fresh (Nat.le_succ _))⟩
  rw [List.length_map, hml]
  have : sizeLine = 16777216 := sizeLine_eq
  omega
end
end L2

/-! ## t + u, either may be empty -/
namespace L2
open PySem PySem.Spec PyProof.Rows
section
variable {X : Cx}
end
end L2

/-! ## exchanges -/
namespace My
open PySem L2
theorem lm_id {m : List Int} {a b : Nat} (h : mk m a = mk m b) : lm m a b = m := by unfold lm; rw [if_neg (fun z => z h)]
theorem cnt_less {m : List Int} {a b : Nat} (ha : a < m.length) (hb : b < m.length) : cnt m ≤ cnt (lm m a b) + 1 := by
  by_cases e : mk m a = mk m b
  · rw [lm_id e]; omega
  · have := cnt_step ha hb e; omega
theorem cnt_lms {n : Nat} : ∀ es : List (Nat × Nat), InN n es → n ≤ cnt (lms n es) + es.length := by
  refine snoc_ind (fun _ => ?_) fun es x ih hn => ?_
  · have : cnt (lms n []) = n := cnt_range n
    omega
  · obtain ⟨h1, h2, h3⟩ := hn.snoc
    have hl := lms_length n es
    have := cnt_less (m := lms n es) (a := x.1) (b := x.2) (by omega) (by omega)
    have := ih h1
    rw [lms_snoc, List.length_append, List.length_cons, List.length_nil]
    omega
theorem cnt_pos {M : List Int} (h : 1 ≤ M.length) : 1 ≤ cnt M := by
  unfold cnt fstA
  refine List.length_pos_of_mem (a := 0) (List.mem_filter.mpr ⟨List.mem_range.mpr (by omega), fstB_iff.mpr fun i hi => absurd hi (Nat.not_lt_zero i)⟩)
theorem cnt_conn {n : Nat} {es : List (Nat × Nat)} (hn : 1 ≤ n) (h : InN n es) : cnt (lms n es) = 1 ↔ ∀ i j, i < n → j < n → Conn es i j := by
  rw [cnt_one (by rw [lms_length]; exact hn)]
  exact one_conn h
/-- an item once in a row -/
theorem wo_length {ts : List Int} {o : Int} (hn : ts.Nodup) (ho : o ∈ ts) : (wo ts o).length + 1 = ts.length := by
  induction ts with
  | nil => cases ho
  | cons x r ih =>
    obtain ⟨h1, h2⟩ := List.nodup_cons.mp hn
    unfold wo
    rw [List.filter_cons]
    by_cases e : x = o
    · subst e
      rw [if_neg (by simp)]
      have : r.filter (fun y => decide (y ≠ x)) = r := List.filter_eq_self.mpr fun y hy => decide_eq_true fun e => h1 (e ▸ hy)
      rw [this]; rfl
    · rw [if_pos (decide_eq_true e)]
      have := ih h2 ((List.mem_cons.mp ho).resolve_left fun z => e z.symm)
      unfold wo at this
      rw [List.length_cons, List.length_cons]
      omega
/-- the ends of a tie -/
def endOf (ps : List (Int × Int)) (z : Int) : Nat × Nat := ((ps.getD z.toNat (0, 0)).1.toNat, (ps.getD z.toNat (0, 0)).2.toNat)
theorem ends_snoc (ps : List (Int × Int)) (ns : List Int) (z : Int) : endsOf ps (ns ++ [z]) = endsOf ps ns ++ [endOf ps z] := by unfold endsOf endOf; rw [List.map_append]; rfl
theorem end_in {n : Int} {ps : List (Int × Int)} {z : Int} (g : GoodW n ps) (z0 : 0 ≤ z) (z1 : z < (ps.length : Int)) : (endOf ps z).1 < n.toNat ∧ (endOf ps z).2 < n.toNat := by
  have := ends_in (ns := [z]) g (fun y hy => by rw [List.mem_singleton.mp hy]; exact ⟨z0, z1⟩)
  exact this (endOf ps z) (by unfold endsOf endOf; simp)
theorem wo_all {n : Int} {ps : List (Int × Int)} {ts : List Int} {o : Int} (hT : IsTree n ps ts) : ∀ y ∈ wo ts o, 0 ≤ y ∧ y < (ps.length : Int) := fun y hy => hT.1.all y (wo_mem.mp hy).1
/-- a tree with one tie for another is joined where the other one's ends are in two pieces without the one -/
theorem exch {n : Int} {ps : List (Int × Int)} {ts : List Int} {o z : Int} (g : GoodW n ps) (hT : IsTree n ps ts) (ho : o ∈ ts) (z0 : 0 ≤ z) (z1 : z < (ps.length : Int)) :
    (∀ i j, i < n.toNat → j < n.toNat → Conn (endsOf ps (wo ts o ++ [z])) i j) ↔ ¬ Conn (endsOf ps (wo ts o)) (endOf ps z).1 (endOf ps z).2 := by
  have hn : 1 ≤ n.toNat := by have := g.1; omega
  have hw := wo_length hT.1.nodup ho
  have hl : (ts.length : Int) = n - 1 := hT.2.1
  have i0 : InN n.toNat (endsOf ps (wo ts o)) := ends_in g (wo_all hT)
  have hz := end_in g z0 z1
  have ob := hT.1.all o ho
  have hoe := end_in g ob.1 ob.2
  have i1 : InN n.toNat (endsOf ps (wo ts o) ++ [endOf ps z]) := fun e he => (List.mem_append.mp he).elim (i0 e) fun q => by rw [List.mem_singleton.mp q]; exact hz
  have i2 : InN n.toNat (endsOf ps (wo ts o) ++ [endOf ps o]) := fun e he => (List.mem_append.mp he).elim (i0 e) fun q => by rw [List.mem_singleton.mp q]; exact hoe
  have hL := lms_length n.toNat (endsOf ps (wo ts o))
  have le : (endsOf ps (wo ts o)).length = (wo ts o).length := by unfold endsOf; rw [List.length_map]
  rw [ends_snoc]
  constructor
  · intro hc c
    have h1 : cnt (lms n.toNat (endsOf ps (wo ts o) ++ [endOf ps z])) = 1 := (cnt_conn hn i1).mpr hc
    rw [lms_snoc, lm_id ((lms_iff i0 hz.1 hz.2).mpr c)] at h1
    have := cnt_lms _ i0
    omega
  · intro hc
    have h2 : cnt (lms n.toNat (endsOf ps (wo ts o) ++ [endOf ps o])) = 1 := by
      refine (cnt_conn hn i2).mpr fun i j hi hj => ?_
      rw [← ends_snoc]
      refine (conn_perm fun y => ?_).mp (hT.2.2 i j hi hj)
      rw [List.mem_append, wo_mem, List.mem_singleton]
      constructor
      · intro hy
        by_cases e : y = o
        · exact .inr e
        · exact .inl ⟨hy, e⟩
      · rintro (q | q)
        · exact q.1
        · rw [q]; exact ho
    rw [lms_snoc] at h2
    have h3 := cnt_less (m := lms n.toNat (endsOf ps (wo ts o))) (a := (endOf ps o).1) (b := (endOf ps o).2) (by omega) (by omega)
    have h4 := cnt_step (m := lms n.toNat (endsOf ps (wo ts o))) (a := (endOf ps z).1) (b := (endOf ps z).2) (by omega) (by omega) (fun e => hc ((lms_iff i0 hz.1 hz.2).mp e))
    have h5 := cnt_pos (M := lm (lms n.toNat (endsOf ps (wo ts o))) (endOf ps z).1 (endOf ps z).2) (by rw [lm_length]; omega)
    refine (cnt_conn hn i1).mp ?_
    rw [lms_snoc]
    omega
/-- the cut of a tie of a tree -/
def cutT (n : Int) (ps : List (Int × Int)) (ts : List Int) (o : Int) : List Int := unlike (lms n.toNat (endsOf ps (wo ts o))) ps ps.length
theorem unlike_bnd {M : List Int} {ps : List (Int × Int)} {i : Nat} {z : Int} (h : z ∈ unlike M ps i) : 0 ≤ z ∧ z < (i : Int) := by
  unfold unlike at h
  obtain ⟨k, hk, rfl⟩ := List.mem_map.mp h
  have := List.mem_range.mp (List.mem_filter.mp hk).1
  omega
theorem cutT_mem {n : Int} {ps : List (Int × Int)} {ts : List Int} {o z : Int} (g : GoodW n ps) (hT : IsTree n ps ts) (z0 : 0 ≤ z) (z1 : z < (ps.length : Int)) : z ∈ cutT n ps ts o ↔ ¬ Conn (endsOf ps (wo ts o)) (endOf ps z).1 (endOf ps z).2 := by
  have hz := end_in g z0 z1
  unfold cutT
  rw [unlike_mem z0 z1]
  exact not_congr (lms_iff (ends_in g (wo_all hT)) hz.1 hz.2)
def exg (n : Int) (ps : List (Int × Int)) (ts : List Int) (o z : Int) : Prop := o ∈ ts ∧ z ≠ o ∧ z ∈ cutT n ps ts o
instance (n : Int) (ps : List (Int × Int)) (ts : List Int) (o z : Int) : Decidable (exg n ps ts o z) := by unfold exg; infer_instance
theorem exg_iff {n : Int} {ps : List (Int × Int)} {ts : List Int} {o z : Int} (g : GoodW n ps) (hT : IsTree n ps ts) :
    exg n ps ts o z ↔ o ∈ ts ∧ z ∉ ts ∧ 0 ≤ z ∧ z < (ps.length : Int) ∧ ∀ i j, i < n.toNat → j < n.toNat → Conn (endsOf ps (wo ts o ++ [z])) i j := by
  constructor
  · rintro ⟨h1, h2, h3⟩
    obtain ⟨z0, z1⟩ := unlike_bnd h3
    have hc := (cutT_mem g hT z0 z1).mp h3
    refine ⟨h1, fun hz => hc ?_, z0, z1, (exch g hT h1 z0 z1).mpr hc⟩
    refine .edge ?_
    exact List.mem_map.mpr ⟨z, wo_mem.mpr ⟨hz, h2⟩, rfl⟩
  · rintro ⟨h1, h2, z0, z1, hc⟩
    exact ⟨h1, fun e => h2 (e ▸ h1), (cutT_mem g hT z0 z1).mpr ((exch g hT h1 z0 z1).mp hc)⟩
/-! ### the list of exchanges -/
end My

/-! ## lists of pairs, a list changed -/
namespace My
open PySem L2
end My

/-! ## list(reversed(tuple)) -/
namespace L2
open PySem PySem.Spec PyProof.Rows
/-! ### the iterator of reversed(tuple) -/
def IsRv (h : Heap) (r l : Addr) (i : Int) : Prop := ∃ o, h.get? r = some o ∧ o.cls = .type "reversed" ∧ o.data = .fields #[.ref l, rawInt i]
theorem IsRv.keep {h h' : Heap} {r l : Addr} {i : Int} (x : IsRv h r l i) (e : ∀ o, h.get? r = some o → h'.get? r = some o) : IsRv h' r l i := let ⟨o, a, b⟩ := x; ⟨o, e _ a, b⟩
section
variable {prog : Program} {w : World} {A : Around} {E : Value → Shared → Prop} {s : Shared}
end
section
variable {prog : Program} {w : World} {A : Around} {E : Value → Shared → Prop} {s : Shared} {it a : Addr} {items : Array Value}
end
section
variable {X : Cx} {p p2 pos pos2 : Pos} {e : Expr} {t : TA}
end
end L2

/-! ## t[lo:hi], also the whole -/
namespace L2
open PySem PySem.Spec PyProof.Rows
section
variable {prog : Program} {w : World} {A : Around} {E : Value → Shared → Prop} {s : Shared}
end
section
variable {X : Cx}
end
end L2

/-! ## tuples of ints: slices -/
namespace My
open PySem L2
end My

/-! ## x in a list of objects, by what they hold -/
namespace L2
open PySem PySem.Spec PyProof.Rows
section
variable {X : Cx}
end
end L2
namespace My
open PySem L2
end My

/-! ## rings and cuts of a tree, and behind an exchange -/
namespace My
open PySem L2
/-- of the tree's own ties only the one that is left out is in the cut -/
theorem cut_own {n : Int} {ps : List (Int × Int)} {ts : List Int} {o y : Int} (g : GoodW n ps) (hT : IsTree n ps ts) (ho : o ∈ ts) (hy : y ∈ ts) : y ∈ cutT n ps ts o ↔ y = o := by
  have yb := hT.1.all y hy
  rw [cutT_mem g hT yb.1 yb.2]
  constructor
  · intro h
    by_cases e : y = o
    · exact e
    · exact absurd (.edge (List.mem_map.mpr ⟨y, wo_mem.mpr ⟨hy, e⟩, rfl⟩)) h
  · rintro rfl
    refine (exch g hT hy yb.1 yb.2).mp fun i j hi hj => (conn_perm fun z => ?_).mp (hT.2.2 i j hi hj)
    rw [List.mem_append, wo_mem, List.mem_singleton]
    constructor
    · intro hz
      by_cases e : z = y
      · exact .inr e
      · exact .inl ⟨hz, e⟩
    · rintro (q | q)
      · exact q.1
      · rw [q]; exact hy
/-- the tree behind an exchange -/
theorem exg_tree {n : Int} {ps : List (Int × Int)} {ts ms : List Int} {o z : Int} (g : GoodW n ps) (hT : IsTree n ps ts) (hx : exg n ps ts o z) (hpm : ms.Perm (wo ts o ++ [z])) (hpw : ms.Pairwise (· ≤ ·)) : IsTree n ps ms := by
  obtain ⟨ho, hz, z0, z1, hc⟩ := (exg_iff g hT).mp hx
  have nd : (wo ts o ++ [z]).Nodup := nd_snoc (hT.1.nodup.sublist List.filter_sublist) fun h => hz (wo_mem.mp h).1
  have ndm : ms.Nodup := hpm.nodup_iff.mpr nd
  have hl := wo_length hT.1.nodup ho
  have hl2 := hpm.length_eq
  rw [List.length_append, List.length_singleton] at hl2
  refine ⟨isSet_iff.mpr ⟨fun y hy => ?_, (List.pairwise_and_iff.mpr ⟨hpw, ndm⟩).imp fun {x y} h => by have := h.1; have := h.2; omega⟩, by rw [hl2, hl]; exact hT.2.1, fun i j hi hj => (conn_perm fun y => hpm.mem_iff).mpr (hc i j hi hj)⟩
  rcases List.mem_append.mp (hpm.mem_iff.mp hy) with h | h
  · exact hT.1.all y (wo_mem.mp h).1
  · rw [List.mem_singleton.mp h]; exact ⟨z0, z1⟩
section
variable {n : Int} {ps : List (Int × Int)} {ts ms : List Int} {o z : Int} (g : GoodW n ps) (hT : IsTree n ps ts) (hx : exg n ps ts o z) (hpm : ms.Perm (wo ts o ++ [z])) (hpw : ms.Pairwise (· ≤ ·))
include g hT hx hpm hpw
end
end My

/-! ## the least tree: each tie that closes no ring -/
namespace My
open PySem L2
def grd (n : Nat) (ps : List (Int × Int)) : Nat → List Int
  | 0 => []
  | k + 1 => if mk (lms n (endsOf ps (grd n ps k))) (endOf ps (k : Int)).1 = mk (lms n (endsOf ps (grd n ps k))) (endOf ps (k : Int)).2 then grd n ps k else grd n ps k ++ [(k : Int)]
/-! ### order of rows -/
end My

/-! ## min(list of tuples of ints) -/
namespace My
open PySem L2
end My
namespace L2
open PySem PySem.Spec PyProof.Rows
section
variable {prog : Program} {w : World} {A : Around} {I S : Addr} {fp wr : List Addr} {n : Nat} {P : Nat → Value → Prop} {St : Nat → Heap → Prop} {R : Result → Shared → Prop}
/-- the items are tuples of ints, apart from what the loop writes -/
def TupsAt (S : Addr) (wr : List Addr) (P : Nat → Value → Prop) (L : Nat → List Int) (h : Heap) : Prop := ∀ i v, P i v → ∃ a vs, v = .ref a ∧ a ≠ S ∧ a ∉ wr ∧ IsTup h a vs ∧ IntsAre vs.toList (L i)
theorem TupsAt.keep {L : Nat → List Int} {h h' : Heap} (x : TupsAt S wr P L h) (k : ∀ b o, b ≠ S → b ∉ wr → h.get? b = some o → h'.get? b = some o) : TupsAt S wr P L h' := fun i v p => by
  obtain ⟨a, vs, e, n1, n2, ⟨o, ho, z⟩, hi⟩ := x i v p
  exact ⟨a, vs, e, n1, n2, ⟨o, k a o n1 n2 ho, z⟩, hi⟩
end
section
variable {X : Cx}
end
end L2

/-! ## lists of tuples of ints; all ascending rows of a length -/
namespace My
open PySem L2
def TupV (H : Hp) (v : V) (l : List Int) : Prop := ∃ a, v = .ref a ∧ H a = some (.tup (IL l))
def TupsV (H : Hp) (xs : List V) (L : List (List Int)) : Prop := xs.length = L.length ∧ ∀ (i : Nat) (l : List Int), L[i]? = some l → ∃ v, xs[i]? = some v ∧ TupV H v l
theorem TupsV.nil {H : Hp} : TupsV H [] [] := ⟨rfl, fun i p e => by simp at e⟩
theorem TupsV.app {H : Hp} {xs ys : List V} {L M : List (List Int)} (h : TupsV H xs L) (h2 : TupsV H ys M) : TupsV H (xs ++ ys) (L ++ M) := by
  refine ⟨by rw [List.length_append, List.length_append, h.1, h2.1], fun i l e => ?_⟩
  by_cases hi : i < L.length
  · rw [List.getElem?_append_left hi] at e
    obtain ⟨v, e1, q⟩ := h.2 i l e
    exact ⟨v, by rw [List.getElem?_append_left (by rw [h.1]; exact hi)]; exact e1, q⟩
  · rw [List.getElem?_append_right (by omega)] at e
    obtain ⟨v, e1, q⟩ := h2.2 _ l e
    exact ⟨v, by rw [List.getElem?_append_right (by rw [h.1]; omega), h.1]; exact e1, q⟩
theorem TupsV.one {H : Hp} {v : V} {l : List Int} (q : TupV H v l) : TupsV H [v] [l] := ⟨rfl, fun i m e => by
  cases i with
  | zero => have e : l = m := by simpa using e
            exact ⟨v, rfl, e ▸ q⟩
  | succ i => simp at e⟩
theorem TupsV.snoc {H : Hp} {xs : List V} {L : List (List Int)} {v : V} {l : List Int} (h : TupsV H xs L) (q : TupV H v l) : TupsV H (xs ++ [v]) (L ++ [l]) := h.app (.one q)
/-! ### rows -/
def nxt (s : List Int) : Int := match s.getLast? with | none => 0 | some x => x + 1
def ext1 (m : Int) (s : List Int) : List (List Int) := (List.range (m - nxt s).toNat).map fun (i : Nat) => s ++ [nxt s + (i : Int)]
def cmb (m : Int) : Nat → List (List Int)
  | 0 => [[]]
  | k + 1 => (cmb m k).flatMap (ext1 m)
theorem ext1_len {m : Nat} {s : List Int} (h : IsSet m s) : (ext1 (m : Int) s).length ≤ m := by
  unfold ext1
  rw [List.length_map, List.length_range]
  have n0 : 0 ≤ nxt s := by
    unfold nxt
    cases q : s.getLast? with
    | none => exact Int.le_refl 0
    | some x => have := (h.all x (List.mem_of_getLast? q)).1; show 0 ≤ x + 1; omega
  omega
theorem flat_len {m : Nat} : ∀ L : List (List Int), (∀ s ∈ L, IsSet m s) → (L.flatMap (ext1 (m : Int))).length ≤ m * L.length
  | [], _ => Nat.zero_le _
  | s :: L, h => by
    have := flat_len L fun x hx => h x (List.mem_cons_of_mem _ hx)
    have := ext1_len (h s List.mem_cons_self)
    rw [List.flatMap_cons, List.length_append, List.length_cons, Nat.mul_succ]
    omega
end My

/-! ## every tree is reached by exchanges -/
namespace My
open PySem L2
theorem asc_sub : ∀ {w t : List Int}, t.Pairwise (· < ·) → w.Pairwise (· < ·) → (∀ z ∈ t, z ∈ w) → t.Sublist w
  | [], [], _, _, _ => List.Sublist.slnil
  | [], x :: t, _, _, h => absurd (h x List.mem_cons_self) (by simp)
  | y :: w, [], _, _, _ => List.nil_sublist _
  | y :: w, x :: t, ht, hw, h => by
    obtain ⟨h1, h2⟩ := List.pairwise_cons.mp ht
    obtain ⟨h3, h4⟩ := List.pairwise_cons.mp hw
    by_cases e : x = y
    · subst e
      refine List.Sublist.cons₂ _ (asc_sub h2 h4 fun z hz => ?_)
      rcases List.mem_cons.mp (h z (List.mem_cons_of_mem _ hz)) with q | q
      · have := h1 z hz; omega
      · exact q
    · have hx : x ∈ w := (List.mem_cons.mp (h x List.mem_cons_self)).resolve_left e
      refine List.Sublist.cons _ (asc_sub ht h4 fun z hz => ?_)
      rcases List.mem_cons.mp (h z hz) with q | q
      · have := h3 x hx
        rcases List.mem_cons.mp hz with q2 | q2
        · rw [q2]; exact hx
        · have := h1 z q2; omega
      · exact q
/-- a tree crosses each cut of another -/
theorem cross {n : Int} {ps : List (Int × Int)} {T W : List Int} {o : Int} (g : GoodW n ps) (hT : IsTree n ps T) (hW : IsTree n ps W) (ho : o ∈ T) : ∃ z ∈ W, z ∈ cutT n ps T o := by
  refine Classical.byContradiction fun hno => ?_
  have all : ∀ i j, Conn (endsOf ps W) i j → Conn (endsOf ps (wo T o)) i j := fun i j c => by
    induction c with
    | refl i => exact .refl i
    | symm _ ih => exact .symm ih
    | trans _ _ i1 i2 => exact .trans i1 i2
    | @edge a b h =>
      obtain ⟨z, hz, e⟩ := List.mem_map.mp h
      obtain ⟨z0, z1⟩ := hW.1.all z hz
      have c : Conn (endsOf ps (wo T o)) (endOf ps z).1 (endOf ps z).2 := Classical.byContradiction fun hc => hno ⟨z, hz, (cutT_mem g hT z0 z1).mpr hc⟩
      have ea : a = (endOf ps z).1 := (congrArg Prod.fst e).symm
      have eb : b = (endOf ps z).2 := (congrArg Prod.snd e).symm
      rw [ea, eb]
      exact c
  have ob := hT.1.all o ho
  have he := end_in g ob.1 ob.2
  exact (cutT_mem g hT ob.1 ob.2).mp ((cut_own g hT ho ho).mpr rfl) (all _ _ (hW.2.2 _ _ he.1 he.2))
theorem reach {n : Int} {ps : List (Int × Int)} {W : List Int} (g : GoodW n ps) (hW : IsTree n ps W) (R : List Int → Prop)
    (close : ∀ T o z ms, R T → IsTree n ps T → exg n ps T o z → ms.Perm (wo T o ++ [z]) → ms.Pairwise (· ≤ ·) → R ms) : ∀ (k : Nat) (T : List Int), R T → IsTree n ps T → (T.filter fun y => decide (y ∉ W)).length = k → R W
  | 0, T, hR, hT, h => by
    have hsub : ∀ z ∈ T, z ∈ W := fun z hz => Classical.byContradiction fun hn => by
      have : z ∈ T.filter fun y => decide (y ∉ W) := List.mem_filter.mpr ⟨hz, decide_eq_true hn⟩
      rw [List.length_eq_zero_iff.mp h] at this
      cases this
    have := (asc_sub (isSet_iff.mp hT.1).2 (isSet_iff.mp hW.1).2 hsub).eq_of_length (by have := hT.2.1; have := hW.2.1; omega)
    exact this ▸ hR
  | k + 1, T, hR, hT, h => by
    obtain ⟨o, hof⟩ : ∃ o, o ∈ T.filter fun y => decide (y ∉ W) := List.exists_mem_of_length_pos (by omega)
    have ho := (List.mem_filter.mp hof).1
    have hoW : o ∉ W := of_decide_eq_true (List.mem_filter.mp hof).2
    obtain ⟨z, hzW, hzc⟩ := cross g hT hW ho
    have hzo : z ≠ o := fun e => hoW (e ▸ hzW)
    have hx : exg n ps T o z := ⟨ho, hzo, hzc⟩
    have hpm : ((wo T o ++ [z]).mergeSort fun a b => decide (a ≤ b)).Perm (wo T o ++ [z]) := List.mergeSort_perm ..
    have hpw : ((wo T o ++ [z]).mergeSort fun a b => decide (a ≤ b)).Pairwise (· ≤ ·) := by
      have := List.pairwise_mergeSort (le := fun (a b : Int) => decide (a ≤ b)) (fun a b c h1 h2 => by simp only [decide_eq_true_eq] at *; omega) (fun a b => by simp only [Bool.or_eq_true, decide_eq_true_eq]; omega) (wo T o ++ [z])
      exact this.imp fun h => by simpa using h
    refine reach g hW R close k _ (close T o z _ hR hT hx hpm hpw) (exg_tree g hT hx hpm hpw) ?_
    rw [(hpm.filter _).length_eq, List.filter_append]
    have e1 : [z].filter (fun y => decide (y ∉ W)) = [] := by rw [List.filter_cons, if_neg (by simpa using hzW)]; rfl
    rw [e1, List.append_nil]
    have e2 : (wo T o).filter (fun y => decide (y ∉ W)) = wo (T.filter fun y => decide (y ∉ W)) o := by
      unfold wo
      rw [List.filter_filter, List.filter_filter]
      refine List.filter_congr fun y _ => Bool.and_comm ..
    rw [e2]
    have := wo_length (hT.1.nodup.sublist List.filter_sublist) hof
    omega
end My

/-! ## marks merged, ties grown -/
namespace My
open PySem L2
def pmf (M : List Int) (es : List (Nat × Nat)) : List Int := es.foldl (fun m e => pm m e.1 e.2) M
theorem pmf_snoc (M : List Int) (es : List (Nat × Nat)) (e : Nat × Nat) : pmf M (es ++ [e]) = pm (pmf M es) e.1 e.2 := by unfold pmf; rw [List.foldl_append]; rfl
theorem pmf_length (M : List Int) : ∀ es : List (Nat × Nat), (pmf M es).length = M.length := by
  intro es
  unfold pmf
  induction es generalizing M with
  | nil => rfl
  | cons e l ih => rw [List.foldl_cons, ih, pm_length]
end My
namespace My
open PySem L2
/-- all numbers of ties -/
def rgL (m : Nat) : List Int := (List.range m).map fun (i : Nat) => (i : Int)
theorem rgL_mem {m : Nat} {z : Int} : z ∈ rgL m ↔ 0 ≤ z ∧ z < (m : Int) := by
  unfold rgL
  rw [List.mem_map]
  constructor
  · rintro ⟨i, hi, rfl⟩
    have := List.mem_range.mp hi
    omega
  · intro h
    exact ⟨z.toNat, List.mem_range.mpr (by omega), by omega⟩
theorem rgL_asc (m : Nat) : (rgL m).Pairwise (· < ·) := by
  unfold rgL
  rw [List.pairwise_map]
  exact List.pairwise_lt_range.imp fun h => by omega
theorem rgL_set (m : Nat) : IsSet m (rgL m) := isSet_iff.mpr ⟨fun z hz => rgL_mem.mp hz, rgL_asc m⟩
theorem rngI_rgL (m : Nat) : rngI 0 (m : Int) = rgL m := by
  unfold rngI rgL
  rw [Int.sub_zero, Int.toNat_natCast]
  exact List.map_congr_left fun i _ => by omega
/-- all places are one piece over all ties -/
def Joined (n : Int) (ps : List (Int × Int)) : Prop := ∀ i j, i < n.toNat → j < n.toNat → Conn (endsOf ps (rgL ps.length)) i j
end My

/-! ## tuple(range) -/
namespace L2
open PySem PySem.Spec PyProof.Rows
section
variable {prog : Program} {w : World} {A : Around} {E : Value → Shared → Prop} {s : Shared}
theorem collect_rng {r : Addr} {a b c : Int} {t u v : Tok} {n : Nat} {Q : List Value → Shared → Prop} (hh : A.handled = none) (hr : IsRange s.heap r a b c t u v) (hm : Builtin.Range.small a b c = true) (hn : Builtin.Range.rangeSize a b c = n) (hl : n ≤ 2 ^ 24)
    (k : ∀ (h' : Heap) (tk : Nat) (acc : Array Value), (∀ b o, s.heap.get? b = some o → h'.get? b = some o) → ItemsOf (fun i v => ∃ t, v = .int (a + i * c) t) acc n → Q acc.toList { s with heap := h', toks := tk }) : wpAny (model prog w) A (collect (.ref r)) Q E s := by
  have hL1 : (s.heap.push (seqObj "list" #[] 0)).get? s.heap.objs.size = some (seqObj "list" #[] 0) := Heap.get?_push_size _ rfl
  unfold collect
  refine wpAny_bind (wpAny_runValue (codeAny_builtin entry_proto_collect' ?_))
  show wpAny _ A.in1 (do again (.builtin "list.__iadd__" ⟨[← newList [], .ref r], []⟩)) _ _ s
  refine wpAny_bind (wpAny_newList (wpAny_pure ⟨Code.quiet_builtin _ (by decide +kernel), codeAny_builtin entry_list_iadd' ?_⟩))
  show wpAny _ A.in1 (Builtin.List.listExtendWith (.ref s.heap.objs.size) (.ref r) (.ref s.heap.objs.size)) _ _ { s with heap := s.heap.push (seqObj "list" #[] 0) }
  refine wpAny_mono (wpAny_extend_range (A := A) (R := fun x s' => ∃ (h' : Heap) (tk : Nat) (acc : Array Value) (c' : Nat), x = .ok (.ret (.ref s.heap.objs.size)) ∧ s' = { s with heap := h', toks := tk } ∧ (∀ b o, s.heap.get? b = some o → h'.get? b = some o) ∧
      h'.get? s.heap.objs.size = some { cls := .type "list", dict := none, data := .seq acc c', slots := #[] } ∧ ItemsOf (fun i v => ∃ t, v = .int (a + i * c) t) acc n)
    (s := { s with heap := s.heap.push (seqObj "list" #[] 0) }) hh (Heap.get?_push_of_some _ hr) hm hn hl _ _ 0 hL1 fun h' tk acc c' k1 k2 k3 => ⟨h', tk, acc, c', rfl, rfl, fun b o e => k1 b o (Nat.ne_of_lt (Heap.lt_size e)) (Heap.get?_push_of_some _ e), k2, k3⟩) (fun fin s' z => ?_) (fun e s' z => ?_)
  · cases fin with
    | done f =>
      obtain ⟨h', tk, acc, c', e, rfl, k1, k2, k3⟩ := z
      cases e
      refine wpAny_bind (wpAny_load k2 ?_)
      exact wpAny_pure (k h' tk acc k1 k3)
    | again c' =>
      refine ⟨z.1, codeAny_mono z.2 fun x s2 z => ?_⟩
      obtain ⟨h', tk, acc, c', rfl, rfl, k1, k2, k3⟩ := z
      refine wpAny_bind (wpAny_load k2 ?_)
      exact wpAny_pure (k h' tk acc k1 k3)
  · obtain ⟨h', tk, acc, c', e, _⟩ := z
    cases e
theorem new_tuple_rng {r : Addr} {a b c : Int} {t u v : Tok} {n : Nat} (hm : Builtin.Range.small a b c = true) (hn : Builtin.Range.rangeSize a b c = n) (hl : n ≤ 2 ^ 24) :
    Meets (Builtin.«tuple.__new__» ⟨[.type "tuple", .ref r], []⟩) (fun A R s => A.handled = none ∧ IsRange s.heap r a b c t u v ∧ ∀ (h' : Heap) (tk : Nat) (acc : Array Value), (∀ b o, s.heap.get? b = some o → h'.get? b = some o) → ItemsOf (fun i v => ∃ t, v = .int (a + i * c) t) acc n →
      R (.ok (.ret (.ref h'.objs.size))) { s with heap := h'.push (seqObj "tuple" acc 0), toks := tk }) :=
  .of_wp fun prog w A R s h => by
    obtain ⟨hh, hr, h⟩ := h
    have e1 := sub_tuple_self
    have e2 := init_tuple_lookup
    have e3 := madeHere_tuple
    have hT : s.TypeIs (.ref r) "range" := ⟨_, hr, rfl⟩
    have hh1 : A.in1.handled = none := hh
    wp_walk using wpAny_typeOf hT, collect_rng hh1 hr hm hn hl
    intro h' tk acc hk hacc
    show wpAny _ _ (Builtin.Tuple.tupleExact acc.toList.toArray >>= ret) _ _ _
    unfold Builtin.Tuple.tupleExact
    have e : acc.toList.toArray = acc := by simp
    rw [e]
    refine wpAny_bind (wpAny_newObj_type ?_ (by show acc.size ≤ sizeLine; rw [hacc.1, sizeLine_eq]; exact hl))
    exact wpAny_pure ⟨_, rfl, h h' tk acc hk hacc⟩
theorem call_tuple_range {r : Addr} {a b c : Int} {t u v : Tok} {n : Nat} {Q : Value → Shared → Prop} (hh : A.handled = none) (hr : IsRange s.heap r a b c t u v) (hm : Builtin.Range.small a b c = true) (hn : Builtin.Range.rangeSize a b c = n) (hl : n ≤ 2 ^ 24)
    (k : ∀ (h' : Heap) (tk : Nat) (acc : Array Value), (∀ b o, s.heap.get? b = some o → h'.get? b = some o) → ItemsOf (fun i v => ∃ t, v = .int (a + i * c) t) acc n → Q (.ref h'.objs.size) { s with heap := h'.push (seqObj "tuple" acc 0), toks := tk }) : wpAny (model prog w) A (call (.type "tuple") [.ref r]) Q E s :=
  callType_new F.called_tuple (by decide) (F.typeCall_tuple_1 _) (F.newCall_tuple_1 _) (fun o => F.args_object_init_2 o _) F.entry_tuple_new (new_tuple_rng (t := t) (u := u) (v := v) hm hn hl)
    ⟨hh, hr, fun h' tk acc hk hacc => ⟨⟨_, Heap.get?_push_size _ rfl, rfl⟩, k h' tk acc hk hacc⟩⟩
end
section
variable {X : Cx}
theorem call_tuple_rng (hc : X.calm = true) : CallR X (.type "tuple") (fun xs H Q => ∃ p lo hi, xs = [.ref p] ∧ H p = some (.rng lo hi) ∧ (-(2 ^ 62) ≤ lo ∧ lo < 2 ^ 62 ∧ -(2 ^ 62) ≤ hi ∧ hi < 2 ^ 62) ∧ (hi - lo).toNat ≤ 16777216 ∧
    ∀ l, H l = none → Q (.ref l) (upd H l (.tup ((rngI lo hi).map V.int)))) := by
  intro pins s σ H xs us Q I r h
  obtain ⟨p, lo, hi, rfl, hp, ⟨b1, b2, b3, b4⟩, hz, q⟩ := h
  obtain ⟨u, rfl, ru⟩ := vals1 r
  obtain rfl : u = Value.ref p := ru
  obtain ⟨t, u, v, e⟩ := (show ObjOk X.prog X.w H s.heap p (.rng lo hi) from I.hok p _ hp)
  have hn : Builtin.Range.rangeSize lo hi 1 = (((hi - lo).toNat : Nat) : Int) := by rw [rangeSize_one]; split <;> omega
  refine call_tuple_range (I.ok.hd hc) (t := t) (u := u) (v := v) e (small_one b1 b2 b3 b4) hn hz fun h' tk acc hk ha => ?_
  have hl : acc.toList.length = (hi - lo).toNat := by rw [Array.length_toList]; exact ha.1
  have rv : Vals ((rngI lo hi).map V.int) acc.toList := vals_rng (lo := lo) hl fun j w ew => by
    obtain ⟨t, e⟩ := ha.2 j w (by simpa using ew)
    exact ⟨t, by rw [e, Int.mul_one]⟩
  have I1 : Inv X pins σ H { s with heap := h', toks := tk } := I.kept (t' := tk) hk
  have hz2 : ((rngI lo hi).map V.int).length ≤ sizeLine := by
    rw [List.length_map, rngI_length]
    have : sizeLine = 16777216 := sizeLine_eq
    omega
  have I2 : Inv X pins σ (upd H h'.objs.size (.tup ((rngI lo hi).map V.int))) { s with heap := h'.push (seqObj "tuple" acc.toList.toArray 0), toks := tk } :=
    I1.laid (t' := tk) (fun b o e => Heap.get?_push_of_some _ e) (Nat.le_refl _) (show ObjOk X.prog X.w _ _ _ (.tup ((rngI lo hi).map V.int)) from ⟨hz2, acc.toList, rv, IsTup.new _ _⟩)
  have ea : acc.toList.toArray = acc := by simp
  rw [ea] at I2
  exact ⟨.ref h'.objs.size, _, I2, rfl, q _ (I1.hok.fresh (Nat.le_refl _))⟩
end
end L2

/-! ## ties grown in an order: each that closes no ring -/
namespace My
open PySem L2
def gst (n : Nat) (ps : List (Int × Int)) (G : List Int) (z : Int) : List Int := if mk (lms n (endsOf ps G)) (endOf ps z).1 = mk (lms n (endsOf ps G)) (endOf ps z).2 then G else G ++ [z]
def grw (n : Nat) (ps : List (Int × Int)) (zs : List Int) : List Int := zs.foldl (gst n ps) []
end My
namespace My
open PySem L2
end My

/-! ## lists sorted, however long -/
namespace PyProof.Rows
open PySem
abbrev dK : Keyed := (Value.none, Value.none)
section
variable {M : Model} {A : Around} {E : Value → Shared → Prop} {s : Shared} {O : KeyOrd} {key : Keyed → O.α} {kd : SortKind} {S : Keyed → Prop}
end
end PyProof.Rows
namespace PyProof.Rows
open PySem
section
variable {M : Model} {A : Around} {E : Value → Shared → Prop} {s : Shared} {O : KeyOrd} {key : Keyed → O.α} {kd : SortKind} {S : Keyed → Prop}
def RK (O : KeyOrd) (key : Keyed → O.α) (x y : Keyed) : Prop := O.kle (key x) (key y)
structure MI (O : KeyOrd) (key : Keyed → O.α) (la lb : List Keyed) (out : Array Keyed) (ia ib : Nat) : Prop where
  so : out.toList.Pairwise (RK O key)
  oa : ∀ x ∈ out.toList, ∀ y ∈ la.drop ia, RK O key x y
  ob : ∀ x ∈ out.toList, ∀ y ∈ lb.drop ib, RK O key x y
  pm : (out.toList ++ la.drop ia ++ lb.drop ib).Perm (la ++ lb)
abbrev LoS := Option (Array Keyed) × Array Keyed × Nat × Nat × Nat × Nat × Nat
section
variable {a b out : Array Keyed} {ia ib : Nat} {st : SortSt} {R : ForInStep LoS → SortSt → Prop}
end
section
variable {a b : Array Keyed} {st : SortSt}
end
end
end PyProof.Rows
namespace PyProof.Rows
open PySem
section
variable {M : Model} {A : Around} {E : Value → Shared → Prop} {s : Shared} {O : KeyOrd} {key : Keyed → O.α} {kd : SortKind} {S : Keyed → Prop}
structure MH (O : KeyOrd) (key : Keyed → O.α) (la lb : List Keyed) (out : Array Keyed) (na nb : Nat) : Prop where
  so : out.toList.Pairwise fun x y => RK O key y x
  oa : ∀ x ∈ la.take na, ∀ y ∈ out.toList, RK O key x y
  ob : ∀ x ∈ lb.take nb, ∀ y ∈ out.toList, RK O key x y
  pm : (la.take na ++ lb.take nb ++ out.toList).Perm (la ++ lb)
abbrev HiS := Option (Array Keyed) × Nat × Nat × Array Keyed × Nat × Nat × Nat
section
variable {a b out : Array Keyed} {na nb : Nat} {st : SortSt} {R : ForInStep HiS → SortSt → Prop}
end
section
variable {a b : Array Keyed} {st : SortSt}
end
end
end PyProof.Rows
namespace PyProof.Rows
open PySem
section
variable {M : Model} {A : Around} {E : Value → Shared → Prop} {s : Shared} {O : KeyOrd} {key : Keyed → O.α} {kd : SortKind} {S : Keyed → Prop}
end
end PyProof.Rows
namespace PyProof.Rows
open PySem
section
variable {M : Model} {A : Around} {E : Value → Shared → Prop} {s : Shared} {O : KeyOrd} {key : Keyed → O.α} {kd : SortKind} {S : Keyed → Prop}
/-- as it was, but for the order of what stands from lo on -/
def Stp (lo : Nat) (st st' : SortSt) : Prop := kindOf st' = kindOf st ∧ failedOf st' = failedOf st ∧ pendingOf st' = pendingOf st ∧ (arrOf st').Perm (arrOf st) ∧ ∀ i, i < lo → (arrOf st')[i]? = (arrOf st)[i]?
theorem Stp.refl (lo : Nat) (st : SortSt) : Stp lo st st := ⟨rfl, rfl, rfl, Array.Perm.refl _, fun _ _ => rfl⟩
theorem Stp.trans {lo : Nat} {a b c : SortSt} (h : Stp lo a b) (k : Stp lo b c) : Stp lo a c := ⟨k.1.trans h.1, k.2.1.trans h.2.1, k.2.2.1.trans h.2.2.1, k.2.2.2.1.trans h.2.2.2.1, fun i hi => (k.2.2.2.2 i hi).trans (h.2.2.2.2 i hi)⟩
theorem Stp.size {lo : Nat} {a b : SortSt} (h : Stp lo a b) : (arrOf b).size = (arrOf a).size := h.2.2.2.1.size_eq
theorem Stp.all {lo : Nat} {a b : SortSt} (h : Stp lo a b) (hS : ∀ x ∈ (arrOf a).toList, S x) : ∀ x ∈ (arrOf b).toList, S x := fun x hx => hS x ((Array.perm_iff_toList_perm.mp h.2.2.2.1).mem_iff.mp hx)
end
end PyProof.Rows
namespace PyProof.Rows
open PySem
section
variable {M : Model} {A : Around} {E : Value → Shared → Prop} {s : Shared} {O : KeyOrd} {key : Keyed → O.α} {kd : SortKind} {S : Keyed → Prop}
/-- where the runs lie -/
def offs : List (List Keyed) → Nat → List (Nat × Nat)
  | [], _ => []
  | g :: gs, o => (o, g.length) :: offs gs (o + g.length)
structure PI (O : KeyOrd) (key : Keyed → O.α) (kd : SortKind) (a₀ : Array Keyed) (st : SortSt) (segs : List (List Keyed)) (rest : List Keyed) : Prop where
  kind : kindOf st = kd
  fail : failedOf st = none
  perm : (arrOf st).Perm a₀
  arr : (arrOf st).toList = segs.flatten ++ rest
  srt : ∀ g ∈ segs, 1 ≤ g.length ∧ g.Pairwise (RK O key)
  pend : (pendingOf st).toList.map (fun p => (p.1, p.2.1)) = offs segs 0
theorem PI.size {a₀ : Array Keyed} {st : SortSt} {segs : List (List Keyed)} {rest : List Keyed} (h : PI O key kd a₀ st segs rest) : a₀.size = segs.flatten.length + rest.length := by
  rw [← h.perm.size_eq, ← Array.length_toList, h.arr, List.length_append]
end
end PyProof.Rows

/-! ## sorted(list of tuples of ints), however long -/
namespace L2
open PySem PySem.Spec PyProof.Rows
section
variable {prog : Program} {w : World} {A : Around} {E : Value → Shared → Prop} {s : Shared}
def sameBut (a : Addr) (h h' : Heap) : Prop := ∀ b o, b ≠ a → h.get? b = some o → h'.get? b = some o
/-! ### tuples of ints as keys -/
end
end L2
namespace L2
open PySem PySem.Spec PyProof.Rows My
section
variable {X : Cx}
end
end L2

/-! ## a tuple in a list of tuples, and not in it -/
namespace L2
open PySem PySem.Spec PyProof.Rows
section
variable {X : Cx}
end
end L2
namespace My
open PySem L2
/-! ### rows in order -/
end My

/-! ## a tie beside a tree has a ring -/
namespace My
open PySem L2
end My

/-! ## greater numbers -/
namespace L2
open PySem PySem.Spec PyProof.Rows
section
variable {X : Cx}
end
end L2

/-! ## sorted(list of lists of ints) -/
namespace L2
open PySem PySem.Spec PyProof.Rows
open PySem.SeqAt
open PySem.AutoSeq1 (wpAny_loadPart')
open PySem.MeetsSeq PySem.MeetsSeq2 PySem.MeetsSeq3
end L2
namespace L2
open PySem PySem.Spec PyProof.Rows My
section
variable {prog : Program} {w : World} {A : Around} {E : Value → Shared → Prop} {s : Shared}
end
section
variable {X : Cx}
end
end L2

/-! ## greater factors -/
namespace L2
open PySem PySem.Spec PyProof.Rows
def CMulC (i j : Int) : Prop := (-(10 ^ 200) < i ∧ i < 10 ^ 200) ∧ (-(10 ^ 200) < j ∧ j < 10 ^ 200)
theorem bits_great {a : Int} (h1 : -(10 ^ 200) < a) (h2 : a < 10 ^ 200) : Builtin.Int.intBits a ≤ 1000 := by
  have h : a.natAbs < 10 ^ 200 := by omega
  exact PySem.intBits_le_iff.mpr (Nat.lt_trans h (by decide))
section
variable {X : Cx}
theorem op_mulC : OpR X (binaryOp .Mult) (rI CMulC fun i j => .int (i * j)) := opI fun _ _ _ _ _ _ _ hc q => mul_int q (.of_bits (Nat.le_trans (bits_great hc.1.1 hc.1.2) (by decide)) (Nat.le_trans (bits_great hc.2.1 hc.2.2) (by decide)))
end
end L2

/-! ## all rows of ties that are not longer than a tree -/
namespace My
open PySem L2
end My

/-! ## min(list of ints) -/
namespace L2
open PySem PySem.Spec PyProof.Rows
section
variable {X : Cx}
end
end L2

/-! ## ways from tree to tree -/
namespace My
open PySem L2
/-- the steps of a way: by the ties of the other tree, in their order -/
inductive WP (n : Int) (ps : List (Int × Int)) (W : List Int) (T0 : List Int) : List Int → List (Int × Int) → List Int → Prop
  | nil : WP n ps W T0 [] [] T0
  | skip {l : List Int} {ws : List (Int × Int)} {T : List Int} {z : Int} : WP n ps W T0 l ws T → z ∈ T → WP n ps W T0 (l ++ [z]) ws T
  | step {l : List Int} {ws : List (Int × Int)} {T T' : List Int} {z o : Int} : WP n ps W T0 l ws T → z ∉ T → o ∈ ringA n ps T z T → o ∉ W → (∀ y ∈ ringA n ps T z T, y ∉ W → o ≤ y) → T'.Perm (wo T o ++ [z]) → T'.Pairwise (· ≤ ·) → WP n ps W T0 (l ++ [z]) (ws ++ [(o, z)]) T'
/-- what a way does, from its beginning on -/
def Leads (n : Int) (ps : List (Int × Int)) : List Int → List (Int × Int) → List Int → Prop
  | T, [], U => T = U
  | T, (o, z) :: ws, U => o ∈ T ∧ z ∉ T ∧ ∃ T', T'.Perm (wo T o ++ [z]) ∧ T'.Pairwise (· ≤ ·) ∧ IsTree n ps T' ∧ Leads n ps T' ws U
theorem Leads.snoc {n : Int} {ps : List (Int × Int)} {U V : List Int} {o z : Int} : ∀ {ws : List (Int × Int)} {T : List Int}, Leads n ps T ws U → o ∈ U → z ∉ U → V.Perm (wo U o ++ [z]) → V.Pairwise (· ≤ ·) → IsTree n ps V → Leads n ps T (ws ++ [(o, z)]) V
  | [], T, h, h1, h2, h3, h4, h5 => by
    have h : T = U := h
    subst h
    exact ⟨h1, h2, V, h3, h4, h5, rfl⟩
  | (o', z') :: ws, T, ⟨a1, a2, T', a3, a4, a5, a6⟩, h1, h2, h3, h4, h5 => ⟨a1, a2, T', a3, a4, a5, Leads.snoc a6 h1 h2 h3 h4 h5⟩
end My

/-! ## pieces joined -/
namespace My
open PySem L2
theorem asc_ext {a b : List Int} (ha : a.Pairwise (· < ·)) (hb : b.Pairwise (· < ·)) (h : ∀ z, z ∈ a ↔ z ∈ b) : a = b :=
  (asc_sub ha hb fun z hz => (h z).mp hz).eq_of_length (Nat.le_antisymm (asc_sub ha hb fun z hz => (h z).mp hz).length_le (asc_sub hb ha fun z hz => (h z).mpr hz).length_le)
end My

/-! ## webs numbered anew -/
namespace My
open PySem L2
theorem conn_lt {n : Nat} {es : List (Nat × Nat)} (h : InN n es) {u v : Nat} (c : Conn es u v) : u < n ↔ v < n := by
  induction c with
  | refl i => exact Iff.rfl
  | edge e => exact ⟨fun _ => (h _ e).2, fun _ => (h _ e).1⟩
  | symm _ ih => exact ih.symm
  | trans _ _ i1 i2 => exact i1.trans i2
end My

/-! ## min and max of a tuple of ints -/
namespace L2
open PySem PySem.Spec PyProof.Rows
section
variable {prog : Program} {w : World} {A : Around} {E : Value → Shared → Prop} {s : Shared} {l : Addr} {xs : Array (Int × Tok)}
end
section
variable {X : Cx}
end
end L2

/-! ## one tie left out, two places drawn together -/
namespace My
open PySem L2
theorem rgL_succ (i : Nat) : rgL (i + 1) = rgL i ++ [(i : Int)] := by unfold rgL; rw [List.range_succ, List.map_append]; rfl
end My

/-! ## an item of a list or of a tuple; two tests with one end -/
namespace L2
open PySem PySem.Spec PyProof.Rows
section
variable {X : Cx}
def rIxQ (K : PySem.W.Frag) : R2 := fun x y H Q => ∃ (k : Bool) (p : Addr) (xs : List V) (i : Int) (v : V), x = .ref p ∧ y = .int i ∧ My.SqK k K H p xs ∧ atI xs i = some v ∧ Q v H
theorem ix_seqK (K : PySem.W.Frag) (h : X.K = K := by rfl) : IxR X (rIxQ K) := by
  intro value slice pins s σ H x y v u Q I rx ry h1 hs
  obtain ⟨k, p, xs, i, z, e1, e2, hq, he, q⟩ := h1
  cases k with
  | false => exact ix_listK K h value slice pins s σ H x y v u Q I rx ry ⟨p, xs, i, z, e1, e2, hq, he, q⟩ hs
  | true => exact ix_tupK K h value slice pins s σ H x y v u Q I rx ry ⟨p, xs, i, z, e1, e2, hq, he, q⟩ hs
end
theorem nx_mk {N a b : St → Hp → Prop} {r : VK} {σ : St} {H : Hp} (h : N σ H) : Ends.nx { nx := N, rt := r, bk := a, ct := b } σ H := h
end L2

/-! ## lists of a known length -/
namespace My
theorem len1 {α : Type} {l : List α} (h : l.length = 1) : ∃ a, l = [a] := by
  cases l with
  | nil => cases h
  | cons a l => cases l with
    | nil => exact ⟨a, rfl⟩
    | cons b l => simp at h
theorem len2 {α : Type} {l : List α} (h : l.length = 2) : ∃ a b, l = [a, b] := by
  cases l with
  | nil => cases h
  | cons a l =>
    obtain ⟨b, rfl⟩ := len1 (Nat.succ.inj h)
    exact ⟨a, b, rfl⟩
theorem len3 {α : Type} {l : List α} (h : l.length = 3) : ∃ a b c, l = [a, b, c] := by
  cases l with
  | nil => cases h
  | cons a l =>
    obtain ⟨b, c, rfl⟩ := len2 (Nat.succ.inj h)
    exact ⟨a, b, c, rfl⟩
theorem len4 {α : Type} {l : List α} (h : l.length = 4) : ∃ a b c d, l = [a, b, c, d] := by
  cases l with
  | nil => cases h
  | cons a l =>
    obtain ⟨b, c, d, rfl⟩ := len3 (Nat.succ.inj h)
    exact ⟨a, b, c, d, rfl⟩
end My

/-! ## the script's numbers have a weight; products within it -/
namespace L2
open PySem PySem.Spec PyProof.Rows
section
variable {X : Cx}
end
end L2
namespace Att
open PySem PySem.W PySem.Calls PyProof.Rows
end Att
namespace L2
open PySem PySem.Spec PyProof.Rows
end L2

/-! ## two webs put together; a pair many times -/
namespace My
open PySem L2
end My

/-! ## tuple(list or tuple), told once -/
namespace L2
open PySem PySem.Spec PyProof.Rows
section
variable {X : Cx}
end
end L2
namespace My
open PySem L2
end My

/-! ## tuple(reversed(tuple)) -/
namespace L2
open PySem PySem.Spec PyProof.Rows
section
variable {prog : Program} {w : World} {A : Around} {E : Value → Shared → Prop} {s : Shared} {it a : Addr} {items : Array Value}
end
section
variable {X : Cx} {p p2 pos pos2 : Pos} {e : Expr} {t : TA}
end
end L2

/-! ## t + u and t[lo:hi] of own tuples, told once -/
namespace L2
open PySem PySem.Spec PyProof.Rows
section
variable {X : Cx}
end
end L2

/-! ## partners between two trees -/
namespace My
open PySem L2
end My

/-! ## trees within joined ties, trees with a tie -/
namespace My
open PySem L2
end My

/-! ## tuple(..) of an own tuple or a list: an own tuple -/
namespace L2
open PySem PySem.Spec PyProof.Rows
section
variable {X : Cx}
end
end L2
namespace My
open PySem L2
/-- a walk of good steps from a tree -/
inductive Wk (n : Int) (ps : List (Int × Int)) (T0 : List Int) : List (Int × Int) → List Int → Prop
  | nil : Wk n ps T0 [] T0
  | step {ws : List (Int × Int)} {T T' : List Int} {o z : Int} : Wk n ps T0 ws T → exg n ps T o z → T'.Perm (wo T o ++ [z]) → T'.Pairwise (· ≤ ·) → Wk n ps T0 (ws ++ [(o, z)]) T'
end My

/-! ## the tree farthest from a tree -/
namespace My
open PySem L2
end My

/-! ## forests, listed in order -/
namespace My
open PySem L2
/-- no ring among them -/
def Fr (n : Nat) (ps : List (Int × Int)) (l : List Int) : Bool := decide (grw n ps l = l)
theorem Fr.nil (n : Nat) (ps : List (Int × Int)) : Fr n ps [] = true := decide_eq_true rfl
/-- the forests of so many ties -/
def frs (n : Nat) (ps : List (Int × Int)) (k : Nat) : List (List Int) := (cmb (ps.length : Int) k).filter (Fr n ps)
end My

/-! ## a tree that no exchange makes shorter is a shortest one -/
namespace My
open PySem L2
end My

/-! ## the gains of a tree, found tie by tie -/
namespace My
open PySem L2
end My

/-! ## the least and the greatest tree with some ties and without others -/
namespace My
open PySem L2
theorem srt_strict {a : List Int} (h : a.Pairwise (· ≤ ·)) (hn : a.Nodup) : a.Pairwise (· < ·) := (h.and hn).imp fun h => by have := h.1; have := h.2; omega
end My

/-! ## for x in reversed(a list or a tuple) -/
namespace L2
open PySem PySem.Spec PyProof.Rows
section
variable {X : Cx}
end
end L2
namespace My
open PySem L2
end My

/-! ## the tree behind and the tree ahead -/
namespace My
open PySem L2
/-! ### what a call may answer: nothing, or a tree -/
end My

/-! ## a + b of two lists, wherever they lie -/
namespace L2
open PySem PySem.Spec PyProof.Rows
section
variable {X : Cx}
end
end L2

/-! ## trees counted by parting -/
namespace My
open PySem L2
theorem ends_up {qs : List (Int × Int)} {p : Int × Int} {T : List Int} (h : IsSet qs.length T) : endsOf (qs ++ [p]) T = endsOf qs T := by
  unfold endsOf
  refine List.map_congr_left fun z hz => ?_
  have a := h.all z hz
  rw [List.getD_eq_getElem?_getD, List.getD_eq_getElem?_getD, List.getElem?_append_left (by omega)]
end My

/-! ## loops in front -/
namespace My
open PySem L2
end My

/-! ## list.insert -/
namespace L2
open PySem PySem.Spec PyProof.Rows
section
variable {X : Cx}
end
end L2

/-! ## forests, tie after tie -/
namespace My
open PySem L2
theorem Bears.app {α : Type} [DecidableEq α] {R : V → α → Prop} {xs ys : List V} {l m : List α} (h : Bears R xs l) (h2 : Bears R ys m) : Bears R (xs ++ ys) (l ++ m) := by
  refine ⟨by rw [List.length_append, List.length_append, h.1, h2.1], fun i a e => ?_⟩
  have hl := h.1
  by_cases c : i < l.length
  · rw [List.getElem?_append_left c] at e
    obtain ⟨x, e1, r⟩ := h.2 i a e
    exact ⟨x, by rw [List.getElem?_append_left (by omega)]; exact e1, r⟩
  · rw [List.getElem?_append_right (by omega)] at e
    obtain ⟨x, e1, r⟩ := h2.2 _ a e
    exact ⟨x, by rw [List.getElem?_append_right (by omega), hl]; exact e1, r⟩
theorem prod_lt {a b M N : Int} (a0 : 0 ≤ a) (aM : a < M) (b0 : 0 ≤ b) (bN : b < N) : 0 ≤ a * b ∧ a * b < M * N := ⟨Int.mul_nonneg a0 b0, Int.lt_of_le_of_lt (Int.mul_le_mul_of_nonneg_left (Int.le_of_lt bN) a0) (Int.mul_lt_mul_of_pos_right aM (by omega))⟩
theorem PairsV.set {H : Hp} {xs : List V} {ps : List (Int × Int)} {v : V} {p : Int × Int} (h : PairsV H xs ps) (i : Nat) (q : PairV H v p) : PairsV H (xs.set i v) (ps.set i p) := by
  refine ⟨by rw [List.length_set, List.length_set]; exact h.1, fun j x e => ?_⟩
  have hl := h.1
  by_cases c : i = j
  · subst c
    rw [List.getElem?_set] at e
    rw [if_pos rfl] at e
    by_cases hlt : i < ps.length
    · rw [if_pos hlt] at e
      obtain rfl := Option.some.inj e
      exact ⟨v, by rw [List.getElem?_set, if_pos rfl, if_pos (by omega)], q⟩
    · rw [if_neg hlt] at e
      cases e
  · rw [List.getElem?_set, if_neg c] at e
    obtain ⟨w, e1, r⟩ := h.2 j x e
    exact ⟨w, by rw [List.getElem?_set, if_neg c]; exact e1, r⟩
end My

/-! ## for x, y in zip(list, list) -/
namespace L2
open PySem PySem.Spec PyProof.Rows
section
variable {X : Cx}
end
end L2
namespace My
open PySem L2
section
variable {K : PySem.W.Frag} {a b : Addr} {xs ys : List V} {g : TG} {tt : TT} {te : TE} {o : Nat} {fr : List Nat} {σ : St} {H : Hp} {Q : VK}
end
end My

/-! ## determinants, by the first row -/
namespace My
/-- the sum of the first n -/
def sm : Nat → (Nat → Int) → Int
  | 0, _ => 0
  | n + 1, f => sm n f + f n
end My

/-! ## determinants: rows exchanged, rows taken off -/
namespace My
end My

/-! ## determinants, without fractions -/
namespace My
/-- the first k, and then those behind them that r names -/
def ex (k : Nat) (r : Nat → Nat) (i : Nat) : Nat := if i < k then i else k + r (i - k)
end My

/-! ## products and quotients of great numbers -/
namespace L2
open PySem PySem.Spec PyProof.Rows
section
variable {X : Cx}
end
end L2

/-! ## tables as rows of rows -/
namespace My
end My

/-! ## tables as they lie -/
namespace My
open PySem L2
def RowV (K : PySem.W.Frag) (H : Hp) (v : V) (l : List Int) : Prop := ∃ (r : Addr) (k : Bool), v = .ref r ∧ SqK k K H r (IL l)
theorem RowV.same {K : PySem.W.Frag} {H H' : Hp} {v : V} {l : List Int} (s : Same H H') (h : RowV K H v l) : RowV K H' v l := by
  obtain ⟨r, k, e, h⟩ := h
  exact ⟨r, k, e, h.same s⟩
/-- a list that is not the one at d -/
def LiV (d : Addr) (H : Hp) (v : V) (l : List Int) : Prop := ∃ r, v = .ref r ∧ H r = some (.lst (IL l)) ∧ r ≠ d
theorem LiV.same {d : Addr} {H H' : Hp} {v : V} {l : List Int} (s : Same H H') (h : LiV d H v l) : LiV d H' v l := by
  obtain ⟨r, e, h, n⟩ := h
  exact ⟨r, e, s _ _ h, n⟩
theorem LiV.mut {d : Addr} {H : Hp} {v : V} {l : List Int} {o : HO} (h : LiV d H v l) : LiV d (upd H d o) v l := by
  obtain ⟨r, e, h, n⟩ := h
  exact ⟨r, e, by rw [upd_ne n]; exact h, n⟩
theorem LiV.list {d : Addr} {H : Hp} {v : V} {l : List Int} (h : LiV d H v l) : ListV H v l := by
  obtain ⟨r, e, h, _⟩ := h
  exact ⟨r, e, h⟩
end My

/-! ## determinants: columns, turned tables, any two rows -/
namespace My
end My

/-! ## the tables of webs: a tie more -/
namespace My
/-- where a tie begins and where it ends -/
def ind (u v i : Nat) : Int := (if i = u then 1 else 0) - (if i = v then 1 else 0)
end My

/-! ## the tables of webs tell their trees -/
namespace My
open PySem L2
/-- label a goes to b, and is left out -/
def sh (a x : Nat) : Nat := if x < a then x else x - 1
def dl (a b x : Nat) : Nat := if x = a then sh a b else sh a x
end My

/-! ## the matrix-tree theorem -/
namespace My
open PySem L2
/-! ### for webs -/
end My

/-! ## o[i] += e, o a list -/
namespace L2
open PySem PySem.Spec PyProof.Rows
section
variable {X : Cx}
end
end L2

/-! ## a table that is written into; loops over two lists -/
namespace My
open PySem L2
/-- a table of own rows at r, made since H0 -/
structure TabAt (H0 : Hp) (r : Addr) (n : Nat) (H : Hp) (ys : List V) (L : List (List Int)) : Prop where
  tab : H r = some (.lst ys)
  rows : Bears (LiV r H) ys L
  len : L.length = n
  all : ∀ l ∈ L, l.length = n
  nd : ys.Nodup
  new : ∀ A, V.ref A ∈ ys → H0 A = none
end My

/-! ## one tie left out, wherever it stands -/
namespace My
open PySem L2
end My

/-! ## trees told back -/
namespace My
open PySem L2
end My

/-! ## two webs put together: their trees -/
namespace My
open PySem L2
end My

/-! ## how many sets there are; two webs put together the other way round -/
namespace My
open PySem L2
end My

/-! ## the table of a set: its places ascend -/
namespace L2
open PySem
end L2

/-! ## an int put into a set, its table kept in order -/
namespace L2
open PySem PySem.Spec PyProof.Rows
section
variable {prog : Program} {w : World} {A : Around} {E : Value → Shared → Prop} {s : Shared}
end
end L2

/-! ## set(list of ints), its table kept in order -/
namespace L2
open PySem PySem.Spec PyProof.Rows
section
variable {prog : Program} {w : World} {A : Around} {R : Result → Shared → Prop} {I : Addr} {fp wr : List Addr} {G : Array GenState → Array GenState → Prop} {n : Nat} {P : Nat → Value → Prop} {St : Nat → Shared → Prop}
end
section
variable {prog : Program} {w : World} {A : Around} {E : Value → Shared → Prop} {s : Shared}
end
end L2

/-! ## the call set(list of ints) -/
namespace L2
open PySem PySem.Spec PyProof.Rows
section
variable {prog : Program} {w : World} {A : Around} {E : Value → Shared → Prop} {s : Shared}
end
end L2

/-! ## what a set's iterator tells -/
namespace L2
open PySem PySem.Spec PyProof.Rows
/-- a set's iterator: what goes first, how many were told, the set, its size and its epoch -/
def IsSi (h : Heap) (I a : Addr) (f : Value) (i n ep : Nat) : Prop := ∃ o, h.get? I = some o ∧ o.cls = .type "set_iterator" ∧ o.data = .fields #[f, rawInt (i : Int), .ref a, rawInt (n : Int), rawInt (ep : Int)]
theorem IsSi.keep {h h' : Heap} {I a : Addr} {f : Value} {i n ep : Nat} (x : IsSi h I a f i n ep) (e : ∀ o, h.get? I = some o → h'.get? I = some o) : IsSi h' I a f i n ep := let ⟨o, p, q⟩ := x; ⟨o, e _ p, q⟩
/-- what a set holds -/
def SetIs (h : Heap) (a : Addr) (es : Array (Int × Value)) (ep : Nat) (t : SetTable) : Prop := ∃ o, h.get? a = some o ∧ o.ExactSet ∧ o.data = .set es ep t
theorem SetIs.keep {h h' : Heap} {a : Addr} {es : Array (Int × Value)} {ep : Nat} {t : SetTable} (x : SetIs h a es ep t) (e : ∀ o, h.get? a = some o → h'.get? a = some o) : SetIs h' a es ep t := let ⟨o, p, q⟩ := x; ⟨o, e _ p, q⟩
section
variable {prog : Program} {w : World} {A : Around} {E : Value → Shared → Prop} {s : Shared}
end
end L2

/-! ## a set walked through -/
namespace L2
open PySem PySem.Spec PyProof.Rows
section
variable {prog : Program} {w : World} {A : Around} {E : Value → Shared → Prop} {s : Shared}
end
end L2

/-! ## a set walked through in a drawn order; its iterator made -/
namespace L2
open PySem PySem.Spec PyProof.Rows
section
variable {prog : Program} {w : World} {A : Around} {E : Value → Shared → Prop} {s : Shared}
def IsPl (h : Heap) (b : Addr) (pl : List Nat) : Prop := ∃ o n, h.get? b = some o ∧ o.data = .seq (pl.map fun (i : Nat) => rawInt (i : Int)).toArray n
theorem IsPl.keep {h h' : Heap} {b : Addr} {pl : List Nat} (x : IsPl h b pl) (e : ∀ o, h.get? b = some o → h'.get? b = some o) : IsPl h' b pl := let ⟨o, n, p, q⟩ := x; ⟨o, n, e _ p, q⟩
end
end L2

/-! ## sorted(set of ints) -/
namespace L2
open PySem PySem.Spec PyProof.Rows
section
variable {prog : Program} {w : World} {A B : Around} {E : Value → Shared → Prop} {s : Shared}
end
end L2

/-! ## a set's items as a list; sorted(set of ints) -/
namespace L2
open PySem PySem.Spec PyProof.Rows
section
variable {prog : Program} {w : World} {A : Around} {E : Value → Shared → Prop} {s : Shared}
end
end L2

/-! ## sorted(set(list of ints)) -/
namespace L2
open PySem PySem.Spec PyProof.Rows
section
variable {prog : Program} {w : World} {A : Around} {E : Value → Shared → Prop} {s : Shared}
end
section
variable {X : Cx} {p p2 pos pos2 : Pos} {e : Expr} {t : TA}
end
end L2

/-! ## pieces drawn together: trees with some ties and without others -/
namespace My
open PySem L2
/-- how many trees have the ties of I and none of O -/
def PC (n : Int) (ps : List (Int × Int)) (I O : List Int) (c : Nat) : Prop := ∃ L : List (List Int), L.Nodup ∧ (∀ l, l ∈ L ↔ IsTree n ps l ∧ (∀ z ∈ I, z ∈ l) ∧ ∀ z ∈ O, z ∉ l) ∧ L.length = c
section
variable {n : Int} {ps : List (Int × Int)} {I O S : List Int} {f g : Nat → Nat} {k : Nat}
end
end My

/-! ## marks numbered in their order -/
namespace My
open PySem L2
section
variable {N : Nat} {es : List (Nat × Nat)} {F : List Int}
end
end My

/-! ## counts with and without, when a tie is left out or drawn together -/
namespace My
open PySem L2
end My

/-! ## counts that meet: by one tie, over all ties, turned about -/
namespace My
open PySem L2
end My

/-! ## a list out of another one, from its end -/
namespace My
open PySem L2
section
variable {K : PySem.W.Frag} {a : Addr} {xs : List V} {g : TG} {tt : TT} {te : TE} {o : Nat} {fr : List Nat} {σ : St} {H : Hp} {Q : VK}
end
end My

/-! ## the number of a tree: how many are less -/
namespace My
open PySem L2
end My

/-! ## a tree found by its number, tie by tie -/
namespace My
open PySem L2
section
variable {n : Int} {ps : List (Int × Int)} {I O : List Int} {i b c : Nat}
end
end My

/-! ## the number of a tree in the row of all -/
namespace My
open PySem L2
end My

/-! ## abs(int) -/
namespace L2
open PySem PySem.Spec PyProof.Rows
section
variable {X : Cx}
end
end L2

/-! ## a piece of a list -/
namespace My
open PySem L2
end My

/-! ## steps of a block told once; try: .. except W: without a name -/
namespace My
open PySem L2
theorem contS {s rest : TS} {D : Ends} {σ : L2.St} {H : Hp} (P : L2.St → Hp → Prop) (h1 : ∀ σ' H', P σ' H' → rest D σ' H') (h2 : ∀ K : L2.St → Hp → Prop, (∀ σ' H', P σ' H' → K σ' H') → s { D with nx := K } σ H) : tSeq s rest D σ H := h2 _ h1
theorem asgC {c : V} {i : Nat} {rest : TS} {D : Ends} {σ : L2.St} {H : Hp} (h : rest D (σ.set i (some c)) H) : tSeq (tAsg (tC c) (gName i)) rest D σ H := h
end My
namespace L2
open PySem PySem.Spec PyProof.Rows
end L2

/-! ## tuple < tuple, of ints -/
namespace L2
open PySem PySem.Spec PyProof.Rows
section
variable {X : Cx}
end
end L2

/-! ## how many trees there can be; ranks and order; trees tie by tie -/
namespace My
open PySem L2
end My

/-! ## tuple <= tuple, of ints; a <= b <= c <= d <= e -/
namespace HT
open PySem PyProof.Rows
section
open PySem.SeqAt
open PySem.AutoSeq1 (wpAny_loadPart')
open PySem.MeetsSeq PySem.MeetsSeq2 PySem.MeetsSeq3
end
section
variable {prog : Program} {w : World} {A : Around} {E : Value → Shared → Prop} {s : Shared}
end
end HT
namespace L2
open PySem PySem.Spec PyProof.Rows
section
variable {X : Cx}
end
end L2

/-! ## webs made so that they hang together -/
namespace My
open PySem L2
end My

/-! ## a list whose own name is seen by a list within it -/
namespace L2
open PySem PySem.Spec PyProof.Rows
section
variable {M : Model} {A : Around} {E : Value → Shared → Prop} {s : Shared}
end
/-- as CompScope, with one own name xo that is seen by a list within -/
structure CompScopeD (sc0 : Scope) (N N' : List Str) (o : Nat) (fr : List Nat) (scope : Scope) (xo : Str) : Prop where
  kind : scope.kind = .function
  one : (scope.names.filter fun y => y.2 == .cell) = [(xo, .cell)]
  loc : (scope.names.all fun y => y.2 != .local || scope.names.lookup y.1 == some .local) = true
  free : (scope.names.all fun y => y.2 != .free || (y.1 != xo && (sc0.names.lookup y.1 == some .cell || sc0.names.lookup y.1 == some .free))) = true
  len : N'.length = o + fr.length
  sees : ((List.range fr.length).all fun j => match fr[j]? with
    | none => false
    | some y => match N[y]? with
      | none => false
      | some x => N'[o + j]? == some x && scope.names.lookup x == some .free) = true
section
variable {X : Cx} {pins : List (Addr × Obj)} {σ : St} {H : Hp} {s : Shared} {N' : List Str} {o : Nat} {fr : List Nat} {scope : Scope} {fp : List Addr} {xo : Str}
end

section
variable {xo : Str} {X : Cx} {N' : List Str} {o : Nat} {fr : List Nat} {scope : Scope} {elt tg iter : Expr} {ifs : List Expr} {pos : Pos} {wi : TI} {g : TG} {tt : TT} {te : TE}
end
end L2

/-! ## sums over trees: weights -/
namespace My
open PySem L2
end My

/-! ## for x, y in zip(list, tuple) -/
namespace L2
open PySem PySem.Spec PyProof.Rows
section
variable {prog : Program} {w : World} {A : Around} {E : Value → Shared → Prop} {s : Shared}
/-- a tuple's next one, asked by zip -/
theorem nxT_item {j t : Addr} {i : Nat} {us : Array Value} {u : Value} {Q : Value → Shared → Prop} (hj : s.heap.IsTupleIter j t i) (ht : s.heap.IsTuple t us) (hu : us[i]? = some u)
    (q : ∀ h', h'.IsTupleIter j t (i + 1) → Heap.SameBut j s.heap h' → Q u { s with heap := h' }) : wpAny (model prog w) A (Builtin.SmallTypes.nextOf (.ref j)) Q E s := by
  obtain ⟨o1, e1, c1, d1⟩ := id hj
  obtain ⟨o2, e2, _, n2, d2⟩ := ht
  unfold Builtin.SmallTypes.nextOf
  refine wpAny_bind (wpAny_callSpecial?_slot (name := Str.ofString "__next__") hj.typeIs F.slot_tuple_iterator_next (wpAny_call_entry F.slot_tuple_iterator_next hj.typeIs F.entry_tuple_iterator_next ?_ (F.args_tuple_iterator_next_1 _)))
  show wpAny _ _ (field (.ref j) 0 >>= _) _ _ s
  refine wpAny_bind (wpAny_field e1 d1 (x := .ref t) rfl ?_)
  rw [if_neg (show ¬ (Value.ref t == Value.none) = true from Bool.false_ne_true)]
  show wpAny _ _ (field (.ref j) 1 >>= _) _ _ s
  refine wpAny_bind (wpAny_field e1 d1 (x := .int i 0) rfl ?_)
  show wpAny _ _ (seqItems? (.ref t) >>= _) _ _ s
  refine wpAny_bind (wpAny_seqItems e2 d2 ?_)
  simp only [hu, Int.toNat_natCast]
  refine wpAny_bind (wpAny_setField e1 d1 (by simp) (wpAny_pure ⟨u, rfl, wpAny_pure (q _ ?_ (Heap.SameBut.update ..))⟩))
  refine ⟨_, Heap.get?_update_self _ e1 (Obj.isFreed_of_fields (Obj.data_mapFields d1 _)), (Obj.cls_mapFields ..).trans c1, ?_⟩
  rw [Obj.data_mapFields d1]
  simp [rawInt]
theorem nxT_end {j t : Addr} {i : Nat} {us : Array Value} {Q : Value → Shared → Prop} (hh : A.handled = none) (hj : s.heap.IsTupleIter j t i) (ht : s.heap.IsTuple t us) (hu : us[i]? = none)
    (q : ∀ h' e, Heap.ExtBut j s.heap h' → (∃ o, h'.get? e = some o ∧ o.cls = .type "StopIteration") → E (.ref e) { s with heap := h' }) : wpAny (model prog w) A (Builtin.SmallTypes.nextOf (.ref j)) Q E s := by
  obtain ⟨o1, e1, c1, d1⟩ := id hj
  obtain ⟨o2, e2, _, n2, d2⟩ := ht
  unfold Builtin.SmallTypes.nextOf
  refine wpAny_bind (wpAny_callSpecial?_slot (name := Str.ofString "__next__") hj.typeIs F.slot_tuple_iterator_next (wpAny_call_entry F.slot_tuple_iterator_next hj.typeIs F.entry_tuple_iterator_next ?_ (F.args_tuple_iterator_next_1 _)))
  show wpAny _ _ (field (.ref j) 0 >>= _) _ _ s
  refine wpAny_bind (wpAny_field e1 d1 (x := .ref t) rfl ?_)
  rw [if_neg (show ¬ (Value.ref t == Value.none) = true from Bool.false_ne_true)]
  show wpAny _ _ (field (.ref j) 1 >>= _) _ _ s
  refine wpAny_bind (wpAny_field e1 d1 (x := .int i 0) rfl ?_)
  show wpAny _ _ (seqItems? (.ref t) >>= _) _ _ s
  refine wpAny_bind (wpAny_seqItems e2 d2 ?_)
  simp only [hu, Int.toNat_natCast]
  refine wpAny_bind (wpAny_rule (wpAny_bind (wpAny_setField e1 d1 (by simp) (wpAny_bind (m := newExc (.type "StopIteration") []) ?_))))
  simp only [newTuple, newExc]
  refine wpAny_bind (wpAny_newObj_type (wpAny_bind (m := firstArgMember _ _) (wpAny_of_eq (a := Value.none) (by first | rfl | (simp only [firstArgMember]; rfl)) (wpAny_newObj_type ?_ (by size_fits)))) (by size_fits))
  unfold raiseNew
  refine wpAny_bind (wpAny_handled ?_)
  first
    | rw [hh]
    | rw [show A.in1.handled = none from hh]
  refine wpAny_bind (wpAny_pure (wpAny_throw (q _ _ (((Heap.SameBut.update ..).extBut.push _).push _) ⟨_, Heap.get?_push_size _ rfl, rfl⟩)))
end
end L2

/-! ## for x, y in zip(list, list or tuple) -/
namespace L2
open PySem PySem.Spec PyProof.Rows
section
variable {prog : Program} {w : World} {A : Around} {E : Value → Shared → Prop} {s : Shared}
end
section
variable {X : Cx}
end
end L2
namespace My
open PySem L2
end My

/-! ## trees sorted by the ties of a set: numbers as figures of a sum -/
namespace My
open PySem L2
/-- the number with these figures, the first one the least -/
def ev (b : Int) : List Int → Int
  | [] => 0
  | d :: l => d + b * ev b l
end My

/-! ## one more place, tied to each with the same weight -/
namespace My
open PySem L2
end My

/-! ## the trees of the web with one more place, sorted by the ties at that place -/
namespace My
open PySem L2
end My

/-! ## list.count -/
namespace L2
open PySem PySem.Spec PyProof.Rows
section
variable {X : Cx}
end
end L2

/-! ## forests with a chosen place of each piece -/
namespace My
open PySem L2
end My

/-! ## the trees of the web with one more place, by their ties of the web -/
namespace My
open PySem L2
end My

/-! ## the web whose trees are the cheapest ones -/
namespace My
open PySem L2
/-! ### marks: each the least place of its piece -/
section
variable {n : Nat} {es : List (Nat × Nat)} (h : InN n es)
include h
end
/-! ### the ties of the web by their lengths -/
abbrev lnz (ls : List Int) (z : Int) : Int := ls.getD z.toNat 0
def lwS (ls : List Int) (x : Int) : List Int := (rgL ls.length).filter fun z => decide (lnz ls z < x)
/-- the marks below and up to a length -/
def mA (N : Nat) (ps : List (Int × Int)) (ls : List Int) (x : Int) : List Int := pms N (endsOf ps (lwS ls x))
section
variable {n : Int} {ps : List (Int × Int)} {ls T : List Int} (g : GoodW n ps) (hl : ls.length = ps.length)
include g hl
end
end My

/-! ## sums that meet: sorts turned, forests of few and of all pieces, weights scaled -/
namespace My
open PySem L2
/-! ### forests of no, of one and of all pieces -/
/-! ### the web with one more place, and weights scaled -/
end My

/-! ## sum of a tuple of ints -/
namespace L2
open PySem PySem.Spec PyProof.Rows
section
variable {prog : Program} {w : World} {A : Around} {E : Value → Shared → Prop} {s : Shared} {l : Addr} {xs : Array (Int × Tok)}
end
section
variable {X : Cx}
end
end L2

/-! ## the trees of that web are the trees without a gain, the cheapest ones -/
namespace My
open PySem L2
section
variable {n : Int} {ps : List (Int × Int)} {ls T : List Int} (g : GoodW n ps) (hl : ls.length = ps.length)
include g hl
omit hl in
end
end My

/-! ## the steps that make the web of the cheapest -/
namespace My
open PySem L2
section
variable {n : Int} {ps : List (Int × Int)} {ls Ls S : List Int} {j : Nat} {x : Int} (g : GoodW n ps) (hl : ls.length = ps.length) (hLa : Ls.Pairwise (· < ·)) (hLm : ∀ z, z ∈ Ls ↔ z ∈ ls) (hx : Ls[j]? = some x)
include hLa hx
include g hl hLm
end
end My

/-! ## the trees without a gain are those of least length -/
namespace My
open PySem L2
section
variable {n : Int} {ps : List (Int × Int)} {ls T : List Int} (g : GoodW n ps)
include g
end
end My

/-! ## sorted(list of empty tuples) -/
namespace L2
open PySem PySem.Spec PyProof.Rows My
section
variable {prog : Program} {w : World} {A : Around} {E : Value → Shared → Prop} {s : Shared}
end
section
variable {X : Cx}
end
end L2

/-! ## sorted(list of two tuples that stand in their order) -/
namespace L2
open PySem PySem.Spec PyProof.Rows My
section
variable {M : Model} {A : Around} {E : Value → Shared → Prop} {s : Shared}
end
section
variable {prog : Program} {w : World} {A : Around} {E : Value → Shared → Prop} {s : Shared}
end
section
variable {X : Cx}
end
end L2

/-! ## walks turned round -/
namespace My
open PySem L2
end My
namespace My
open PySem L2
end My

/-! ## the numbers that solve a table -/
namespace My
open PySem L2
end My

/-! ## fractions in least terms -/
namespace My
open PySem L2
/-- p / q is x / y in least terms -/
def LowF (x y p q : Int) : Prop := 0 < q ∧ Int.gcd p q = 1 ∧ p * y = x * q
end My

/-! ## a web's table without any one of its places -/
namespace My
open PySem L2
end My

/-! ## the heights of a web's places -/
namespace My
open PySem L2
end My

/-! ## sums of fractions with one bottom -/
namespace My
open PySem L2
end My

/-! ## heights: the same both ways; the trees that hold a tie -/
namespace My
open PySem L2
end My

/-! ## leans -/
namespace My
open PySem L2
end My

/-! ## shares by heights -/
namespace My
open PySem L2
end My

/-! ## rows of fractions, and heights by their balance -/
namespace My
open PySem L2
/-- fractions in least terms, each a whole number by W -/
def FrL (W : Int) (B : Nat) (fs : List (Int × Int)) : Prop := ∀ f ∈ fs, ∃ x : Int, x.natAbs ≤ B ∧ LowF x W f.1 f.2
def FrB (B : Nat) (fs : List (Int × Int)) : Prop := ∃ W : Int, 0 < W ∧ W.natAbs ≤ B ∧ FrL W B fs
theorem FrB.mono {B C : Nat} {fs : List (Int × Int)} (h : FrB B fs) (hc : B ≤ C) : FrB C fs := by
  obtain ⟨W, a, b, c⟩ := h
  exact ⟨W, a, Nat.le_trans b hc, fun f hf => by obtain ⟨x, h1, h2⟩ := c f hf; exact ⟨x, Nat.le_trans h1 hc, h2⟩⟩
end My

/-! ## chains of rings of bundles -/
namespace My
open PySem L2
/-! ties one by one -/
end My

/-! ## rings of bundles, tie by tie -/
namespace My
open PySem L2
end My

/-! ## for x, y in zip(tuple, tuple) -/
namespace L2
open PySem PySem.Spec PyProof.Rows
section
variable {prog : Program} {w : World} {A : Around} {E : Value → Shared → Prop} {s : Shared}
end
end L2

/-! ## zip of two lists or two tuples -/
namespace L2
open PySem PySem.Spec PyProof.Rows
section
variable {prog : Program} {w : World} {A : Around} {E : Value → Shared → Prop} {s : Shared}
end
section
variable {X : Cx}
end
end L2
namespace My
open PySem L2
section
variable {K : PySem.W.Frag} {kd : Bool} {a b : Addr} {xs ys : List V} {g : TG} {tt : TT} {te : TE} {o : Nat} {fr : List Nat} {σ : St} {H : Hp} {Q : VK}
end
end My

/-! ## a list out of zip(list, list or tuple) -/
namespace My
open PySem L2
section
variable {K : PySem.W.Frag} {kd : Bool} {a b : Addr} {xs ys : List V} {g : TG} {tt : TT} {te : TE} {o : Nat} {fr : List Nat} {σ : St} {H : Hp} {Q : VK}
end
end My

/-! ## for i, x in enumerate(tuple), and of a list or a tuple -/
namespace L2
open PySem PySem.Spec PyProof.Rows
section
theorem isTup_tuple {h : Heap} {a : Addr} {us : Array Value} (p : IsTup h a us) : h.IsTuple a us := by
  obtain ⟨o, e, c, n, d⟩ := p
  exact ⟨o, e, c, n, d⟩
theorem drawsT {prog : Program} {w : World} {A : Around} (hh : A.handled = none) (it l : Addr) (ne : l ≠ it) (us : Array Value) :
    Draws prog w A it [it, l] us.size (fun i v => us[i]? = some v) (fun i h => h.IsTupleIter it l i ∧ h.IsTuple l us) where
  live := fun _ _ st => by
    obtain ⟨⟨o, ho, _⟩, _⟩ := st
    exact ⟨o, ho⟩
  frame := fun _ _ _ st hk => by
    obtain ⟨⟨o, ho, r⟩, o2, ho2, r2⟩ := st
    exact ⟨⟨o, hk it (by simp) o ho, r⟩, o2, hk l (by simp) o2 ho2, r2⟩
  item := fun i s Q E hi st q => nxT_item st.1 st.2 (u := us[i]) (by simp [hi]) fun g t1 sb => q _ g s.toks (by simp [hi]) ⟨t1, st.2.extBut sb.extBut ne⟩ sb
  done := fun s Q E st q => nxT_end hh st.1 st.2 (by simp) q
variable {prog : Program} {w : World} {A : Around} {E : Value → Shared → Prop} {s : Shared}
set_option maxRecDepth 100000 in
theorem enumT_new (l : Addr) (us : Array Value) :
    Meets (Builtin.«enumerate.__new__» ⟨[.type "enumerate", .ref l], []⟩) (fun _ R s => s.heap.IsTuple l us ∧
      R (.ok (.ret (.ref (s.heap.push { cls := .type "tuple_iterator", data := .fields #[.ref l, .int 0 0] }).objs.size)))
        { s with heap := (s.heap.push { cls := .type "tuple_iterator", data := .fields #[.ref l, .int 0 0] }).push { cls := .type "enumerate", data := .fields #[.none, .bool false, .ref s.heap.objs.size, rawInt 0, .none, .none] } }) :=
  .of_wp fun prog w A R s h => by
    obtain ⟨hp, g, d, tk, os⟩ := s
    obtain ⟨hl, h⟩ := h
    have q0 := sub_enumerate
    have hL : Heap.IsTuple (Shared.heap ⟨hp, g, d, tk, os⟩) l us := hl
    obtain ⟨⟨c, dct, dt, sl⟩, e1, e2, n, e3⟩ := hl
    simp only at e2 e3
    subst e2 e3
    wp_walk using AutoSeq1.wpAny_loadPart' e1
    refine wpAny_stack_any fun st => wpAny_pure ?_
    split
    · rename_i c _ _ _ _ _
      cases (c == Value.type "enumerate")
      all_goals
        wp_walk using AutoSeq1.wpAny_loadPart' e1, wpAny_pyIter_tuple hL
        exact ⟨_, rfl, h⟩
    · wp_walk using AutoSeq1.wpAny_loadPart' e1, wpAny_pyIter_tuple hL
      exact ⟨_, rfl, h⟩
theorem call_enumT {l : Addr} {us : Array Value} {Q : Value → Shared → Prop} (ht : s.heap.IsTuple l us)
    (q : ∀ g, IsEnum g (s.heap.objs.size + 1) s.heap.objs.size 0 .none → g.IsTupleIter s.heap.objs.size l 0 → g.objs.size = s.heap.objs.size + 2 → (∀ b o, s.heap.get? b = some o → g.get? b = some o) → Q (.ref (s.heap.objs.size + 1)) { s with heap := g }) :
    wpAny (model prog w) A (call (.type "enumerate") [.ref l]) Q E s := by
  refine callType_new F.called_enumerate (by decide) (F.typeCall_enumerate_1 _) (F.newCall_enumerate_1 _) (fun ob => F.args_object_init_2 ob _) F.entry_enumerate_new (enumT_new l us) ⟨ht, ?_⟩
  obtain ⟨G, hG⟩ : ∃ G, G = s.heap.push { cls := .type "tuple_iterator", data := .fields #[.ref l, .int 0 0] } := ⟨_, rfl⟩
  have z : G.objs.size = s.heap.objs.size + 1 := by rw [hG]; exact Heap.size_push ..
  show _ ∧ _
  rw [← hG, z]
  have e1 := Heap.get?_push_size G (o := { cls := .type "enumerate", data := .fields #[.none, .bool false, .ref s.heap.objs.size, rawInt 0, .none, .none] }) rfl
  rw [z] at e1
  have i1 : G.IsTupleIter s.heap.objs.size l 0 := by rw [hG]; exact ⟨_, Heap.get?_push_size _ rfl, rfl, rfl⟩
  obtain ⟨o1, i2, i3⟩ := i1
  refine ⟨⟨_, e1, rfl⟩, q _ e1 ⟨o1, Heap.get?_push_of_some _ i2, i3⟩ (by rw [Heap.size_push, z]) fun b o x => Heap.get?_push_of_some _ (by rw [hG]; exact Heap.get?_push_of_some _ x)⟩
end
/-- at turn i: a new pair (i, the tuple's i-th) -/
def IteT (K : PySem.W.Frag) (a : Addr) : It :=
  ⟨fun i H => ∃ xs x, SqT K H a xs ∧ xs[i]? = some x, fun i H v H' => ∃ T x, H T = none ∧ v = .ref T ∧ H' = upd H T (.tup [.int i, x]) ∧ ∀ xs, SqT K H a xs → xs[i]? = some x, fun i H => ∃ xs, SqT K H a xs ∧ xs.length ≤ i⟩
theorem turn_enumT {P : Program} {w : World} {K : PySem.W.Frag} {elts : List Expr} {x1 : Nat} {pos : Pos} (a e it : Addr) (hne : e ≠ it) (hae : a ≠ e) (hai : a ≠ it) : Turn P w K (.Tuple elts x1 pos) (IteT K a) [e, it] e (fun i h => (∃ old, IsEnum h e it i old) ∧ h.IsTupleIter it a i) where
  mem := by simp
  obj := fun i h st b hb => by
    obtain ⟨⟨old, he⟩, o, eo, c, d⟩ := st
    rcases List.mem_cons.mp hb with z | hb
    · subst z
      exact ⟨_, he, fun v z => by
        have z' : Data.fields _ = Data.cell v := z
        cases z'⟩
    · have z : b = it := by simpa using hb
      subst z
      exact ⟨o, eo, fun v z => by rw [d] at z; cases z⟩
  keep := fun i h h' st k => by
    obtain ⟨⟨old, he⟩, o, ho, r⟩ := st
    exact ⟨⟨old, k e (by simp) _ he⟩, o, k it (by simp) o ho, r⟩
  item := by
    intro X hP hw hK hc i pins s σ H E I hf st hg
    subst hP hw hK
    obtain ⟨xs, x, hq, hx⟩ := hg
    obtain ⟨⟨old, he⟩, hit⟩ := st
    obtain ⟨its, rv, p, hz⟩ := I.tuple hq
    obtain ⟨u, hu, ru⟩ := rv.get hx
    obtain ⟨f0, f1, f2, f3, f4, f5⟩ := hf e (by simp)
    obtain ⟨g0, g1, g2, g3, g4, g5⟩ := hf it (by simp)
    have hT0 : H s.heap.objs.size = none := I.hok.fresh (Nat.le_refl _)
    have hlt : i < its.toArray.size := by simpa using (List.getElem?_eq_some_iff.mp hu).1
    have pT : s.heap.IsTuple a its.toArray := isTup_tuple p
    refine wpAny_pyNext_enum_itemD (drawsT (A := X.A.in1) (by simpa using I.ok.hd hc) it a hai its.toArray) he ⟨hit, pT⟩ hlt hne (by simp [hne, Ne.symm hae]) fun x' h' tk hx' ho st' hT hsz hk => ?_
    have ex' : x' = u := by
      have e1 : its.toArray[i]? = some u := by simpa using hu
      have e2 : its.toArray[i]? = some x' := hx'
      rw [e1] at e2
      exact (Option.some.inj e2).symm
    subst ex'
    have ltT : ∀ b ob, s.heap.get? b = some ob → b ≠ s.heap.objs.size := fun b ob z => Nat.ne_of_lt (Heap.lt_size z)
    have ltH : ∀ b ob, H b = some ob → b ≠ s.heap.objs.size := fun b ob z => Nat.ne_of_lt (I.hok.lt z)
    have nof : ∀ b ob, H b = some ob → b ≠ e ∧ b ≠ it := fun b ob z => ⟨fun q => (by rw [q, f0] at z; cases z), fun q => (by rw [q, g0] at z; cases z)⟩
    have I1 : Inv X pins σ (upd H s.heap.objs.size (.tup [.int i, x])) { s with heap := h', toks := tk + 1 } := by
      refine I.step (g' := s.gens) (d' := s.drawn) (ch := [e, it]) (fun b hb => ?_) (fun b o _ _ hcx z _ => hk b o (fun q => hcx (by simp [q])) (fun q => hcx (by simp [q])) z) (fun b o _ _ hcx z _ => ⟨o.slots, hk b o (fun q => hcx (by simp [q])) (fun q => hcx (by simp [q])) z⟩)
        (fun b o _ z n => by rw [upd_ne (ltT b o z)]; exact n) (fun b o hcx z => ⟨o, hk b o (fun q => hcx (by simp [q])) (fun q => hcx (by simp [q])) z⟩) (fun b ys z => by rw [upd_ne (ltH b _ z)]; exact z) (fun b o v z => by rw [upd_ne (ltH b _ z)]; exact z)
        (fun b ps z => ⟨#[], by rw [upd_ne (ltH b _ z), z]; simp⟩) (fun m hm => ?_) (fun b v z => ?_) I.bare
      · rcases List.mem_cons.mp hb with q | hb
        · rw [q]; exact ⟨f3, f1, f4, f5⟩
        · have q : b = it := by simpa using hb
          rw [q]; exact ⟨g3, g1, g4, g5⟩
      · obtain ⟨o, es, ep, ho', r⟩ := hm
        exact ⟨o, es, ep, hk _ o (Ne.symm f1) (Ne.symm g1) ho', r⟩
      · by_cases hb : b = s.heap.objs.size
        · subst hb
          rw [upd_same] at z
          cases z
          exact ⟨by show 2 ≤ sizeLine; decide, [.int i tk, x'], .cons ⟨_, rfl⟩ (.cons ru .nil), ⟨_, hT, rfl, _, rfl⟩⟩
        · rw [upd_ne hb] at z
          refine (I.hok b v z).stay (fun c w' hc' q => ?_) (fun c q => by rw [upd_ne (ltH c _ q)]; exact q) fun c ys q => by rw [upd_ne (ltH c _ q)]; exact q
          rcases hc' with rfl | hc'
          · exact hk c w' (nof c _ z).1 (nof c _ z).2 q
          · exact hk c w' (nof c _ hc').1 (nof c _ hc').2 q
    refine ⟨_, rfl, wpAny_letOwnedTupleGo_enum ho fun h2 he2 hs2 => ?_⟩
    have fT : e ≠ s.heap.objs.size := ltT e _ he
    have I2 : Inv X pins σ (upd H s.heap.objs.size (.tup [.int i, x])) { s with heap := h2, toks := tk + 1 } := Inv.turned (s := { s with heap := h', toks := tk + 1 }) (h' := h2) (t' := tk + 1) (it := e) I1 (fun b o hb z => hs2.extBut b o hb z) (by rw [upd_ne fT]; exact f0) f1 f3 f4 f5
    refine ⟨.ref s.heap.objs.size, _, I2, rfl, ⟨_, x, hT0, rfl, rfl, fun ys hy => by rw [I.tuple_inj hy hq]; exact hx⟩, ⟨⟨x', by simpa using he2⟩, st'.1.extBut hs2.extBut (Ne.symm hne)⟩, fun b hb => ?_⟩
    rcases List.mem_cons.mp hb with q | hb
    · rw [q, upd_ne fT]; exact f0
    · have q : b = it := by simpa using hb
      obtain ⟨o, eo, _⟩ := hit
      rw [q, upd_ne (ltT it o eo)]; exact g0
  done := by
    intro X hP hw hK hc i pins s σ H E I hf st hg
    subst hP hw hK
    obtain ⟨xs, hq, hx⟩ := hg
    obtain ⟨⟨old, he⟩, hit⟩ := st
    obtain ⟨its, rv, p, hz⟩ := I.tuple hq
    obtain ⟨g0, g1, g2, g3, g4, g5⟩ := hf it (by simp)
    have hl := rv.length
    have hT : s.TypeIs (.ref e) "enumerate" := ⟨_, he, rfl⟩
    unfold pyNext
    refine wpAny_bind (wpAny_attempt (wpAny_callSpecial?_slot (name := Str.ofString "__next__") hT F.slot_enumerate_next (wpAny_call_entry F.slot_enumerate_next hT F.entry_enumerate_next ?_ (F.args_enumerate_next_1 _))))
    show wpAny _ _ (field (.ref e) 2 >>= _) _ _ _
    refine wpAny_bind (wpAny_field he rfl (x := .ref it) rfl (wpAny_bind (nxT_end (by simpa using I.ok.hd hc) hit (isTup_tuple p) (by simp; omega) fun h' x he' ⟨o, ho, hcl⟩ => wpAny_bind (wpAny_isInstance (T := "StopIteration") (b := true) ⟨o, ho, hcl⟩ isSubtype_stop (wpAny_pure ?_)))))
    exact ⟨rfl, I.turned (t' := s.toks) (it := it) (fun b o hb z => he' b o hb z) g0 g1 g3 g4 g5⟩
  self := fun _ _ _ _ _ st h => let ⟨⟨_, he⟩, _⟩ := st; wpAny_pyIter_enum he h
/-- of a list (false) or a tuple (true) -/
def IteQ (kd : Bool) (K : PySem.W.Frag) (a : Addr) : It := match kd with
  | false => Ite K a
  | true => IteT K a
def iEnumQ (K : PySem.W.Frag) (ta : TA) : TI := fun σ H R => ta σ H fun vs H1 => ∃ a kd, vs = [.ref a] ∧ (∃ xs, My.SqK kd K H1 a xs) ∧ R (IteQ kd K a) H1
section
variable {X : Cx}
theorem pi_enumQ (K : PySem.W.Frag) {elts : List Expr} {x1 : Nat} {tpos : Pos} {a : Expr} {ta : TA} {p pos : Pos} (hg : Gl X "enumerate") (hm : X.mg "enumerate" = none) (ha : PA X [a] ta) (hs : starEach [a] X.env = [(false, eval a X.env)] := by rfl) (hk : X.K = K := by rfl) :
    PI X (.Tuple elts x1 tpos) (.Call (.Name "enumerate" p) [a] [] pos) (iEnumQ K ta) := by
  subst hk
  intro pins s σ H R I h
  refine Call_ (ld_blt I hg hm Boot.«enumerate» (PyProof.Rows.callWith_type1 (thn (ha pos pins s σ H _ I h) fun us s1 ⟨vs, H1, I1, r1, q1⟩ => ?_) hs rfl))
  obtain ⟨b, kd, e, ⟨xs, hq⟩, q⟩ := q1
  subst e
  obtain ⟨u, rfl, ru⟩ := vals1 r1
  obtain rfl : u = Value.ref b := ru
  have nn : ∀ k, s1.heap.objs.size ≤ k → H1 k = none := fun k hk => I1.hok.fresh hk
  have fin : ∀ c ∈ [s1.heap.objs.size + 1, s1.heap.objs.size], s1.heap.objs.size ≤ c := fun c hc => by
    rcases List.mem_cons.mp hc with q | hc
    · rw [q]; exact Nat.le_succ _
    · have q : c = s1.heap.objs.size := by simpa using hc
      rw [q]; exact Nat.le_refl _
  cases kd with
  | false =>
    obtain ⟨its, rv, pl, hz⟩ := I1.list hq
    refine call_enumerate_list pl.isList fun h' he hit hsz hk => ?_
    have I2 : Inv X pins σ H1 { s1 with heap := h' } := I1.kept (t' := s1.toks) hk
    refine wpAny_pyIter_enum he ⟨s1.heap.objs.size + 1, [s1.heap.objs.size + 1, s1.heap.objs.size], _, _, H1, rfl, I2, turn_enum b _ _ (Nat.succ_ne_self _), ⟨⟨_, he⟩, hit⟩, fun c hc => ?_, q⟩
    exact I1.fpOk (fin c hc) (nn c (fin c hc))
  | true =>
    obtain ⟨its, rv, pl, hz⟩ := I1.tuple hq
    have pT : s1.heap.IsTuple b its.toArray := isTup_tuple pl
    have ltb : b < s1.heap.objs.size := let ⟨_, e, _⟩ := pT; Heap.lt_size e
    refine call_enumT pT fun h' he hit hsz hk => ?_
    have I2 : Inv X pins σ H1 { s1 with heap := h' } := I1.kept (t' := s1.toks) hk
    refine wpAny_pyIter_enum he ⟨s1.heap.objs.size + 1, [s1.heap.objs.size + 1, s1.heap.objs.size], _, _, H1, rfl, I2, turn_enumT b _ _ (Nat.succ_ne_self _) (Nat.ne_of_lt (Nat.lt_succ_of_lt ltb)) (Nat.ne_of_lt ltb), ⟨⟨_, he⟩, hit⟩, fun c hc => ?_, q⟩
    exact I1.fpOk (fin c hc) (nn c (fin c hc))
end
end L2

/-! ## set(tuple of ints); sorted(set(list or tuple)) -/
namespace L2
open PySem PySem.Spec PyProof.Rows
section
variable {prog : Program} {w : World} {A : Around} {E : Value → Shared → Prop} {s : Shared}
end
section
variable {X : Cx} {p p2 pos pos2 : Pos} {e : Expr} {t : TA}
end
end L2

/-! ## loops over enumerate of a list or a tuple; t < u of any two tuples; min of a list of pairs (int, tuple of ints) -/
namespace My
open PySem L2
theorem for_enumQ {K : PySem.W.Frag} {kd : Bool} {a : Addr} {xs : List V} {g : TG} {tb : TS} {D : Ends} {σ : St} {H : Hp} (Pv : Nat → St → Hp → Prop) (h0 : Pv 0 σ H) (hl : ∀ i σ H, i ≤ xs.length → Pv i σ H → SqK kd K H a xs)
    (hs : ∀ (i : Nat) x σ H (p : Addr), H p = none → xs[i]? = some x → Pv i σ H → g (.ref p) σ (upd H p (.tup [.int i, x])) fun σ2 H2 => tb { D with nx := Pv (i + 1), ct := Pv (i + 1), bk := D.nx } σ2 H2) (hd : ∀ σ H, Pv xs.length σ H → D.nx σ H) :
    ∃ W : Nat → Nat → St → Hp → Prop, (∃ m, W 0 m σ H) ∧ ∀ i m σ H, W i m σ H →
      ((IteQ kd K a).stop i H ∧ D.nx σ H) ∨ ((IteQ kd K a).go i H ∧ ∃ N : St → Hp → Prop, (∀ σ' H', N σ' H' → ∃ m', m' < m ∧ W (i + 1) m' σ' H') ∧ ∀ x H', (IteQ kd K a).yld i H x H' → g x σ H' fun σ2 H2 => tb { D with nx := N, ct := N, bk := D.nx } σ2 H2) := by
  cases kd with
  | false => exact for_enum Pv h0 hl hs hd
  | true =>
    refine ⟨fun i m σ H => m = xs.length - i ∧ i ≤ xs.length ∧ Pv i σ H, ⟨xs.length, by simp, Nat.zero_le _, h0⟩, ?_⟩
    rintro i m σ H ⟨rfl, hi, p⟩
    have q : SqT K H a xs := hl i σ H hi p
    by_cases hlt : i < xs.length
    · refine .inr ⟨⟨xs, xs[i], q, by simp [hlt]⟩, Pv (i + 1), fun σ' H' p' => ⟨xs.length - (i + 1), by omega, rfl, hlt, p'⟩, fun x H' ⟨T, y, hT, ex, eH, hy⟩ => ?_⟩
      subst ex eH
      exact hs i y σ H T hT (hy xs q) p
    · have e : i = xs.length := by omega
      subst e
      exact .inl ⟨⟨xs, q, Nat.le_refl _⟩, hd σ H p⟩
section
variable {K : PySem.W.Frag} {kd : Bool} {a : Addr} {xs : List V} {g : TG} {tt : TT} {te : TE} {o : Nat} {fr : List Nat} {σ : St} {H : Hp} {Q : VK}
end
end My
namespace HT
open PySem PyProof.Rows
section
open PySem.SeqAt
open PySem.AutoSeq1 (wpAny_loadPart')
open PySem.MeetsSeq PySem.MeetsSeq2 PySem.MeetsSeq3
end
section
variable {prog : Program} {w : World} {A : Around} {E : Value → Shared → Prop} {s : Shared}
end
end HT
namespace My
open PySem L2
end My
namespace L2
open PySem PySem.Spec PyProof.Rows
section
variable {prog : Program} {w : World} {A : Around} {I S : Addr} {fp wr : List Addr} {n : Nat} {P : Nat → Value → Prop} {St : Nat → Heap → Prop} {R : Result → Shared → Prop}
end
section
variable {X : Cx}
end
end L2

/-! ## sorted(d.keys()), the keys ints -/
namespace L2
open PySem PySem.Spec PyProof.Rows
section
variable {prog : Program} {w : World} {A : Around} {E : Value → Shared → Prop} {s : Shared}
/-- what a source gives, collected -/
theorem collect_src {T : String} {r d : Addr} {n : Nat} {P : Nat → Value → Prop} {OK : Heap → Prop} {Q : List Value → Shared → Prop} (K : PySem.W.KdlSrc prog w T r d n P OK) (hh : A.handled = none) (hok : OK s.heap) (hn : n ≤ sizeLine)
    (k : ∀ (out : List Value) h' tk, out.length = n → (∀ (i : Nat) (v : Value), out[i]? = some v → P i v) → s.heap.objs.size ≤ h'.objs.size → (∀ c o, s.heap.get? c = some o → h'.get? c = some o) → Q out { s with heap := h', toks := tk }) : wpAny (model prog w) A (collect (.ref r)) Q E s := by
  have hL1 : (s.heap.push (seqObj "list" #[] 0)).get? s.heap.objs.size = some (seqObj "list" #[] 0) := Heap.get?_push_size _ rfl
  have hlt := K.there _ hok
  obtain ⟨R, hR⟩ : ∃ R : Result → Shared → Prop, R = fun r s' => ∃ h' tk acc c, r = .ok (.ret (.ref s.heap.objs.size)) ∧ s' = { s with heap := h', toks := tk } ∧ (∀ b o, b ≠ s.heap.objs.size → (s.heap.push (seqObj "list" #[] 0)).get? b = some o → h'.get? b = some o) ∧ h'.get? s.heap.objs.size = some { cls := .type "list", dict := none, data := .seq acc c, slots := #[] } ∧ ItemsOf P acc n := ⟨_, rfl⟩
  unfold collect
  refine wpAny_bind (wpAny_runValue (codeAny_mono (R := R) (codeAny_builtin entry_proto_collect' ?_) fun r0 s0 h0 => ?_))
  · show wpAny _ _ (newList [] >>= fun v => again (.builtin "list.__iadd__" ⟨[v, .ref r], []⟩)) _ _ s
    refine wpAny_bind (wpAny_newList (wpAny_pure ⟨Code.quiet_builtin _ (by decide +kernel), codeAny_builtin entry_list_iadd' ?_⟩))
    rw [Around.under_plainId (by decide +kernel) _]
    show wpAny _ A.in1 (Builtin.List.listExtendWith (.ref s.heap.objs.size) (.ref r) (.ref s.heap.objs.size)) _ _ { s with heap := s.heap.push (seqObj "list" #[] 0) }
    refine PySem.W.kdl_extend (A := A) (R := R) (s := { s with heap := s.heap.push (seqObj "list" #[] 0) }) K hh (K.keep _ _ hok fun b _ o e => Heap.get?_push_of_some _ e) s.heap.objs.size (Nat.ne_of_gt hlt.1) (Nat.ne_of_gt hlt.2) _ 0 hL1 (fun h' tk acc c hk hS hacc => ?_) hn
    rw [hR]
    exact ⟨h', tk, acc, c, rfl, rfl, hk, hS, hacc⟩
  · rw [hR] at h0
    obtain ⟨h', tk, acc, c, rfl, rfl, hk, hS, hacc⟩ := h0
    show wpAny _ A (load s.heap.objs.size >>= _) Q E _
    refine wpAny_bind (wpAny_load hS (wpAny_pure ?_))
    exact k acc.toList h' tk (by rw [Array.length_toList]; exact hacc.1) (fun i v e => hacc.2 i v (by rw [← Array.getElem?_toList]; exact e)) (Nat.le_of_lt (Heap.lt_size hS)) fun c o e => hk c o (Nat.ne_of_lt (Heap.lt_size e)) (Heap.get?_push_of_some _ e)
theorem sorted_src {T : String} {r d : Addr} {n : Nat} {P : Nat → Value → Prop} {OK : Heap → Prop} {ns : List Int} {Q : Value → Shared → Prop} (K : PySem.W.KdlSrc prog w T r d n P OK) (hh : A.handled = none) (hok : OK s.heap) (h64 : n < 64)
    (hP : ∀ out : List Value, out.length = n → (∀ (i : Nat) (v : Value), out[i]? = some v → P i v) → IntsAre out ns)
    (k : ∀ (ms : List Int) (out : List Value) a h' tk c, IntsAre out ms → ms.Pairwise (· ≤ ·) → ms.Perm ns → s.heap.objs.size ≤ a → h'.get? a = some (seqObj "list" out.toArray c) → (∀ c o, s.heap.get? c = some o → h'.get? c = some o) → Q (.ref a) { s with heap := h', toks := tk }) :
    wpAny (model prog w) A (call (.builtin "sorted") [.ref r]) Q E s := by
  have hsl : sizeLine = 16777216 := sizeLine_eq
  refine Calls.call_function_entry kind_sorted plain_sorted entry_sorted (args_sorted1 _) ?_
  unfold Builtin.«sorted»
  refine wpAny_bind (m := checkCount "sorted" 1 1 _) (wpAny_pure ?_)
  refine wpAny_bind (collect_src (A := A.in1) K (by simp [hh]) hok (by omega) fun out h1 tk lo hp hge kp => ?_)
  have hI := hP out lo hp
  refine wpAny_bind (wpAny_newList ?_)
  have hL : (h1.push (seqObj "list" out.toArray 0)).get? h1.objs.size = some (seqObj "list" out.toArray 0) := Heap.get?_push_size _ rfl
  refine wpAny_bind (wpAny_holding (wpAny_call_entry slot_list_sort ⟨_, hL, rfl⟩ entry_list_sort (list_sort_tree hL hI (by omega) fun res ms b1 b2 b3 => ⟨_, rfl, ?_⟩) (args_list_sort _)))
  obtain ⟨c, hc⟩ := sortedHeap_at (out := res) hL
  refine wpAny_pure ⟨_, rfl, k ms res.toList h1.objs.size _ tk c b1 b3 b2 hge (by rw [Array.toArray_toList]; exact hc) fun b ob e => ?_⟩
  have lt := Heap.lt_size (kp b ob e)
  rw [sortedHeap_old (Nat.ne_of_lt lt) (by rw [size_push']; exact Nat.lt_succ_of_lt lt)]
  exact Heap.get?_push_of_some _ (kp b ob e)
end
section
variable {X : Cx}
/-- a view of a dict's keys -/
def viewK (p d : Addr) : HO := .ext fun h => PySem.W.KdlKeysView h p d
def rKeys : V → List V → Hp → VK → Prop := fun x vs H Q => ∃ d kvs, x = .ref d ∧ vs = [] ∧ H d = some (.dK kvs) ∧ ∀ p, H p = none → Q (.ref p) (upd H p (viewK p d))
theorem mt_keys : MtM X "dict.keys" rKeys := by
  intro pins s σ H x vs v us Q I rx rv h
  obtain ⟨d, kvs, rfl, rfl, hH, q⟩ := h
  cases rx
  cases rv
  obtain ⟨z, hd, ws, rel, dd⟩ := dk_of I.hok hH
  refine call_meetsIn PySem.F.slot_dict_keys dd.typeIs PySem.F.entry_dict_keys (PySem.F.args_dict_keys_1 _) (PySem.W.kdl_meets_keys (mixKind X.prog X.w) d hd) ⟨⟨ws, dd⟩, ?_⟩
  refine ⟨.ref s.heap.objs.size, _, I.laid (o := viewK s.heap.objs.size d) (fun b u e => Heap.get?_push_of_some _ e) (Nat.le_refl _) ?_, rfl, q _ (I.hok.fresh (Nat.le_refl _))⟩
  have e := Heap.get?_push_size s.heap (o := { cls := .type "dict_keys", data := .fields #[.ref d] }) rfl
  exact ⟨⟨_, e, rfl, rfl⟩, ⟨_, e⟩, fun h1 h2 ⟨o, ho, r⟩ k => ⟨o, k o ho, r⟩⟩
theorem keys_ints {P : Program} {w : World} : ∀ {kvs : List (Key × V)} {ws : List (Key × Value)} {ks : List Int}, KV kvs ws → kvs.map (·.1) = ks.map Sum.inl → ∀ out : List Value, out.length = ws.length → (∀ (i : Nat) (v : Value), out[i]? = some v → ∃ k x, ws[i]? = some (k, x) ∧ (mixKind P w).is k v = true) → IntsAre out ks
  | [], _, ks, .nil, hk, out, hl, _ => by
    have e1 : ks = [] := by simpa using hk.symm
    have e2 : out = [] := List.length_eq_zero_iff.mp hl
    subst e1 e2
    exact .nil
  | _ :: _, _, [], .cons r t, hk, out, hl, hv => by simp at hk
  | _ :: _, _, k :: ks, .cons r t, hk, [], hl, hv => by simp at hl
  | _ :: _, _, k :: ks, .cons r t, hk, v :: out, hl, hv => by
    obtain ⟨k', x, e, hi⟩ := hv 0 v rfl
    have e : _ = (k', x) := Option.some.inj e
    have hk1 := (List.cons.inj hk).1
    have hr := r.1
    rw [e] at hr
    have ek : k' = Sum.inl k := hr.symm.trans hk1
    subst ek
    obtain ⟨i, tt, e1, e2⟩ | ⟨y, tt, e1, _⟩ := keyIs_shape (show keyIs (Sum.inl k) v = true from hi)
    · cases e1
      subst e2
      refine .cons _ tt (keys_ints (P := P) (w := w) t (List.cons.inj hk).2 out (by simpa using hl) fun j u e => ?_)
      exact hv (j + 1) u e
    · cases e1
theorem call_sortedKeys (hc : X.calm = true) : CallR X (.builtin "sorted") (fun xs H Q => ∃ p d kvs ks, xs = [.ref p] ∧ H p = some (viewK p d) ∧ H d = some (.dK kvs) ∧ kvs.map (·.1) = ks.map Sum.inl ∧ ks.length < 64 ∧ ∀ ms : List Int, ms.Perm ks → ms.Pairwise (· ≤ ·) → ∀ l, H l = none → Q (.ref l) (upd H l (.lst (My.IL ms)))) := by
  intro pins s σ H xs us Q I r h
  obtain ⟨p, d, kvs, ks, rfl, hp, hd, hks, h64, q⟩ := h
  obtain ⟨u, rfl, ru⟩ := vals1 r
  obtain rfl : u = Value.ref p := ru
  obtain ⟨hv, _, _⟩ := (show ObjOk X.prog X.w H s.heap p (viewK p d) from I.hok p _ hp)
  obtain ⟨z, hds, ws, rel, dd⟩ := dk_of I.hok hd
  obtain ⟨ep, da⟩ := dictAt_of dd
  have hl : ws.length = kvs.length := rel.length.symm
  have hl2 : kvs.length = ks.length := by have := congrArg List.length hks; simpa using this
  refine sorted_src (PySem.W.kdl_keys (knd := mixKind X.prog X.w) (kvs := ws) (ep := ep) (r := p) (d := d)) (I.ok.hd hc) ⟨hv, da⟩ (by omega) (fun out lo hP => keys_ints (P := X.prog) (w := X.w) rel hks out lo hP) fun ms out a h' tk c b1 b2 b3 hge ha kp => ?_
  have hml := b3.length_eq
  have hsl : sizeLine = 16777216 := sizeLine_eq
  exact ⟨.ref a, _, I.laid (o := .lst (ms.map V.int)) (h' := h') (t' := tk) kp hge ⟨by rw [List.length_map]; omega, out, c, vals_of_ints b1, ha⟩, rfl, q ms b3 b2 a (I.hok.fresh hge)⟩
end
end L2

/-! ## turns: the darts of each place; the dart behind; rounds -/
namespace My
open PySem L2
/-- the dart the other way -/
def bkD (d : Int) : Int := if d % 2 = 0 then d + 1 else d - 1
theorem bk_bk (d : Int) : bkD (bkD d) = d := by unfold bkD; split <;> split <;> omega
theorem bk_inj {a b : Int} (h : bkD a = bkD b) : a = b := by rw [← bk_bk a, h, bk_bk]
theorem bk_range {d m : Int} (h : 0 ≤ d ∧ d < 2 * m) : 0 ≤ bkD d ∧ bkD d < 2 * m := by unfold bkD; split <;> omega
/-- the place from which a dart leads -/
def ownD (ps : List (Int × Int)) (x : Int) : Int := if x % 2 = 0 then (ps.getD (x / 2).toNat (0, 0)).1 else (ps.getD (x / 2).toNat (0, 0)).2
/-- the darts of a place among the first i ties, ascending -/
def dtU (ps : List (Int × Int)) (p : Int) : Nat → List Int
  | 0 => []
  | i + 1 => dtU ps p i ++ (if (ps.getD i (0, 0)).1 = p then [2 * (i : Int)] else []) ++ (if (ps.getD i (0, 0)).2 = p then [2 * (i : Int) + 1] else [])
def dts (ps : List (Int × Int)) (p : Int) : List Int := dtU ps p ps.length
theorem dtU_mem {ps : List (Int × Int)} {p x : Int} : ∀ {i : Nat}, x ∈ dtU ps p i ↔ (0 ≤ x ∧ x < 2 * (i : Int)) ∧ ownD ps x = p
  | 0 => by
    constructor
    · intro h; cases h
    · rintro ⟨h, _⟩; omega
  | i + 1 => by
    have e0 : ownD ps (2 * (i : Int)) = (ps.getD i (0, 0)).1 := by
      unfold ownD
      rw [if_pos (by omega), show (2 * (i : Int) / 2).toNat = i by omega]
    have e1 : ownD ps (2 * (i : Int) + 1) = (ps.getD i (0, 0)).2 := by
      unfold ownD
      rw [if_neg (by omega), show ((2 * (i : Int) + 1) / 2).toNat = i by omega]
    show x ∈ dtU ps p i ++ (if (ps.getD i (0, 0)).1 = p then [2 * (i : Int)] else []) ++ (if (ps.getD i (0, 0)).2 = p then [2 * (i : Int) + 1] else []) ↔ _
    rw [List.mem_append, List.mem_append, dtU_mem]
    constructor
    · rintro ((⟨h1, h2⟩ | h) | h)
      · exact ⟨⟨h1.1, by omega⟩, h2⟩
      · split at h
        · rename_i hp
          rw [List.mem_singleton.mp h]
          exact ⟨⟨by omega, by omega⟩, e0.trans hp⟩
        · cases h
      · split at h
        · rename_i hp
          rw [List.mem_singleton.mp h]
          exact ⟨⟨by omega, by omega⟩, e1.trans hp⟩
        · cases h
    · rintro ⟨⟨h1, h2⟩, h3⟩
      by_cases c : x < 2 * (i : Int)
      · exact .inl (.inl ⟨⟨h1, c⟩, h3⟩)
      · by_cases c2 : x = 2 * (i : Int)
        · subst c2
          rw [e0] at h3
          rw [if_pos h3]
          exact .inl (.inr (List.mem_singleton.mpr rfl))
        · have c3 : x = 2 * (i : Int) + 1 := by omega
          subst c3
          rw [e1] at h3
          rw [if_pos h3]
          exact .inr (List.mem_singleton.mpr rfl)
theorem dtU_asc {ps : List (Int × Int)} {p : Int} : ∀ i, (dtU ps p i).Pairwise (· < ·)
  | 0 => .nil
  | i + 1 => by
    show (dtU ps p i ++ (if (ps.getD i (0, 0)).1 = p then [2 * (i : Int)] else []) ++ (if (ps.getD i (0, 0)).2 = p then [2 * (i : Int) + 1] else [])).Pairwise _
    refine List.pairwise_append.mpr ⟨List.pairwise_append.mpr ⟨dtU_asc i, by split <;> simp, fun a ha b hb => ?_⟩, by split <;> simp, fun a ha b hb => ?_⟩
    · have := (dtU_mem.mp ha).1
      split at hb
      · rw [List.mem_singleton.mp hb]; exact this.2
      · cases hb
    · split at hb
      · rw [List.mem_singleton.mp hb]
        rcases List.mem_append.mp ha with h | h
        · have := (dtU_mem.mp h).1
          omega
        · split at h
          · rw [List.mem_singleton.mp h]; omega
          · cases h
      · cases hb
theorem dtU_len {ps : List (Int × Int)} {p : Int} : ∀ i, (dtU ps p i).length ≤ 2 * i
  | 0 => Nat.le_refl _
  | i + 1 => by
    show (dtU ps p i ++ (if (ps.getD i (0, 0)).1 = p then [2 * (i : Int)] else []) ++ (if (ps.getD i (0, 0)).2 = p then [2 * (i : Int) + 1] else [])).length ≤ _
    have := dtU_len (ps := ps) (p := p) i
    rw [List.length_append, List.length_append]
    split <;> split <;> simp <;> omega
theorem dts_mem {ps : List (Int × Int)} {p x : Int} : x ∈ dts ps p ↔ (0 ≤ x ∧ x < 2 * (ps.length : Int)) ∧ ownD ps x = p := dtU_mem
theorem dts_asc {ps : List (Int × Int)} {p : Int} : (dts ps p).Pairwise (· < ·) := dtU_asc _
/-- the turns hold each dart once, at its place -/
def VT (n : Nat) (ps : List (Int × Int)) (ts : List (List Int)) : Prop := ts.length = n ∧ ∀ (p : Nat) (row : List Int), ts[p]? = some row → row.Perm (dts ps (p : Int))
theorem asc_nd {l : List Int} (h : l.Pairwise (· < ·)) : l.Nodup := h.imp fun h => by omega
section
variable {n : Nat} {ps : List (Int × Int)} {ts : List (List Int)}
theorem VT.mem (h : VT n ps ts) {p : Nat} {row : List Int} (hp : ts[p]? = some row) {x : Int} : x ∈ row ↔ (0 ≤ x ∧ x < 2 * (ps.length : Int)) ∧ ownD ps x = p := by
  rw [(h.2 p row hp).mem_iff, dts_mem]
theorem VT.nodup (h : VT n ps ts) {p : Nat} {row : List Int} (hp : ts[p]? = some row) : row.Nodup := (h.2 p row hp).nodup_iff.mpr (asc_nd dts_asc)
theorem own_range (hg : ∀ p ∈ ps, 0 ≤ p.1 ∧ p.1 < (n : Int) ∧ 0 ≤ p.2 ∧ p.2 < (n : Int)) {x : Int} (hx : 0 ≤ x ∧ x < 2 * (ps.length : Int)) : 0 ≤ ownD ps x ∧ ownD ps x < (n : Int) := by
  obtain ⟨q, hq⟩ : ∃ q, ps[(x / 2).toNat]? = some q := ⟨_, List.getElem?_eq_getElem (by omega)⟩
  have := hg q (List.mem_of_getElem? hq)
  unfold ownD
  rw [getD_of hq]
  split <;> omega
theorem VT.has (h : VT n ps ts) (hg : ∀ p ∈ ps, 0 ≤ p.1 ∧ p.1 < (n : Int) ∧ 0 ≤ p.2 ∧ p.2 < (n : Int)) {x : Int} (hx : 0 ≤ x ∧ x < 2 * (ps.length : Int)) : ∃ (p : Nat) (row : List Int), ts[p]? = some row ∧ x ∈ row := by
  have o := own_range hg hx
  have hl := h.1
  obtain ⟨row, hr⟩ : ∃ row, ts[(ownD ps x).toNat]? = some row := ⟨_, List.getElem?_eq_getElem (by omega)⟩
  exact ⟨_, row, hr, (h.mem hr).mpr ⟨hx, by omega⟩⟩
theorem VT.in (h : VT n ps ts) {row : List Int} (hr : row ∈ ts) {x : Int} (hx : x ∈ row) : 0 ≤ x ∧ x < 2 * (ps.length : Int) := by
  obtain ⟨p, hp⟩ := List.getElem?_of_mem hr
  exact ((h.mem hp).mp hx).1
end
/-- the darts behind, one row's first k -/
def bhR (row : List Int) (k : Nat) : List (Int × Int) := (List.range k).map fun i => (bkD (row.getD i 0), row.getD ((i + 1) % row.length) 0)
def bhL (ts : List (List Int)) : List (Int × Int) := ts.flatMap fun row => bhR row row.length
theorem bhL_mem {ts : List (List Int)} {x y : Int} : (x, y) ∈ bhL ts ↔ ∃ row ∈ ts, ∃ i, i < row.length ∧ x = bkD (row.getD i 0) ∧ y = row.getD ((i + 1) % row.length) 0 := by
  unfold bhL bhR
  rw [List.mem_flatMap]
  constructor
  · rintro ⟨row, hr, h⟩
    obtain ⟨i, hi, e⟩ := List.mem_map.mp h
    cases e
    exact ⟨row, hr, i, List.mem_range.mp hi, rfl, rfl⟩
  · rintro ⟨row, hr, i, hi, rfl, rfl⟩
    exact ⟨row, hr, List.mem_map.mpr ⟨i, List.mem_range.mpr hi, rfl⟩⟩
theorem getD_mem {l : List Int} {i : Nat} (h : i < l.length) : l.getD i 0 ∈ l := by
  rw [List.getD_eq_getElem?_getD, List.getElem?_eq_getElem h]
  exact List.getElem_mem h
theorem getD_inj {l : List Int} (hn : l.Nodup) {i j : Nat} (hi : i < l.length) (hj : j < l.length) (e : l.getD i 0 = l.getD j 0) : i = j := by
  rw [List.getD_eq_getElem?_getD, List.getD_eq_getElem?_getD, List.getElem?_eq_getElem hi, List.getElem?_eq_getElem hj] at e
  exact (List.getElem_inj hn).mp e
section
variable {n : Nat} {ps : List (Int × Int)} {ts : List (List Int)}
theorem row_eq (h : VT n ps ts) {r1 r2 : List Int} (h1 : r1 ∈ ts) (h2 : r2 ∈ ts) {x : Int} (hx1 : x ∈ r1) (hx2 : x ∈ r2) : r1 = r2 := by
  obtain ⟨p, hp⟩ := List.getElem?_of_mem h1
  obtain ⟨q, hq⟩ := List.getElem?_of_mem h2
  have a := ((h.mem hp).mp hx1).2
  have b := ((h.mem hq).mp hx2).2
  have : p = q := by omega
  subst this
  rw [hp] at hq
  exact Option.some.inj hq
theorem nd_row (h : VT n ps ts) {r : List Int} (hr : r ∈ ts) : r.Nodup := by
  obtain ⟨p, hp⟩ := List.getElem?_of_mem hr
  exact h.nodup hp
/-- each dart has one behind it -/
theorem bh_fun (h : VT n ps ts) {x y z : Int} (h1 : (x, y) ∈ bhL ts) (h2 : (x, z) ∈ bhL ts) : y = z := by
  obtain ⟨r1, hr1, i, hi, e1, rfl⟩ := bhL_mem.mp h1
  obtain ⟨r2, hr2, j, hj, e2, rfl⟩ := bhL_mem.mp h2
  have e := bk_inj (e1.symm.trans e2)
  obtain rfl := row_eq h hr1 hr2 (getD_mem hi) (by rw [e]; exact getD_mem hj)
  rw [getD_inj (nd_row h hr1) hi hj e]
/-- and one ahead of it -/
theorem bh_inj (h : VT n ps ts) {x y z : Int} (h1 : (x, z) ∈ bhL ts) (h2 : (y, z) ∈ bhL ts) : x = y := by
  obtain ⟨r1, hr1, i, hi, rfl, e1⟩ := bhL_mem.mp h1
  obtain ⟨r2, hr2, j, hj, rfl, e2⟩ := bhL_mem.mp h2
  have e := e1.symm.trans e2
  have p1 : (i + 1) % r1.length < r1.length := Nat.mod_lt _ (by omega)
  have p2 : (j + 1) % r2.length < r2.length := Nat.mod_lt _ (by omega)
  obtain rfl := row_eq h hr1 hr2 (getD_mem p1) (by rw [e]; exact getD_mem p2)
  have k := getD_inj (nd_row h hr1) p1 p2 e
  have : i = j := by
    by_cases c1 : i + 1 = r1.length
    · by_cases c2 : j + 1 = r1.length
      · omega
      · rw [c1, Nat.mod_self, Nat.mod_eq_of_lt (by omega)] at k
        omega
    · by_cases c2 : j + 1 = r1.length
      · rw [c2, Nat.mod_self, Nat.mod_eq_of_lt (by omega)] at k
        omega
      · rw [Nat.mod_eq_of_lt (by omega), Nat.mod_eq_of_lt (by omega)] at k
        omega
  rw [this]
theorem bh_range (h : VT n ps ts) {x y : Int} (h1 : (x, y) ∈ bhL ts) : (0 ≤ x ∧ x < 2 * (ps.length : Int)) ∧ 0 ≤ y ∧ y < 2 * (ps.length : Int) := by
  obtain ⟨r, hr, i, hi, rfl, rfl⟩ := bhL_mem.mp h1
  exact ⟨bk_range (h.in hr (getD_mem hi)), h.in hr (getD_mem (Nat.mod_lt _ (by omega)))⟩
theorem bh_ex (h : VT n ps ts) (hg : ∀ p ∈ ps, 0 ≤ p.1 ∧ p.1 < (n : Int) ∧ 0 ≤ p.2 ∧ p.2 < (n : Int)) {x : Int} (hx : 0 ≤ x ∧ x < 2 * (ps.length : Int)) : ∃ y, (x, y) ∈ bhL ts := by
  obtain ⟨p, row, hp, hm⟩ := h.has hg (bk_range hx)
  obtain ⟨i, hi, e⟩ := List.getElem_of_mem hm
  refine ⟨_, bhL_mem.mpr ⟨row, List.mem_of_getElem? hp, i, hi, ?_, rfl⟩⟩
  rw [List.getD_eq_getElem?_getD, List.getElem?_eq_getElem hi]
  show x = bkD row[i]
  rw [e, bk_bk]
end
/-- a way that comes back to where it began, each dart once -/
def Orb (B : List (Int × Int)) (d : Int) (row : List Int) : Prop := row[0]? = some d ∧ row.Nodup ∧ (∀ i x y, row[i]? = some x → row[i + 1]? = some y → (x, y) ∈ B) ∧ ∀ x, row[row.length - 1]? = some x → (x, d) ∈ B
theorem Orb.pos {B : List (Int × Int)} {d : Int} {row : List Int} (h : Orb B d row) : 0 < row.length := (List.getElem?_eq_some_iff.mp h.1).1
theorem orb_at {B : List (Int × Int)} (hf : ∀ x y z, (x, y) ∈ B → (x, z) ∈ B → y = z) {d : Int} {r1 r2 : List Int} (h1 : Orb B d r1) (h2 : Orb B d r2) : ∀ i, i < r1.length → i < r2.length → r1[i]? = r2[i]?
  | 0, _, _ => by rw [h1.1, h2.1]
  | i + 1, a, b => by
    have ih := orb_at hf h1 h2 i (by omega) (by omega)
    obtain ⟨x, hx⟩ : ∃ x, r1[i]? = some x := ⟨_, List.getElem?_eq_getElem (by omega)⟩
    obtain ⟨y, hy⟩ : ∃ y, r1[i + 1]? = some y := ⟨_, List.getElem?_eq_getElem a⟩
    obtain ⟨z, hz⟩ : ∃ z, r2[i + 1]? = some z := ⟨_, List.getElem?_eq_getElem b⟩
    rw [hy, hz, hf _ _ _ (h1.2.2.1 i x y hx hy) (h2.2.2.1 i x z (by rw [← ih]; exact hx) hz)]
theorem orb_le {B : List (Int × Int)} (hf : ∀ x y z, (x, y) ∈ B → (x, z) ∈ B → y = z) {d : Int} {r1 r2 : List Int} (h1 : Orb B d r1) (h2 : Orb B d r2) : r2.length ≤ r1.length := by
  rcases Nat.lt_or_ge r1.length r2.length with c | c
  · exfalso
    have p1 := h1.pos
    obtain ⟨x, hx⟩ : ∃ x, r1[r1.length - 1]? = some x := ⟨_, List.getElem?_eq_getElem (by omega)⟩
    have hx2 : r2[r1.length - 1]? = some x := by rw [← orb_at hf h1 h2 _ (by omega) (by omega)]; exact hx
    obtain ⟨y, hy⟩ : ∃ y, r2[r1.length]? = some y := ⟨_, List.getElem?_eq_getElem c⟩
    have e := hf _ _ _ (h1.2.2.2 x hx) (h2.2.2.1 (r1.length - 1) x y hx2 (by rw [show r1.length - 1 + 1 = r1.length by omega]; exact hy))
    rw [← e] at hy
    have := nodup_get h2.2.1 hy h2.1
    omega
  · exact c
theorem Orb.uniq {B : List (Int × Int)} (hf : ∀ x y z, (x, y) ∈ B → (x, z) ∈ B → y = z) {d : Int} {r1 r2 : List Int} (h1 : Orb B d r1) (h2 : Orb B d r2) : r1 = r2 := by
  have a := orb_le hf h1 h2
  have b := orb_le hf h2 h1
  refine List.ext_getElem? fun i => ?_
  by_cases c : i < r1.length
  · exact orb_at hf h1 h2 i c (by omega)
  · rw [List.getElem?_eq_none (by omega), List.getElem?_eq_none (by omega)]
/-- what comes ahead of a dart of a round is in it -/
theorem Orb.ahead {B : List (Int × Int)} (hi : ∀ x y z, (x, z) ∈ B → (y, z) ∈ B → x = y) {d : Int} {row : List Int} (h : Orb B d row) {x y : Int} (hy : y ∈ row) (hb : (x, y) ∈ B) : x ∈ row := by
  obtain ⟨i, hi'⟩ := List.getElem?_of_mem hy
  have p := h.pos
  cases i with
  | zero =>
    rw [h.1] at hi'
    have e : d = y := Option.some.inj hi'
    obtain ⟨z, hz⟩ : ∃ z, row[row.length - 1]? = some z := ⟨_, List.getElem?_eq_getElem (by omega)⟩
    rw [hi _ _ _ hb (e ▸ h.2.2.2 z hz)]
    exact List.mem_of_getElem? hz
  | succ i =>
    have lt := (List.getElem?_eq_some_iff.mp hi').1
    obtain ⟨z, hz⟩ : ∃ z, row[i]? = some z := ⟨_, List.getElem?_eq_getElem (by omega)⟩
    rw [hi _ _ _ hb (h.2.2.1 i z y hz hi')]
    exact List.mem_of_getElem? hz
/-- the beginning of a way: from d, by B, to its last, behind which comes c -/
def Way (B : List (Int × Int)) (d c : Int) (row : List Int) : Prop := row.Nodup ∧ (∀ i x y, row[i]? = some x → row[i + 1]? = some y → (x, y) ∈ B) ∧ ((row = [] ∧ c = d) ∨ (row[0]? = some d ∧ ∀ x, row[row.length - 1]? = some x → (x, c) ∈ B))
theorem Way.snoc {B : List (Int × Int)} {d c e : Int} {row : List Int} (h : Way B d c row) (hn : c ∉ row) (hb : (c, e) ∈ B) : Way B d e (row ++ [c]) := by
  obtain ⟨h1, h2, h3⟩ := h
  refine ⟨nd_snoc h1 hn, fun i x y ex ey => ?_, .inr ⟨?_, fun x ex => ?_⟩⟩
  · have lt := (List.getElem?_eq_some_iff.mp ey).1
    rw [List.length_append, List.length_singleton] at lt
    by_cases c1 : i + 1 < row.length
    · rw [List.getElem?_append_left (by omega)] at ex
      rw [List.getElem?_append_left c1] at ey
      exact h2 i x y ex ey
    · rw [List.getElem?_append_left (by omega)] at ex
      rw [List.getElem?_append_right (by omega), show i + 1 - row.length = 0 by omega] at ey
      have ey : c = y := Option.some.inj ey
      rcases h3 with ⟨rfl, _⟩ | ⟨_, h3⟩
      · simp at ex
      · rw [← ey]
        exact h3 x (by rw [show row.length - 1 = i by omega]; exact ex)
  · rcases h3 with ⟨rfl, rfl⟩ | ⟨h3, _⟩
    · rfl
    · rw [List.getElem?_append_left (List.getElem?_eq_some_iff.mp h3).1]; exact h3
  · rw [List.length_append, List.length_singleton, Nat.add_sub_cancel, List.getElem?_append_right (Nat.le_refl _), Nat.sub_self] at ex
    have ex : c = x := Option.some.inj ex
    rw [← ex]; exact hb
/-- where the way meets itself it is back -/
theorem Way.meets {B : List (Int × Int)} (hi : ∀ x y z, (x, z) ∈ B → (y, z) ∈ B → x = y) {d c : Int} {row : List Int} (h : Way B d c row) (hc : c ∈ row) : c = d := by
  obtain ⟨h1, h2, h3⟩ := h
  rcases h3 with ⟨rfl, e⟩ | ⟨h3, h4⟩
  · exact e
  obtain ⟨i, hi'⟩ := List.getElem?_of_mem hc
  cases i with
  | zero => rw [h3] at hi'; exact (Option.some.inj hi').symm
  | succ i =>
    have lt := (List.getElem?_eq_some_iff.mp hi').1
    obtain ⟨z, hz⟩ : ∃ z, row[i]? = some z := ⟨_, List.getElem?_eq_getElem (by omega)⟩
    obtain ⟨w, hw⟩ : ∃ w, row[row.length - 1]? = some w := ⟨_, List.getElem?_eq_getElem (by omega)⟩
    have e := hi _ _ _ (h4 w hw) (h2 i z c hz hi')
    rw [e] at hw
    have := nodup_get h1 hw hz
    omega
theorem Way.orb {B : List (Int × Int)} {d : Int} {row : List Int} (h : Way B d d row) (hr : row ≠ []) : Orb B d row := by
  obtain ⟨h1, h2, h3⟩ := h
  rcases h3 with ⟨e, _⟩ | ⟨h3, h4⟩
  · exact absurd e hr
  · exact ⟨h3, h1, h2, h4⟩
/-- the rounds that begin below k, in the order of their least darts -/
def Rds (B : List (Int × Int)) : Nat → List (List Int) → Prop
  | 0, R => R = []
  | k + 1, R => ∃ R', Rds B k R' ∧ (((k : Int) ∈ R'.flatten ∧ R = R') ∨ ((k : Int) ∉ R'.flatten ∧ ∃ row, Orb B k row ∧ R = R' ++ [row]))
theorem Rds.uniq {B : List (Int × Int)} (hf : ∀ x y z, (x, y) ∈ B → (x, z) ∈ B → y = z) : ∀ {k : Nat} {R1 R2 : List (List Int)}, Rds B k R1 → Rds B k R2 → R1 = R2
  | 0, _, _, h1, h2 => h1.trans h2.symm
  | k + 1, _, _, ⟨Q1, a1, b1⟩, ⟨Q2, a2, b2⟩ => by
    have e := Rds.uniq hf a1 a2
    subst e
    rcases b1 with ⟨c1, rfl⟩ | ⟨c1, r1, o1, rfl⟩
    · rcases b2 with ⟨c2, rfl⟩ | ⟨c2, _⟩
      · rfl
      · exact absurd c1 c2
    · rcases b2 with ⟨c2, rfl⟩ | ⟨c2, r2, o2, rfl⟩
      · exact absurd c2 c1
      · rw [o1.uniq hf o2]
theorem Rds.orbs {B : List (Int × Int)} : ∀ {k : Nat} {R : List (List Int)}, Rds B k R → ∀ row ∈ R, ∃ d, Orb B d row
  | 0, _, h, row, hr => by rw [show _ = [] from h] at hr; cases hr
  | k + 1, _, ⟨Q, a, b⟩, row, hr => by
    rcases b with ⟨_, rfl⟩ | ⟨_, r, o, rfl⟩
    · exact Rds.orbs a row hr
    · rcases List.mem_append.mp hr with e | e
      · exact Rds.orbs a row e
      · rw [List.mem_singleton.mp e]; exact ⟨_, o⟩
theorem Rds.below {B : List (Int × Int)} : ∀ {k : Nat} {R : List (List Int)}, Rds B k R → ∀ x : Int, 0 ≤ x → x < (k : Int) → x ∈ R.flatten
  | 0, _, _, x, h0, h1 => by omega
  | k + 1, _, ⟨Q, a, b⟩, x, h0, h1 => by
    rcases b with ⟨c, rfl⟩ | ⟨_, r, o, rfl⟩
    · by_cases e : x = (k : Int)
      · rw [e]; exact c
      · exact Rds.below a x h0 (by omega)
    · rw [List.flatten_append, List.mem_append]
      by_cases e : x = (k : Int)
      · rw [e]
        refine .inr ?_
        simp only [List.flatten_cons, List.flatten_nil, List.append_nil]
        exact List.mem_of_getElem? o.1
      · exact .inl (Rds.below a x h0 (by omega))
theorem Rds.ahead {B : List (Int × Int)} (hi : ∀ x y z, (x, z) ∈ B → (y, z) ∈ B → x = y) {k : Nat} {R : List (List Int)} (h : Rds B k R) {x y : Int} (hy : y ∈ R.flatten) (hb : (x, y) ∈ B) : x ∈ R.flatten := by
  obtain ⟨row, hr, hm⟩ := List.mem_flatten.mp hy
  obtain ⟨d, o⟩ := h.orbs row hr
  exact List.mem_flatten.mpr ⟨row, hr, o.ahead hi hm hb⟩
theorem orb_range {B : List (Int × Int)} {M : Int} (hr : ∀ x y, (x, y) ∈ B → (0 ≤ x ∧ x < M) ∧ 0 ≤ y ∧ y < M) {d : Int} {row : List Int} (h : Orb B d row) : ∀ x ∈ row, 0 ≤ x ∧ x < M := fun x hx => by
  obtain ⟨i, hi⟩ := List.getElem?_of_mem hx
  have lt := (List.getElem?_eq_some_iff.mp hi).1
  by_cases c : i + 1 < row.length
  · obtain ⟨y, hy⟩ : ∃ y, row[i + 1]? = some y := ⟨_, List.getElem?_eq_getElem c⟩
    exact (hr _ _ (h.2.2.1 i x y hi hy)).1
  · exact (hr _ _ (h.2.2.2 x (by rw [show row.length - 1 = i by omega]; exact hi))).1
/-- few numbers below M, each once -/
theorem nd_few : ∀ {M : Nat} {l : List Int}, l.Nodup → (∀ x ∈ l, 0 ≤ x ∧ x < (M : Int)) → l.length ≤ M
  | 0, [], _, _ => Nat.le_refl _
  | 0, x :: l, _, h => by have := h x List.mem_cons_self; omega
  | M + 1, l, hn, h => by
    have key : (l.erase (M : Int)).length ≤ M := nd_few (hn.erase _) fun x hx => by
      have hx' := (List.Nodup.mem_erase_iff hn).mp hx
      have := h x hx'.2
      have := hx'.1
      omega
    by_cases c : (M : Int) ∈ l
    · rw [List.length_erase_of_mem c] at key; omega
    · rw [List.erase_of_not_mem c] at key; omega
theorem Rds.nodup {B : List (Int × Int)} (hi : ∀ x y z, (x, z) ∈ B → (y, z) ∈ B → x = y) : ∀ {k : Nat} {R : List (List Int)}, Rds B k R → R.flatten.Nodup
  | 0, _, h => by rw [show _ = [] from h]; exact .nil
  | k + 1, _, ⟨Q, a, b⟩ => by
    rcases b with ⟨_, rfl⟩ | ⟨c, r, o, rfl⟩
    · exact Rds.nodup hi a
    · rw [List.flatten_append]
      simp only [List.flatten_cons, List.flatten_nil, List.append_nil]
      refine List.nodup_append.mpr ⟨Rds.nodup hi a, o.2.1, fun x hx y hy e => ?_⟩
      subst e
      -- back along the round to its first
      obtain ⟨i, hi'⟩ := List.getElem?_of_mem hy
      have back : ∀ (i : Nat) (x : Int), r[i]? = some x → x ∈ Q.flatten → (k : Int) ∈ Q.flatten := by
        intro i
        induction i with
        | zero => intro x e hx; rw [o.1] at e; cases e; exact hx
        | succ i ih =>
          intro x e hx
          have lt := (List.getElem?_eq_some_iff.mp e).1
          obtain ⟨z, hz⟩ : ∃ z, r[i]? = some z := ⟨_, List.getElem?_eq_getElem (by omega)⟩
          exact ih z hz (a.ahead hi hx (o.2.2.1 i z x hz e))
      exact c (back i x hi' hx)
end My

/-! ## dicts of ints; sorted(list or tuple) -/
namespace L2
open PySem PySem.Spec PyProof.Rows
section
variable {X : Cx}
theorem call_sortedQ (K : PySem.W.Frag) (hk : X.K = K := by rfl) : CallR X (.builtin "sorted") (fun xs H Q => ∃ (kd : Bool) (p : Addr) (ns : List Int), xs = [.ref p] ∧ My.SqK kd K H p (ns.map V.int) ∧ ns.length < 64 ∧
    ∀ ms : List Int, ms.Perm ns → ms.Pairwise (· ≤ ·) → ∀ l, H l = none → Q (.ref l) (upd H l (.lst (ms.map V.int)))) := by
  intro pins s σ H xs us Q I r h
  obtain ⟨kd, p, ns, e, hq, h64, q⟩ := h
  cases kd with
  | false => exact call_sortedK K hk pins s σ H xs us Q I r ⟨p, ns, e, hq, h64, q⟩
  | true => exact call_sortedT K hk pins s σ H xs us Q I r ⟨p, ns, e, hq, h64, q⟩
end
end L2
namespace My
open PySem L2
/-- the dict that holds these pairs -/
def kvI (L : List (Int × Int)) : List (Key × V) := L.map fun p => (Sum.inl p.1, V.int p.2)
theorem kvI_none {L : List (Int × Int)} {x : Int} : (∀ p ∈ L, p.1 ≠ x) → valV (kvI L) (Sum.inl x) = none := by
  induction L with
  | nil => intro _; rfl
  | cons p L ih =>
    intro h
    show valV ((Sum.inl p.1, V.int p.2) :: kvI L) _ = none
    rw [valV_neg (by intro e; exact h p List.mem_cons_self (Sum.inl.inj e))]
    exact ih fun q hq => h q (List.mem_cons_of_mem _ hq)
theorem kvI_val {L : List (Int × Int)} {x y : Int} : (L.map (·.1)).Nodup → (x, y) ∈ L → valV (kvI L) (Sum.inl x) = some (.int y) := by
  induction L with
  | nil => intro _ h; cases h
  | cons p L ih =>
    intro hn h
    have hn' := List.nodup_cons.mp hn
    show valV ((Sum.inl p.1, V.int p.2) :: kvI L) _ = _
    rcases List.mem_cons.mp h with e | e
    · subst e
      rw [valV_pos rfl]
    · rw [valV_neg (by
        intro z
        have z : p.1 = x := Sum.inl.inj z
        exact hn'.1 (List.mem_map.mpr ⟨(x, y), e, z.symm⟩))]
      exact ih hn'.2 e
theorem kvI_put {L : List (Int × Int)} {x y : Int} (h : ∀ p ∈ L, p.1 ≠ x) : putK (kvI L) (Sum.inl x) (.int y) = kvI (L ++ [(x, y)]) := by
  rw [putK_new _ (kvI_none h)]
  unfold kvI
  rw [List.map_append]
  rfl
theorem kvI_keys (L : List (Int × Int)) : (kvI L).map (·.1) = (L.map (·.1)).map Sum.inl := by
  unfold kvI
  rw [List.map_map, List.map_map]
  rfl
/-- a dict whose keys are these -/
def Kys (kvs : List (Key × V)) (S : List Int) : Prop := ∀ x : Int, (valV kvs (Sum.inl x)).isSome = true ↔ x ∈ S
theorem Kys.nil : Kys [] [] := fun x => by
  constructor
  · intro h; rw [valV_nil] at h; cases h
  · intro h; cases h
theorem Kys.put {kvs : List (Key × V)} {S : List Int} (h : Kys kvs S) (x : Int) (v : V) : Kys (putK kvs (Sum.inl x) v) (S ++ [x]) := fun y => by
  rw [valV_put, List.mem_append, List.mem_singleton]
  by_cases c : (Sum.inl y : Key) = Sum.inl x
  · rw [if_pos c]
    exact ⟨fun _ => .inr (Sum.inl.inj c), fun _ => rfl⟩
  · rw [if_neg c, h y]
    exact ⟨.inl, fun z => z.elim id fun e => absurd (congrArg Sum.inl e) c⟩
theorem bhR_keys {row : List Int} {k : Nat} (hk : k ≤ row.length) : (bhR row k).map (·.1) = (row.take k).map bkD := by
  unfold bhR
  rw [List.map_map]
  refine List.ext_getElem? fun i => ?_
  rw [List.getElem?_map, List.getElem?_map]
  by_cases c : i < k
  · rw [List.getElem?_range c, List.getElem?_take_of_lt c, List.getElem?_eq_getElem (by omega)]
    show some (bkD (row.getD i 0)) = some (bkD row[i])
    rw [List.getD_eq_getElem?_getD, List.getElem?_eq_getElem (by omega)]
    rfl
  · rw [List.getElem?_eq_none (by rw [List.length_range]; omega), List.getElem?_eq_none (by rw [List.length_take]; omega)]
    rfl
theorem bhL_keys (ts : List (List Int)) : (bhL ts).map (·.1) = ts.flatten.map bkD := by
  unfold bhL
  induction ts with
  | nil => rfl
  | cons r ts ih => rw [List.flatMap_cons, List.map_append, ih, bhR_keys (Nat.le_refl _), List.take_length, List.flatten_cons, List.map_append]
theorem bhR_succ (row : List Int) (k : Nat) : bhR row (k + 1) = bhR row k ++ [(bkD (row.getD k 0), row.getD ((k + 1) % row.length) 0)] := by
  unfold bhR
  rw [List.range_succ, List.map_append]
  rfl
theorem bhL_take {ts : List (List Int)} {i : Nat} {row : List Int} (h : ts[i]? = some row) : bhL (ts.take (i + 1)) = bhL (ts.take i) ++ bhR row row.length := by
  unfold bhL
  rw [List.take_succ, h, List.flatMap_append]
  simp
theorem flat_take {ts : List (List Int)} {i : Nat} {row : List Int} (h : ts[i]? = some row) : (ts.take (i + 1)).flatten = (ts.take i).flatten ++ row := by
  rw [List.take_succ, h, List.flatten_append]
  simp
theorem flat_nd {ts : List (List Int)} (hn : ts.flatten.Nodup) {i : Nat} {row : List Int} (h : ts[i]? = some row) : ((ts.take i).flatten ++ row).Nodup := by
  rw [← flat_take h]
  have e : ts.flatten = (ts.take (i + 1)).flatten ++ (ts.drop (i + 1)).flatten := by rw [← List.flatten_append, List.take_append_drop]
  rw [e] at hn
  exact (List.nodup_append.mp hn).1
/-- the next key is new -/
theorem bh_new {ts : List (List Int)} (hn : ts.flatten.Nodup) {i k : Nat} {row : List Int} (h : ts[i]? = some row) (hk : k < row.length) : ∀ p ∈ bhL (ts.take i) ++ bhR row k, p.1 ≠ bkD (row.getD k 0) := fun p hp e => by
  have nd := flat_nd hn h
  have e1 : p.1 ∈ (bhL (ts.take i) ++ bhR row k).map (·.1) := List.mem_map_of_mem hp
  rw [List.map_append, bhL_keys, bhR_keys (by omega), ← List.map_append] at e1
  obtain ⟨z, hz, e2⟩ := List.mem_map.mp e1
  have e3 := bk_inj (e2.trans e)
  subst e3
  have e4 : (ts.take i).flatten ++ row = ((ts.take i).flatten ++ row.take k) ++ row.drop k := by rw [List.append_assoc, List.take_append_drop]
  rw [e4] at nd
  refine (List.nodup_append.mp nd).2.2 _ hz _ ?_ rfl
  rw [List.getD_eq_getElem?_getD, List.getElem?_eq_getElem hk]
  exact List.mem_of_getElem? (i := 0) (by rw [List.getElem?_drop]; exact List.getElem?_eq_getElem hk)
theorem bhR_len (row : List Int) (k : Nat) : (bhR row k).length = k := by unfold bhR; rw [List.length_map, List.length_range]
theorem bhL_len (ts : List (List Int)) : (bhL ts).length = ts.flatten.length := by
  have := congrArg List.length (bhL_keys ts)
  rw [List.length_map, List.length_map] at this
  exact this
theorem VT.flat {n : Nat} {ps : List (Int × Int)} {ts : List (List Int)} (h : VT n ps ts) : ts.flatten.Nodup := by
  refine List.pairwise_flatten.mpr ⟨fun l hl => nd_row h hl, List.pairwise_iff_getElem.mpr fun i j hi hj hij x hx y hy e => ?_⟩
  subst e
  have a := ((h.mem (List.getElem?_eq_getElem hi)).mp hx).2
  have b := ((h.mem (List.getElem?_eq_getElem hj)).mp hy).2
  omega
theorem VT.flat_mem {n : Nat} {ps : List (Int × Int)} {ts : List (List Int)} (h : VT n ps ts) (hg : ∀ p ∈ ps, 0 ≤ p.1 ∧ p.1 < (n : Int) ∧ 0 ≤ p.2 ∧ p.2 < (n : Int)) {x : Int} : x ∈ ts.flatten ↔ 0 ≤ x ∧ x < 2 * (ps.length : Int) := by
  rw [List.mem_flatten]
  constructor
  · rintro ⟨r, hr, hx⟩
    exact h.in hr hx
  · intro hx
    obtain ⟨p, r, hp, hm⟩ := h.has hg hx
    exact ⟨r, List.mem_of_getElem? hp, hm⟩
theorem VT.flat_len {n : Nat} {ps : List (Int × Int)} {ts : List (List Int)} (h : VT n ps ts) : ts.flatten.length ≤ 2 * ps.length := by
  refine nd_few h.flat fun x hx => ?_
  obtain ⟨r, hr, hm⟩ := List.mem_flatten.mp hx
  have := h.in hr hm
  omega
/-- the dict of the darts behind -/
theorem bh_nd {ts : List (List Int)} (hn : ts.flatten.Nodup) : ((bhL ts).map (·.1)).Nodup := by
  rw [bhL_keys]
  exact List.Pairwise.map _ (fun a b h e => h (bk_inj e)) hn
/-- the keys are the numbers of all darts -/
theorem bh_sorted {n : Nat} {ps : List (Int × Int)} {ts : List (List Int)} (h : VT n ps ts) (hg : ∀ p ∈ ps, 0 ≤ p.1 ∧ p.1 < (n : Int) ∧ 0 ≤ p.2 ∧ p.2 < (n : Int)) {ms : List Int} (hp : ms.Perm ((bhL ts).map (·.1))) (hs : ms.Pairwise (· ≤ ·)) : ms = (List.range (2 * ps.length)).map fun (k : Nat) => (k : Int) := by
  have nd : ms.Nodup := hp.nodup_iff.mpr (bh_nd h.flat)
  have mem : ∀ x, x ∈ ms ↔ 0 ≤ x ∧ x < 2 * (ps.length : Int) := fun x => by
    rw [hp.mem_iff, bhL_keys]
    constructor
    · intro hx
      obtain ⟨y, hy, rfl⟩ := List.mem_map.mp hx
      exact bk_range ((h.flat_mem hg).mp hy)
    · intro hx
      exact List.mem_map.mpr ⟨bkD x, (h.flat_mem hg).mpr (bk_range hx), bk_bk x⟩
  have asc : ((List.range (2 * ps.length)).map fun (k : Nat) => (k : Int)).Pairwise (· < ·) := by
    rw [List.pairwise_map]
    exact (List.pairwise_lt_range (n := 2 * ps.length)).imp fun h => by omega
  refine asc_ext (srt_strict hs nd) asc fun x => ?_
  rw [mem, List.mem_map]
  constructor
  · intro hx
    exact ⟨x.toNat, List.mem_range.mpr (by omega), by omega⟩
  · rintro ⟨k, hk, rfl⟩
    have := List.mem_range.mp hk
    omega
theorem xor_one {d : Int} (h : 0 ≤ d) : Builtin.bitXor d 1 = bkD d := by
  rw [PyProof.Rows.bitXor_and, PyProof.Rows.bitAnd_m1]
  unfold bkD
  split <;> omega
end My

/-! ## a list of own lists that are written into; mixed results -/
namespace My
open PySem L2
/-- own lists at r, made since H0 -/
structure JagAt (H0 : Hp) (r : Addr) (H : Hp) (ys : List V) (L : List (List Int)) : Prop where
  tab : H r = some (.lst ys)
  rows : Bears (LiV r H) ys L
  nd : ys.Nodup
  new : ∀ A, V.ref A ∈ ys → H0 A = none
theorem JagAt.same {H0 H H' : Hp} {r : Addr} {ys : List V} {L : List (List Int)} (s : Same H H') (h : JagAt H0 r H ys L) : JagAt H0 r H' ys L := ⟨s _ _ h.tab, h.rows.imp fun _ _ q => q.same s, h.nd, h.new⟩
theorem JagAt.lists {H0 H : Hp} {r : Addr} {ys : List V} {L : List (List Int)} (h : JagAt H0 r H ys L) : Bears (ListV H) ys L := h.rows.imp fun _ _ q => q.list
theorem JagAt.at {H0 H : Hp} {r : Addr} {ys : List V} {L : List (List Int)} (h : JagAt H0 r H ys L) {i : Nat} (hi : i < L.length) : ∃ (A : Addr) (l : List Int), ys[i]? = some (.ref A) ∧ L[i]? = some l ∧ H A = some (.lst (IL l)) ∧ H0 A = none ∧ A ≠ r := by
  obtain ⟨l, e⟩ : ∃ l, L[i]? = some l := ⟨_, List.getElem?_eq_getElem hi⟩
  obtain ⟨v, e1, A, rfl, e2, e3⟩ := h.rows.2 i l e
  exact ⟨A, l, e1, e, e2, h.new A (List.mem_of_getElem? e1), e3⟩
theorem JagAt.put {H0 H : Hp} {r : Addr} {ys : List V} {L : List (List Int)} (h : JagAt H0 r H ys L) {i : Nat} {A : Addr} {l l' : List Int} (e1 : ys[i]? = some (.ref A)) (e2 : L[i]? = some l) (e3 : A ≠ r) : JagAt H0 r (upd H A (.lst (IL l'))) ys (L.set i l') := by
  have hi := (List.getElem?_eq_some_iff.mp e2).1
  refine ⟨by rw [upd_ne (Ne.symm e3)]; exact h.tab, ⟨by rw [List.length_set]; exact h.rows.1, fun j m em => ?_⟩, h.nd, h.new⟩
  rw [List.getElem?_set] at em
  by_cases c : i = j
  · subst c
    rw [if_pos rfl, if_pos hi] at em
    obtain rfl := Option.some.inj em
    exact ⟨_, e1, A, rfl, upd_same, e3⟩
  · rw [if_neg c] at em
    obtain ⟨v, f1, B, rfl, f2, f3⟩ := h.rows.2 j m em
    refine ⟨_, f1, B, rfl, ?_, f3⟩
    rw [upd_ne]
    · exact f2
    · intro e
      rw [e] at f1
      exact c (nodup_get h.nd e1 f1)
theorem range_set {n k : Nat} {g : Nat → List Int} {v : List Int} : ((List.range n).map g).set k v = (List.range n).map fun p => if p = k then v else g p := by
  refine List.ext_getElem? fun i => ?_
  rw [List.getElem?_set, List.length_map, List.length_range, List.getElem?_map]
  by_cases hi : i < n
  · rw [List.getElem?_map, List.getElem?_range hi]
    by_cases c : k = i
    · subst c
      rw [if_pos rfl, if_pos hi]
      simp
    · rw [if_neg c]
      show _ = some (if i = k then v else g i)
      rw [if_neg (Ne.symm c)]
      rfl
  · rw [List.getElem?_eq_none (by rw [List.length_range]; omega), List.getElem?_map, List.getElem?_eq_none (by rw [List.length_range]; omega)]
    split
    · rw [if_neg (by omega)]; rfl
    · rfl
theorem range_at {n k : Nat} {g : Nat → List Int} (h : k < n) : ((List.range n).map g)[k]? = some (g k) := by rw [List.getElem?_map, List.getElem?_range h]; rfl
/-- all darts of all places -/
def dtA (n : Nat) (ps : List (Int × Int)) (i : Nat) : List (List Int) := (List.range n).map fun (p : Nat) => dtU ps (p : Int) i
theorem dtA_succ {n : Nat} {ps : List (Int × Int)} {i : Nat} {a b : Nat} (e : ps.getD i (0, 0) = ((a : Int), (b : Int))) : ((dtA n ps i).set a (dtU ps a i ++ [2 * (i : Int)])).set b ((if b = a then dtU ps a i ++ [2 * (i : Int)] else dtU ps b i) ++ [2 * (i : Int) + 1]) = dtA n ps (i + 1) := by
  unfold dtA
  rw [range_set, range_set]
  refine List.map_congr_left fun p _ => ?_
  show _ = dtU ps p i ++ (if (ps.getD i (0, 0)).1 = (p : Int) then [2 * (i : Int)] else []) ++ (if (ps.getD i (0, 0)).2 = (p : Int) then [2 * (i : Int) + 1] else [])
  rw [e]
  show _ = dtU ps p i ++ (if (a : Int) = (p : Int) then [2 * (i : Int)] else []) ++ (if (b : Int) = (p : Int) then [2 * (i : Int) + 1] else [])
  by_cases c1 : p = b
  · subst c1
    rw [if_pos rfl, if_pos rfl]
    by_cases c2 : p = a
    · subst c2
      rw [if_pos rfl, if_pos rfl]
    · rw [if_neg c2, if_neg (fun z => c2 (by omega)), List.append_nil]
  · rw [if_neg c1, if_neg (c := (b : Int) = (p : Int)) (fun z => c1 (by omega)), List.append_nil]
    by_cases c2 : p = a
    · subst c2
      rw [if_pos rfl, if_pos rfl]
    · rw [if_neg c2, if_neg (fun z => c2 (by omega)), List.append_nil]
/-- sorted rows are all darts just where the turns hold each once -/
theorem vt_iff {n : Nat} {ps : List (Int × Int)} {ts ss : List (List Int)} (hl : ss.length = ts.length) (h : ∀ (i : Nat) (a b : List Int), ts[i]? = some a → ss[i]? = some b → b.Perm a ∧ b.Pairwise (· ≤ ·)) : ss = dtA n ps ps.length ↔ VT n ps ts := by
  have dl : (dtA n ps ps.length).length = n := by unfold dtA; rw [List.length_map, List.length_range]
  constructor
  · rintro rfl
    refine ⟨by omega, fun p row hp => ?_⟩
    have hpn : p < n := by have := (List.getElem?_eq_some_iff.mp hp).1; omega
    exact (h p row _ hp (range_at hpn)).1.symm
  · intro hv
    have hvl := hv.1
    refine List.ext_getElem? fun p => ?_
    by_cases hp : p < n
    · obtain ⟨a, ea⟩ : ∃ a, ts[p]? = some a := ⟨_, List.getElem?_eq_getElem (by omega)⟩
      obtain ⟨b, eb⟩ : ∃ b, ss[p]? = some b := ⟨_, List.getElem?_eq_getElem (by omega)⟩
      have e0 : (dtA n ps ps.length)[p]? = some (dts ps (p : Int)) := range_at hp
      rw [e0, eb]
      obtain ⟨h1, h2⟩ := h p a b ea eb
      have h3 := h1.trans (hv.2 p a ea)
      have nd : b.Nodup := h3.nodup_iff.mpr (asc_nd dts_asc)
      exact congrArg some (asc_ext (srt_strict h2 nd) dts_asc fun z => h3.mem_iff)
    · rw [List.getElem?_eq_none (by omega), List.getElem?_eq_none (by omega)]
end My

/-! ## more of own lists; rounds of turns -/
namespace My
open PySem L2
theorem JagAt.nil {H0 : Hp} {r : Addr} {H : Hp} (h : H r = some (.lst [])) : JagAt H0 r H [] [] := ⟨h, ⟨rfl, fun i l e => by simp at e⟩, .nil, fun A h => by cases h⟩
theorem JagAt.snoc {H0 H : Hp} {r A : Addr} {ys : List V} {L : List (List Int)} {l : List Int} (h : JagAt H0 r H ys L) (hA : H A = some (.lst (IL l))) (h0 : H0 A = none) (hne : A ≠ r) (hny : V.ref A ∉ ys) : JagAt H0 r (upd H r (.lst (ys ++ [.ref A]))) (ys ++ [.ref A]) (L ++ [l]) := by
  refine ⟨upd_same, ?_, nd_snoc h.nd hny, fun B hB => ?_⟩
  · exact (h.rows.imp fun _ _ q => q.mut).snoc ⟨A, rfl, by rw [upd_ne hne]; exact hA, hne⟩
  · rcases List.mem_append.mp hB with e | e
    · exact h.new B e
    · have : B = A := by simpa using e
      rw [this]; exact h0
/-- what is no list is none of them -/
theorem JagAt.oth {H0 H : Hp} {r g : Addr} {ys : List V} {L : List (List Int)} {o : HO} (h : JagAt H0 r H ys L) (hr : g ≠ r) (hg : ∀ xs, H g ≠ some (.lst xs)) : JagAt H0 r (upd H g o) ys L := by
  refine ⟨by rw [upd_ne (Ne.symm hr)]; exact h.tab, h.rows.imp fun _ _ ⟨A, e, h1, h2⟩ => ⟨A, e, ?_, h2⟩, h.nd, h.new⟩
  rw [upd_ne]
  · exact h1
  · intro z
    rw [z] at h1
    exact hg _ h1
theorem JagAt.fresh {H0 H : Hp} {r A : Addr} {ys : List V} {L : List (List Int)} (h : JagAt H0 r H ys L) (hA : H A = none) : V.ref A ∉ ys := fun hm => by
  obtain ⟨i, hi⟩ := List.getElem?_of_mem hm
  obtain ⟨l, _, B, e, h1, _⟩ := h.rows.at hi
  cases e
  rw [hA] at h1
  cases h1
/-- all rounds of the turns -/
def RdW (ps : List (Int × Int)) (ts : List (List Int)) (R : List (List Int)) : Prop := (ps.length = 0 ∧ R = [[]]) ∨ (0 < ps.length ∧ Rds (bhL ts) (2 * ps.length) R)
theorem RdW.uniq {n : Nat} {ps : List (Int × Int)} {ts R1 R2 : List (List Int)} (h : VT n ps ts) (h1 : RdW ps ts R1) (h2 : RdW ps ts R2) : R1 = R2 := by
  rcases h1 with ⟨a, rfl⟩ | ⟨a, b⟩
  · rcases h2 with ⟨_, rfl⟩ | ⟨c, _⟩
    · rfl
    · omega
  · rcases h2 with ⟨c, _⟩ | ⟨_, d⟩
    · omega
    · exact b.uniq (fun x y z => bh_fun h) d
theorem Rds.range {B : List (Int × Int)} {M : Int} (hr : ∀ x y, (x, y) ∈ B → (0 ≤ x ∧ x < M) ∧ 0 ≤ y ∧ y < M) {k : Nat} {R : List (List Int)} (h : Rds B k R) : ∀ x ∈ R.flatten, 0 ≤ x ∧ x < M := fun x hx => by
  obtain ⟨row, h1, h2⟩ := List.mem_flatten.mp hx
  obtain ⟨d, o⟩ := h.orbs row h1
  exact orb_range hr o x h2
end My

/-! ## turns with one tie more -/
namespace My
open PySem L2
/-- a row with the new darts ahead of two -/
def putR (one : Int) (other : Option Int) (d0 d1 : Int) (row : List Int) : List Int := row.flatMap fun d => (if d = one then [d0] else []) ++ (if some d = other then [d1] else []) ++ [d]
theorem putR_perm (one d0 d1 : Int) (other : Option Int) : ∀ {row : List Int}, row.Nodup → (putR one other d0 d1 row).Perm (row ++ (if one ∈ row then [d0] else []) ++ (if ∃ o, other = some o ∧ o ∈ row then [d1] else []))
  | [], _ => by simp [putR]
  | z :: row, h => by
    have h' := List.nodup_cons.mp h
    have ih := putR_perm one d0 d1 other h'.2
    have e : putR one other d0 d1 (z :: row) = (if z = one then [d0] else []) ++ (if some z = other then [d1] else []) ++ [z] ++ putR one other d0 d1 row := rfl
    rw [e]
    refine ((List.Perm.refl _).append ih).trans ?_
    have c1 : (if one ∈ z :: row then [d0] else []) = (if z = one then [d0] else []) ++ (if one ∈ row then [d0] else []) := by
      by_cases a : z = one
      · rw [if_pos a, if_pos (by rw [a]; exact List.mem_cons_self), if_neg (fun hm => h'.1 (by rw [a]; exact hm))]; rfl
      · rw [if_neg a]
        by_cases b : one ∈ row
        · rw [if_pos b, if_pos (List.mem_cons_of_mem _ b)]; rfl
        · rw [if_neg b, if_neg (fun hm => (List.mem_cons.mp hm).elim (fun e => a e.symm) b)]; rfl
    have c2 : (if ∃ o, other = some o ∧ o ∈ z :: row then [d1] else []) = (if some z = other then [d1] else []) ++ (if ∃ o, other = some o ∧ o ∈ row then [d1] else []) := by
      by_cases a : some z = other
      · rw [if_pos a, if_pos ⟨z, a.symm, List.mem_cons_self⟩, if_neg (fun ⟨o, e1, e2⟩ => h'.1 (by rw [← a] at e1; rw [Option.some.inj e1]; exact e2))]; rfl
      · rw [if_neg a]
        by_cases b : ∃ o, other = some o ∧ o ∈ row
        · rw [if_pos b, if_pos (let ⟨o, e1, e2⟩ := b; ⟨o, e1, List.mem_cons_of_mem _ e2⟩)]; rfl
        · rw [if_neg b, if_neg (fun ⟨o, e1, e2⟩ => (List.mem_cons.mp e2).elim (fun e => a (by rw [e1, e])) fun hm => b ⟨o, e1, hm⟩)]; rfl
    rw [c1, c2]
    generalize (if z = one then [d0] else ([] : List Int)) = A
    generalize (if some z = other then [d1] else ([] : List Int)) = B
    generalize (if one ∈ row then [d0] else ([] : List Int)) = C
    generalize (if ∃ o, other = some o ∧ o ∈ row then [d1] else ([] : List Int)) = D
    refine List.perm_iff_count.mpr fun x => ?_
    simp only [List.count_append, List.cons_append, List.count_cons, List.count_nil]
    omega
theorem dts_snoc (ps : List (Int × Int)) (e : Int × Int) (p : Int) : dts (ps ++ [e]) p = dts ps p ++ (if e.1 = p then [2 * (ps.length : Int)] else []) ++ (if e.2 = p then [2 * (ps.length : Int) + 1] else []) := by
  have cg : ∀ i, i ≤ ps.length → dtU (ps ++ [e]) p i = dtU ps p i := fun i => by
    induction i with
    | zero => intro _; rfl
    | succ i ih =>
      intro hi
      have g : (ps ++ [e]).getD i (0, 0) = ps.getD i (0, 0) := by rw [List.getD_eq_getElem?_getD, List.getElem?_append_left (by omega), ← List.getD_eq_getElem?_getD]
      show dtU (ps ++ [e]) p i ++ _ ++ _ = dtU ps p i ++ _ ++ _
      rw [ih (by omega), g]
  unfold dts
  rw [List.length_append, List.length_singleton]
  have g : (ps ++ [e]).getD ps.length (0, 0) = e := by rw [List.getD_eq_getElem?_getD, List.getElem?_append_right (Nat.le_refl _), Nat.sub_self]; rfl
  show dtU (ps ++ [e]) p ps.length ++ (if ((ps ++ [e]).getD ps.length (0, 0)).1 = p then _ else _) ++ (if ((ps ++ [e]).getD ps.length (0, 0)).2 = p then _ else _) = _
  rw [cg _ (Nat.le_refl _), g]
/-- the new darts and the new tie's ends, by turns -/
def NewD (m : Nat) (d0 d1 : Int) (a b : Int) (e : Int × Int) : Prop := (d0 = 2 * (m : Int) ∧ d1 = 2 * (m : Int) + 1 ∧ e = (a, b)) ∨ (d0 = 2 * (m : Int) + 1 ∧ d1 = 2 * (m : Int) ∧ e = (b, a))
theorem new_row {ps : List (Int × Int)} {d0 d1 a b : Int} {e : Int × Int} (hN : NewD ps.length d0 d1 a b e) {p : Int} {l : List Int} (hl : l.Perm (dts ps p)) : (l ++ (if a = p then [d0] else []) ++ (if b = p then [d1] else [])).Perm (dts (ps ++ [e]) p) := by
  rw [dts_snoc]
  rcases hN with ⟨rfl, rfl, rfl⟩ | ⟨rfl, rfl, rfl⟩
  · exact (hl.append (.refl _)).append (.refl _)
  · refine List.perm_iff_count.mpr fun x => ?_
    have := List.perm_iff_count.mp hl x
    show List.count x (l ++ (if a = p then [2 * (ps.length : Int) + 1] else []) ++ (if b = p then [2 * (ps.length : Int)] else [])) = List.count x (dts ps p ++ (if b = p then [2 * (ps.length : Int)] else []) ++ (if a = p then [2 * (ps.length : Int) + 1] else []))
    simp only [List.count_append]
    omega
section
variable {n : Nat} {ps : List (Int × Int)} {ts : List (List Int)}
theorem VT.place (h : VT n ps ts) {x : Int} {p q : Nat} {row row' : List Int} (hp : ts[p]? = some row) (hx : x ∈ row) (hq : ts[q]? = some row') : x ∈ row' ↔ (p : Int) = q := by
  have a := ((h.mem hp).mp hx)
  constructor
  · intro hx'
    have b := ((h.mem hq).mp hx').2
    omega
  · intro e
    exact (h.mem hq).mpr ⟨a.1, by omega⟩
/-- between two darts -/
theorem vt_join (h : VT n ps ts) {one other d0 d1 : Int} {p q : Nat} {r1 r2 : List Int} {e : Int × Int} (hp : ts[p]? = some r1) (hx : one ∈ r1) (hq : ts[q]? = some r2) (hy : other ∈ r2) (hN : NewD ps.length d0 d1 p q e) : VT n (ps ++ [e]) (ts.map (putR one (some other) d0 d1)) := by
  refine ⟨by rw [List.length_map]; exact h.1, fun k row hk => ?_⟩
  rw [List.getElem?_map] at hk
  cases hr : ts[k]? with
  | none => rw [hr] at hk; cases hk
  | some r =>
    rw [hr] at hk
    obtain rfl : putR one (some other) d0 d1 r = row := Option.some.inj hk
    refine (putR_perm one d0 d1 (some other) (h.nodup hr)).trans ?_
    have c1 : (one ∈ r) = ((p : Int) = k) := propext (h.place hp hx hr)
    have c2 : (∃ o, some other = some o ∧ o ∈ r) = ((q : Int) = k) := propext ⟨fun ⟨o, e1, e2⟩ => (h.place hq hy hr).mp (by rw [Option.some.inj e1]; exact e2), fun z => ⟨other, rfl, (h.place hq hy hr).mpr z⟩⟩
    have := new_row hN (p := (k : Int)) (h.2 k r hr)
    by_cases a1 : (p : Int) = k
    · rw [if_pos a1] at this
      rw [if_pos (c1 ▸ a1)]
      by_cases a2 : (q : Int) = k
      · rw [if_pos a2] at this
        rw [if_pos (c2 ▸ a2)]
        exact this
      · rw [if_neg a2] at this
        rw [if_neg (c2 ▸ a2)]
        exact this
    · rw [if_neg a1] at this
      rw [if_neg (c1 ▸ a1)]
      by_cases a2 : (q : Int) = k
      · rw [if_pos a2] at this
        rw [if_pos (c2 ▸ a2)]
        exact this
      · rw [if_neg a2] at this
        rw [if_neg (c2 ▸ a2)]
        exact this
/-- to a new place -/
theorem vt_grow (h : VT n ps ts) (hg : ∀ p ∈ ps, 0 ≤ p.1 ∧ p.1 < (n : Int) ∧ 0 ≤ p.2 ∧ p.2 < (n : Int)) {one d0 d1 : Int} {p : Nat} {r1 : List Int} {e : Int × Int} (hp : ts[p]? = some r1) (hx : one ∈ r1) (hN : NewD ps.length d0 d1 p n e) : VT (n + 1) (ps ++ [e]) (ts.map (putR one none d0 d1) ++ [[d1]]) := by
  have hl := h.1
  have hpn := (List.getElem?_eq_some_iff.mp hp).1
  refine ⟨by rw [List.length_append, List.length_map, hl]; rfl, fun k row hk => ?_⟩
  by_cases c : k < n
  · rw [List.getElem?_append_left (by rw [List.length_map]; omega), List.getElem?_map] at hk
    cases hr : ts[k]? with
    | none => rw [hr] at hk; cases hk
    | some r =>
      rw [hr] at hk
      obtain rfl : putR one none d0 d1 r = row := Option.some.inj hk
      refine (putR_perm one d0 d1 none (h.nodup hr)).trans ?_
      have c1 : (one ∈ r) = ((p : Int) = k) := propext (h.place hp hx hr)
      have := new_row hN (p := (k : Int)) (h.2 k r hr)
      rw [if_neg (show ¬ (n : Int) = (k : Int) by omega)] at this
      rw [if_neg (show ¬ ∃ o, (none : Option Int) = some o ∧ o ∈ r from fun ⟨o, e1, _⟩ => by cases e1)]
      by_cases a1 : (p : Int) = k
      · rw [if_pos a1] at this
        rw [if_pos (c1 ▸ a1)]
        exact this
      · rw [if_neg a1] at this
        rw [if_neg (c1 ▸ a1)]
        exact this
  · have lt := (List.getElem?_eq_some_iff.mp hk).1
    rw [List.length_append, List.length_map, List.length_singleton] at lt
    have ek : k = n := by omega
    subst ek
    rw [List.getElem?_append_right (by rw [List.length_map]; omega), List.length_map, hl, Nat.sub_self] at hk
    obtain rfl : [d1] = row := Option.some.inj hk
    have d0e : dts ps (k : Int) = [] := by
      refine List.eq_nil_iff_forall_not_mem.mpr fun x hx => ?_
      have := dts_mem.mp hx
      have := own_range hg this.1
      omega
    have := new_row hN (p := (k : Int)) (l := []) (by rw [d0e])
    rw [if_neg (show ¬ (p : Int) = (k : Int) by omega), if_pos rfl] at this
    exact this
end
/-- of which place a dart is: the dict -/
def plR (row : List Int) (k : Int) : List (Int × Int) := row.map fun d => (d, k)
def plL (ts : List (List Int)) : Nat → List (Int × Int)
  | 0 => []
  | i + 1 => plL ts i ++ plR (ts.getD i []) i
theorem plL_keys (ts : List (List Int)) : ∀ i, i ≤ ts.length → (plL ts i).map (·.1) = (ts.take i).flatten
  | 0, _ => by simp [plL]
  | i + 1, h => by
    obtain ⟨row, hr⟩ : ∃ row, ts[i]? = some row := ⟨_, List.getElem?_eq_getElem (by omega)⟩
    show (plL ts i ++ plR (ts.getD i []) i).map (·.1) = _
    rw [List.map_append, plL_keys ts i (by omega), flat_take hr, show ts.getD i [] = row by rw [List.getD_eq_getElem?_getD, hr]; rfl]
    unfold plR
    rw [List.map_map]
    congr 1
    exact List.map_id'' (fun _ => rfl) row
theorem plL_mem {ts : List (List Int)} {p : Nat} {row : List Int} {x : Int} (hp : ts[p]? = some row) (hx : x ∈ row) : ∀ {i : Nat}, p < i → (x, (p : Int)) ∈ plL ts i
  | i + 1, h => by
    show _ ∈ plL ts i ++ plR (ts.getD i []) i
    rw [List.mem_append]
    by_cases c : p = i
    · subst c
      refine .inr (List.mem_map.mpr ⟨x, ?_, rfl⟩)
      rw [List.getD_eq_getElem?_getD, hp]
      exact hx
    · exact .inl (plL_mem hp hx (by omega))
end My

/-! ## short displays in one step (nested pa_cons are slow to read) -/
namespace L2
open PySem PySem.Spec PyProof.Rows
section
variable {X : Cx} {a b c : Expr} {ta tb tc : TE} {pos : Pos}
theorem pe_lst1 (ha : PE X a ta) (h1 : starEach [a] X.env = [(false, eval a X.env)] := by rfl) : PE X (.List [a] pos) (tLst (tCons ta tNil)) := pe_lst (pa_cons ha pa_nil h1)
theorem pe_lst2 (ha : PE X a ta) (hb : PE X b tb) (h1 : starEach [a, b] X.env = (false, eval a X.env) :: starEach [b] X.env := by rfl) (h2 : starEach [b] X.env = [(false, eval b X.env)] := by rfl) : PE X (.List [a, b] pos) (tLst (tCons ta (tCons tb tNil))) := pe_lst (pa_cons ha (pa_cons hb pa_nil h2) h1)
theorem pe_tup2 {k : Nat} (ha : PE X a ta) (hb : PE X b tb) (h1 : starEach [a, b] X.env = (false, eval a X.env) :: starEach [b] X.env := by rfl) (h2 : starEach [b] X.env = [(false, eval b X.env)] := by rfl) : PE X (.Tuple [a, b] k pos) (tTup (tCons ta (tCons tb tNil))) := pe_tup (pa_cons ha (pa_cons hb pa_nil h2) h1)
theorem pe_tup3 {k : Nat} (ha : PE X a ta) (hb : PE X b tb) (hc : PE X c tc) (h1 : starEach [a, b, c] X.env = (false, eval a X.env) :: starEach [b, c] X.env := by rfl) (h2 : starEach [b, c] X.env = (false, eval b X.env) :: starEach [c] X.env := by rfl) (h3 : starEach [c] X.env = [(false, eval c X.env)] := by rfl) : PE X (.Tuple [a, b, c] k pos) (tTup (tCons ta (tCons tb (tCons tc tNil)))) := pe_tup (pa_cons ha (pa_cons hb (pa_cons hc pa_nil h3) h2) h1)
end
end L2

/-! ## flat webs: numbers of rounds, the other web's ties; spoilt turns -/
namespace My
open PySem L2
/-- where the web lies flat by its rounds -/
def Flat (n : Int) (ps : List (Int × Int)) (R : List (List Int)) : Prop := Joined n ps ∧ n - (ps.length : Int) + (R.length : Int) = 2
theorem RdW.nodup {n : Nat} {ps : List (Int × Int)} {ts R : List (List Int)} (hV : VT n ps ts) (h : RdW ps ts R) : R.flatten.Nodup := by
  rcases h with ⟨_, rfl⟩ | ⟨_, h⟩
  · exact .nil
  · exact h.nodup fun x y z => bh_inj hV
theorem RdW.all {n : Nat} {ps : List (Int × Int)} {ts R : List (List Int)} (hV : VT n ps ts) (h : RdW ps ts R) {x : Int} (hx : 0 ≤ x ∧ x < 2 * (ps.length : Int)) : x ∈ R.flatten := by
  rcases h with ⟨h0, _⟩ | ⟨_, h⟩
  · omega
  · exact h.below x hx.1 (by omega)
end My

/-! ## x == y, each a text or a tuple -/
namespace L2
open PySem PySem.Spec PyProof.Rows
section
variable {X : Cx}
end
end L2

/-! ## what is told of the other web -/
namespace My
open PySem L2
end My

/-! ## rounds in any order, and with one tie more -/
namespace My
open PySem L2
/-- each pair of neighbours is in B -/
def Ch (B : List (Int × Int)) (l : List Int) : Prop := ∀ (i : Nat) (x y : Int), l[i]? = some x → l[i + 1]? = some y → (x, y) ∈ B
theorem ch_append {B : List (Int × Int)} {a b : List Int} : Ch B (a ++ b) ↔ Ch B a ∧ Ch B b ∧ ∀ x ∈ a.getLast?, ∀ y ∈ b.head?, (x, y) ∈ B := by
  constructor
  · intro h
    refine ⟨fun i x y h1 h2 => h i x y ?_ ?_, fun i x y h1 h2 => h (a.length + i) x y ?_ ?_, fun x hx y hy => ?_⟩
    · rw [List.getElem?_append_left (List.getElem?_eq_some_iff.mp h1).1]; exact h1
    · rw [List.getElem?_append_left (List.getElem?_eq_some_iff.mp h2).1]; exact h2
    · rw [List.getElem?_append_right (by omega), Nat.add_sub_cancel_left]; exact h1
    · rw [List.getElem?_append_right (by omega), Nat.add_assoc, Nat.add_sub_cancel_left]; exact h2
    · have hx : a.getLast? = some x := hx
      have hy : b.head? = some y := hy
      rw [List.getLast?_eq_getElem?] at hx
      rw [List.head?_eq_getElem?] at hy
      have hl := (List.getElem?_eq_some_iff.mp hx).1
      refine h (a.length - 1) x y ?_ ?_
      · rw [List.getElem?_append_left hl]; exact hx
      · rw [List.getElem?_append_right (by omega), show a.length - 1 + 1 - a.length = 0 by omega]; exact hy
  · rintro ⟨h1, h2, h3⟩ i x y e1 e2
    by_cases c : i + 1 < a.length
    · rw [List.getElem?_append_left (by omega)] at e1 e2
      exact h1 i x y e1 e2
    by_cases c2 : i < a.length
    · rw [List.getElem?_append_left c2] at e1
      rw [List.getElem?_append_right (by omega), show i + 1 - a.length = 0 by omega] at e2
      refine h3 x ?_ y ?_
      · show a.getLast? = some x
        rw [List.getLast?_eq_getElem?, show a.length - 1 = i by omega]; exact e1
      · show b.head? = some y
        rw [List.head?_eq_getElem?]; exact e2
    · rw [List.getElem?_append_right (by omega)] at e1 e2
      exact h2 (i - a.length) x y e1 (by rw [show i - a.length + 1 = i + 1 - a.length by omega]; exact e2)
theorem gl_app {a b : List Int} (h : b ≠ []) : (a ++ b).getLast? = b.getLast? := by
  rw [List.getLast?_append]
  cases e : b.getLast? with
  | none => exact absurd (List.getLast?_eq_none_iff.mp e) h
  | some x => rfl
theorem hd_app {a b : List Int} (h : a ≠ []) : (a ++ b).head? = a.head? := by
  cases a with
  | nil => exact absurd rfl h
  | cons x t => rfl
theorem ch_cons {B : List (Int × Int)} {x z : Int} {t : List Int} (h : Ch B (x :: z :: t)) : (x, z) ∈ B ∧ Ch B (z :: t) :=
  ⟨h 0 x z rfl rfl, fun i a b h1 h2 => h (i + 1) a b h1 h2⟩
/-- a round, from wherever it is told -/
def Cy (B : List (Int × Int)) (row : List Int) : Prop := row ≠ [] ∧ row.Nodup ∧ Ch B row ∧ ∀ x ∈ row.getLast?, ∀ y ∈ row.head?, (x, y) ∈ B
theorem Orb.cy {B : List (Int × Int)} {d : Int} {row : List Int} (h : Orb B d row) : Cy B row := by
  have p := h.pos
  refine ⟨fun e => by rw [e] at p; exact absurd p (by decide), h.2.1, h.2.2.1, fun x hx y hy => ?_⟩
  have e1 : row.head? = some d := by rw [List.head?_eq_getElem?]; exact h.1
  rw [e1] at hy
  cases hy
  exact h.2.2.2 x (by rw [← List.getLast?_eq_getElem?]; exact hx)
theorem Cy.rot {B : List (Int × Int)} {a b : List Int} (h : Cy B (a ++ b)) : Cy B (b ++ a) := by
  obtain ⟨h1, h2, h3, h4⟩ := h
  by_cases ca : a = []
  · subst ca; rw [List.append_nil]; exact ⟨h1, h2, h3, h4⟩
  by_cases cb : b = []
  · subst cb; rw [List.append_nil] at h1 h2 h3 h4; exact ⟨h1, h2, h3, h4⟩
  obtain ⟨c1, c2, c3⟩ := ch_append.mp h3
  refine ⟨by simp [ca], (List.perm_append_comm (l₁ := a) (l₂ := b)).nodup_iff.mp h2, ch_append.mpr ⟨c2, c1, fun x hx y hy => h4 x ?_ y ?_⟩, fun x hx y hy => c3 x ?_ y ?_⟩
  · rw [gl_app cb]; exact hx
  · rw [hd_app ca]; exact hy
  · rw [gl_app ca] at hx; exact hx
  · rw [hd_app cb] at hy; exact hy
theorem Cy.from {B : List (Int × Int)} {row : List Int} (h : Cy B row) {x : Int} (hx : x ∈ row) : ∃ t, Cy B (x :: t) ∧ (x :: t).Perm row := by
  obtain ⟨s, t, rfl⟩ := List.append_of_mem hx
  exact ⟨t ++ s, h.rot, List.perm_append_comm (l₁ := x :: t) (l₂ := s)⟩
/-- what comes behind a dart of a round is in it -/
theorem Cy.next {B : List (Int × Int)} (hf : ∀ x y z, (x, y) ∈ B → (x, z) ∈ B → y = z) {row : List Int} (h : Cy B row) {x y : Int} (hx : x ∈ row) (hb : (x, y) ∈ B) : y ∈ row := by
  obtain ⟨t, ht, hp⟩ := h.from hx
  refine hp.mem_iff.mp ?_
  cases t with
  | nil =>
    have := ht.2.2.2 x rfl x rfl
    rw [hf _ _ _ hb this]
    exact List.mem_cons_self
  | cons z t =>
    have := (ch_cons ht.2.2.1).1
    rw [hf _ _ _ hb this]
    exact List.mem_cons_of_mem _ List.mem_cons_self
theorem chain_sub {B : List (Int × Int)} (hf : ∀ x y z, (x, y) ∈ B → (x, z) ∈ B → y = z) {r : List Int} (h : Cy B r) : ∀ {l : List Int} {x : Int}, Ch B (x :: l) → x ∈ r → ∀ y ∈ x :: l, y ∈ r
  | [], x, _, hx, y, hy => by rw [List.mem_singleton.mp hy]; exact hx
  | z :: l, x, hc, hx, y, hy => by
    obtain ⟨h1, h2⟩ := ch_cons hc
    rcases List.mem_cons.mp hy with e | e
    · rw [e]; exact hx
    · exact chain_sub hf h h2 (h.next hf hx h1) y e
theorem Cy.sub {B : List (Int × Int)} (hf : ∀ x y z, (x, y) ∈ B → (x, z) ∈ B → y = z) {r1 r2 : List Int} (h1 : Cy B r1) (h2 : Cy B r2) {x : Int} (hx1 : x ∈ r1) (hx2 : x ∈ r2) : ∀ y ∈ r1, y ∈ r2 := fun y hy => by
  obtain ⟨t, ht, hp⟩ := h1.from hx1
  exact chain_sub hf h2 ht.2.2.1 hx2 y (hp.mem_iff.mpr hy)
/-- all rounds, in any order -/
def OP (B : List (Int × Int)) (M : Nat) (L : List (List Int)) : Prop := (∀ row ∈ L, Cy B row) ∧ L.flatten.Nodup ∧ ∀ x : Int, x ∈ L.flatten ↔ 0 ≤ x ∧ x < (M : Int)
theorem oq_le {B : List (Int × Int)} (hf : ∀ x y z, (x, y) ∈ B → (x, z) ∈ B → y = z) {M : Nat} {L1 L2 : List (List Int)} (h1 : OP B M L1) (h2 : OP B M L2) : L1.length ≤ L2.length := by
  obtain ⟨a1, a2, a3⟩ := h1
  obtain ⟨b1, b2, b3⟩ := h2
  have dis := (List.pairwise_flatten.mp a2).2
  have ex : ∀ row : List Int, ∃ q : Int, row ∈ L1 → (0 ≤ q ∧ q < (L2.length : Int)) ∧ ∃ row2, L2[q.toNat]? = some row2 ∧ ∃ x ∈ row, x ∈ row2 := fun row => by
    by_cases c : row ∈ L1
    · obtain ⟨x, hx⟩ : ∃ x, x ∈ row := by
        cases row with
        | nil => exact absurd rfl (a1 _ c).1
        | cons x t => exact ⟨x, List.mem_cons_self⟩
      obtain ⟨row2, m2, hx2⟩ := List.mem_flatten.mp ((b3 x).mpr ((a3 x).mp (List.mem_flatten.mpr ⟨row, c, hx⟩)))
      obtain ⟨i, hi⟩ := List.getElem?_of_mem m2
      have := (List.getElem?_eq_some_iff.mp hi).1
      exact ⟨(i : Int), fun _ => ⟨by omega, row2, by rw [Int.toNat_natCast]; exact hi, x, hx, hx2⟩⟩
    · exact ⟨0, fun h => absurd h c⟩
  obtain ⟨g, hg⟩ : ∃ g : List Int → Int, ∀ row, row ∈ L1 → (0 ≤ g row ∧ g row < (L2.length : Int)) ∧ ∃ row2, L2[(g row).toNat]? = some row2 ∧ ∃ x ∈ row, x ∈ row2 := ⟨fun r => (ex r).choose, fun r => (ex r).choose_spec⟩
  have nd : (L1.map g).Nodup := by
    refine List.pairwise_map.mpr (List.pairwise_iff_getElem.mpr fun i j hi hj hij e => ?_)
    have mi : L1[i] ∈ L1 := List.getElem_mem hi
    have mj : L1[j] ∈ L1 := List.getElem_mem hj
    obtain ⟨_, r2, e2, x, hx, hx2⟩ := hg _ mi
    obtain ⟨_, r3, e3, y, hy, hy2⟩ := hg _ mj
    rw [e, e3] at e2
    obtain rfl := Option.some.inj e2
    have hc := b1 r3 (List.mem_of_getElem? e3)
    have := hc.sub hf (a1 _ mi) hx2 hx y hy2
    exact List.pairwise_iff_getElem.mp dis i j hi hj hij y this y hy rfl
  have := nd_few nd (M := L2.length) fun x hx => by
    obtain ⟨r, hr, rfl⟩ := List.mem_map.mp hx
    exact (hg r hr).1
  rw [List.length_map] at this
  exact this
section
variable {n : Nat} {ps : List (Int × Int)} {ts R L : List (List Int)}
theorem RdW.op (hV : VT n ps ts) (h0 : 0 < ps.length) (h : RdW ps ts R) : OP (bhL ts) (2 * ps.length) R := by
  rcases h with ⟨e, _⟩ | ⟨_, h⟩
  · omega
  have rg : ∀ x y, (x, y) ∈ bhL ts → (0 ≤ x ∧ x < ((2 * ps.length : Nat) : Int)) ∧ 0 ≤ y ∧ y < ((2 * ps.length : Nat) : Int) := fun x y hxy => by have := bh_range hV hxy; omega
  exact ⟨fun row hr => by obtain ⟨d, o⟩ := h.orbs row hr; exact o.cy, h.nodup fun x y z => bh_inj hV, fun x => ⟨h.range rg x, fun hx => h.below x hx.1 hx.2⟩⟩
theorem oq_len (hV : VT n ps ts) (h0 : 0 < ps.length) (h : RdW ps ts R) (hL : OP (bhL ts) (2 * ps.length) L) : R.length = L.length :=
  Nat.le_antisymm (oq_le (fun x y z => bh_fun hV) (h.op hV h0) hL) (oq_le (fun x y z => bh_fun hV) hL (h.op hV h0))
end
/-! neighbours in a ring of darts -/
def Nb (row : List Int) (a b : Int) : Prop := (∃ s t, row = s ++ a :: b :: t) ∨ (∃ s, row = s ++ [a]) ∧ ∃ t, row = b :: t
theorem nb_bh {ts : List (List Int)} {row : List Int} {a b : Int} (hr : row ∈ ts) (h : Nb row a b) : (bkD a, b) ∈ bhL ts := by
  refine bhL_mem.mpr ⟨row, hr, ?_⟩
  rcases h with ⟨s, t, rfl⟩ | ⟨⟨s, e1⟩, t, e2⟩
  · refine ⟨s.length, by simp, ?_, ?_⟩
    · rw [List.getD_eq_getElem?_getD, List.getElem?_append_right (Nat.le_refl _), Nat.sub_self]; rfl
    · rw [Nat.mod_eq_of_lt (by simp), List.getD_eq_getElem?_getD, List.getElem?_append_right (by omega), Nat.add_sub_cancel_left]; rfl
  · have hl : row.length = s.length + 1 := by rw [e1]; simp
    refine ⟨s.length, by omega, ?_, ?_⟩
    · rw [e1, List.getD_eq_getElem?_getD, List.getElem?_append_right (Nat.le_refl _), Nat.sub_self]; rfl
    · rw [hl, Nat.mod_self, e2]; rfl
theorem bh_nb {ts : List (List Int)} {x y : Int} (h : (x, y) ∈ bhL ts) : ∃ row ∈ ts, ∃ a, x = bkD a ∧ Nb row a y := by
  obtain ⟨row, hr, i, hi, e1, e2⟩ := bhL_mem.mp h
  refine ⟨row, hr, row.getD i 0, e1, ?_⟩
  have ga : row.getD i 0 = row[i] := by rw [List.getD_eq_getElem?_getD, List.getElem?_eq_getElem hi]; rfl
  by_cases c : i + 1 < row.length
  · rw [Nat.mod_eq_of_lt c, List.getD_eq_getElem?_getD, List.getElem?_eq_getElem c] at e2
    left
    refine ⟨row.take i, row.drop (i + 2), ?_⟩
    rw [ga, show y = row[i + 1] from e2, ← List.drop_eq_getElem_cons c, ← List.drop_eq_getElem_cons hi, List.take_append_drop]
  · right
    have hl : i + 1 = row.length := by omega
    rw [hl, Nat.mod_self] at e2
    constructor
    · refine ⟨row.take i, ?_⟩
      have := List.take_append_drop i row
      rw [List.drop_eq_getElem_cons hi, List.drop_eq_nil_of_le (by omega)] at this
      rw [ga]; exact this.symm
    · cases row with
      | nil => exact absurd hi (by simp)
      | cons z t => exact ⟨t, by rw [show y = z from e2]⟩
/-! the dart behind, with one tie more -/
section
variable {one d0 d1 : Int} {other : Option Int}
def hdD (one : Int) (other : Option Int) (d0 d1 y : Int) : Int := if y = one then d0 else if some y = other then d1 else y
theorem putR_app (a b : List Int) : putR one other d0 d1 (a ++ b) = putR one other d0 d1 a ++ putR one other d0 d1 b := List.flatMap_append
theorem putR_cons (z : Int) (t : List Int) : putR one other d0 d1 (z :: t) = (if z = one then [d0] else []) ++ (if some z = other then [d1] else []) ++ z :: putR one other d0 d1 t := by
  show ((if z = one then [d0] else []) ++ (if some z = other then [d1] else []) ++ [z]) ++ putR one other d0 d1 t = _
  rw [List.append_assoc]; rfl
theorem putR_hd (z : Int) (t : List Int) : ∃ u, putR one other d0 d1 (z :: t) = hdD one other d0 d1 z :: u := by
  rw [putR_cons]
  unfold hdD
  by_cases c1 : z = one
  · rw [if_pos c1, if_pos c1]; exact ⟨_, rfl⟩
  · rw [if_neg c1, if_neg c1]
    by_cases c2 : some z = other
    · rw [if_pos c2, if_pos c2]; exact ⟨_, rfl⟩
    · rw [if_neg c2, if_neg c2]; exact ⟨_, rfl⟩
theorem putR_one (t : List Int) : ∃ u, putR one other d0 d1 (one :: t) = d0 :: (if other = some one then d1 else one) :: u := by
  rw [putR_cons, if_pos rfl]
  by_cases c : other = some one
  · rw [if_pos c, if_pos c.symm]; exact ⟨_, rfl⟩
  · rw [if_neg c, if_neg (fun e => c e.symm)]; exact ⟨_, rfl⟩
theorem putR_two (o : Int) (t : List Int) : ∃ s u, putR one (some o) d0 d1 (o :: t) = s ++ d1 :: o :: u := by
  rw [putR_cons, if_pos rfl, List.append_assoc]
  exact ⟨_, _, rfl⟩
theorem nb_put {row : List Int} {a b : Int} (h : Nb row a b) : Nb (putR one other d0 d1 row) a (hdD one other d0 d1 b) := by
  rcases h with ⟨s, t, rfl⟩ | ⟨⟨s, e1⟩, t, e2⟩
  · left
    obtain ⟨u, hu⟩ := putR_hd (one := one) (d0 := d0) (d1 := d1) (other := other) b t
    rw [putR_app, putR_cons, hu, ← List.append_assoc]
    exact ⟨_, _, rfl⟩
  · right
    constructor
    · rw [e1, putR_app, putR_cons, ← List.append_assoc]
      exact ⟨_, rfl⟩
    · rw [e2]; exact putR_hd b t
theorem nb_one {row : List Int} (h : one ∈ row) : Nb (putR one other d0 d1 row) d0 (if other = some one then d1 else one) := by
  obtain ⟨s, t, rfl⟩ := List.append_of_mem h
  obtain ⟨u, hu⟩ := putR_one (one := one) (d0 := d0) (d1 := d1) (other := other) t
  rw [putR_app, hu]
  exact .inl ⟨_, _, rfl⟩
theorem nb_two {row : List Int} {o : Int} (h : o ∈ row) : Nb (putR one (some o) d0 d1 row) d1 o := by
  obtain ⟨s, t, rfl⟩ := List.append_of_mem h
  obtain ⟨v, u, hu⟩ := putR_two (one := one) (d0 := d0) (d1 := d1) o t
  rw [putR_app, hu, ← List.append_assoc]
  exact .inl ⟨_, _, rfl⟩
theorem bh_put {ts : List (List Int)} {x y : Int} (h : (x, y) ∈ bhL ts) : (x, hdD one other d0 d1 y) ∈ bhL (ts.map (putR one other d0 d1)) := by
  obtain ⟨row, hr, a, rfl, hn⟩ := bh_nb h
  exact nb_bh (List.mem_map.mpr ⟨row, hr, rfl⟩) (nb_put hn)
theorem bh_one {ts : List (List Int)} {row : List Int} (hr : row ∈ ts) (h : one ∈ row) : (bkD d0, if other = some one then d1 else one) ∈ bhL (ts.map (putR one other d0 d1)) :=
  nb_bh (List.mem_map.mpr ⟨row, hr, rfl⟩) (nb_one h)
theorem bh_two {ts : List (List Int)} {row : List Int} {o : Int} (hr : row ∈ ts) (h : o ∈ row) : (bkD d1, o) ∈ bhL (ts.map (putR one (some o) d0 d1)) :=
  nb_bh (List.mem_map.mpr ⟨row, hr, rfl⟩) (nb_two h)
theorem bh_app {ts us : List (List Int)} {x y : Int} (h : (x, y) ∈ bhL ts ∨ (x, y) ∈ bhL us) : (x, y) ∈ bhL (ts ++ us) := by
  unfold bhL at h ⊢
  rw [List.flatMap_append, List.mem_append]
  exact h
end
/-! the rounds, with one tie more -/
section
variable {B B' : List (Int × Int)} {one d0 d1 : Int} {other : Option Int}
theorem ch_keep (H : ∀ x y, (x, y) ∈ B → (x, hdD one other d0 d1 y) ∈ B') {l : List Int} (h : Ch B l) (hn : ∀ y ∈ l.tail, y ≠ one ∧ some y ≠ other) : Ch B' l := fun i x y h1 h2 => by
  have hy : y ∈ l.tail := List.mem_of_getElem? (i := i) (by rw [List.getElem?_tail]; exact h2)
  have := H x y (h i x y h1 h2)
  unfold hdD at this
  rw [if_neg (hn y hy).1, if_neg (hn y hy).2] at this
  exact this
theorem cy_keep (H : ∀ x y, (x, y) ∈ B → (x, hdD one other d0 d1 y) ∈ B') {l : List Int} (h : Cy B l) (hn : ∀ y ∈ l, y ≠ one ∧ some y ≠ other) : Cy B' l := by
  refine ⟨h.1, h.2.1, ch_keep H h.2.2.1 fun y hy => hn y (List.mem_of_mem_tail hy), fun x hx y hy => ?_⟩
  have := H x y (h.2.2.2 x hx y hy)
  have hy' := hn y (List.mem_of_mem_head? hy)
  unfold hdD at this
  rw [if_neg hy'.1, if_neg hy'.2] at this
  exact this
/-- a row closed by one dart more -/
theorem cy_snoc {x d : Int} {t : List Int} (nd : (x :: t).Nodup) (hd : d ∉ x :: t) (hc : Ch B' (x :: t)) (h1 : ∀ z ∈ (x :: t).getLast?, (z, d) ∈ B') (h2 : (d, x) ∈ B') : Cy B' (x :: t ++ [d]) := by
  refine ⟨by simp, List.nodup_append.mpr ⟨nd, by simp, fun a ha b hb e => hd (by rw [List.mem_singleton.mp hb] at e; rw [← e]; exact ha)⟩, ch_append.mpr ⟨hc, fun i x y _ h2 => ?_, fun z hz y hy => ?_⟩, fun z hz y hy => ?_⟩
  · cases h2
  · obtain rfl : d = y := Option.some.inj hy
    exact h1 z hz
  · rw [gl_app (by simp)] at hz
    obtain rfl : d = z := Option.some.inj hz
    obtain rfl : x = y := Option.some.inj hy
    exact h2
theorem cy_one {d : Int} (h : (d, d) ∈ B') : Cy B' [d] := by
  refine ⟨by simp, by simp, fun i x y _ h2 => ?_, fun z hz y hy => ?_⟩
  · cases h2
  · obtain rfl : d = z := Option.some.inj hz
    obtain rfl : d = y := Option.some.inj hy
    exact h
theorem oq_put {M : Nat} {L1 L2 new : List (List Int)} {ρ : List Int} (h : OP B M (L1 ++ ρ :: L2)) (hn : ∀ r ∈ new, Cy B' r) (hp : new.flatten.Perm (ρ ++ [d0, d1])) (hk : ∀ r ∈ L1 ++ L2, Cy B' r) (hd : (d0 = (M : Int) ∧ d1 = (M : Int) + 1) ∨ d0 = (M : Int) + 1 ∧ d1 = (M : Int)) : OP B' (M + 2) (new ++ (L1 ++ L2)) := by
  obtain ⟨_, h2, h3⟩ := h
  have pm : (new ++ (L1 ++ L2)).flatten.Perm ((L1 ++ ρ :: L2).flatten ++ [d0, d1]) := by
    refine List.perm_iff_count.mpr fun x => ?_
    have := List.perm_iff_count.mp hp x
    simp only [List.flatten_append, List.flatten_cons, List.count_append] at this ⊢
    omega
  refine ⟨fun r hr => (List.mem_append.mp hr).elim (hn r) (hk r), pm.nodup_iff.mpr (List.nodup_append.mpr ⟨h2, by simp; omega, fun a ha b hb => ?_⟩), fun x => ?_⟩
  · have := (h3 a).mp ha
    simp only [List.mem_cons, List.not_mem_nil, or_false] at hb
    omega
  · rw [pm.mem_iff, List.mem_append, h3]
    simp only [List.mem_cons, List.not_mem_nil, or_false]
    omega
section
variable {M : Nat} {L : List (List Int)}
/-- no row but its own has a dart -/
theorem oq_off {L1 L2 : List (List Int)} {ρ : List Int} (h : OP B M (L1 ++ ρ :: L2)) {x : Int} (hx : x ∈ ρ) : ∀ r ∈ L1 ++ L2, x ∉ r := fun r hr hxr => by
  have := h.2.1
  rw [List.flatten_append, List.flatten_cons] at this
  obtain ⟨_, a2, a3⟩ := List.nodup_append.mp this
  obtain ⟨_, _, b3⟩ := List.nodup_append.mp a2
  rcases List.mem_append.mp hr with c | c
  · exact a3 x (List.mem_flatten.mpr ⟨r, c, hxr⟩) x (List.mem_append_left _ hx) rfl
  · exact b3 x hx x (List.mem_flatten.mpr ⟨r, c, hxr⟩) rfl
theorem oq_at (h : OP B M L) {x : Int} (hx : 0 ≤ x ∧ x < (M : Int)) : ∃ L1 ρ L2, L = L1 ++ ρ :: L2 ∧ x ∈ ρ := by
  obtain ⟨r, hr, hxr⟩ := List.mem_flatten.mp ((h.2.2 x).mpr hx)
  obtain ⟨L1, L2, rfl⟩ := List.append_of_mem hr
  exact ⟨L1, r, L2, rfl, hxr⟩
theorem oq_new {L1 L2 : List (List Int)} {ρ : List Int} (h : OP B M (L1 ++ ρ :: L2)) {x : Int} (hx : x ∈ ρ) : 0 ≤ x ∧ x < (M : Int) :=
  (h.2.2 x).mp (List.mem_flatten.mpr ⟨ρ, by simp, hx⟩)
theorem oq_fresh (h : OP B M L) (hd : (d0 = (M : Int) ∧ d1 = (M : Int) + 1) ∨ d0 = (M : Int) + 1 ∧ d1 = (M : Int)) (H : ∀ x y, (x, y) ∈ B → (x, hdD one none d0 d1 y) ∈ B') (ho : 0 ≤ one ∧ one < (M : Int)) (h1 : (d1, one) ∈ B') (h0 : (d0, d1) ∈ B') : ∃ L', OP B' (M + 2) L' ∧ L'.length = L.length := by
  obtain ⟨L1, ρ, L2, rfl, hx⟩ := oq_at h ho
  have off := oq_off h hx
  have rg : ∀ z ∈ ρ, 0 ≤ z ∧ z < (M : Int) := fun z hz => oq_new h hz
  obtain ⟨t, ht, hp⟩ := (h.1 ρ (by simp)).from hx
  have nt : one ∉ t := (List.nodup_cons.mp ht.2.1).1
  have kc : Ch B' (one :: t) := ch_keep H ht.2.2.1 fun y hy => ⟨fun e => nt (e ▸ hy), fun e => by cases e⟩
  have kl : ∀ z ∈ (one :: t).getLast?, (z, d0) ∈ B' := fun z hz => by
    have := H z one (ht.2.2.2 z hz one rfl)
    unfold hdD at this
    rw [if_pos rfl] at this
    exact this
  have nd0 : ∀ d, (d = d0 ∨ d = d1) → d ∉ one :: t := fun d hd' hm => by
    have := rg d (hp.mem_iff.mp hm)
    omega
  have c2 : Ch B' (one :: (t ++ [d0])) := by
    refine (ch_append (a := one :: t) (b := [d0])).mpr ⟨kc, (fun i x y _ h2 => by cases h2), fun z hz y hy => ?_⟩
    obtain rfl : d0 = y := Option.some.inj hy
    exact kl z hz
  have cy : Cy B' (one :: (t ++ [d0]) ++ [d1]) := by
    refine cy_snoc ?_ ?_ c2 (fun z hz => ?_) h1
    · refine (List.nodup_append (l₁ := one :: t) (l₂ := [d0])).mpr ⟨ht.2.1, by simp, fun a ha b hb e => nd0 a (.inl ?_) ha⟩
      rw [e]; exact List.mem_singleton.mp hb
    · intro hm
      rcases List.mem_append.mp (show d1 ∈ (one :: t) ++ [d0] from hm) with c | c
      · exact nd0 d1 (.inr rfl) c
      · have := List.mem_singleton.mp c
        omega
    · have hz : ((one :: t) ++ [d0]).getLast? = some z := hz
      rw [gl_app (by simp)] at hz
      obtain rfl : d0 = z := Option.some.inj hz
      exact h0
  refine ⟨[one :: (t ++ [d0]) ++ [d1]] ++ (L1 ++ L2), oq_put h (fun r hr => by rw [List.mem_singleton.mp hr]; exact cy) ?_ (fun r hr => cy_keep H (h.1 r ?_) fun y hy => ⟨fun e => off r hr (e ▸ hy), fun e => by cases e⟩) hd, by simp; omega⟩
  · refine List.perm_iff_count.mpr fun x => ?_
    have := List.perm_iff_count.mp hp x
    simp only [List.flatten_cons, List.flatten_nil, List.append_nil, List.count_append, List.count_cons, List.cons_append, List.count_nil] at this ⊢
    omega
  · simp only [List.mem_append, List.mem_cons] at hr ⊢
    rcases hr with c | c
    · exact .inl c
    · exact .inr (.inr c)
theorem oq_same (h : OP B M L) (hd : (d0 = (M : Int) ∧ d1 = (M : Int) + 1) ∨ d0 = (M : Int) + 1 ∧ d1 = (M : Int)) (H : ∀ x y, (x, y) ∈ B → (x, hdD one (some one) d0 d1 y) ∈ B') (ho : 0 ≤ one ∧ one < (M : Int)) (h1 : (d1, d1) ∈ B') (h0 : (d0, one) ∈ B') : ∃ L', OP B' (M + 2) L' ∧ L'.length = L.length + 1 := by
  obtain ⟨L1, ρ, L2, rfl, hx⟩ := oq_at h ho
  have off := oq_off h hx
  have rg : ∀ z ∈ ρ, 0 ≤ z ∧ z < (M : Int) := fun z hz => oq_new h hz
  obtain ⟨t, ht, hp⟩ := (h.1 ρ (by simp)).from hx
  have nt : one ∉ t := (List.nodup_cons.mp ht.2.1).1
  have kc : Ch B' (one :: t) := ch_keep H ht.2.2.1 fun y hy => ⟨fun e => nt (e ▸ hy), fun e => nt (Option.some.inj e ▸ hy)⟩
  have kl : ∀ z ∈ (one :: t).getLast?, (z, d0) ∈ B' := fun z hz => by
    have := H z one (ht.2.2.2 z hz one rfl)
    unfold hdD at this
    rw [if_pos rfl] at this
    exact this
  have nd0 : d0 ∉ one :: t := fun hm => by
    have := rg d0 (hp.mem_iff.mp hm)
    omega
  have cy : Cy B' (one :: t ++ [d0]) := cy_snoc ht.2.1 nd0 kc kl h0
  refine ⟨[one :: t ++ [d0], [d1]] ++ (L1 ++ L2), oq_put h (fun r hr => ?_) ?_ (fun r hr => cy_keep H (h.1 r ?_) fun y hy => ⟨fun e => off r hr (e ▸ hy), fun e => off r hr (Option.some.inj e ▸ hy)⟩) hd, by simp; omega⟩
  · rcases List.mem_cons.mp hr with e | e
    · rw [e]; exact cy
    · rw [List.mem_singleton.mp e]; exact cy_one h1
  · refine List.perm_iff_count.mpr fun x => ?_
    have := List.perm_iff_count.mp hp x
    simp only [List.flatten_cons, List.flatten_nil, List.append_nil, List.count_append, List.count_cons, List.cons_append, List.count_nil] at this ⊢
    omega
  · simp only [List.mem_append, List.mem_cons] at hr ⊢
    rcases hr with c | c
    · exact .inl c
    · exact .inr (.inr c)
/-- between two darts of one round -/
theorem oq_cross (h : OP B M L) (hd : (d0 = (M : Int) ∧ d1 = (M : Int) + 1) ∨ d0 = (M : Int) + 1 ∧ d1 = (M : Int)) {o : Int} (hne : o ≠ one) (H : ∀ x y, (x, y) ∈ B → (x, hdD one (some o) d0 d1 y) ∈ B') (hr : ∃ r ∈ L, one ∈ r ∧ o ∈ r) (h1 : (d1, one) ∈ B') (h0 : (d0, o) ∈ B') : ∃ L', OP B' (M + 2) L' ∧ L'.length = L.length + 1 := by
  obtain ⟨ρ, hρ, hx, hy⟩ := hr
  obtain ⟨L1, L2, rfl⟩ := List.append_of_mem hρ
  have off := oq_off h hx
  have off2 := oq_off h hy
  have rg : ∀ z ∈ ρ, 0 ≤ z ∧ z < (M : Int) := fun z hz => oq_new h hz
  obtain ⟨t, ht, hp⟩ := (h.1 ρ hρ).from hx
  have ot : o ∈ t := (List.mem_cons.mp (hp.mem_iff.mpr hy)).resolve_left hne
  obtain ⟨a, c, rfl⟩ := List.append_of_mem ot
  have nt : one ∉ a ++ o :: c := (List.nodup_cons.mp ht.2.1).1
  have nd := (List.nodup_cons.mp ht.2.1).2
  obtain ⟨na, nc, nac⟩ := List.nodup_append.mp nd
  have ncc := List.nodup_cons.mp nc
  obtain ⟨q1, q2, q3⟩ := (ch_append (a := one :: a) (b := o :: c)).mp ht.2.2.1
  have k1 : Ch B' (one :: a) := ch_keep H q1 fun y hy => ⟨fun e => nt (List.mem_append_left _ (e ▸ hy)), fun e => nac y hy o List.mem_cons_self (Option.some.inj e)⟩
  have k2 : Ch B' (o :: c) := ch_keep H q2 fun y hy => ⟨fun e => nt (List.mem_append_right _ (List.mem_cons_of_mem _ (e ▸ hy))), fun e => ncc.1 (Option.some.inj e ▸ hy)⟩
  have l1 : ∀ z ∈ (one :: a).getLast?, (z, d1) ∈ B' := fun z hz => by
    have := H z o (q3 z hz o rfl)
    unfold hdD at this
    rw [if_neg hne, if_pos rfl] at this
    exact this
  have l2 : ∀ z ∈ (o :: c).getLast?, (z, d0) ∈ B' := fun z hz => by
    have := H z one (ht.2.2.2 z (by
      show (one :: a ++ o :: c).getLast? = some z
      rw [gl_app (by simp)]; exact hz) one rfl)
    unfold hdD at this
    rw [if_pos rfl] at this
    exact this
  have nw : ∀ d, (d = d0 ∨ d = d1) → d ∉ one :: (a ++ o :: c) := fun d hd' hm => by
    have := rg d (hp.mem_iff.mp hm)
    omega
  have sA : ∀ z ∈ one :: a, z ∈ one :: (a ++ o :: c) := fun z hz => by
    rcases List.mem_cons.mp hz with e | e
    · rw [e]; exact List.mem_cons_self
    · exact List.mem_cons_of_mem _ (List.mem_append_left _ e)
  have cA : Cy B' (one :: a ++ [d1]) := cy_snoc (List.nodup_cons.mpr ⟨fun e => nt (List.mem_append_left _ e), na⟩) (fun hm => nw d1 (.inr rfl) (sA _ hm)) k1 l1 h1
  have cC : Cy B' (o :: c ++ [d0]) := cy_snoc nc (fun hm => nw d0 (.inl rfl) (List.mem_cons_of_mem _ (List.mem_append_right _ hm))) k2 l2 h0
  refine ⟨[one :: a ++ [d1], o :: c ++ [d0]] ++ (L1 ++ L2), oq_put h (fun r hr => ?_) ?_ (fun r hr => cy_keep H (h.1 r ?_) fun y hy => ⟨fun e => off r hr (e ▸ hy), fun e => off2 r hr (Option.some.inj e ▸ hy)⟩) hd, by simp; omega⟩
  · rcases List.mem_cons.mp hr with e | e
    · rw [e]; exact cA
    · rw [List.mem_singleton.mp e]; exact cC
  · refine List.perm_iff_count.mpr fun x => ?_
    have := List.perm_iff_count.mp hp x
    simp only [List.flatten_cons, List.flatten_nil, List.append_nil, List.count_append, List.count_cons, List.cons_append, List.count_nil] at this ⊢
    omega
  · simp only [List.mem_append, List.mem_cons] at hr ⊢
    rcases hr with c | c
    · exact .inl c
    · exact .inr (.inr c)
end
end
end My

/-! ## grown webs lie flat -/
namespace My
open PySem L2
theorem ends_one (ps : List (Int × Int)) (e : Int × Int) : endsOf (ps ++ [e]) (rgL (ps ++ [e]).length) = endsOf ps (rgL ps.length) ++ [(e.1.toNat, e.2.toNat)] := by
  rw [List.length_append, List.length_singleton, rgL_succ]
  have : endsOf (ps ++ [e]) (rgL ps.length ++ [(ps.length : Int)]) = endsOf (ps ++ [e]) (rgL ps.length) ++ endsOf (ps ++ [e]) [(ps.length : Int)] := List.map_append ..
  rw [this, ends_up (rgL_set _)]
  unfold endsOf
  rw [List.map_singleton, Int.toNat_natCast, List.getD_eq_getElem?_getD, List.getElem?_append_right (Nat.le_refl _), Nat.sub_self]
  rfl
theorem joined_snoc {n : Int} {ps : List (Int × Int)} {e : Int × Int} (h : Joined n ps) : Joined n (ps ++ [e]) := fun i j hi hj => by
  rw [ends_one]
  exact (h i j hi hj).mono fun x hx => List.mem_append_left _ hx
theorem joined_grow {n p : Nat} {ps : List (Int × Int)} {e : Int × Int} (h : Joined n ps) (hp : p < n) (he : e = ((p : Int), (n : Int)) ∨ e = ((n : Int), (p : Int))) : Joined ((n + 1 : Nat) : Int) (ps ++ [e]) := by
  have key : ∀ i, i < n + 1 → Conn (endsOf (ps ++ [e]) (rgL (ps ++ [e]).length)) i p := fun i hi => by
    by_cases c : i < n
    · exact joined_snoc h i p (by omega) (by omega)
    · have ei : i = n := by omega
      subst ei
      rw [ends_one]
      rcases he with rfl | rfl
      · exact .symm (.edge (List.mem_append_right _ (by show _ ∈ [((p : Int).toNat, (i : Int).toNat)]; rw [Int.toNat_natCast, Int.toNat_natCast]; exact List.mem_singleton.mpr rfl)))
      · exact .edge (List.mem_append_right _ (by show _ ∈ [((i : Int).toNat, (p : Int).toNat)]; rw [Int.toNat_natCast, Int.toNat_natCast]; exact List.mem_singleton.mpr rfl))
  intro i j hi hj
  exact (key i (by omega)).trans (key j (by omega)).symm
/-- a grown web lies flat -/
def FlatM (n : Nat) (ps : List (Int × Int)) (ts : List (List Int)) : Prop := Joined n ps ∧ (ps = [] ∨ ∃ L, OP (bhL ts) (2 * ps.length) L ∧ n + L.length = ps.length + 2)
theorem FlatM.flat {n : Nat} {ps : List (Int × Int)} {ts R : List (List Int)} (h : FlatM n ps ts) (hV : VT n ps ts) (h1 : ps = [] → n = 1) (hR : RdW ps ts R) : Flat n ps R := by
  refine ⟨h.1, ?_⟩
  rcases h.2 with e | ⟨L, hL, hn⟩
  · have := h1 e
    rcases hR with ⟨_, rfl⟩ | ⟨c, _⟩
    · subst e
      show (n : Int) - 0 + 1 = 2
      omega
    · rw [e] at c; exact absurd c (by decide)
  · by_cases c : ps.length = 0
    · have := h1 (List.length_eq_zero_iff.mp c)
      rcases hR with ⟨_, rfl⟩ | ⟨c', _⟩
      · show (n : Int) - (ps.length : Int) + 1 = 2
        omega
      · omega
    · have := oq_len hV (by omega) hR hL
      omega
theorem fm_one : FlatM 1 [] [[]] := ⟨fun i j hi hj => by
  have e1 : i = 0 := by have : i < 1 := hi; omega
  have e2 : j = 0 := by have : j < 1 := hj; omega
  subst e1; subst e2
  exact .refl _, .inl rfl⟩
theorem bk_new {m : Nat} {d0 d1 a b : Int} {e : Int × Int} (h : NewD m d0 d1 a b e) : bkD d0 = d1 ∧ bkD d1 = d0 := by
  unfold bkD
  rcases h with ⟨rfl, rfl, _⟩ | ⟨rfl, rfl, _⟩
  · rw [if_pos (by omega), if_neg (by omega)]; omega
  · rw [if_neg (by omega), if_pos (by omega)]; omega
theorem new_two {m : Nat} {d0 d1 a b : Int} {e : Int × Int} (h : NewD m d0 d1 a b e) : (d0 = ((2 * m : Nat) : Int) ∧ d1 = ((2 * m : Nat) : Int) + 1) ∨ d0 = ((2 * m : Nat) : Int) + 1 ∧ d1 = ((2 * m : Nat) : Int) := by
  rcases h with ⟨rfl, rfl, _⟩ | ⟨rfl, rfl, _⟩ <;> omega
theorem new_end {m : Nat} {d0 d1 a b : Int} {e : Int × Int} (h : NewD m d0 d1 a b e) : e = (a, b) ∨ e = (b, a) := by
  rcases h with ⟨_, _, h⟩ | ⟨_, _, h⟩
  · exact .inl h
  · exact .inr h
theorem oq_first {B : List (Int × Int)} {d0 d1 : Int} {L : List (List Int)} (hd : (d0 = 0 ∧ d1 = 1) ∨ d0 = 1 ∧ d1 = 0) (h1 : ∀ r ∈ L, Cy B r) (h2 : L.flatten = [d0, d1]) : OP B 2 L := by
  refine ⟨h1, ?_, fun x => ?_⟩
  · rw [h2]; simp; omega
  · rw [h2]; simp; omega
theorem fm_first2 {d0 d1 : Int} {e : Int × Int} (h : NewD 0 d0 d1 0 1 e) : FlatM 2 [e] [[d0], [d1]] := by
  obtain ⟨b0, b1⟩ := bk_new h
  have n0 : (d0, d1) ∈ bhL [[d0], [d1]] := by
    have := nb_bh (ts := [[d0], [d1]]) (row := [d1]) (a := d1) (b := d1) (by simp) (.inr ⟨⟨[], rfl⟩, [], rfl⟩)
    rw [b1] at this; exact this
  have n1 : (d1, d0) ∈ bhL [[d0], [d1]] := by
    have := nb_bh (ts := [[d0], [d1]]) (row := [d0]) (a := d0) (b := d0) (by simp) (.inr ⟨⟨[], rfl⟩, [], rfl⟩)
    rw [b0] at this; exact this
  have hd := new_two h
  have hd' : (d0 = 0 ∧ d1 = 1) ∨ d0 = 1 ∧ d1 = 0 := by omega
  refine ⟨joined_grow (n := 1) (p := 0) (ps := []) fm_one.1 (by decide) (new_end h), .inr ⟨[[d0, d1]], oq_first hd' (fun r hr => ?_) rfl, rfl⟩⟩
  rw [List.mem_singleton.mp hr]
  exact cy_snoc (x := d0) (t := []) (d := d1) (by simp) (by simp; omega) (fun i x y _ h2 => by cases h2) (fun z hz => by obtain rfl : d0 = z := Option.some.inj hz; exact n0) n1
theorem fm_first1 {d0 d1 : Int} {e : Int × Int} (h : NewD 0 d0 d1 0 0 e) : FlatM 1 [e] [[d0, d1]] := by
  obtain ⟨b0, b1⟩ := bk_new h
  have n0 : (d0, d0) ∈ bhL [[d0, d1]] := by
    have := nb_bh (ts := [[d0, d1]]) (row := [d0, d1]) (a := d1) (b := d0) (by simp) (.inr ⟨⟨[d0], rfl⟩, [d1], rfl⟩)
    rw [b1] at this; exact this
  have n1 : (d1, d1) ∈ bhL [[d0, d1]] := by
    have := nb_bh (ts := [[d0, d1]]) (row := [d0, d1]) (a := d0) (b := d1) (by simp) (.inl ⟨[], [], rfl⟩)
    rw [b0] at this; exact this
  have hd := new_two h
  have hd' : (d0 = 0 ∧ d1 = 1) ∨ d0 = 1 ∧ d1 = 0 := by omega
  refine ⟨joined_snoc (ps := []) fm_one.1, .inr ⟨[[d0], [d1]], oq_first hd' (fun r hr => ?_) rfl, rfl⟩⟩
  rcases List.mem_cons.mp hr with c | c
  · rw [c]; exact cy_one n0
  · rw [List.mem_singleton.mp c]; exact cy_one n1
section
variable {n : Nat} {ps : List (Int × Int)} {ts : List (List Int)}
theorem fm_grow (h : FlatM n ps ts) (h0 : ps.length ≠ 0) (hV : VT n ps ts) {one d0 d1 : Int} {p : Nat} {r1 : List Int} {e : Int × Int} (hp : ts[p]? = some r1) (hx : one ∈ r1) (hN : NewD ps.length d0 d1 p n e) : FlatM (n + 1) (ps ++ [e]) (ts.map (putR one none d0 d1) ++ [[d1]]) := by
  obtain ⟨hj, hL⟩ := h
  have hpn : p < n := by rw [← hV.1]; exact (List.getElem?_eq_some_iff.mp hp).1
  refine ⟨joined_grow hj hpn (new_end hN), .inr ?_⟩
  rcases hL with c | ⟨L, hL, hn⟩
  · rw [c] at h0; exact absurd rfl h0
  obtain ⟨b0, b1⟩ := bk_new hN
  have hr := List.mem_of_getElem? hp
  have f1 := bh_one (d0 := d0) (d1 := d1) (other := none) hr hx
  rw [b0, if_neg (by intro c; cases c)] at f1
  have f0 : (bkD d1, d1) ∈ bhL [[d1]] := nb_bh (row := [d1]) (List.mem_singleton.mpr rfl) (.inr ⟨⟨[], rfl⟩, [], rfl⟩)
  rw [b1] at f0
  have xr := ((hV.mem hp).mp hx).1
  obtain ⟨L', hL', hl⟩ := oq_fresh hL (new_two hN) (B' := bhL (ts.map (putR one none d0 d1) ++ [[d1]])) (fun x y hxy => bh_app (.inl (bh_put hxy))) (by omega) (bh_app (.inl f1)) (bh_app (.inr f0))
  refine ⟨L', ?_, by rw [List.length_append, List.length_singleton]; omega⟩
  rw [List.length_append, List.length_singleton, show 2 * (ps.length + 1) = 2 * ps.length + 2 by omega]
  exact hL'
theorem fm_join (h : FlatM n ps ts) (h0 : ps.length ≠ 0) (hV : VT n ps ts) {one o d0 d1 : Int} {p q : Nat} {r1 r2 : List Int} {e : Int × Int} (hp : ts[p]? = some r1) (hx : one ∈ r1) (hq : ts[q]? = some r2) (hy : o ∈ r2) (hs : ∀ L, OP (bhL ts) (2 * ps.length) L → ∃ r ∈ L, one ∈ r ∧ o ∈ r) (hN : NewD ps.length d0 d1 p q e) : FlatM n (ps ++ [e]) (ts.map (putR one (some o) d0 d1)) := by
  obtain ⟨hj, hL⟩ := h
  refine ⟨joined_snoc hj, .inr ?_⟩
  rcases hL with c | ⟨L, hL, hn⟩
  · rw [c] at h0; exact absurd rfl h0
  obtain ⟨b0, b1⟩ := bk_new hN
  have f1 := bh_one (d0 := d0) (d1 := d1) (other := some o) (List.mem_of_getElem? hp) hx
  have f2 := bh_two (one := one) (d0 := d0) (d1 := d1) (List.mem_of_getElem? hq) hy
  rw [b0] at f1
  rw [b1] at f2
  have xr := ((hV.mem hp).mp hx).1
  obtain ⟨L', hL', hl⟩ : ∃ L', OP (bhL (ts.map (putR one (some o) d0 d1))) (2 * ps.length + 2) L' ∧ L'.length = L.length + 1 := by
    by_cases c : o = one
    · subst c
      rw [if_pos rfl] at f1
      exact oq_same hL (new_two hN) (fun x y hxy => bh_put hxy) (by omega) f1 f2
    · rw [if_neg (fun e => c (Option.some.inj e))] at f1
      exact oq_cross hL (new_two hN) c (fun x y hxy => bh_put hxy) (hs L hL) f1 f2
  refine ⟨L', ?_, by rw [List.length_append, List.length_singleton]; omega⟩
  rw [List.length_append, List.length_singleton, show 2 * (ps.length + 1) = 2 * ps.length + 2 by omega]
  exact hL'
/-- the dart behind is in the same round -/
theorem rd_self (hV : VT n ps ts) {x : Int} (hx : 0 ≤ x ∧ x < 2 * (ps.length : Int)) : ∀ L, OP (bhL ts) (2 * ps.length) L → ∃ r ∈ L, x ∈ r ∧ x ∈ r := fun L hL => by
  obtain ⟨L1, ρ, L2, rfl, h⟩ := oq_at hL (x := x) (by omega)
  exact ⟨ρ, by simp, h, h⟩
theorem rd_next (hV : VT n ps ts) {x y z : Int} (h : ∀ L, OP (bhL ts) (2 * ps.length) L → ∃ r ∈ L, x ∈ r ∧ y ∈ r) (hz : (y, z) ∈ bhL ts) : ∀ L, OP (bhL ts) (2 * ps.length) L → ∃ r ∈ L, x ∈ r ∧ z ∈ r := fun L hL => by
  obtain ⟨r, hr, h1, h2⟩ := h L hL
  exact ⟨r, hr, h1, (hL.1 r hr).next (fun x y z => bh_fun hV) h2 hz⟩
/-- turns with two darts of a row exchanged -/
theorem vt_swap (hV : VT n ps ts) {k : Nat} {row row' : List Int} (hk : ts[k]? = some row) (hp : row'.Perm row) : VT n ps (ts.set k row') := by
  refine ⟨by rw [List.length_set]; exact hV.1, fun p r hr => ?_⟩
  have hkl := (List.getElem?_eq_some_iff.mp hk).1
  rw [List.getElem?_set] at hr
  split at hr
  · rename_i e
    subst e
    obtain rfl := Option.some.inj hr
    exact hp.trans (hV.2 k row hk)
  · exact hV.2 p r hr
end
theorem swap_perm (l : List Int) {i j : Nat} {x y : Int} (hi : l[i]? = some x) (hj : l[j]? = some y) : ((l.set i y).set j x).Perm l := by
  have hil := (List.getElem?_eq_some_iff.mp hi).1
  have hjl := (List.getElem?_eq_some_iff.mp hj).1
  refine List.perm_iff_count.mpr fun z => ?_
  rw [List.count_set (by rw [List.length_set]; exact hjl), List.count_set hil, List.getElem_set]
  have e1 := (List.getElem?_eq_some_iff.mp hi).2
  have e2 := (List.getElem?_eq_some_iff.mp hj).2
  have c1 : z = x → 0 < l.count z := fun e => List.count_pos_iff.mpr (by rw [e]; exact List.mem_of_getElem? hi)
  have c2 : z = y → 0 < l.count z := fun e => List.count_pos_iff.mpr (by rw [e]; exact List.mem_of_getElem? hj)
  rw [e1, e2]
  by_cases c : i = j
  · subst c
    rw [e1] at e2
    subst e2
    rw [if_pos rfl]
    by_cases b : x = z
    · have := c1 b.symm
      simp [b]
      omega
    · simp [b]
  · rw [if_neg c]
    by_cases b : x = z
    · have := c1 b.symm
      by_cases b2 : y = z
      · simp [b, b2]; omega
      · simp [b, b2]; omega
    · by_cases b2 : y = z
      · have := c2 b2.symm
        simp [b, b2]
      · simp [b, b2]
end My

namespace My
open PySem L2
def top (i : Nat) : Stmt := PySem.Challenge.pw_spanrow_k77_flat_or_not.main.body.getD i (.Pass ⟨0, 0, 0, 0⟩)
abbrev s_refuse_bad_web : Stmt := top 9
abbrev s_Web___init : Stmt := inClass (top 8) 0
abbrev s_is_tie : Stmt := top 10
abbrev s_all_ties : Stmt := top 11
abbrev s_is_set : Stmt := top 12
abbrev s_made_set : Stmt := top 13
abbrev s_merged_marks : Stmt := top 14
abbrev s_piece_marks : Stmt := top 15
abbrev s_pieces_of : Stmt := top 16
abbrev s_is_joined : Stmt := top 17
abbrev s_darts_away : Stmt := top 19
abbrev s_refuse_bad_turns : Stmt := top 20
abbrev s_back_dart : Stmt := top 21
abbrev s_darts_behind : Stmt := top 22
abbrev s_round_from : Stmt := top 23
abbrev s_rounds_of : Stmt := top 24
abbrev s_lies_flat : Stmt := top 25
abbrev s_law_at : Stmt := top 27
abbrev s_law_mixed : Stmt := top 28
abbrev s_law_ties : Stmt := top 29
abbrev s_law_amounts : Stmt := top 30
abbrev s_law_behind : Stmt := top 31
abbrev s_law_rounds : Stmt := top 32
abbrev s_law_put : Stmt := top 33
abbrev s_law_corner : Stmt := top 34
abbrev s_law_grown : Stmt := top 35
abbrev s_law_map : Stmt := top 36
abbrev s_law_any_turns : Stmt := top 37
abbrev s_law_flat : Stmt := top 38
abbrev s_law_exchanged : Stmt := top 39
abbrev s_law_good : Stmt := top 40
abbrev s_law : Stmt := top 41
structure Adr where
  a_refuse_bad_web : Addr
  d_refuse_bad_web : FuncData
  a_Web___init : Addr
  d_Web___init : FuncData
  a_is_tie : Addr
  d_is_tie : FuncData
  a_all_ties : Addr
  d_all_ties : FuncData
  a_is_set : Addr
  d_is_set : FuncData
  a_made_set : Addr
  d_made_set : FuncData
  a_merged_marks : Addr
  d_merged_marks : FuncData
  a_piece_marks : Addr
  d_piece_marks : FuncData
  a_pieces_of : Addr
  d_pieces_of : FuncData
  a_is_joined : Addr
  d_is_joined : FuncData
  a_darts_away : Addr
  d_darts_away : FuncData
  a_refuse_bad_turns : Addr
  d_refuse_bad_turns : FuncData
  a_back_dart : Addr
  d_back_dart : FuncData
  a_darts_behind : Addr
  d_darts_behind : FuncData
  a_round_from : Addr
  d_round_from : FuncData
  a_rounds_of : Addr
  d_rounds_of : FuncData
  a_lies_flat : Addr
  d_lies_flat : FuncData
  a_law_at : Addr
  d_law_at : FuncData
  a_law_mixed : Addr
  d_law_mixed : FuncData
  a_law_ties : Addr
  d_law_ties : FuncData
  a_law_amounts : Addr
  d_law_amounts : FuncData
  a_law_behind : Addr
  d_law_behind : FuncData
  a_law_rounds : Addr
  d_law_rounds : FuncData
  a_law_put : Addr
  d_law_put : FuncData
  a_law_corner : Addr
  d_law_corner : FuncData
  a_law_grown : Addr
  d_law_grown : FuncData
  a_law_map : Addr
  d_law_map : FuncData
  a_law_any_turns : Addr
  d_law_any_turns : FuncData
  a_law_flat : Addr
  d_law_flat : FuncData
  a_law_exchanged : Addr
  d_law_exchanged : FuncData
  a_law_good : Addr
  d_law_good : FuncData
  a_law : Addr
  d_law : FuncData
  A_Web : Addr
  A_WebError : Addr
  A_BadWeb : Addr
  A_BadSet : Addr
  A_BadTurns : Addr
structure Txt (K : PySem.W.Frag) (mg : Str → Option Value) (t : Adr) : Prop where
  f_refuse_bad_web : Fun K "refuse_bad_web" "refuse_bad_web" s_refuse_bad_web t.a_refuse_bad_web t.d_refuse_bad_web
  b_refuse_bad_web : Binds K t.d_refuse_bad_web ["places", "ties"] []
  m_refuse_bad_web : mg "refuse_bad_web" = some (.ref t.a_refuse_bad_web)
  f_Web___init : Fun K "__init__" "Web.__init__" s_Web___init t.a_Web___init t.d_Web___init
  b_Web___init : Binds K t.d_Web___init ["self", "places", "ties"] []
  f_is_tie : Fun K "is_tie" "is_tie" s_is_tie t.a_is_tie t.d_is_tie
  b_is_tie : Binds K t.d_is_tie ["web", "number"] []
  m_is_tie : mg "is_tie" = some (.ref t.a_is_tie)
  f_all_ties : Fun K "all_ties" "all_ties" s_all_ties t.a_all_ties t.d_all_ties
  b_all_ties : Binds K t.d_all_ties ["web"] []
  m_all_ties : mg "all_ties" = some (.ref t.a_all_ties)
  f_is_set : Fun K "is_set" "is_set" s_is_set t.a_is_set t.d_is_set
  b_is_set : Binds K t.d_is_set ["web", "ties"] []
  m_is_set : mg "is_set" = some (.ref t.a_is_set)
  f_made_set : Fun K "made_set" "made_set" s_made_set t.a_made_set t.d_made_set
  b_made_set : Binds K t.d_made_set ["web", "ties"] []
  m_made_set : mg "made_set" = some (.ref t.a_made_set)
  f_merged_marks : Fun K "merged_marks" "merged_marks" s_merged_marks t.a_merged_marks t.d_merged_marks
  b_merged_marks : Binds K t.d_merged_marks ["web", "marks", "ties"] []
  m_merged_marks : mg "merged_marks" = some (.ref t.a_merged_marks)
  f_piece_marks : Fun K "piece_marks" "piece_marks" s_piece_marks t.a_piece_marks t.d_piece_marks
  b_piece_marks : Binds K t.d_piece_marks ["web", "ties"] []
  m_piece_marks : mg "piece_marks" = some (.ref t.a_piece_marks)
  f_pieces_of : Fun K "pieces_of" "pieces_of" s_pieces_of t.a_pieces_of t.d_pieces_of
  b_pieces_of : Binds K t.d_pieces_of ["web", "ties"] []
  m_pieces_of : mg "pieces_of" = some (.ref t.a_pieces_of)
  f_is_joined : Fun K "is_joined" "is_joined" s_is_joined t.a_is_joined t.d_is_joined
  b_is_joined : Binds K t.d_is_joined ["web", "ties"] []
  m_is_joined : mg "is_joined" = some (.ref t.a_is_joined)
  f_darts_away : Fun K "darts_away" "darts_away" s_darts_away t.a_darts_away t.d_darts_away
  b_darts_away : Binds K t.d_darts_away ["web"] []
  m_darts_away : mg "darts_away" = some (.ref t.a_darts_away)
  f_refuse_bad_turns : Fun K "refuse_bad_turns" "refuse_bad_turns" s_refuse_bad_turns t.a_refuse_bad_turns t.d_refuse_bad_turns
  b_refuse_bad_turns : Binds K t.d_refuse_bad_turns ["web", "turns"] []
  m_refuse_bad_turns : mg "refuse_bad_turns" = some (.ref t.a_refuse_bad_turns)
  f_back_dart : Fun K "back_dart" "back_dart" s_back_dart t.a_back_dart t.d_back_dart
  b_back_dart : Binds K t.d_back_dart ["dart"] []
  m_back_dart : mg "back_dart" = some (.ref t.a_back_dart)
  f_darts_behind : Fun K "darts_behind" "darts_behind" s_darts_behind t.a_darts_behind t.d_darts_behind
  b_darts_behind : Binds K t.d_darts_behind ["turns"] []
  m_darts_behind : mg "darts_behind" = some (.ref t.a_darts_behind)
  f_round_from : Fun K "round_from" "round_from" s_round_from t.a_round_from t.d_round_from
  b_round_from : Binds K t.d_round_from ["behind", "start"] []
  m_round_from : mg "round_from" = some (.ref t.a_round_from)
  f_rounds_of : Fun K "rounds_of" "rounds_of" s_rounds_of t.a_rounds_of t.d_rounds_of
  b_rounds_of : Binds K t.d_rounds_of ["web", "turns"] []
  m_rounds_of : mg "rounds_of" = some (.ref t.a_rounds_of)
  f_lies_flat : Fun K "lies_flat" "lies_flat" s_lies_flat t.a_lies_flat t.d_lies_flat
  b_lies_flat : Binds K t.d_lies_flat ["web", "turns"] []
  m_lies_flat : mg "lies_flat" = some (.ref t.a_lies_flat)
  f_law_at : Fun K "_law_at" "_law_at" s_law_at t.a_law_at t.d_law_at
  b_law_at : Binds K t.d_law_at ["script", "k"] []
  m_law_at : mg "_law_at" = some (.ref t.a_law_at)
  f_law_mixed : Fun K "_law_mixed" "_law_mixed" s_law_mixed t.a_law_mixed t.d_law_mixed
  b_law_mixed : Binds K t.d_law_mixed ["cell", "k"] []
  m_law_mixed : mg "_law_mixed" = some (.ref t.a_law_mixed)
  f_law_ties : Fun K "_law_ties" "_law_ties" s_law_ties t.a_law_ties t.d_law_ties
  b_law_ties : Binds K t.d_law_ties ["script", "count", "most"] []
  m_law_ties : mg "_law_ties" = some (.ref t.a_law_ties)
  f_law_amounts : Fun K "_law_amounts" "_law_amounts" s_law_amounts t.a_law_amounts t.d_law_amounts
  b_law_amounts : Binds K t.d_law_amounts ["script"] []
  m_law_amounts : mg "_law_amounts" = some (.ref t.a_law_amounts)
  f_law_behind : Fun K "_law_behind" "_law_behind" s_law_behind t.a_law_behind t.d_law_behind
  b_law_behind : Binds K t.d_law_behind ["turns"] []
  m_law_behind : mg "_law_behind" = some (.ref t.a_law_behind)
  f_law_rounds : Fun K "_law_rounds" "_law_rounds" s_law_rounds t.a_law_rounds t.d_law_rounds
  b_law_rounds : Binds K t.d_law_rounds ["turns"] []
  m_law_rounds : mg "_law_rounds" = some (.ref t.a_law_rounds)
  f_law_put : Fun K "_law_put" "_law_put" s_law_put t.a_law_put t.d_law_put
  b_law_put : Binds K t.d_law_put ["turns", "one", "other", "darts"] []
  m_law_put : mg "_law_put" = some (.ref t.a_law_put)
  f_law_corner : Fun K "_law_corner" "_law_corner" s_law_corner t.a_law_corner t.d_law_corner
  b_law_corner : Binds K t.d_law_corner ["turns", "m"] []
  m_law_corner : mg "_law_corner" = some (.ref t.a_law_corner)
  f_law_grown : Fun K "_law_grown" "_law_grown" s_law_grown t.a_law_grown t.d_law_grown
  b_law_grown : Binds K t.d_law_grown ["count", "ties", "turns", "m"] []
  m_law_grown : mg "_law_grown" = some (.ref t.a_law_grown)
  f_law_map : Fun K "_law_map" "_law_map" s_law_map t.a_law_map t.d_law_map
  b_law_map : Binds K t.d_law_map ["script"] []
  m_law_map : mg "_law_map" = some (.ref t.a_law_map)
  f_law_any_turns : Fun K "_law_any_turns" "_law_any_turns" s_law_any_turns t.a_law_any_turns t.d_law_any_turns
  b_law_any_turns : Binds K t.d_law_any_turns ["count", "ties", "m"] []
  m_law_any_turns : mg "_law_any_turns" = some (.ref t.a_law_any_turns)
  f_law_flat : Fun K "_law_flat" "_law_flat" s_law_flat t.a_law_flat t.d_law_flat
  b_law_flat : Binds K t.d_law_flat ["count", "ties", "turns"] []
  m_law_flat : mg "_law_flat" = some (.ref t.a_law_flat)
  f_law_exchanged : Fun K "_law_exchanged" "_law_exchanged" s_law_exchanged t.a_law_exchanged t.d_law_exchanged
  b_law_exchanged : Binds K t.d_law_exchanged ["turns", "m"] []
  m_law_exchanged : mg "_law_exchanged" = some (.ref t.a_law_exchanged)
  f_law_good : Fun K "_law_good" "_law_good" s_law_good t.a_law_good t.d_law_good
  b_law_good : Binds K t.d_law_good ["count", "ties", "turns", "due"] []
  m_law_good : mg "_law_good" = some (.ref t.a_law_good)
  f_law : Fun K "law" "law" s_law t.a_law t.d_law
  b_law : Binds K t.d_law ["script"] []
  m_law : mg "law" = some (.ref t.a_law)
  c_Web : mg "Web" = some (.ref t.A_Web)
  cl_Web : Cls K t.A_Web
  k_Web : Mk K t.A_Web t.a_Web___init
  n_Web_places : NoAttr K t.A_Web "places"
  n_Web_ties : NoAttr K t.A_Web "ties"
  c_WebError : mg "WebError" = some (.ref t.A_WebError)
  c_BadWeb : mg "BadWeb" = some (.ref t.A_BadWeb)
  c_BadSet : mg "BadSet" = some (.ref t.A_BadSet)
  c_BadTurns : mg "BadTurns" = some (.ref t.A_BadTurns)
  x_BadTurns : XCls K (t.A_BadTurns)
  x_BadWeb : XCls K (t.A_BadWeb)
  em_BadTurns : PySem.W.exmOne K (.ref (t.A_BadTurns)) (.ref (t.A_WebError)) = some true
  em_BadWeb : PySem.W.exmOne K (.ref (t.A_BadWeb)) (.ref (t.A_WebError)) = some true
  g_MOST_PLACES : ∃ tk, mg "MOST_PLACES" = some (.int 14 tk)
  g_MOST_TIES : ∃ tk, mg "MOST_TIES" = some (.int 30 tk)
  n_bool : mg "bool" = none
  n_enumerate : mg "enumerate" = none
  n_int : mg "int" = none
  n_isinstance : mg "isinstance" = none
  n_len : mg "len" = none
  n_list : mg "list" = none
  n_max : mg "max" = none
  n_min : mg "min" = none
  n_range : mg "range" = none
  n_set : mg "set" = none
  n_sorted : mg "sorted" = none
  n_tuple : mg "tuple" = none
end My
namespace My
open PySem L2 PyProof.Rows
set_option maxHeartbeats 4000000
/-- a web beyond what a web keeps to is refused -/
def sp_refuse_bad_web (K : PySem.W.Frag) (B : Addr) : Sp := fun vs H Q E => ∃ (n : Int) (a : Addr) (kd : Bool) (xs : List V) (ps : List (Int × Int)), vs = [.int n, .ref a] ∧ SqK kd K H a xs ∧ PairsV H xs ps ∧ (∀ p ∈ ps, -(10 ^ 70) < p.1 ∧ p.1 < 10 ^ 70 ∧ -(10 ^ 70) < p.2 ∧ p.2 < 10 ^ 70) ∧
  (GoodW n ps → Q .non H) ∧ (¬ GoodW n ps → E (.ref B) none H)
section
variable {P : Program} {w : World} {K : PySem.W.Frag} {mg : Str → Option Value} {base : Heap} {t : Adr}
theorem sc_refuse_bad_web : FnScope ["places", "ties", "ends", "end"] ["places", "ties"] (defScope s_refuse_bad_web) := ⟨rfl, rfl, rfl, by decide +kernel, rfl, by decide +kernel, by decide +kernel⟩
theorem ok_refuse_bad_web (T : Txt K mg t) : FnOk P w K mg base (CXW P w) 1 t.a_refuse_bad_web t.d_refuse_bad_web ["places", "ties"] (sp_refuse_bad_web K t.A_BadWeb) := by
  refine T.f_refuse_bad_web.okX sc_refuse_bad_web (fun vs H Q E h => ?_) (fun cdv A outer s H vs Q E hr h => ?_)
  · obtain ⟨n, a, kd, xs, ps, rfl, _⟩ := h
    rfl
  · obtain ⟨n, a, kd, xs, ps, rfl, hS, hp, hbd, q, qe⟩ := h
    refine ⟨_, (pss_cons (ps_if (pt_not (pt_chain op_le op_le pe_int (pv 0) (pe_glob (v := V.int 14) rfl T.g_MOST_PLACES.choose_spec ⟨_, rfl⟩)))
      (pss_one (ps_raise T.x_BadWeb T.c_BadWeb (pa_cons (pe_fstr (pj_str (pj_int (pe_glob (v := V.int 14) rfl T.g_MOST_PLACES.choose_spec ⟨_, rfl⟩) (pj_str pj_nil)))) pa_nil)))
      pss_nil)
      (pss_cons (ps_if (pt_cmpR op_gt (pe_callB (call_lenK K) (by rfl) T.n_len Boot.«len» (pa_cons (pv 1) pa_nil)) (pe_glob (v := V.int 30) rfl T.g_MOST_TIES.choose_spec ⟨_, rfl⟩) (nomark _))
      (pss_one (ps_raise T.x_BadWeb T.c_BadWeb (pa_cons (pe_fstr (pj_str (pj_int (pe_glob (v := V.int 30) rfl T.g_MOST_TIES.choose_spec ⟨_, rfl⟩) (pj_str pj_nil)))) pa_nil)))
      pss_nil)
      (pss_one (ps_for PassesOwn.leaving rfl (pi_seqK K (pv 1)) (pg_name (i := 2) sc_refuse_bad_web.nd rfl (Or.inl rfl))
      (pss_one (ps_for PassesOwn.leaving rfl (pi_tupK K (pv 2)) (pg_name (i := 3) sc_refuse_bad_web.nd rfl (Or.inl rfl))
      (pss_one (ps_if (pt_not (pt_chain op_le op_lt pe_int (pv 3) (pv 0)))
      (pss_one (ps_raise T.x_BadWeb T.c_BadWeb (pa_cons (pe_fstr (pj_int (pv 3) (pj_str pj_nil))) pa_nil)))
      pss_nil)))))))), ?_⟩
    have one : 1 ≤ sizeLine := by decide
    refine ⟨_, rfl, _, _, rfl, rfl, _, rfl, ?_⟩
    refine itd2 (fun g1 => ?_) (fun g1 => ?_)
    · refine ⟨_, _, rfl, rfl, _, rfl, ?_⟩
      refine itn2 (fun g2 => ?_) (fun g2 => ?_)
      · refine ⟨_, rfl, a, xs, rfl, hS.or, _, _, rfl, rfl, _, rfl, ?_⟩
        rw [hp.1]
        refine itd2 (fun g3 => ?_) (fun g3 => ?_)
        · exact ⟨30, rfl, by decide, by decide, fun x => ⟨one, qe fun g => by have := g.2.2.1; omega⟩⟩
        · refine ⟨_, rfl, a, rfl, for_seq (k := kd) (K := K) (xs := xs) (fun i σ H2 => ∃ v v2, σ = [some (.int n), some (.ref a), v, v2] ∧ H2 = H ∧ ∀ j p, j < i → ps[j]? = some p → 0 ≤ p.1 ∧ p.1 < n ∧ 0 ≤ p.2 ∧ p.2 < n) ⟨none, none, rfl, rfl, fun j p hj => absurd hj (Nat.not_lt_zero j)⟩ (fun i σ H2 _ ⟨_, _, _, e, _⟩ => e ▸ hS) ?_ ?_⟩
          · rintro i x σ H2 hi ⟨v, v2, rfl, rfl, hg⟩
            obtain ⟨p, hpi, tt, rfl, ht⟩ := hp.at hi
            obtain ⟨e1, e2, e3, e4⟩ := hbd p (List.mem_of_getElem? hpi)
            have bad : ¬ (0 ≤ p.1 ∧ p.1 < n ∧ 0 ≤ p.2 ∧ p.2 < n) → E (.ref t.A_BadWeb) none H2 := fun z => qe fun g => z (g.2.2.2 p (List.mem_of_getElem? hpi))
            refine ⟨_, rfl, tt, rfl, ⟨_, SqT.of ht⟩, for_tup (K := K) (a := tt) (xs := [.int p.1, .int p.2]) (fun j σ H3 => ∃ v v2, σ = [some (.int n), some (.ref a), v, v2] ∧ H3 = H2 ∧ (1 ≤ j → 0 ≤ p.1 ∧ p.1 < n) ∧ (2 ≤ j → 0 ≤ p.2 ∧ p.2 < n)) ⟨_, _, rfl, rfl, fun z => by omega, fun z => by omega⟩ (fun j σ H3 _ ⟨_, _, _, e, _⟩ => e ▸ SqT.of ht) ?_ ?_⟩
            · rintro j y σ H3 hj ⟨v, v2, rfl, rfl, d1, d2⟩
              obtain ⟨z, rfl, z1, z2, zc⟩ : ∃ z : Int, y = .int z ∧ -(10 ^ 70) < z ∧ z < 10 ^ 70 ∧ ((j = 0 ∧ z = p.1) ∨ (j = 1 ∧ z = p.2)) := by
                match j, hj with
                | 0, hj => exact ⟨p.1, (Option.some.inj hj).symm, e1, e2, .inl ⟨rfl, rfl⟩⟩
                | 1, hj => exact ⟨p.2, (Option.some.inj hj).symm, e3, e4, .inr ⟨rfl, rfl⟩⟩
              refine ⟨_, rfl, _, _, rfl, rfl, _, rfl, ?_⟩
              refine itd2 (fun f1 => ?_) (fun f1 => ?_)
              · refine ⟨_, rfl, _, _, rfl, rfl, _, rfl, ?_⟩
                refine itn2 (fun f2 => ?_) (fun f2 => ?_)
                · exact ⟨_, _, rfl, rfl, fun _ => by omega, fun _ => by omega⟩
                · exact ⟨_, rfl, z, rfl, z1, z2, fun x => ⟨one, bad fun g => by omega⟩⟩
              · exact ⟨_, rfl, _, rfl, z, rfl, z1, z2, fun x => ⟨one, bad fun g => by omega⟩⟩
            · rintro σ H3 ⟨v, v2, rfl, rfl, d1, d2⟩
              refine ⟨_, _, rfl, rfl, fun j p' hj ej => ?_⟩
              by_cases hji : j < i
              · exact hg j p' hji ej
              · have : j = i := by omega
                subst this
                rw [hpi] at ej
                cases ej
                have := d1 (by show 1 ≤ 2; decide)
                have := d2 (by show 2 ≤ 2; decide)
                omega
          · rintro σ H2 ⟨v, v2, rfl, rfl, hg⟩
            refine q ⟨g1, g2, by omega, fun p hpm => ?_⟩
            obtain ⟨j, hj, ej⟩ := List.getElem_of_mem hpm
            exact hg j p (by rw [hp.1]; exact hj) (by rw [List.getElem?_eq_getElem hj, ej])
      · exact ⟨14, rfl, by decide, by decide, fun x => ⟨one, qe fun g => g2 g.2.1⟩⟩
    · exact ⟨_, rfl, 14, rfl, by decide, by decide, fun x => ⟨one, qe fun g => g1 g.1⟩⟩
end
end My
namespace My
open PySem L2 PyProof.Rows
set_option maxHeartbeats 4000000
/-- a Web stands at w in H', its list of ties new since H -/
def WebAtN (C : Addr) (H H' : Hp) (w : Addr) (n : Int) (ps : List (Int × Int)) : Prop := ∃ dx tl xs, H' w = some (.ins C dx (wf n tl)) ∧ H' tl = some (.lst xs) ∧ PairsV H' xs ps ∧ H tl = none
theorem WebAtN.web {C : Addr} {H H' : Hp} {w : Addr} {n : Int} {ps : List (Int × Int)} (h : WebAtN C H H' w n ps) : WebAt C H' w n ps := let ⟨dx, tl, xs, a, b, c, _⟩ := h; ⟨dx, tl, xs, a, b, c⟩
/-- a Web is made of good ties; its list and its pairs are its own -/
def sp_Web_init (K : PySem.W.Frag) (C B : Addr) : Sp := fun vs H Q E => ∃ (w dx : Addr) (n : Int) (a : Addr) (kd : Bool) (xs : List V) (ps : List (Int × Int)), vs = [.ref w, .int n, .ref a] ∧ H w = some (.ins C dx []) ∧ (∀ o, SqK kd K (upd H w o) a xs) ∧ PairsV H xs ps ∧ (∀ p ∈ ps, -(10 ^ 70) < p.1 ∧ p.1 < 10 ^ 70 ∧ -(10 ^ 70) < p.2 ∧ p.2 < 10 ^ 70) ∧
  (GoodW n ps → ∀ H' : Hp, WebAtN C H H' w n ps → (∀ b o, H b = some o → b ≠ w → H' b = some o) → Q .non H') ∧ (¬ GoodW n ps → E (.ref B) none H)
section
variable {P : Program} {w : World} {K : PySem.W.Frag} {mg : Str → Option Value} {base : Heap} {t : Adr}
theorem sc_Web___init : FnScope ["self", "places", "ties"] ["self", "places", "ties"] (defScope s_Web___init) := ⟨rfl, rfl, rfl, by decide +kernel, rfl, by decide +kernel, by decide +kernel⟩
theorem ok_Web___init (T : Txt K mg t) : FnOk P w K mg base (CXW P w) 2 t.a_Web___init t.d_Web___init ["self", "places", "ties"] (sp_Web_init K t.A_Web t.A_BadWeb) := by
  refine T.f_Web___init.okX sc_Web___init (fun vs H Q E h => ?_) (fun cdv A outer s H vs Q E hr h => ?_)
  · obtain ⟨w, dx, n, a, kd, xs, ps, rfl, _⟩ := h
    rfl
  · obtain ⟨w, dx, n, a, kd, xs, ps, rfl, hw, hS, hp, hbd, q0, qe⟩ := h
    have eH : upd H w (.ins t.A_Web dx []) = H := by
      funext b
      by_cases hb : b = w
      · subst hb; rw [upd_same, hw]
      · rw [upd_ne hb]
    have hS0 : SqK kd K H a xs := by have z := hS (.ins t.A_Web dx []); rw [eH] at z; exact z
    refine ⟨_, (pss_cons (ps_expr (pe_call (ok_refuse_bad_web T) (hr.mono (by decide)) rfl T.m_refuse_bad_web T.f_refuse_bad_web.kp T.b_refuse_bad_web .nil pxs (pa_cons (pv 1) (pa_cons (pv 2) pa_nil))))
      (pss_cons (ps_fld (pv 0) (pv 1) rfl)
      (pss_one (ps_fld (pv 0) (pe_lc rfl (sc0 := defScope s_Web___init) (N0 := ["self", "places", "ties"]) (N' := ["ends"]) (o := 1) (fr := []) ⟨rfl, by decide +kernel, by decide +kernel, by decide +kernel, rfl, by decide +kernel⟩ (pi_seqK K (pv 2)) (own_name (by decide)) (fun _ _ _ _ => (pg_name (i := 0) (show List.Nodup (["ends"] : List Str) by decide +kernel) rfl (Or.inl rfl))) (fun _ _ _ _ => pts_nil) (fun _ _ _ _ => (pe_tup (pa_cons (pe_ix (ix_tupK K) (pv 0) pe_int (fun _ _ => rfl)) (pa_cons (pe_ix (ix_tupK K) (pv 0) pe_int (fun _ _ => rfl)) pa_nil))))) rfl)))), ?_⟩
    refine ⟨_, rfl, _, rfl, n, a, kd, xs, ps, rfl, hS0, hp, hbd, fun g => ?_, qe⟩
    have q := q0 g
    refine ⟨_, rfl, _, rfl, w, _, dx, [], rfl, hw, T.cl_Web, T.n_Web_places, (by show 0 < 1000; decide), ?_⟩
    -- self.ties = [(ends[0], ends[1]) for ends in ties]
    have hp1 : PairsV (upd H w (.ins t.A_Web dx (putF "places" (.int n) []))) xs ps := ⟨hp.1, fun i p e => by
      obtain ⟨v, e1, tt, e2, e3⟩ := hp.2 i p e
      exact ⟨v, e1, tt, e2, by rw [upd_ne (ne_of e3 hw (fun z => nomatch z))]; exact e3⟩⟩
    have sx : xs.length < sizeLine := small60' (by rw [hp.1]; have := g.2.2.1; omega)
    refine ⟨_, rfl, a, rfl, lc_seq (k := kd) (K := K) (xs := xs) (fun i ys H2 => i ≤ xs.length ∧ ys.length = i ∧ Same (upd H w (.ins t.A_Web dx (putF "places" (.int n) []))) H2 ∧ PairsV H2 ys (ps.take i)) ⟨Nat.zero_le _, rfl, Same.refl _, PairsV.nil⟩ sx
      (fun i ys H2 _ ⟨_, hl, s2, _⟩ => ⟨(hS _).same s2, Nat.le_of_eq hl⟩) ?_ ?_⟩
    · rintro i x ys H2 hi ⟨h1, hl, s2, hy⟩ S hSS
      obtain ⟨p, hpi, tt, rfl, ht⟩ := hp1.at hi
      have ht2 := s2 _ _ ht
      refine nmY ?_
      refine ⟨_, rfl, tt, _, 0, .int p.1, rfl, rfl, SqT.of ht2, rfl, _, rfl, tt, _, 1, .int p.2, rfl, rfl, SqT.of ht2, rfl, (by show 2 ≤ sizeLine; decide), fun q hq => ?_⟩
      have hil : i < xs.length := (List.getElem?_eq_some_iff.mp hi).1
      refine hSS _ _ ⟨hil, by rw [List.length_append, hl]; rfl, same_new s2 hq, ?_⟩
      rw [List.take_succ, hpi]
      exact (hy.same (same_at hq)).snoc ⟨q, rfl, upd_same⟩
    · rintro ys H2 ⟨_, hl, s2, hy⟩ tl htl
      have hw2 := s2 w _ upd_same
      have nwt : w ≠ tl := ne_of_none hw2 htl
      refine ⟨_, rfl, w, _, dx, _, rfl, (by rw [upd_ne nwt]; exact hw2), T.cl_Web, T.n_Web_ties, (by show 1 < 1000; decide), ?_⟩
      have htl0 : H tl = none := by
        cases qq : H tl with
        | none => rfl
        | some oo =>
          have := s2 tl oo (by rw [upd_ne (Ne.symm nwt)]; exact qq)
          rw [htl] at this
          cases this
      refine q _ ⟨dx, tl, ys, upd_same, by rw [upd_ne (Ne.symm nwt), upd_same], ?_, htl0⟩ fun b ob e hb => ?_
      · have e1 : ps.take xs.length = ps := List.take_of_length_le (by rw [hp.1]; exact Nat.le_refl _)
        rw [e1] at hy
        refine ⟨hy.1, fun i p e => ?_⟩
        obtain ⟨v, e2, tt, e3, e4⟩ := hy.2 i p e
        exact ⟨v, e2, tt, e3, by rw [upd_ne (ne_of e4 hw2 (fun z => nomatch z)), upd_ne (ne_of_none e4 htl)]; exact e4⟩
      · have e2 := s2 b ob (by rw [upd_ne hb]; exact e)
        rw [upd_ne hb, upd_ne (ne_of_none e2 htl)]
        exact e2
end
end My
namespace My
open PySem L2 PyProof.Rows
set_option maxHeartbeats 4000000
def sp_is_tie (C : Addr) : Sp := fun vs H Q _ => ∃ (w : Addr) (n : Int) (ps : List (Int × Int)) (k : Int), vs = [.ref w, .int k] ∧ WebAt C H w n ps ∧ Q (.bl (decide (0 ≤ k ∧ k < (ps.length : Int)))) H
section
variable {P : Program} {w : World} {K : PySem.W.Frag} {mg : Str → Option Value} {base : Heap} {t : Adr}
theorem sc_is_tie : FnScope ["web", "number"] ["web", "number"] (defScope s_is_tie) := ⟨rfl, rfl, rfl, by decide +kernel, rfl, by decide +kernel, by decide +kernel⟩
theorem ok_is_tie (T : Txt K mg t) : FnOk P w K mg base CX0 1 t.a_is_tie t.d_is_tie ["web", "number"] (sp_is_tie t.A_Web) := by
  refine T.f_is_tie.ok sc_is_tie (fun vs H Q E h => ?_) (fun cdv A outer s H vs Q E hr h => ?_)
  · obtain ⟨w, n, ps, k, rfl, _⟩ := h
    rfl
  · obtain ⟨w, n, ps, k, rfl, ⟨dx, tl, xs, h1, h2, h3⟩, q⟩ := h
    refine ⟨_, (pss_one (ps_ret (pe_chain op_le op_lt pe_int (pv 1) (pe_callB (call_lenK K) (by rfl) T.n_len Boot.«len» (pa_cons (pe_fldK K (pv 0) rfl) pa_nil))))), ?_⟩
    refine ⟨_, rfl, _, _, rfl, rfl, _, rfl, ?_⟩
    refine ite2 (fun hc => ?_) (fun hc => ?_)
    · refine ⟨_, rfl, w, _, dx, _, _, rfl, h1, T.cl_Web, T.n_Web_ties, wf_ties _ _, tl, xs, rfl, .inl (SqL.of h2), _, _, rfl, rfl, ?_⟩
      have hc := of_decide_eq_true hc
      show Q (.bl (decide (k < (xs.length : Int)))) H
      rw [h3.1, show decide (k < (ps.length : Int)) = decide (0 ≤ k ∧ k < (ps.length : Int)) from by simp [hc]]
      exact q
    · have hc : ¬ (0 ≤ k) := fun z => hc (decide_eq_true z)
      show Q (.bl false) H
      rw [show (false : Bool) = decide (0 ≤ k ∧ k < (ps.length : Int)) from by simp; omega]
      exact q
end
end My
namespace My
open PySem L2 PyProof.Rows
set_option maxHeartbeats 4000000
def sp_all_ties (K : PySem.W.Frag) (C : Addr) : Sp := fun vs H Q _ => ∃ (w : Addr) (n : Int) (ps : List (Int × Int)), vs = [.ref w] ∧ WebAt C H w n ps ∧ ps.length ≤ 1000 ∧
  ∀ (r : Addr) (H' : Hp), Same H H' → H r = none → H' r = some (.tup (IL (rgL ps.length))) → Q (.ref r) H'
section
variable {P : Program} {w : World} {K : PySem.W.Frag} {mg : Str → Option Value} {base : Heap} {t : Adr}
theorem sc_all_ties : FnScope ["web"] ["web"] (defScope s_all_ties) := ⟨rfl, rfl, rfl, by decide +kernel, rfl, by decide +kernel, by decide +kernel⟩
theorem ok_all_ties (T : Txt K mg t) : FnOk P w K mg base CX0 1 t.a_all_ties t.d_all_ties ["web"] (sp_all_ties K t.A_Web) := by
  refine T.f_all_ties.ok sc_all_ties (fun vs H Q E h => ?_) (fun cdv A outer s H vs Q E hr h => ?_)
  · obtain ⟨w, n, ps, rfl, _⟩ := h
    rfl
  · obtain ⟨w, n, ps, rfl, ⟨dx, tl, xs, h1, h2, h3⟩, hl, q⟩ := h
    refine ⟨_, (pss_one (ps_ret (pe_callTy (call_tuple_rng rfl) (by rfl) T.n_tuple Boot.«tuple» (pa_cons (pe_callTy call_rng1 (by rfl) T.n_range Boot.«range» (pa_cons (pe_callB (call_lenK K) (by rfl) T.n_len Boot.«len» (pa_cons (pe_fldK K (pv 0) rfl) pa_nil)) pa_nil)) pa_nil)))), ?_⟩
    have hx := h3.1
    refine ⟨_, rfl, w, _, dx, _, _, rfl, h1, T.cl_Web, T.n_Web_ties, wf_ties _ _, tl, xs, rfl, .inl (SqL.of h2), _, rfl, fun r hr => ⟨r, 0, _, rfl, upd_same, ⟨by decide, by decide, by omega, by omega⟩, by omega, fun l hl => ?_⟩⟩
    refine q l _ (same_new (same_at hr) hl) ((same_at hr).free hl) ?_
    rw [upd_same, hx, rngI_rgL]
end
end My
namespace My
open PySem L2 PyProof.Rows
set_option maxHeartbeats 4000000
def sp_is_set (K : PySem.W.Frag) (C : Addr) : Sp := fun vs H Q _ => ∃ (w a : Addr) (n : Int) (ps : List (Int × Int)) (kd : Bool) (ns : List Int), vs = [.ref w, .ref a] ∧ WebAt C H w n ps ∧ SqK kd K H a (IL ns) ∧ ∀ b : Bool, (b = true ↔ IsSet ps.length ns) → Q (.bl b) H
section
variable {P : Program} {w : World} {K : PySem.W.Frag} {mg : Str → Option Value} {base : Heap} {t : Adr}
theorem sc_is_set : FnScope ["web", "ties", "last", "tie"] ["web", "ties"] (defScope s_is_set) := ⟨rfl, rfl, rfl, by decide +kernel, rfl, by decide +kernel, by decide +kernel⟩
theorem ok_is_set (T : Txt K mg t) : FnOk P w K mg base CX0 2 t.a_is_set t.d_is_set ["web", "ties"] (sp_is_set K t.A_Web) := by
  refine T.f_is_set.ok sc_is_set (fun vs H Q E h => ?_) (fun cdv A outer s H vs Q E hr h => ?_)
  · obtain ⟨w, a, n, ps, kd, ns, rfl, _⟩ := h
    rfl
  · obtain ⟨w, a, n, ps, kd, ns, rfl, hW, hS, q⟩ := h
    refine ⟨_, (pss_cons (ps_set (i := 2) sc_is_set.nd rfl (Or.inl rfl) (pe_un un_neg pe_int))
      (pss_cons (ps_for PassesOwn.never rfl (pi_seqK K (pv 1)) (pg_name (i := 3) sc_is_set.nd rfl (Or.inl rfl))
      (pss_cons (ps_if (PW.pt (pw_or (pt_cmpR op_le (pv 3) (pv 2) (nomark _)) (pw_or1 (pt_not (pt_val (pe_call (ok_is_tie T) (hr.mono (by decide)) rfl T.m_is_tie T.f_is_tie.kp T.b_is_tie .nil pass0 (pa_cons (pv 0) (pa_cons (pv 3) pa_nil))))))))
      (pss_one (ps_ret pe_bl))
      pss_nil)
      (pss_one (ps_set (i := 2) sc_is_set.nd rfl (Or.inl rfl) (pv 3)))))
      (pss_one (ps_ret pe_bl)))), ?_⟩
    refine ⟨_, rfl, ?_⟩
    refine ⟨_, rfl, a, rfl, for_seq (k := kd) (K := K) (xs := IL ns) (fun i σ H2 => ∃ (l : Int) (v : Option V), σ = [some (.ref w), some (.ref a), some (.int l), v] ∧ H2 = H ∧ (i = 0 → l = -1) ∧ (i ≠ 0 → ns[i - 1]? = some l) ∧ ∀ j z, j < i → ns[j]? = some z → 0 ≤ z ∧ z < (ps.length : Int) ∧ ∀ y, j ≠ 0 → ns[j - 1]? = some y → y < z)
      ⟨-1, none, rfl, rfl, fun _ => rfl, fun z => absurd rfl z, fun j z hj => absurd hj (Nat.not_lt_zero j)⟩ (fun i σ H2 _ ⟨_, _, _, e, _⟩ => e ▸ hS) ?_ ?_⟩
    · rintro i x σ H2 hi ⟨l, v, rfl, rfl, hl0, hl1, hp⟩
      obtain ⟨z, rfl, hz⟩ := il_get hi
      refine ⟨_, rfl, _, rfl, _, _, rfl, rfl, _, rfl, ?_⟩
      refine itd2 (fun hc => ?_) (fun hc => ?_)
      · -- tie <= last
        refine iteT ?_
        refine q false ⟨fun z => (nomatch z), fun hs => ?_⟩
        obtain ⟨b1, b2, b3⟩ := hs i z hz
        by_cases h0 : i = 0
        · have := hl0 h0; omega
        · have := b3 l h0 (hl1 h0); omega
      · refine ⟨_, rfl, _, rfl, w, n, ps, z, rfl, hW, _, rfl, ?_⟩
        refine itn2 (fun hc2 => ?_) (fun hc2 => ?_)
        · refine ⟨_, rfl, ?_⟩
          refine ⟨z, _, rfl, rfl, fun e => (nomatch e), fun _ => by simpa using hz, fun j y hj ey => ?_⟩
          by_cases hji : j < i
          · exact hp j y hji ey
          · have e : j = i := by omega
            subst e
            rw [hz] at ey
            cases ey
            refine ⟨hc2.1, hc2.2, fun y h0 ey => ?_⟩
            rw [hl1 h0] at ey
            cases ey
            omega
        · refine q false ⟨fun z => (nomatch z), fun hs => ?_⟩
          obtain ⟨b1, b2, b3⟩ := hs i z hz
          exact absurd ⟨b1, b2⟩ hc2
    · rintro σ H2 ⟨l, v, rfl, rfl, hl0, hl1, hp⟩
      refine q true ⟨fun _ i z hz => ?_, fun _ => rfl⟩
      have hi : i < (IL ns).length := by rw [il_length]; exact (List.getElem?_eq_some_iff.mp hz).1
      exact hp i z hi hz
end
end My
namespace My
open PySem L2 PyProof.Rows
set_option maxHeartbeats 4000000
/-- the tuple of a set of ties -/
def sp_made_set (K : PySem.W.Frag) (C : Addr) : Sp := fun vs H Q _ => ∃ (w a : Addr) (n : Int) (ps : List (Int × Int)) (kd : Bool) (ns : List Int), vs = [.ref w, .ref a] ∧ WebAt C H w n ps ∧ SqK kd K H a (IL ns) ∧ IsSet ps.length ns ∧
  ∀ (r : Addr) (H' : Hp), Same H H' → SqT K H' r (IL ns) → Q (.ref r) H'
section
variable {P : Program} {w : World} {K : PySem.W.Frag} {mg : Str → Option Value} {base : Heap} {t : Adr}
theorem sc_made_set : FnScope ["web", "ties"] ["web", "ties"] (defScope s_made_set) := ⟨rfl, rfl, rfl, by decide +kernel, rfl, by decide +kernel, by decide +kernel⟩
theorem ok_made_set (T : Txt K mg t) : FnOk P w K mg base CX0 3 t.a_made_set t.d_made_set ["web", "ties"] (sp_made_set K t.A_Web) := by
  refine T.f_made_set.ok sc_made_set (fun vs H Q E h => ?_) (fun cdv A outer s H vs Q E hr h => ?_)
  · obtain ⟨w, a, n, ps, kd, ns, rfl, _⟩ := h
    rfl
  · obtain ⟨w, a, n, ps, kd, ns, rfl, hW, hS, hI, q⟩ := h
    refine ⟨_, (pss_cons (ps_if (pt_not (pt_val (pe_call (ok_is_set T) (hr.mono (by decide)) rfl T.m_is_set T.f_is_set.kp T.b_is_set .nil pass0 (pa_cons (pv 0) (pa_cons (pv 1) pa_nil)))))
      (pss_one ps_never)
      pss_nil)
      (pss_one (ps_ret (pe_callTy (call_tupleK K) (by rfl) T.n_tuple Boot.«tuple» (pa_cons (pv 1) pa_nil))))), ?_⟩
    refine ⟨_, rfl, _, rfl, w, a, n, ps, kd, ns, rfl, hW, hS, fun b hb => ⟨_, rfl, ?_⟩⟩
    refine itnb (fun _ => ?_) (fun z => ?_)
    · refine ⟨_, rfl, a, IL ns, rfl, ?_⟩
      cases kd with
      | false => exact .inl ⟨hS, fun l hl => q l _ (same_at hl) (SqT.of upd_same)⟩
      | true => exact .inr ⟨hS, q a H (Same.refl H) hS⟩
    · rw [hb.mpr hI] at z
      cases z
end
end My
namespace My
open PySem L2 PyProof.Rows
set_option maxHeartbeats 4000000
/-- the marks with these ties taken besides -/
def sp_merged_marks (K : PySem.W.Frag) (C : Addr) : Sp := fun vs H Q _ => ∃ (w m a : Addr) (n : Int) (ps : List (Int × Int)) (M : List Int) (kd : Bool) (ns : List Int), vs = [.ref w, .ref m, .ref a] ∧ WebAt C H w n ps ∧ GoodW n ps ∧ H m = some (.lst (IL M)) ∧ M.length = n.toNat ∧ SqK kd K H a (IL ns) ∧ (∀ z ∈ ns, 0 ≤ z ∧ z < (ps.length : Int)) ∧
  ∀ (m' : Addr) (H' : Hp), Same H H' → (m' = m ∨ H m' = none) → H' m' = some (.lst (IL (pmf M (endsOf ps ns)))) → Q (.ref m') H'
section
variable {P : Program} {w : World} {K : PySem.W.Frag} {mg : Str → Option Value} {base : Heap} {t : Adr}
theorem sc_merged_marks : FnScope ["web", "marks", "ties", "tie", "ends", "low", "high"] ["web", "marks", "ties"] (defScope s_merged_marks) := ⟨rfl, rfl, rfl, by decide +kernel, rfl, by decide +kernel, by decide +kernel⟩
theorem ok_merged_marks (T : Txt K mg t) : FnOk P w K mg base CX0 1 t.a_merged_marks t.d_merged_marks ["web", "marks", "ties"] (sp_merged_marks K t.A_Web) := by
  refine T.f_merged_marks.ok sc_merged_marks (fun vs H Q E h => ?_) (fun cdv A outer s H vs Q E hr h => ?_)
  · obtain ⟨w, m, a, n, ps, M, kd, ns, rfl, _⟩ := h
    rfl
  · obtain ⟨w, m0, a, n, ps, M0, kd, ns, rfl, ⟨dx, tl, xs, h1, h2, h3⟩, ⟨g1, g2, g3, g4⟩, hm, hlM, hS, hI, q⟩ := h
    refine ⟨_, (pss_cons (ps_for PassesOwn.never rfl (pi_seqK K (pv 2)) (pg_name (i := 3) sc_merged_marks.nd rfl (Or.inl rfl))
      (pss_cons (ps_set (i := 4) sc_merged_marks.nd rfl (Or.inl rfl) (pe_ix (ix_listK K) (pe_fldK K (pv 0) rfl) (pv 3) (fun _ _ => rfl)))
      (pss_cons (ps_set (i := 5) sc_merged_marks.nd rfl (Or.inr rfl) (pe_callB (call_min2 rfl) (by rfl) T.n_min Boot.«min» (pa_cons (pe_ix (ix_listK K) (pv 1) (pe_ix (ix_tupK K) (pv 4) pe_int (fun _ _ => rfl)) (fun _ _ => rfl)) (pa_cons (pe_ix (ix_listK K) (pv 1) (pe_ix (ix_tupK K) (pv 4) pe_int (fun _ _ => rfl)) (fun _ _ => rfl)) pa_nil))))
      (pss_cons (ps_set (i := 6) sc_merged_marks.nd rfl (Or.inr rfl) (pe_callB (call_max2 rfl) (by rfl) T.n_max Boot.«max» (pa_cons (pe_ix (ix_listK K) (pv 1) (pe_ix (ix_tupK K) (pv 4) pe_int (fun _ _ => rfl)) (fun _ _ => rfl)) (pa_cons (pe_ix (ix_listK K) (pv 1) (pe_ix (ix_tupK K) (pv 4) pe_int (fun _ _ => rfl)) (fun _ _ => rfl)) pa_nil))))
      (pss_one (ps_if (pt_cmpR op_lt (pv 5) (pv 6) (nomark _))
      (pss_one (ps_lc (i := 1) rfl sc_merged_marks.nd rfl rfl (sc0 := defScope s_merged_marks) (N0 := ["web", "marks", "ties", "tie", "ends", "low", "high"]) (N' := ["mark", "high", "low"]) (o := 1) (fr := [6, 5]) ⟨rfl, by decide +kernel, by decide +kernel, by decide +kernel, rfl, by decide +kernel⟩ (pi_listK K (pv 1)) (own_name (by decide)) (fun _ _ _ _ => (pg_name (i := 0) (show List.Nodup (["mark", "high", "low"] : List Str) by decide +kernel) rfl (Or.inl rfl))) (fun _ _ _ _ => pts_nil) (fun _ _ _ _ => (pe_ifExp (pt_cmpR op_eq (pv 0) (pv 1) (nomark _)) (pv 2) (pv 0)))))
      pss_nil))))))
      (pss_one (ps_ret (pv 1)))), ?_⟩
    refine ⟨_, rfl, a, rfl, for_seq (k := kd) (K := K) (a := a) (xs := IL ns) (fun i σ H2 => ∃ (m : Addr) (v3 v4 v5 v6 : Option V), σ = [some (.ref w), some (.ref m), some (.ref a), v3, v4, v5, v6] ∧ Same H H2 ∧ (m = m0 ∨ H m = none) ∧ H2 m = some (.lst (IL (pmf M0 (endsOf ps (ns.take i))))))
      ⟨m0, none, none, none, none, rfl, Same.refl _, .inl rfl, hm⟩ (fun i σ H2 _ ⟨_, _, _, _, _, _, s2, _⟩ => hS.same s2) ?_ ?_⟩
    · rintro i x σ H2 hi ⟨m, v3, v4, v5, v6, rfl, s2, hm0, hm2⟩
      obtain ⟨z, rfl, hz⟩ := il_get hi
      obtain ⟨z0, z1⟩ := hI z (List.mem_of_getElem? hz)
      obtain ⟨p, hp⟩ : ∃ p, ps[z.toNat]? = some p := ⟨_, List.getElem?_eq_getElem (by omega)⟩
      obtain ⟨v, hv, tt, rfl, htt⟩ := h3.2 z.toNat p hp
      obtain ⟨e1, e2, e3, e4⟩ := g4 p (List.mem_of_getElem? hp)
      have ed : ps.getD z.toNat (0, 0) = p := getD_of hp
      -- ends = web.ties[tie]
      refine ⟨_, rfl, w, _, dx, _, _, rfl, s2 _ _ h1, T.cl_Web, T.n_Web_ties, wf_ties _ _, _, rfl, tl, xs, z, .ref tt, rfl, rfl, SqL.of (s2 _ _ h2), atI_of (n := z.toNat) (by omega) hv, ?_⟩
      have ht2 := s2 _ _ htt
      have hl : (pmf M0 (endsOf ps (ns.take i))).length = n.toNat := (pmf_length _ _).trans hlM
      generalize hM : pmf M0 (endsOf ps (ns.take i)) = M at *
      have ha : M[p.1.toNat]? = some (mk M p.1.toNat) := mk_some (by omega)
      have hb : M[p.2.toNat]? = some (mk M p.2.toNat) := mk_some (by omega)
      have iA : atI (IL M) p.1 = some (.int (mk M p.1.toNat)) := atI_of (n := p.1.toNat) (by omega) (by rw [List.getElem?_map, ha]; rfl)
      have iB : atI (IL M) p.2 = some (.int (mk M p.2.toNat)) := atI_of (n := p.2.toNat) (by omega) (by rw [List.getElem?_map, hb]; rfl)
      have t0 : atI ([.int p.1, .int p.2] : List V) 0 = some (.int p.1) := rfl
      have t1 : atI ([.int p.1, .int p.2] : List V) 1 = some (.int p.2) := rfl
      -- low, high
      refine ⟨_, rfl, _, rfl, tt, _, 0, _, rfl, rfl, SqT.of ht2, t0, m, _, p.1, _, rfl, rfl, SqL.of hm2, iA, _, rfl, _, rfl, tt, _, 1, _, rfl, rfl, SqT.of ht2, t1, m, _, p.2, _, rfl, rfl, SqL.of hm2, iB, _, _, rfl, ?_⟩
      refine ⟨_, rfl, _, rfl, tt, _, 0, _, rfl, rfl, SqT.of ht2, t0, m, _, p.1, _, rfl, rfl, SqL.of hm2, iA, _, rfl, _, rfl, tt, _, 1, _, rfl, rfl, SqT.of ht2, t1, m, _, p.2, _, rfl, rfl, SqL.of hm2, iB, _, _, rfl, ?_⟩
      have eL : (if mk M p.2.toNat < mk M p.1.toNat then mk M p.2.toNat else mk M p.1.toNat) = min (mk M p.1.toNat) (mk M p.2.toNat) := by
        rw [Int.min_def]; split <;> split <;> omega
      have eH : (if mk M p.2.toNat > mk M p.1.toNat then mk M p.2.toNat else mk M p.1.toNat) = max (mk M p.1.toNat) (mk M p.2.toNat) := by
        rw [Int.max_def]; split <;> split <;> omega
      refine ⟨_, rfl, _, rfl, _, _, rfl, rfl, _, rfl, ?_⟩
      rw [eL, eH]
      have step : pmf M0 (endsOf ps (ns.take (i + 1))) = pm M p.1.toNat p.2.toNat := by rw [endsOf_snoc hz, pmf_snoc, hM, ed]
      refine itd2 (fun hc => ?_) (fun hc => ?_)
      · refine ⟨_, rfl, m, rfl, ⟨_, SqL.of hm2⟩, lc_list (K := K) (a := m) (xs := IL M) (fun j ys H3 => H3 = H2 ∧ j ≤ M.length ∧ ys = IL ((M.take j).map fun k => if k = max (mk M p.1.toNat) (mk M p.2.toNat) then min (mk M p.1.toNat) (mk M p.2.toNat) else k)) ⟨rfl, Nat.zero_le _, rfl⟩ (small60' (by rw [il_length]; omega))
          (fun j ys H3 hj ⟨e, hjl, ey⟩ => ⟨e ▸ SqL.of hm2, by rw [ey, il_length, List.length_map, List.length_take]; omega⟩) ?_ ?_⟩
        · rintro j y ys H3 hj ⟨rfl, hjl, rfl⟩ S hSS
          obtain ⟨k, rfl, hk⟩ := il_get hj
          refine nmY ?_
          refine ⟨_, rfl, _, rfl, rfl, _, rfl, ?_⟩
          have hjl' : j < M.length := (List.getElem?_eq_some_iff.mp hk).1
          have app : ∀ r : Int, r = (if k = max (mk M p.1.toNat) (mk M p.2.toNat) then min (mk M p.1.toNat) (mk M p.2.toNat) else k) →
              IL ((M.take j).map fun k => if k = max (mk M p.1.toNat) (mk M p.2.toNat) then min (mk M p.1.toNat) (mk M p.2.toNat) else k) ++ [.int r] = IL ((M.take (j + 1)).map fun k => if k = max (mk M p.1.toNat) (mk M p.2.toNat) then min (mk M p.1.toNat) (mk M p.2.toNat) else k) := by
            intro r er
            rw [List.take_succ, hk, er]
            simp
          refine itd2 (fun he => ?_) (fun he => ?_)
          · refine ⟨_, rfl, hSS _ _ ⟨rfl, hjl', app _ ?_⟩⟩
            rw [if_pos (V.int.inj he)]
          · refine ⟨_, rfl, hSS _ _ ⟨rfl, hjl', app _ ?_⟩⟩
            rw [if_neg fun z => he (congrArg V.int z)]
        · rintro ys H3 ⟨rfl, _, rfl⟩ p' hp'
          refine ⟨p', _, _, _, _, rfl, same_new s2 hp', .inr (s2.free hp'), ?_⟩
          rw [upd_same, step, il_length, List.take_length]
          unfold pm
          rw [if_pos hc]
      · refine ⟨m, _, _, _, _, rfl, s2, hm0, ?_⟩
        rw [hm2, step]
        unfold pm
        rw [if_neg hc]
    · rintro σ H2 ⟨m, v3, v4, v5, v6, rfl, s2, hm0, hm2⟩
      rw [il_length, List.take_length] at hm2
      exact ⟨_, rfl, q m H2 s2 hm0 hm2⟩
end
end My
namespace My
open PySem L2 PyProof.Rows
set_option maxHeartbeats 4000000
/-- each place's mark, by the program's own steps -/
def sp_piece_marks (K : PySem.W.Frag) (C : Addr) : Sp := fun vs H Q _ => ∃ (w a : Addr) (n : Int) (ps : List (Int × Int)) (ns : List Int), vs = [.ref w, .ref a] ∧ WebAt C H w n ps ∧ GoodW n ps ∧ SqT K H a (IL ns) ∧ (∀ z ∈ ns, 0 ≤ z ∧ z < (ps.length : Int)) ∧
  ∀ (m : Addr) (H' : Hp), Same H H' → H m = none → H' m = some (.lst (IL (pms n.toNat (endsOf ps ns)))) → Q (.ref m) H'
section
variable {P : Program} {w : World} {K : PySem.W.Frag} {mg : Str → Option Value} {base : Heap} {t : Adr}
theorem sc_piece_marks : FnScope ["web", "ties"] ["web", "ties"] (defScope s_piece_marks) := ⟨rfl, rfl, rfl, by decide +kernel, rfl, by decide +kernel, by decide +kernel⟩
theorem ok_piece_marks (T : Txt K mg t) : FnOk P w K mg base CX0 2 t.a_piece_marks t.d_piece_marks ["web", "ties"] (sp_piece_marks K t.A_Web) := by
  refine T.f_piece_marks.ok sc_piece_marks (fun vs H Q E h => ?_) (fun cdv A outer s H vs Q E hr h => ?_)
  · obtain ⟨w, a, n, ps, ns, rfl, _⟩ := h
    rfl
  · obtain ⟨w, a, n, ps, ns, rfl, hW, hG, hS, hI, q⟩ := h
    refine ⟨_, (pss_one (ps_ret (pe_call (ok_merged_marks T) (hr.mono (by decide)) rfl T.m_merged_marks T.f_merged_marks.kp T.b_merged_marks .nil pass0 (pa_cons (pv 0) (pa_cons (pe_callTy (call_list_rng rfl) (by rfl) T.n_list Boot.«list» (pa_cons (pe_callTy call_rng1 (by rfl) T.n_range Boot.«range» (pa_cons (pe_fldK K (pv 0) rfl) pa_nil)) pa_nil)) (pa_cons (pv 1) pa_nil)))))), ?_⟩
    obtain ⟨dx, tl, xs, h1, h2, h3⟩ := id hW
    obtain ⟨g1, g2, g3, g4⟩ := id hG
    refine ⟨_, rfl, _, rfl, w, _, dx, _, _, rfl, h1, T.cl_Web, T.n_Web_places, wf_places _ _, n, rfl, fun r hr0 => ⟨r, 0, n, rfl, upd_same, ⟨by decide, by decide, by omega, by omega⟩, by omega, fun m hm => ?_⟩⟩
    have sm : Same H (upd (upd H r (.rng 0 n)) m (.lst ((rngI 0 n).map V.int))) := same_new (same_at hr0) hm
    refine ⟨_, rfl, w, m, a, n, ps, (List.range n.toNat).map (fun (i : Nat) => (i : Int)), true, ns, rfl, hW.same sm, hG, ?_, by simp, sqT_same sm hS, hI, fun m' H' s' hf hm' => ?_⟩
    · rw [upd_same, rngI_zero]
    · refine q m' H' (sm.trans s') ?_ hm'
      rcases hf with rfl | hf
      · exact (same_at hr0).free hm
      · exact sm.free hf
end
end My
namespace My
open PySem L2 PyProof.Rows
set_option maxHeartbeats 4000000
/-- the pieces over a set, by their marks -/
def sp_pieces_of (K : PySem.W.Frag) (C : Addr) : Sp := fun vs H Q _ => ∃ (w a : Addr) (n : Int) (ps : List (Int × Int)) (kd : Bool) (ns : List Int), vs = [.ref w, .ref a] ∧ WebAt C H w n ps ∧ GoodW n ps ∧ SqK kd K H a (IL ns) ∧ IsSet ps.length ns ∧
  ∀ (r : Addr) (as : List Addr) (H' : Hp), Same H H' → H r = none → H' r = some (.lst (as.map V.ref)) → r ∉ as → GrpAt H H' (grp (pms n.toNat (endsOf ps ns))) as → Q (.ref r) H'
section
variable {P : Program} {w : World} {K : PySem.W.Frag} {mg : Str → Option Value} {base : Heap} {t : Adr}
theorem sc_pieces_of : FnScope ["web", "ties", "pieces", "place", "mark"] ["web", "ties"] (defScope s_pieces_of) := ⟨rfl, rfl, rfl, by decide +kernel, rfl, by decide +kernel, by decide +kernel⟩
theorem ok_pieces_of (T : Txt K mg t) : FnOk P w K mg base CX0 4 t.a_pieces_of t.d_pieces_of ["web", "ties"] (sp_pieces_of K t.A_Web) := by
  refine T.f_pieces_of.ok sc_pieces_of (fun vs H Q E h => ?_) (fun cdv A outer s H vs Q E hr h => ?_)
  · obtain ⟨w, a, n, ps, kd, ns, rfl, _⟩ := h
    rfl
  · obtain ⟨w, a, n, ps, kd, ns, rfl, hW, hG, hS, hI, q⟩ := h
    refine ⟨_, (pss_cons (ps_set (i := 2) sc_pieces_of.nd rfl (Or.inl rfl) pe_dnewK)
      (pss_cons (ps_for PassesOwn.never rfl (pi_enumK K rfl T.n_enumerate (pa_cons (pe_call (ok_piece_marks T) (hr.mono (by decide)) rfl T.m_piece_marks T.f_piece_marks.kp T.b_piece_marks .nil pass0 (pa_cons (pv 0) (pa_cons (pe_call (ok_made_set T) (hr.mono (by decide)) rfl T.m_made_set T.f_made_set.kp T.b_made_set .nil pass0 (pa_cons (pv 0) (pa_cons (pv 1) pa_nil))) pa_nil))) pa_nil)) (pg_tupK (n := 2) K rfl (pgs_cons (pg_name (i := 3) sc_pieces_of.nd rfl (Or.inl rfl)) (pgs_cons (pg_name (i := 4) sc_pieces_of.nd rfl (Or.inl rfl)) pgs_nil)))
      (pss_one (ps_expr (pe_bmK K PySem.F.plainAttrs_list PySem.F.slot_list_append PySem.F.type_list_append mt_append (pe_bmK K PySem.F.plainAttrs_dict PySem.F.slot_dict_setdefault PySem.F.type_dict_setdefault mt_setdefault (pv 2) (pa_cons (pv 4) (pa_cons (pe_lst pa_nil) pa_nil))) (pa_cons (pv 3) pa_nil)))))
      (pss_one (ps_ret (pe_callTy (call_list_view rfl) (by rfl) T.n_list Boot.«list» (pa_cons (pe_bm0K K PySem.F.plainAttrs_dict PySem.F.slot_dict_values PySem.F.type_dict_values mt_values (pv 2)) pa_nil)))))), ?_⟩
    intro d hd
    have s0 : Same H (upd H d (.dK [])) := same_at hd
    refine ⟨_, rfl, _, rfl, _, rfl, w, a, n, ps, kd, ns, rfl, hW.same s0, hS.same s0, hI, fun r H1 s1 hr1 => ?_⟩
    refine ⟨w, r, n, ps, ns, rfl, (hW.same s0).same s1, hG, hr1, hI.all, fun m H2 s2 hm1 hm2 => ?_⟩
    have s02 : Same H H2 := (s0.trans s1).trans s2
    have hd2 : H2 d = some (.dK []) := s2 _ _ (s1 _ _ upd_same)
    have hl : (pms n.toNat (endsOf ps ns)).length = n.toNat := pms_length _ _
    generalize hM : pms n.toNat (endsOf ps ns) = M at *
    have hm0 : H m = none := (s0.trans s1).free hm1
    have n14 : M.length ≤ 14 := by have := hG.2.1; omega
    refine ⟨m, rfl, ⟨_, SqL.of hm2⟩, ?_⟩
    refine for_enum (K := K) (a := m) (xs := IL M) (fun i σ H3 => ∃ (as : List Addr) (v3 v4 : Option V), σ = [some (.ref w), some (.ref a), some (.ref d), v3, v4] ∧ i ≤ M.length ∧ Same H H3 ∧ H3 m = some (.lst (IL M)) ∧ H3 d = some (.dK (gkv (grpA M i) as)) ∧ d ∉ as ∧ m ∉ as ∧ GrpAt H H3 (grpA M i) as ∧ as.length ≤ i)
      ⟨[], none, none, rfl, Nat.zero_le _, s02, hm2, hd2, by simp, by simp, ⟨rfl, List.nodup_nil, fun i kv a e => by simp [grpA] at e, fun a ha => by simp at ha⟩, Nat.le_refl _⟩ (fun i σ H3 _ ⟨_, _, _, _, _, _, h, _⟩ => SqL.of h) ?_ ?_
    · rintro i x σ H3 pt hpt hi ⟨as, v3, v4, rfl, hil, s3, hm3, hd3, nda, nma, gA, hal⟩
      obtain ⟨k, rfl, hk⟩ := il_get hi
      have hk' : mk M i = k := getD_of hk
      have hil' : i < M.length := (List.getElem?_eq_some_iff.mp hk).1
      have s4 : Same H3 (upd H3 pt (.tup [.int i, .int k])) := same_at hpt
      refine ⟨pt, _, rfl, SqT.of upd_same, rfl, _, _, rfl, _, _, rfl, rfl, ?_⟩
      refine ⟨_, rfl, .inr (.inr (.inl ⟨rfl, .inl ⟨_, s4 _ _ hd3⟩⟩)), _, rfl, (by show 0 ≤ sizeLine; exact Nat.zero_le _), fun l hl0 => ?_⟩
      have s5 : Same H3 (upd (upd H3 pt (.tup [.int i, .int k])) l (.lst [])) := same_new s4 hl0
      have hd5 := s5 _ _ hd3
      have hl3 : H3 l = none := s4.free hl0
      have ndl : d ≠ l := ne_of_none hd3 hl3
      have gl := gA.len
      refine ⟨d, gkv (grpA M i) as, Sum.inl k, .ref l, rfl, rfl, hd5, ?_, fun v hv => ?_, fun hv => ?_⟩
      · rw [gkv_length gl]
        exact small60' (by omega)
      · -- the mark has its list
        rcases gkv_val (g := grpA M i) (as := as) (k := k) gl with ⟨h1, _⟩ | ⟨j, kv, b, e1, e2, e3, e4⟩
        · rw [h1] at hv; cases hv
        · rw [e4] at hv
          cases hv
          have hb5 := s5 _ _ (gA.at_ j kv b e1 e2)
          have hkm : k ∈ (grpA M i).map (·.1) := List.mem_map.mpr ⟨kv, List.mem_of_getElem? e1, e3⟩
          have hlen : kv.2.length ≤ i := grpA_len (List.mem_of_getElem? e1)
          refine ⟨.inl ⟨rfl, _, SqL.of hb5⟩, _, rfl, b, _, .int i, rfl, rfl, hb5, ?_, ?_⟩
          · rw [il_length]
            exact small60' (by omega)
          · have hbas : b ∈ as := List.mem_of_getElem? e2
            have hdb : d ≠ b := fun z => nda (z ▸ hbas)
            have hmb : m ≠ b := fun z => nma (z ▸ hbas)
            have hb0 := gA.new b hbas
            have ekeys : (grpA M (i + 1)).map (·.1) = (grpA M i).map (·.1) := by
              show (gstep (grpA M i) (i : Int) (mk M i)).map (·.1) = _
              rw [gstep_keys, hk', if_pos hkm]
            refine ⟨as, _, _, rfl, hil', same_upd hb0 (s3.trans s5), by rw [upd_ne hmb]; exact s5 _ _ hm3, by rw [upd_ne hdb, hd5, gkv_keys ekeys], nda, nma, ⟨?_, gA.nd, ?_, gA.new⟩, by omega⟩
            · have := congrArg List.length ekeys
              rw [List.length_map, List.length_map] at this
              omega
            · intro i2 kv2 a2 f1 f2
              have f1 : (gstep (grpA M i) (i : Int) (mk M i))[i2]? = some kv2 := f1
              unfold gstep at f1
              rw [hk', if_pos hkm, List.getElem?_map] at f1
              cases f3 : (grpA M i)[i2]? with
              | none => rw [f3] at f1; cases f1
              | some kv3 =>
                rw [f3] at f1
                have f1 : (if kv3.1 = k then (kv3.1, kv3.2 ++ [(i : Int)]) else kv3) = kv2 := Option.some.inj f1
                by_cases hj : i2 = j
                · subst hj
                  rw [e1] at f3
                  cases f3
                  rw [e2] at f2
                  cases f2
                  rw [if_pos e3] at f1
                  subst f1
                  rw [upd_same]
                  simp
                · have hab : a2 ≠ b := fun z => by
                    subst z
                    exact hj (nodup_get gA.nd f2 e2)
                  have hkk : ¬ kv3.1 = k := fun z => hj (nodup_get (grpA_nodup M i) (by rw [List.getElem?_map, f3]; exact congrArg some z) (by rw [List.getElem?_map, e1]; exact congrArg some e3))
                  rw [if_neg hkk] at f1
                  subst f1
                  rw [upd_ne hab]
                  exact s5 _ _ (gA.at_ i2 kv3 a2 f3 f2)
      · -- a new list
        rcases gkv_val (g := grpA M i) (as := as) (k := k) gl with ⟨h1, hkn⟩ | ⟨j, kv, b, e1, e2, e3, e4⟩
        · have hl6 : (upd (upd (upd H3 pt (.tup [.int i, .int k])) l (.lst [])) d (.dK (gkv (grpA M i) as ++ [(Sum.inl k, .ref l)]))) l = some (.lst []) := by rw [upd_ne (Ne.symm ndl), upd_same]
          refine ⟨.inl ⟨rfl, _, SqL.of hl6⟩, _, rfl, l, [], .int i, rfl, rfl, hl6, (by show 0 < sizeLine; decide), ?_⟩
          have hl0' : H l = none := s3.free hl3
          have hlas : l ∉ as := fun z => by
            obtain ⟨_, e⟩ := gA.mem z
            rw [hl3] at e
            cases e
          have hml : m ≠ l := ne_of_none hm3 hl3
          have hmd : m ≠ d := ne_of hm3 hd3 (fun z => nomatch z)
          have egr : grpA M (i + 1) = grpA M i ++ [(k, [(i : Int)])] := by
            show gstep (grpA M i) (i : Int) (mk M i) = _
            unfold gstep
            rw [hk', if_neg hkn]
          have hdH : H d = none := hd
          refine ⟨as ++ [l], _, _, rfl, hil', same_upd hl0' (same_upd hdH (s3.trans s5)), by rw [upd_ne hml, upd_ne hmd]; exact s5 _ _ hm3, ?_, ?_, ?_, ⟨?_, ?_, ?_, ?_⟩, ?_⟩
          · rw [upd_ne ndl, upd_same, egr, gkv_snoc gl]
          · rw [List.mem_append, List.mem_singleton]
            rintro (z | z)
            · exact nda z
            · exact ndl z
          · rw [List.mem_append, List.mem_singleton]
            rintro (z | z)
            · exact nma z
            · exact hml z
          · rw [egr, List.length_append, List.length_append, gl]
            rfl
          · exact nd_snoc gA.nd hlas
          · intro i2 kv2 a2 f1 f2
            rw [egr] at f1
            by_cases hi2 : i2 < (grpA M i).length
            · rw [List.getElem?_append_left hi2] at f1
              rw [List.getElem?_append_left (by omega)] at f2
              have e := gA.at_ i2 kv2 a2 f1 f2
              have n1 : a2 ≠ l := ne_of_none e hl3
              have n2 : a2 ≠ d := ne_of e hd3 (fun z => nomatch z)
              rw [upd_ne n1, upd_ne n2]
              exact s5 _ _ e
            · have h2 : i2 = (grpA M i).length := by
                have := (List.getElem?_eq_some_iff.mp f1).1
                rw [List.length_append, List.length_singleton] at this
                omega
              subst h2
              rw [List.getElem?_append_right (Nat.le_refl _), Nat.sub_self] at f1
              rw [List.getElem?_append_right (by omega), gl, Nat.sub_self] at f2
              cases f1
              cases f2
              rw [upd_same]
              rfl
          · intro a2 ha2
            rcases List.mem_append.mp ha2 with z | z
            · exact gA.new a2 z
            · rw [List.mem_singleton.mp z]; exact hl0'
          · rw [List.length_append, List.length_singleton]
            omega
        · rw [e4] at hv; cases hv
    · rintro σ H3 ⟨as, v3, v4, rfl, hil, s3, hm3, hd3, nda, nma, gA, hal⟩
      rw [il_length] at hd3 gA
      refine ⟨_, rfl, .inr (.inr (.inl ⟨rfl, .inl ⟨_, hd3⟩⟩)), d, _, rfl, rfl, hd3, fun p hp => ?_⟩
      have s6 : Same H3 (upd H3 p (viewO p d)) := same_at hp
      refine ⟨p, d, _, rfl, upd_same, s6 _ _ hd3, fun r hr0 => ?_⟩
      have s7 : Same H3 (upd (upd H3 p (viewO p d)) r (.lst ((gkv (grpA M M.length) as).map (·.2)))) := same_new s6 hr0
      refine q r as _ (s3.trans s7) ((s3.trans s6).free hr0) (by rw [upd_same, gkv_snd gA.len]) (fun z => ?_) (gA.same s7)
      obtain ⟨_, e⟩ := gA.mem z
      rw [s6.free hr0] at e
      cases e
end
end My
namespace My
open PySem L2 PyProof.Rows
set_option maxHeartbeats 4000000
def sp_is_joined (K : PySem.W.Frag) (C : Addr) : Sp := fun vs H Q _ => ∃ (w a : Addr) (n : Int) (ps : List (Int × Int)) (kd : Bool) (ns : List Int), vs = [.ref w, .ref a] ∧ WebAt C H w n ps ∧ GoodW n ps ∧ SqK kd K H a (IL ns) ∧ IsSet ps.length ns ∧
  ∀ (b : Bool) (H' : Hp), Same H H' → (b = true ↔ (grp (pms n.toNat (endsOf ps ns))).length = 1) → Q (.bl b) H'
section
variable {P : Program} {w : World} {K : PySem.W.Frag} {mg : Str → Option Value} {base : Heap} {t : Adr}
theorem sc_is_joined : FnScope ["web", "ties"] ["web", "ties"] (defScope s_is_joined) := ⟨rfl, rfl, rfl, by decide +kernel, rfl, by decide +kernel, by decide +kernel⟩
theorem ok_is_joined (T : Txt K mg t) : FnOk P w K mg base CX0 5 t.a_is_joined t.d_is_joined ["web", "ties"] (sp_is_joined K t.A_Web) := by
  refine T.f_is_joined.ok sc_is_joined (fun vs H Q E h => ?_) (fun cdv A outer s H vs Q E hr h => ?_)
  · obtain ⟨w, a, n, ps, kd, ns, rfl, _⟩ := h
    rfl
  · obtain ⟨w, a, n, ps, kd, ns, rfl, hW, hG, hS, hI, q⟩ := h
    refine ⟨_, (pss_one (ps_ret (pe_cmpR op_eq (pe_callB (call_lenK K) (by rfl) T.n_len Boot.«len» (pa_cons (pe_call (ok_pieces_of T) (hr.mono (by decide)) rfl T.m_pieces_of T.f_pieces_of.kp T.b_pieces_of .nil pass0 (pa_cons (pv 0) (pa_cons (pv 1) pa_nil))) pa_nil)) pe_int (nomark _)))), ?_⟩
    refine ⟨_, rfl, _, rfl, w, a, n, ps, kd, ns, rfl, hW, hG, hS, hI, fun r as H' s1 hr0 hr1 hnr gA => ?_⟩
    refine ⟨r, _, rfl, .inl (SqL.of hr1), rfl, ?_⟩
    rw [List.length_map, gA.len, dec_int]
    refine q _ H' s1 ?_
    rw [decide_eq_true_iff]
    omega
end
end My
namespace My
open PySem L2 PyProof.Rows
set_option maxHeartbeats 4000000
/-- the darts of each place -/
def sp_darts_away (K : PySem.W.Frag) (C : Addr) : Sp := fun vs H Q _ => ∃ (w : Addr) (n : Int) (ps : List (Int × Int)), vs = [.ref w] ∧ WebAt C H w n ps ∧ GoodW n ps ∧
  ∀ (r : Addr) (ys : List V) (H' : Hp), Same H H' → JagAt H r H' ys (dtA n.toNat ps ps.length) → Q (.ref r) H'
section
variable {P : Program} {w : World} {K : PySem.W.Frag} {mg : Str → Option Value} {base : Heap} {t : Adr}
theorem sc_darts_away : FnScope ["web", "darts", "tie", "ends"] ["web"] (defScope s_darts_away) := ⟨rfl, rfl, rfl, by decide +kernel, rfl, by decide +kernel, by decide +kernel⟩
theorem ok_darts_away (T : Txt K mg t) : FnOk P w K mg base CX0 1 t.a_darts_away t.d_darts_away ["web"] (sp_darts_away K t.A_Web) := by
  refine T.f_darts_away.ok sc_darts_away (fun vs H Q E h => ?_) (fun cdv A outer s H vs Q E hr h => ?_)
  · obtain ⟨w, n, ps, rfl, _⟩ := h
    rfl
  · obtain ⟨w, n, ps, rfl, hW, hG, q⟩ := h
    refine ⟨_, (pss_cons (ps_lc (i := 1) rfl sc_darts_away.nd rfl rfl (sc0 := defScope s_darts_away) (N0 := ["web", "darts", "tie", "ends"]) (N' := ["place"]) (o := 1) (fr := []) ⟨rfl, by decide +kernel, by decide +kernel, by decide +kernel, rfl, by decide +kernel⟩ (pi_range1 rfl T.n_range (pa_cons (pe_fldK K (pv 0) rfl) pa_nil)) (own_name (by decide)) (fun _ _ _ _ => (pg_name (i := 0) (show List.Nodup (["place"] : List Str) by decide +kernel) rfl (Or.inl rfl))) (fun _ _ _ _ => pts_nil) (fun _ _ _ _ => (pe_lst pa_nil)))
      (pss_cons (ps_for PassesOwn.never rfl (pi_enumK K rfl T.n_enumerate (pa_cons (pe_fldK K (pv 0) rfl) pa_nil)) (pg_tupK (n := 2) K rfl (pgs_cons (pg_name (i := 2) sc_darts_away.nd rfl (Or.inl rfl)) (pgs_cons (pg_name (i := 3) sc_darts_away.nd rfl (Or.inl rfl)) pgs_nil)))
      (pss_cons (ps_expr (pe_bmK K PySem.F.plainAttrs_list PySem.F.slot_list_append PySem.F.type_list_append mt_append (pe_ix (ix_listK K) (pv 1) (pe_ix (ix_tupK K) (pv 3) pe_int (fun _ _ => rfl)) (fun _ _ => rfl)) (pa_cons (pe_op op_mul pe_int (pv 2)) pa_nil)))
      (pss_one (ps_expr (pe_bmK K PySem.F.plainAttrs_list PySem.F.slot_list_append PySem.F.type_list_append mt_append (pe_ix (ix_listK K) (pv 1) (pe_ix (ix_tupK K) (pv 3) pe_int (fun _ _ => rfl)) (fun _ _ => rfl)) (pa_cons (pe_op op_add (pe_op op_mul pe_int (pv 2)) pe_int) pa_nil))))))
      (pss_one (ps_ret (pv 1))))), ?_⟩
    obtain ⟨dx, tl, xs, h1, h2, h3⟩ := id hW
    have hl := h3.1
    obtain ⟨g1, g2, g3, g4⟩ := id hG
    have eD : ∀ i, dtA i ps 0 = List.replicate i [] := fun i => by
      unfold dtA
      rw [show (fun (p : Nat) => dtU ps (p : Int) 0) = fun _ => [] from rfl, List.map_const', List.length_range]
    -- darts
    refine ⟨_, rfl, w, _, dx, _, _, rfl, h1, T.cl_Web, T.n_Web_places, wf_places _ _, n, rfl, by omega, by omega, lc_range (lo := 0) (n := n.toNat) (fun i zs H2 => Same H H2 ∧ Bears (ListV H2) zs (List.replicate i []) ∧ zs.Nodup ∧ ∀ A, V.ref A ∈ zs → H A = none ∧ ∃ o, H2 A = some o) ⟨Same.refl _, ⟨rfl, fun i l e => by simp at e⟩, .nil, fun A h => (by cases h)⟩ (small60' (by omega)) (fun i zs H2 _ ⟨_, e, _⟩ => by rw [e.1, List.length_replicate]; exact Nat.le_refl _) ?_ ?_⟩
    · rintro i zs H2 hi ⟨s2, hZ, hnd, hnew⟩ S hSS
      refine nm ?_
      refine ⟨Nat.zero_le _, fun p1 hp1 => ?_⟩
      have u1 := same_at (o := .lst []) hp1
      refine hSS _ _ ⟨s2.trans u1, ?_, ?_, fun A hA => ?_⟩
      · rw [List.replicate_succ']
        exact (hZ.imp fun _ _ ⟨r', e, h⟩ => ⟨r', e, u1 _ _ h⟩).snoc ⟨p1, rfl, upd_same⟩
      · refine List.nodup_append.mpr ⟨hnd, by simp, fun x hx y hy e => ?_⟩
        rw [List.mem_singleton.mp hy] at e
        obtain ⟨_, o, ho⟩ := hnew p1 (e ▸ hx)
        rw [hp1] at ho
        cases ho
      · rcases List.mem_append.mp hA with e | e
        · obtain ⟨a1, o, a2⟩ := hnew A e
          exact ⟨a1, o, u1 _ _ a2⟩
        · have e' : A = p1 := by simpa using e
          rw [e']
          exact ⟨s2.free hp1, _, upd_same⟩
    rintro zs H2 ⟨s2, hZ, hnd, hnew⟩ tA htA
    have s3 := s2.trans (same_at (o := .lst zs) htA)
    have hT : JagAt H tA (upd H2 tA (.lst zs)) zs (dtA n.toNat ps 0) := ⟨upd_same, by rw [eD]; exact hZ.imp fun _ _ ⟨r', e, h⟩ => ⟨r', e, same_at htA _ _ h, ne_of_none h htA⟩, hnd, fun A hA => (hnew A hA).1⟩
    generalize upd H2 tA (.lst zs) = H3 at *
    -- the ties
    refine ⟨_, rfl, w, _, dx, _, _, rfl, s3 _ _ h1, T.cl_Web, T.n_Web_ties, wf_ties _ _, tl, rfl, ⟨_, SqL.of (s3 _ _ h2)⟩, for_enum (K := K) (a := tl) (xs := xs) (fun i σ H4 => ∃ v2 v3 : Option V, σ = [some (.ref w), some (.ref tA), v2, v3] ∧ Same H H4 ∧ i ≤ ps.length ∧ JagAt H tA H4 zs (dtA n.toNat ps i)) ⟨none, none, rfl, s3, Nat.zero_le _, hT⟩ (fun i σ H4 _ ⟨_, _, _, e, _⟩ => SqL.of (e _ _ h2)) ?_ ?_⟩
    · rintro i v σ H4 pt hpt hi ⟨v2, v3, rfl, s4, hip, hJ⟩
      obtain ⟨p, hp, tt, rfl, htt⟩ := h3.at hi
      have hip' := (List.getElem?_eq_some_iff.mp hp).1
      obtain ⟨e1, e2, e3, e4⟩ := g4 p (List.mem_of_getElem? hp)
      obtain ⟨a, ha⟩ : ∃ a : Nat, p.1 = (a : Int) := ⟨p.1.toNat, by omega⟩
      obtain ⟨b, hb⟩ : ∃ b : Nat, p.2 = (b : Int) := ⟨p.2.toNat, by omega⟩
      have u1 := same_at (o := .tup [.int i, .ref tt]) hpt
      refine ⟨pt, _, rfl, SqT.of upd_same, rfl, _, _, rfl, _, _, rfl, rfl, ?_⟩
      have hJ5 := hJ.same u1
      have s5 := s4.trans u1
      generalize upd H4 pt (.tup [.int i, .ref tt]) = H5 at *
      have dl : (dtA n.toNat ps i).length = n.toNat := by unfold dtA; rw [List.length_map, List.length_range]
      have len6 : ∀ (c : Nat) , (dtU ps (c : Int) i).length < 1000 := fun c => by have := dtU_len (ps := ps) (p := (c : Int)) i; omega
      -- the first end
      obtain ⟨A, l, y1, z1, hA, hA0, hAr⟩ := hJ5.at (i := a) (by omega)
      have el : l = dtU ps (a : Int) i := by
        have : (dtA n.toNat ps i)[a]? = some (dtU ps (a : Int) i) := range_at (by omega)
        rw [this] at z1
        exact (Option.some.inj z1).symm
      have hll := len6 a
      rw [← el] at hll
      refine ⟨_, rfl, _, rfl, tt, _, 0, .int p.1, rfl, rfl, SqT.of (s5 _ _ htt), rfl, tA, _, p.1, .ref A, rfl, rfl, SqL.of hJ5.tab, atI_of (n := a) (by omega) y1, .inl ⟨rfl, _, SqL.of hA⟩, _, rfl, _, _, rfl, rfl, .inl ⟨by decide, by decide⟩, A, _, _, rfl, rfl, hA, small60' (by rw [il_length]; omega), ?_⟩
      have c1 : IL l ++ [.int (2 * (i : Int))] = IL (l ++ [2 * (i : Int)]) := (il_snoc ..).symm
      rw [c1]
      have hJ6 := hJ5.put (l' := l ++ [2 * (i : Int)]) y1 z1 hAr
      have s6 : Same H (upd H5 A (.lst (IL (l ++ [2 * (i : Int)])))) := same_upd hA0 s5
      have htt6 := s6 _ _ htt
      generalize upd H5 A (.lst (IL (l ++ [2 * (i : Int)]))) = H6 at *
      -- the second
      obtain ⟨B, l2, y2, z2, hB, hB0, hBr⟩ := hJ6.at (i := b) (by rw [List.length_set]; omega)
      have el2 : l2 = if b = a then dtU ps (a : Int) i ++ [2 * (i : Int)] else dtU ps (b : Int) i := by
        rw [List.getElem?_set] at z2
        by_cases c : a = b
        · rw [if_pos c, if_pos (by omega)] at z2
          rw [if_pos c.symm, ← el]
          exact (Option.some.inj z2).symm
        · rw [if_neg c] at z2
          have : (dtA n.toNat ps i)[b]? = some (dtU ps (b : Int) i) := range_at (by omega)
          rw [this] at z2
          rw [if_neg (Ne.symm c)]
          exact (Option.some.inj z2).symm
      have hl2 : l2.length < 10000 := by
        have := len6 a
        have := len6 b
        rw [el2]
        split
        · rw [List.length_append, List.length_singleton]; omega
        · omega
      refine ⟨_, rfl, _, rfl, tt, _, 1, .int p.2, rfl, rfl, SqT.of htt6, rfl, tA, _, p.2, .ref B, rfl, rfl, SqL.of hJ6.tab, atI_of (n := b) (by omega) y2, .inl ⟨rfl, _, SqL.of hB⟩, _, rfl, _, _, rfl, rfl, .inl ⟨by decide, by decide⟩, _, _, rfl, rfl, B, _, _, rfl, rfl, hB, small60' (by rw [il_length]; omega), ?_⟩
      have c2 : IL l2 ++ [.int (2 * (i : Int) + 1)] = IL (l2 ++ [2 * (i : Int) + 1]) := (il_snoc ..).symm
      rw [c2]
      have hJ7 := hJ6.put (l' := l2 ++ [2 * (i : Int) + 1]) y2 z2 hBr
      have hgp : ps.getD i (0, 0) = ((a : Int), (b : Int)) := by rw [getD_of hp, ← ha, ← hb]
      rw [el2, el, dtA_succ hgp] at hJ7
      rw [el2]
      exact ⟨_, _, rfl, same_upd hB0 s6, hip', hJ7⟩
    rintro σ H4 ⟨v2, v3, rfl, s4, _, hJ⟩
    rw [hl] at hJ
    exact ⟨_, rfl, q tA zs H4 s4 hJ⟩
end
end My
namespace My
open PySem L2 PyProof.Rows
set_option maxHeartbeats 4000000
/-- turns that hold each dart once, at its place, are taken; others are refused -/
def sp_refuse_bad_turns (K : PySem.W.Frag) (C B : Addr) : Sp := fun vs H Q E => ∃ (w a : Addr) (kd : Bool) (n : Int) (ps : List (Int × Int)) (xs : List V) (ts : List (List Int)), vs = [.ref w, .ref a] ∧ WebAt C H w n ps ∧ GoodW n ps ∧ SqK kd K H a xs ∧ Bears (RowV K H) xs ts ∧ ts.length ≤ 1000 ∧ (∀ l ∈ ts, l.length < 64) ∧
  (VT n.toNat ps ts → ∀ H' : Hp, Same H H' → Q .non H') ∧ (¬ VT n.toNat ps ts → ∀ H' : Hp, Same H H' → E (.ref B) none H')
section
variable {P : Program} {w : World} {K : PySem.W.Frag} {mg : Str → Option Value} {base : Heap} {t : Adr}
theorem sc_refuse_bad_turns : FnScope ["web", "turns"] ["web", "turns"] (defScope s_refuse_bad_turns) := ⟨rfl, rfl, rfl, by decide +kernel, rfl, by decide +kernel, by decide +kernel⟩
theorem ok_refuse_bad_turns (T : Txt K mg t) : FnOk P w K mg base (CXW P w) 2 t.a_refuse_bad_turns t.d_refuse_bad_turns ["web", "turns"] (sp_refuse_bad_turns K t.A_Web t.A_BadTurns) := by
  refine T.f_refuse_bad_turns.okX sc_refuse_bad_turns (fun vs H Q E h => ?_) (fun cdv A outer s H vs Q E hr h => ?_)
  · obtain ⟨w, a, kd, n, ps, xs, ts, rfl, _⟩ := h
    rfl
  · obtain ⟨w, a, kd, n, ps, xs, ts, rfl, hW, hG, hA, hX, hl1, hl2, q, qe⟩ := h
    refine ⟨_, (pss_one (ps_if (pt_cmpR (op_neDK K (hu8 hr)) (pe_lc rfl (sc0 := defScope s_refuse_bad_turns) (N0 := ["web", "turns"]) (N' := ["turn"]) (o := 1) (fr := []) ⟨rfl, by decide +kernel, by decide +kernel, by decide +kernel, rfl, by decide +kernel⟩ (pi_seqK K (pv 1)) (own_name (by decide)) (fun _ _ _ _ => (pg_name (i := 0) (show List.Nodup (["turn"] : List Str) by decide +kernel) rfl (Or.inl rfl))) (fun _ _ _ _ => pts_nil) (fun _ _ _ _ => (pe_callB (call_sortedQ K) (by rfl) T.n_sorted Boot.«sorted» (pa_cons (pv 0) pa_nil)))) (pe_call (ok_darts_away T) (hr.mono (by decide)) rfl T.m_darts_away T.f_darts_away.kp T.b_darts_away .nil pass0 (pa_cons (pv 0) pa_nil)) (nomark _))
      (pss_one (ps_raise T.x_BadTurns T.c_BadTurns (pa_cons pe_str pa_nil)))
      pss_nil)), ?_⟩
    have hxl := hX.1
    refine ⟨_, rfl, a, rfl, lc_seq (K := K) (k := kd) (a := a) (xs := xs) (fun i zs H2 => Same H H2 ∧ i ≤ xs.length ∧ ∃ ss : List (List Int), Bears (ListV H2) zs ss ∧ ss.length = i ∧ ∀ (j : Nat) (x y : List Int), ts[j]? = some x → ss[j]? = some y → y.Perm x ∧ y.Pairwise (· ≤ ·)) ⟨Same.refl _, Nat.zero_le _, [], ⟨rfl, fun i l e => by simp at e⟩, rfl, fun j x y _ h => by simp at h⟩ (small60' (by omega)) (fun i zs H2 hi ⟨e, hi2, ss, ez, el, _⟩ => ⟨hA.same e, by rw [ez.1, el]; exact Nat.le_refl _⟩) ?_ ?_⟩
    · rintro i v zs H2 hi ⟨s2, hil, ss, hZ, hsl, hss⟩ S hSS
      obtain ⟨l, hl, r, k2, rfl, hr⟩ := hX.at hi
      have hil' := (List.getElem?_eq_some_iff.mp hi).1
      refine nm ?_
      refine ⟨_, rfl, k2, r, l, rfl, hr.same s2, hl2 l (List.mem_of_getElem? hl), fun ms p1 p2 la hla => ?_⟩
      have u := same_at (o := .lst (IL ms)) hla
      refine hSS _ _ ⟨s2.trans u, hil', ss ++ [ms], (hZ.imp fun _ _ ⟨r', e, h⟩ => ⟨r', e, u _ _ h⟩).snoc ⟨la, rfl, upd_same⟩, by rw [List.length_append, hsl]; rfl, fun j x y ex ey => ?_⟩
      by_cases c : j < ss.length
      · rw [List.getElem?_append_left c] at ey
        exact hss j x y ex ey
      · have lt := (List.getElem?_eq_some_iff.mp ey).1
        rw [List.length_append, List.length_singleton] at lt
        have ej : j = i := by omega
        rw [List.getElem?_append_right (by omega), show j - ss.length = 0 by omega] at ey
        have ey : ms = y := Option.some.inj ey
        rw [ej, hl] at ex
        have ex : l = x := Option.some.inj ex
        rw [← ey, ← ex]
        exact ⟨p1, p2⟩
    rintro zs H2 ⟨s2, _, ss, hZ, hsl, hss⟩ lA hlA
    have u3 := same_at (o := .lst zs) hlA
    have k3 : (upd H2 lA (.lst zs)) lA = some (.lst zs) := upd_same
    have hZ3 : Bears (ListV (upd H2 lA (.lst zs))) zs ss := hZ.imp fun _ _ ⟨r', e, h⟩ => ⟨r', e, u3 _ _ h⟩
    have s3 := s2.trans u3
    generalize upd H2 lA (.lst zs) = H3 at *
    refine ⟨_, rfl, w, n, ps, rfl, hW.same s3, hG, fun r ys H4 s4 hJ => ?_⟩
    have s34 := s3.trans s4
    refine ⟨2, _, lA, r, rfl, rfl, by decide, eqd_llints (SqL.of (s4 _ _ k3)) (SqL.of hJ.tab) (hZ3.imp fun _ _ ⟨r', e, h⟩ => ⟨r', e, s4 _ _ h⟩) hJ.lists, _, rfl, ?_⟩
    have key := vt_iff (n := n.toNat) (ps := ps) (by omega) hss
    refine itn2 (fun h => ?_) (fun h => ?_)
    · exact q (key.mp h) H4 s34
    · exact ⟨(by show 1 ≤ sizeLine; decide), qe (fun v => h (key.mpr v)) H4 s34⟩
end
end My
namespace My
open PySem L2 PyProof.Rows
set_option maxHeartbeats 4000000
def sp_back_dart : Sp := fun vs H Q _ => ∃ d : Int, vs = [.int d] ∧ Q (.int (bkD d)) H
section
variable {P : Program} {w : World} {K : PySem.W.Frag} {mg : Str → Option Value} {base : Heap} {t : Adr}
theorem sc_back_dart : FnScope ["dart"] ["dart"] (defScope s_back_dart) := ⟨rfl, rfl, rfl, by decide +kernel, rfl, by decide +kernel, by decide +kernel⟩
theorem ok_back_dart (T : Txt K mg t) : FnOk P w K mg base CX0 1 t.a_back_dart t.d_back_dart ["dart"] sp_back_dart := by
  refine T.f_back_dart.ok sc_back_dart (fun vs H Q E h => ?_) (fun cdv A outer s H vs Q E hr h => ?_)
  · obtain ⟨d, rfl, _⟩ := h
    rfl
  · obtain ⟨d, rfl, q⟩ := h
    refine ⟨_, (pss_one (ps_ret (pe_ifExp (pt_cmpR op_eq (pe_op op_mod (pv 0) pe_int) pe_int (nomark _)) (pe_op op_add (pv 0) pe_int) (pe_op op_sub (pv 0) pe_int)))), ?_⟩
    refine ⟨_, rfl, _, _, rfl, rfl, (by show (0 : Int) < 2; decide), rfl, _, rfl, ?_⟩
    rw [dec_int]
    refine itd2 (fun h => ?_) (fun h => ?_)
    · refine ⟨_, rfl, _, _, rfl, rfl, ?_⟩
      have e : bkD d = d + 1 := if_pos h
      rw [e] at q; exact q
    · refine ⟨_, rfl, _, _, rfl, rfl, ?_⟩
      have e : bkD d = d - 1 := if_neg h
      rw [e] at q; exact q
end
end My
namespace My
open PySem L2 PyProof.Rows
set_option maxHeartbeats 4000000
/-- for each dart the one behind it -/
def sp_darts_behind (K : PySem.W.Frag) : Sp := fun vs H Q _ => ∃ (a : Addr) (kd : Bool) (xs : List V) (ts : List (List Int)), vs = [.ref a] ∧ SqK kd K H a xs ∧ Bears (RowV K H) xs ts ∧ ts.flatten.Nodup ∧ ts.flatten.length ≤ 1000 ∧
  ∀ (d : Addr) (H' : Hp), Same H H' → H d = none → H' d = some (.dK (kvI (bhL ts))) → Q (.ref d) H'
theorem kvI_len (L : List (Int × Int)) : (kvI L).length = L.length := by unfold kvI; rw [List.length_map]
section
variable {P : Program} {w : World} {K : PySem.W.Frag} {mg : Str → Option Value} {base : Heap} {t : Adr}
theorem sc_darts_behind : FnScope ["turns", "behind", "turn", "at", "dart"] ["turns"] (defScope s_darts_behind) := ⟨rfl, rfl, rfl, by decide +kernel, rfl, by decide +kernel, by decide +kernel⟩
theorem ok_darts_behind (T : Txt K mg t) : FnOk P w K mg base CX0 2 t.a_darts_behind t.d_darts_behind ["turns"] (sp_darts_behind K) := by
  refine T.f_darts_behind.ok sc_darts_behind (fun vs H Q E h => ?_) (fun cdv A outer s H vs Q E hr h => ?_)
  · obtain ⟨a, kd, xs, ts, rfl, _⟩ := h
    rfl
  · obtain ⟨a, kd, xs, ts, rfl, hA, hX, hnd, hfl, q⟩ := h
    refine ⟨_, (pss_cons (ps_set (i := 1) sc_darts_behind.nd rfl (Or.inl rfl) pe_dnewK)
      (pss_cons (ps_for PassesOwn.never rfl (pi_seqK K (pv 0)) (pg_name (i := 2) sc_darts_behind.nd rfl (Or.inl rfl))
      (pss_one (ps_for PassesOwn.never rfl (pi_enumQ K rfl T.n_enumerate (pa_cons (pv 2) pa_nil)) (pg_tupK (n := 2) K rfl (pgs_cons (pg_name (i := 3) sc_darts_behind.nd rfl (Or.inl rfl)) (pgs_cons (pg_name (i := 4) sc_darts_behind.nd rfl (Or.inl rfl)) pgs_nil)))
      (pss_one (ps_dput (hu_of hr) (pv 1) (pe_call (ok_back_dart T) (hr.mono (by decide)) rfl T.m_back_dart T.f_back_dart.kp T.b_back_dart .nil pass0 (pa_cons (pv 4) pa_nil)) (pe_ix (ix_seqK K) (pv 2) (pe_op op_mod (pe_op op_add (pv 3) pe_int) (pe_callB (call_lenK K) (by rfl) T.n_len Boot.«len» (pa_cons (pv 2) pa_nil))) (fun _ _ => rfl)) rfl)))))
      (pss_one (ps_ret (pv 1))))), ?_⟩
    intro d hd
    have u1 := same_at (o := .dK []) hd
    have k1 : (upd H d (.dK [])) d = some (.dK []) := upd_same
    generalize upd H d (.dK []) = H1 at *
    refine nm ?_
    dsimp only
    refine ⟨_, rfl, a, rfl, for_seq (K := K) (k := kd) (a := a) (xs := xs) (fun i σ H2 => ∃ v2 v3 v4 : Option V, σ = [some (.ref a), some (.ref d), v2, v3, v4] ∧ Same H H2 ∧ i ≤ xs.length ∧ H2 d = some (.dK (kvI (bhL (ts.take i))))) ⟨none, none, none, rfl, u1, Nat.zero_le _, k1⟩ (fun i σ H2 _ ⟨_, _, _, _, e, _⟩ => hA.same e) ?_ ?_⟩
    · rintro i v σ H2 hi ⟨v2, v3, v4, rfl, s2, hil, k2⟩
      obtain ⟨row, hrow, r, k3, rfl, hr⟩ := hX.at hi
      have hil' := (List.getElem?_eq_some_iff.mp hi).1
      have hrs : (ts.take i).flatten.length + row.length ≤ 1000 := by
        have e : ts.flatten = (ts.take (i + 1)).flatten ++ (ts.drop (i + 1)).flatten := by rw [← List.flatten_append, List.take_append_drop]
        rw [e, flat_take hrow, List.length_append, List.length_append] at hfl
        omega
      refine nm ?_
      dsimp only
      refine ⟨_, rfl, r, k3, rfl, ⟨_, hr.same s2⟩, for_enumQ (K := K) (kd := k3) (a := r) (xs := IL row) (fun j σ H3 => ∃ v3 v4 : Option V, σ = [some (.ref a), some (.ref d), some (.ref r), v3, v4] ∧ Same H H3 ∧ j ≤ row.length ∧ H3 d = some (.dK (kvI (bhL (ts.take i) ++ bhR row j)))) ⟨v3, v4, rfl, s2, Nat.zero_le _, by rw [show bhR row 0 = [] from rfl, List.append_nil]; exact k2⟩ (fun j σ H3 _ ⟨_, _, _, e, _⟩ => hr.same e) ?_ ?_⟩
      · rintro j x σ H3 pt hpt hj ⟨w3, w4, rfl, s3, hjl, k4⟩
        obtain ⟨z, rfl, hz⟩ := il_get hj
        have hjl' := (List.getElem?_eq_some_iff.mp hz).1
        have u4 := same_at (o := .tup [.int j, .int z]) hpt
        refine ⟨pt, _, rfl, SqT.of upd_same, rfl, _, _, rfl, _, _, rfl, rfl, ?_⟩
        have k5 := u4 _ _ k4
        have s5 := s3.trans u4
        generalize upd H3 pt (.tup [.int j, .int z]) = H5 at *
        have pos : (0 : Int) < ((IL row).length : Int) := by rw [il_length]; omega
        have m0 : 0 ≤ ((j : Int) + 1) % ((IL row).length : Int) := Int.emod_nonneg _ (by omega)
        have m1 : ((j : Int) + 1) % ((IL row).length : Int) < ((IL row).length : Int) := Int.emod_lt_of_pos _ pos
        have em : ((j : Int) + 1) % ((IL row).length : Int) = (((j + 1) % row.length : Nat) : Int) := by rw [il_length, Int.natCast_emod, Int.natCast_add]; rfl
        have lt2 : (j + 1) % row.length < row.length := Nat.mod_lt _ (by omega)
        obtain ⟨y, hy⟩ : ∃ y, row[(j + 1) % row.length]? = some y := ⟨_, List.getElem?_eq_getElem lt2⟩
        have e1 : row.getD j 0 = z := getD_of hz
        have e2 : row.getD ((j + 1) % row.length) 0 = y := getD_of hy
        refine ⟨_, rfl, _, rfl, _, _, rfl, rfl, _, rfl, r, _, rfl, (hr.same s5).or, _, _, rfl, rfl, pos, k3, r, _, _, .int y, rfl, rfl, hr.same s5, atI_of (n := (j + 1) % row.length) em (il_at hy), _, rfl, _, rfl, z, rfl, ?_⟩
        refine ⟨d, _, rfl, DPut.k (k := Sum.inl (bkD z)) k5 (small60' (by rw [kvI_len, List.length_append, bhL_len, bhR_len]; omega)), ?_⟩
        have nw := bh_new hnd hrow hjl'
        rw [e1] at nw
        refine ⟨_, _, rfl, same_upd hd s5, hjl', ?_⟩
        rw [upd_same, kvI_put nw, bhR_succ, e1, e2, List.append_assoc]
      rintro σ H3 ⟨w3, w4, rfl, s3, _, k4⟩
      rw [il_length] at k4
      exact ⟨_, _, _, rfl, s3, hil', by rw [bhL_take hrow]; exact k4⟩
    rintro σ H2 ⟨v2, v3, v4, rfl, s2, _, k2⟩
    rw [hX.1, List.take_length] at k2
    exact ⟨_, rfl, q d H2 s2 hd k2⟩
end
end My
namespace My
open PySem L2 PyProof.Rows
set_option maxHeartbeats 4000000
/-- the round of a dart -/
def sp_round_from : Sp := fun vs H Q _ => ∃ (d : Addr) (B : List (Int × Int)) (M : Nat) (x : Int), vs = [.ref d, .int x] ∧ H d = some (.dK (kvI B)) ∧ (B.map (·.1)).Nodup ∧ (∀ x y z, (x, z) ∈ B → (y, z) ∈ B → x = y) ∧ (∀ x y, (x, y) ∈ B → (0 ≤ x ∧ x < (M : Int)) ∧ 0 ≤ y ∧ y < (M : Int)) ∧ (∀ x, 0 ≤ x ∧ x < (M : Int) → ∃ y, (x, y) ∈ B) ∧ (0 ≤ x ∧ x < (M : Int)) ∧ M ≤ 1000 ∧
  ∀ (r : Addr) (row : List Int) (H' : Hp), Same H H' → H r = none → Orb B x row → H' r = some (.lst (IL row)) → Q (.ref r) H'
section
variable {P : Program} {w : World} {K : PySem.W.Frag} {mg : Str → Option Value} {base : Heap} {t : Adr}
theorem sc_round_from : FnScope ["behind", "start", "found", "dart"] ["behind", "start"] (defScope s_round_from) := ⟨rfl, rfl, rfl, by decide +kernel, rfl, by decide +kernel, by decide +kernel⟩
theorem ok_round_from (T : Txt K mg t) : FnOk P w K mg base CX0 1 t.a_round_from t.d_round_from ["behind", "start"] sp_round_from := by
  refine T.f_round_from.ok sc_round_from (fun vs H Q E h => ?_) (fun cdv A outer s H vs Q E hr h => ?_)
  · obtain ⟨d, B, M, x, rfl, _⟩ := h
    rfl
  · obtain ⟨d, B, M, x, rfl, hd, hnd, hinj, hrg, hex, hx, hM, q⟩ := h
    refine ⟨_, (pss_cons (ps_set (i := 2) sc_round_from.nd rfl (Or.inl rfl) (pe_lst (pa_cons (pv 1) pa_nil)))
      (pss_cons (ps_set (i := 3) sc_round_from.nd rfl (Or.inl rfl) (pe_dget (hu_of hr) (pv 0) (pv 1) (fun _ _ => rfl)))
      (pss_cons (ps_while PassesOwn.never (pt_cmpR op_ne (pv 3) (pv 1) (nomark _))
      (pss_cons (ps_expr (pe_bmK K PySem.F.plainAttrs_list PySem.F.slot_list_append PySem.F.type_list_append mt_append (pv 2) (pa_cons (pv 3) pa_nil)))
      (pss_one (ps_set (i := 3) sc_round_from.nd rfl (Or.inl rfl) (pe_dget (hu_of hr) (pv 0) (pv 3) (fun _ _ => rfl))))))
      (pss_one (ps_ret (pv 2)))))), ?_⟩
    refine ⟨_, rfl, (by show 1 ≤ sizeLine; decide), fun r hr => ?_⟩
    have u1 := same_at (o := .lst [.int x]) hr
    have k1 : (upd H r (.lst [.int x])) r = some (.lst (IL [x])) := upd_same
    have d1 := u1 _ _ hd
    generalize upd H r (.lst [.int x]) = H1 at *
    have hrd : r ≠ d := Ne.symm (ne_of_none hd hr)
    refine nm ?_
    dsimp only
    obtain ⟨y, hy⟩ := hex x hx
    refine ⟨_, rfl, _, rfl, d, .int y, rfl, ?_, ?_⟩
    · have := DGet.k (k := Sum.inl x) d1
      rw [kvI_val hnd hy] at this
      exact this
    refine nm ?_
    dsimp only
    have W0 : Way B x y [x] := by
      have h0 : Way B x x [] := ⟨.nil, fun i a b e => by simp at e, .inl ⟨rfl, rfl⟩⟩
      exact h0.snoc (by simp) hy
    refine ⟨fun m σ H2 => ∃ (row : List Int) (c : Int), σ = [some (.ref d), some (.int x), some (.ref r), some (.int c)] ∧ Same H H2 ∧ H2 r = some (.lst (IL row)) ∧ Way B x c row ∧ row ≠ [] ∧ (∀ z ∈ row, 0 ≤ z ∧ z < (M : Int)) ∧ (0 ≤ c ∧ c < (M : Int)) ∧ m = M - row.length, ⟨M - 1, [x], y, rfl, u1, k1, W0, by simp, fun z hz => (by rw [List.mem_singleton.mp hz]; exact hx), (hrg x y hy).2, rfl⟩, ?_⟩
    rintro m σ H2 ⟨row, c, rfl, s2, k2, hW, hne, hz, hc, rfl⟩
    refine ⟨_, rfl, _, rfl, rfl, _, rfl, ?_⟩
    rw [dec_int]
    have few := nd_few hW.1 hz
    refine itn2 (fun he => ?_) (fun hne2 => ?_)
    · subst he
      exact ⟨_, rfl, q r row H2 s2 hr (hW.orb hne) k2⟩
    · refine ⟨_, fun σ' H' h => h, ?_⟩
      have hcn : c ∉ row := fun h => hne2 (hW.meets hinj h)
      obtain ⟨e, he⟩ := hex c hc
      refine ⟨_, rfl, .inl ⟨rfl, _, SqL.of k2⟩, _, rfl, r, _, _, rfl, rfl, k2, small60' (by rw [il_length]; omega), ?_⟩
      have c1 : IL row ++ [.int c] = IL (row ++ [c]) := (il_snoc ..).symm
      rw [c1]
      have d3 : (upd H2 r (.lst (IL (row ++ [c])))) d = some (.dK (kvI B)) := by rw [upd_ne (Ne.symm hrd)]; exact s2 _ _ hd
      have W1 := hW.snoc hcn he
      have few2 := nd_few W1.1 (M := M) (fun z hz' => by
        rcases List.mem_append.mp hz' with e | e
        · exact hz z e
        · rw [List.mem_singleton.mp e]; exact hc)
      rw [List.length_append, List.length_singleton] at few2
      refine ⟨_, rfl, _, rfl, d, .int e, rfl, ?_, ?_⟩
      · have := DGet.k (k := Sum.inl c) d3
        rw [kvI_val hnd he] at this
        exact this
      refine nm ?_
      dsimp only
      refine ⟨M - (row ++ [c]).length, by rw [List.length_append, List.length_singleton]; omega, row ++ [c], e, rfl, same_upd hr s2, upd_same, W1, by simp, fun z hz' => ?_, (hrg c e he).2, rfl⟩
      rcases List.mem_append.mp hz' with e | e
      · exact hz z e
      · rw [List.mem_singleton.mp e]; exact hc
end
end My
namespace My
open PySem L2 PyProof.Rows
set_option maxHeartbeats 4000000
/-- the rounds of the turns -/
def sp_rounds_of (K : PySem.W.Frag) (C B : Addr) : Sp := fun vs H Q E => ∃ (w a : Addr) (kd : Bool) (n : Int) (ps : List (Int × Int)) (xs : List V) (ts : List (List Int)), vs = [.ref w, .ref a] ∧ WebAt C H w n ps ∧ GoodW n ps ∧ SqK kd K H a xs ∧ Bears (RowV K H) xs ts ∧ ts.length ≤ 1000 ∧ (∀ l ∈ ts, l.length < 64) ∧
  (VT n.toNat ps ts → ∀ (r : Addr) (ys : List V) (R : List (List Int)) (H' : Hp), Same H H' → H r = none → RdW ps ts R → JagAt H r H' ys R → Q (.ref r) H') ∧ (¬ VT n.toNat ps ts → ∀ H' : Hp, Same H H' → E (.ref B) none H')
section
variable {P : Program} {w : World} {K : PySem.W.Frag} {mg : Str → Option Value} {base : Heap} {t : Adr}
theorem sc_rounds_of : FnScope ["web", "turns", "behind", "rounds", "gone", "dart", "found", "walked"] ["web", "turns"] (defScope s_rounds_of) := ⟨rfl, rfl, rfl, by decide +kernel, rfl, by decide +kernel, by decide +kernel⟩
theorem ok_rounds_of (T : Txt K mg t) : FnOk P w K mg base (CXW P w) 3 t.a_rounds_of t.d_rounds_of ["web", "turns"] (sp_rounds_of K t.A_Web t.A_BadTurns) := by
  refine T.f_rounds_of.okX sc_rounds_of (fun vs H Q E h => ?_) (fun cdv A outer s H vs Q E hr h => ?_)
  · obtain ⟨w, a, kd, n, ps, xs, ts, rfl, _⟩ := h
    rfl
  · obtain ⟨w, a, kd, n, ps, xs, ts, rfl, hW, hG, hA, hX, hl1, hl2, q, qe⟩ := h
    refine ⟨_, (pss_cons (ps_expr (pe_call (ok_refuse_bad_turns T) (hr.mono (by decide)) rfl T.m_refuse_bad_turns T.f_refuse_bad_turns.kp T.b_refuse_bad_turns .nil pxs (pa_cons (pv 0) (pa_cons (pv 1) pa_nil))))
      (pss_cons (ps_if (pt_cmpR op_eq (pe_callB (call_lenK K) (by rfl) T.n_len Boot.«len» (pa_cons (pe_fldK K (pv 0) rfl) pa_nil)) pe_int (nomark _))
      (pss_one (ps_ret (pe_lst (pa_cons (pe_lst pa_nil) pa_nil))))
      pss_nil)
      (pss_cons (ps_set (i := 2) sc_rounds_of.nd rfl (Or.inl rfl) (pe_call (ok_darts_behind T) (hr.mono (by decide)) rfl T.m_darts_behind T.f_darts_behind.kp T.b_darts_behind .nil pass0 (pa_cons (pv 1) pa_nil)))
      (pss_cons (ps_set (i := 3) sc_rounds_of.nd rfl (Or.inl rfl) (pe_lst pa_nil))
      (pss_cons (ps_set (i := 4) sc_rounds_of.nd rfl (Or.inl rfl) pe_dnewK)
      (pss_cons (ps_for PassesOwn.leaving rfl (pi_range1 rfl T.n_range (pa_cons (pe_op op_mul pe_int (pe_callB (call_lenK K) (by rfl) T.n_len Boot.«len» (pa_cons (pe_fldK K (pv 0) rfl) pa_nil))) pa_nil)) (pg_name (i := 5) sc_rounds_of.nd rfl (Or.inl rfl))
      (pss_one (ps_if (pt_cmp (pc_dnotin (hu_of hr) (pv 5) (pv 4)))
      (pss_cons (ps_set (i := 6) sc_rounds_of.nd rfl (Or.inl rfl) (pe_call (ok_round_from T) (hr.mono (by decide)) rfl T.m_round_from T.f_round_from.kp T.b_round_from .nil pass0 (pa_cons (pv 2) (pa_cons (pv 5) pa_nil))))
      (pss_cons (ps_expr (pe_bmK K PySem.F.plainAttrs_list PySem.F.slot_list_append PySem.F.type_list_append mt_append (pv 3) (pa_cons (pv 6) pa_nil)))
      (pss_one (ps_for PassesOwn.leaving rfl (pi_listK K (pv 6)) (pg_name (i := 7) sc_rounds_of.nd rfl (Or.inl rfl))
      (pss_one (ps_dput (hu_of hr) (pv 4) (pv 7) pe_bl rfl))))))
      pss_nil)))
      (pss_one (ps_ret (pv 3))))))))), ?_⟩
    obtain ⟨g1, g2, g3, g4⟩ := id hG
    have one : 1 ≤ sizeLine := by decide
    refine ⟨_, rfl, _, rfl, w, a, kd, n, ps, xs, ts, rfl, hW, hG, hA, hX, hl1, hl2, fun hV H1 s1 => ?_, fun hV H1 s1 => qe hV H1 s1⟩
    have q := q hV
    have gg : ∀ p ∈ ps, 0 ≤ p.1 ∧ p.1 < ((n.toNat : Nat) : Int) ∧ 0 ≤ p.2 ∧ p.2 < ((n.toNat : Nat) : Int) := fun p hp => by have := g4 p hp; omega
    obtain ⟨dx, tl, zs, h1, h2, h3⟩ := id (hW.same s1)
    have hzl := h3.1
    refine ⟨_, rfl, w, _, dx, _, _, rfl, h1, T.cl_Web, T.n_Web_ties, wf_ties _ _, tl, zs, rfl, .inl (SqL.of h2), rfl, _, rfl, ?_⟩
    rw [dec_int]
    refine itd2 (fun h0 => ?_) (fun h0 => ?_)
    · have p0 : ps.length = 0 := by omega
      refine ⟨Nat.zero_le _, fun i1 hi1 => ⟨one, fun r hr => ?_⟩⟩
      have u1 := same_at (o := .lst []) hi1
      have u2 := same_at (o := .lst [.ref i1]) hr
      have hne : i1 ≠ r := ne_of_none (H := upd H1 i1 (.lst [])) upd_same hr
      refine q r [.ref i1] [[]] _ (s1.trans (u1.trans u2)) (s1.free (u1.free hr)) (.inl ⟨p0, rfl⟩) ⟨upd_same, ⟨rfl, fun i l e => ?_⟩, by simp, fun A hA => ?_⟩
      · have li := (List.getElem?_eq_some_iff.mp e).1
        have li : i < 1 := li
        obtain rfl : i = 0 := by omega
        obtain rfl : [] = l := Option.some.inj e
        exact ⟨_, rfl, i1, rfl, u2 _ _ upd_same, hne⟩
      · have : A = i1 := by simpa using hA
        rw [this]; exact s1.free hi1
    have p0 : 0 < ps.length := by omega
    have hrows : Bears (RowV K H1) xs ts := hX.imp fun _ _ h => h.same s1
    have fl := hV.flat_len
    -- behind
    refine ⟨_, rfl, a, kd, xs, ts, rfl, hA.same s1, hrows, hV.flat, by omega, fun d H2 s2 hd0 hd2 => ?_⟩
    refine nm ?_
    dsimp only
    have s02 := s1.trans s2
    have dn0 : H d = none := s1.free hd0
    -- rounds, gone
    refine ⟨Nat.zero_le _, fun rA hrA => ?_⟩
    have u3 := same_at (o := .lst []) hrA
    refine nm ?_
    dsimp only
    intro gA hgA
    have u4 := same_at (o := .dK []) hgA
    have s04 := s02.trans (u3.trans u4)
    have d4 := u4 _ _ (u3 _ _ hd2)
    have r4 := u4 _ _ (upd_same (H := H2) (a := rA) (o := .lst []))
    have k4 : (upd (upd H2 rA (.lst [])) gA (.dK [])) gA = some (.dK []) := upd_same
    have rn0 : H rA = none := s02.free hrA
    have gn0 : H gA = none := s02.free (u3.free hgA)
    have grA : gA ≠ rA := fun z => by rw [z, upd_same] at hgA; cases hgA
    have gdA : gA ≠ d := Ne.symm (ne_of_none (u3 _ _ hd2) hgA)
    have rdA : rA ≠ d := Ne.symm (ne_of_none hd2 hrA)
    generalize upd (upd H2 rA (.lst [])) gA (.dK []) = H4 at *
    refine nm ?_
    dsimp only
    have hinj : ∀ x y z, (x, z) ∈ bhL ts → (y, z) ∈ bhL ts → x = y := fun x y z => bh_inj hV
    have hrg : ∀ x y, (x, y) ∈ bhL ts → (0 ≤ x ∧ x < ((2 * ps.length : Nat) : Int)) ∧ 0 ≤ y ∧ y < ((2 * ps.length : Nat) : Int) := fun x y hxy => by have := bh_range hV hxy; omega
    have hex : ∀ x, 0 ≤ x ∧ x < ((2 * ps.length : Nat) : Int) → ∃ y, (x, y) ∈ bhL ts := fun x hx => bh_ex hV gg (by omega)
    -- the darts
    obtain ⟨dx4, tl4, zs4, w1, w2, w3⟩ := id (hW.same s04)
    have hz4 := w3.1
    refine ⟨_, rfl, w, _, dx4, _, _, rfl, w1, T.cl_Web, T.n_Web_ties, wf_ties _ _, tl4, zs4, rfl, .inl (SqL.of w2), _, _, rfl, rfl, .inl ⟨by decide, by decide⟩, _, rfl, by omega, by omega, for_range (lo := 0) (n := (2 * (zs4.length : Int)).toNat) (fun k σ H5 => ∃ (v5 v6 v7 : Option V) (ys : List V) (R : List (List Int)) (kvs : List (Key × V)), σ = [some (.ref w), some (.ref a), some (.ref d), some (.ref rA), some (.ref gA), v5, v6, v7] ∧ Same H H5 ∧ H5 d = some (.dK (kvI (bhL ts))) ∧ JagAt H rA H5 ys R ∧ Rds (bhL ts) k R ∧ H5 gA = some (.dK kvs) ∧ Kys kvs R.flatten ∧ kvs.length ≤ R.flatten.length) ⟨none, none, none, [], [], [], rfl, s04, d4, JagAt.nil r4, rfl, k4, Kys.nil, Nat.le_refl _⟩ ?_ ?_⟩
    · rintro k σ H5 hk ⟨v5, v6, v7, ys, R, kvs, rfl, s5, d5, hJ, hR, k5, hKy, hkl⟩
      rw [Int.zero_add]
      refine nm ?_
      dsimp only
      have hk2 : k < 2 * ps.length := by omega
      have ndR := hR.nodup hinj
      have fewR := nd_few ndR (hR.range hrg)
      refine ⟨_, rfl, _, rfl, gA, _, rfl, DGet.k (k := Sum.inl (k : Int)) k5, _, rfl, ?_⟩
      cases hin : (valV kvs (Sum.inl (k : Int))).isSome with
      | true =>
        refine iteF ?_
        exact ⟨_, _, _, ys, R, kvs, rfl, s5, d5, hJ, ⟨R, hR, .inl ⟨(hKy _).mp hin, rfl⟩⟩, k5, hKy, hkl⟩
      | false =>
        refine iteT ?_
        have hnin : (k : Int) ∉ R.flatten := fun h => by rw [(hKy _).mpr h] at hin; cases hin
        refine ⟨_, rfl, _, rfl, d, bhL ts, 2 * ps.length, (k : Int), rfl, d5, bh_nd hV.flat, hinj, hrg, hex, by omega, by omega, fun r row H6 s6 hr0 ho hr6 => ?_⟩
        refine nm ?_
        dsimp only
        have hJ6 := hJ.same s6
        have rny : V.ref r ∉ ys := hJ.fresh hr0
        have rrA : r ≠ rA := Ne.symm (ne_of_none hJ.tab hr0)
        have rgA : r ≠ gA := Ne.symm (ne_of_none k5 hr0)
        have hyl := hJ.rows.1
        have Rl : R.length ≤ R.flatten.length := by
          have : ∀ L : List (List Int), (∀ l ∈ L, 0 < l.length) → L.length ≤ L.flatten.length := fun L => by
            induction L with
            | nil => intro _; exact Nat.le_refl _
            | cons l L ih =>
              intro h
              have := h l List.mem_cons_self
              have := ih fun x hx => h x (List.mem_cons_of_mem _ hx)
              rw [List.flatten_cons, List.length_append, List.length_cons]
              omega
          exact this R fun l hl => by obtain ⟨_, o⟩ := hR.orbs l hl; exact o.pos
        refine ⟨_, rfl, .inl ⟨rfl, _, SqL.of hJ6.tab⟩, _, rfl, rA, _, _, rfl, rfl, hJ6.tab, small60' (by omega), ?_⟩
        have hJ7 := hJ6.snoc hr6 (s5.free hr0) rrA rny
        have s7 : Same H (upd H6 rA (.lst (ys ++ [.ref r]))) := same_upd rn0 (s5.trans s6)
        have d7 : (upd H6 rA (.lst (ys ++ [.ref r]))) d = some (.dK (kvI (bhL ts))) := by rw [upd_ne (Ne.symm rdA)]; exact s6 _ _ d5
        have k7 : (upd H6 rA (.lst (ys ++ [.ref r]))) gA = some (.dK kvs) := by rw [upd_ne grA]; exact s6 _ _ k5
        have r7 : (upd H6 rA (.lst (ys ++ [.ref r]))) r = some (.lst (IL row)) := by rw [upd_ne rrA]; exact hr6
        generalize upd H6 rA (.lst (ys ++ [.ref r])) = H7 at *
        have ndRow := ho.2.1
        have fewRow := nd_few ndRow (orb_range hrg ho)
        refine ⟨_, rfl, r, rfl, ⟨_, SqL.of r7⟩, for_list (K := K) (a := r) (xs := IL row) (fun j σ H8 => ∃ (v7 : Option V) (kvs' : List (Key × V)), σ = [some (.ref w), some (.ref a), some (.ref d), some (.ref rA), some (.ref gA), some (.int k), some (.ref r), v7] ∧ Same H H8 ∧ H8 d = some (.dK (kvI (bhL ts))) ∧ JagAt H rA H8 (ys ++ [.ref r]) (R ++ [row]) ∧ H8 r = some (.lst (IL row)) ∧ H8 gA = some (.dK kvs') ∧ Kys kvs' (R.flatten ++ row.take j) ∧ kvs'.length ≤ R.flatten.length + j ∧ j ≤ row.length) ⟨v7, kvs, rfl, s7, d7, hJ7, r7, k7, by rw [List.take_zero, List.append_nil]; exact hKy, hkl, Nat.zero_le _⟩ (fun j σ H8 _ ⟨_, _, _, _, _, _, e, _⟩ => SqL.of e) ?_ ?_⟩
        · rintro j x σ H8 hj ⟨v7, kvs', rfl, s8, d8, hJ8, r8, k8, hK8, hl8, hjl⟩
          obtain ⟨z, rfl, hz⟩ := il_get hj
          have hjl' := (List.getElem?_eq_some_iff.mp hz).1
          refine nm ?_
          dsimp only
          refine ⟨_, rfl, _, rfl, gA, _, rfl, DPut.k (k := Sum.inl z) k8 (small60' (by omega)), ?_⟩
          have hK9 := hK8.put z (.bl true)
          rw [List.append_assoc, show row.take j ++ [z] = row.take (j + 1) by rw [List.take_succ, hz]; rfl] at hK9
          have lp := length_putK kvs' (Sum.inl z) (.bl true)
          refine ⟨_, _, rfl, same_upd gn0 s8, by rw [upd_ne (Ne.symm gdA)]; exact d8, hJ8.oth grA (fun xs e => by rw [k8] at e; cases e), by rw [upd_ne rgA]; exact r8, upd_same, hK9, by omega, hjl'⟩
        rintro σ H8 ⟨v7, kvs', rfl, s8, d8, hJ8, r8, k8, hK8, hl8, _⟩
        rw [il_length] at hl8
        rw [il_length, List.take_length] at hK8
        have ef : (R ++ [row]).flatten = R.flatten ++ row := by rw [List.flatten_append]; simp
        exact ⟨_, _, _, _, R ++ [row], kvs', rfl, s8, d8, hJ8, ⟨R, hR, .inr ⟨hnin, row, ho, rfl⟩⟩, k8, by rw [ef]; exact hK8, by rw [ef, List.length_append]; exact hl8⟩
    rintro σ H5 ⟨v5, v6, v7, ys, R, kvs, rfl, s5, d5, hJ, hR, k5, hKy, hkl⟩
    rw [show (2 * (zs4.length : Int)).toNat = 2 * ps.length by omega] at hR
    exact ⟨_, rfl, q rA ys R H5 s5 rn0 (.inr ⟨p0, hR⟩) hJ⟩
end
end My
namespace My
open PySem L2 PyProof.Rows
set_option maxHeartbeats 4000000
/-- whether the web lies flat by the turns -/
def sp_lies_flat (K : PySem.W.Frag) (C B : Addr) : Sp := fun vs H Q E => ∃ (w a : Addr) (kd : Bool) (n : Int) (ps : List (Int × Int)) (xs : List V) (ts : List (List Int)), vs = [.ref w, .ref a] ∧ WebAt C H w n ps ∧ GoodW n ps ∧ SqK kd K H a xs ∧ Bears (RowV K H) xs ts ∧ ts.length ≤ 1000 ∧ (∀ l ∈ ts, l.length < 64) ∧
  (VT n.toNat ps ts → ∀ (b : Bool) (R : List (List Int)) (H' : Hp), Same H H' → RdW ps ts R → (b = true ↔ Flat n ps R) → Q (.bl b) H') ∧ (¬ VT n.toNat ps ts → ∀ H' : Hp, Same H H' → E (.ref B) none H')
section
variable {P : Program} {w : World} {K : PySem.W.Frag} {mg : Str → Option Value} {base : Heap} {t : Adr}
theorem sc_lies_flat : FnScope ["web", "turns", "rounds"] ["web", "turns"] (defScope s_lies_flat) := ⟨rfl, rfl, rfl, by decide +kernel, rfl, by decide +kernel, by decide +kernel⟩
theorem ok_lies_flat (T : Txt K mg t) : FnOk P w K mg base (CXW P w) 6 t.a_lies_flat t.d_lies_flat ["web", "turns"] (sp_lies_flat K t.A_Web t.A_BadTurns) := by
  refine T.f_lies_flat.okX sc_lies_flat (fun vs H Q E h => ?_) (fun cdv A outer s H vs Q E hr h => ?_)
  · obtain ⟨w, a, kd, n, ps, xs, ts, rfl, _⟩ := h
    rfl
  · obtain ⟨w, a, kd, n, ps, xs, ts, rfl, hW, hG, hA, hX, hl1, hl2, q, qe⟩ := h
    refine ⟨_, (pss_cons (ps_set (i := 2) sc_lies_flat.nd rfl (Or.inl rfl) (pe_call (ok_rounds_of T) (hr.mono (by decide)) rfl T.m_rounds_of T.f_rounds_of.kp T.b_rounds_of .nil pxs (pa_cons (pv 0) (pa_cons (pv 1) pa_nil))))
      (pss_one (ps_ret (pe_and (pe_call (ok_is_joined T) (hr.mono (by decide)) rfl T.m_is_joined T.f_is_joined.kp T.b_is_joined .nil pass0 (pa_cons (pv 0) (pa_cons (pe_call (ok_all_ties T) (hr.mono (by decide)) rfl T.m_all_ties T.f_all_ties.kp T.b_all_ties .nil pass0 (pa_cons (pv 0) pa_nil)) pa_nil))) (pe_one (pe_cmpR op_eq (pe_op op_add (pe_op op_sub (pe_fldK K (pv 0) rfl) (pe_callB (call_lenK K) (by rfl) T.n_len Boot.«len» (pa_cons (pe_fldK K (pv 0) rfl) pa_nil))) (pe_callB (call_lenK K) (by rfl) T.n_len Boot.«len» (pa_cons (pv 2) pa_nil))) pe_int (nomark _))))))), ?_⟩
    refine ⟨_, rfl, _, rfl, w, a, kd, n, ps, xs, ts, rfl, hW, hG, hA, hX, hl1, hl2, fun hV r ys R H1 s1 hr0 hR hJ => ?_, fun hV H1 s1 => qe hV H1 s1⟩
    refine nm ?_
    dsimp only
    have hW1 := hW.same s1
    refine ⟨_, rfl, _, rfl, w, n, ps, rfl, hW1, by have := hG.2.2.1; omega, fun ra H2 s2 hr0' hr1 => ?_⟩
    refine ⟨w, ra, n, ps, true, rgL ps.length, rfl, hW1.same s2, hG, SqT.of hr1, rgL_set _, fun b H3 s3 hb => ⟨_, rfl, ?_⟩⟩
    rw [grp_conn (by have := hG.1; omega) (ends_in hG (rgL_set _).all)] at hb
    have s13 := s1.trans (s2.trans s3)
    cases b with
    | false =>
      refine iteF ?_
      refine q hV false R H3 s13 hR ⟨fun h => (by cases h), fun h => ?_⟩
      have := hb.mpr h.1
      cases this
    | true =>
      refine iteT ?_
      obtain ⟨dx, tl, zs, h1, h2, h3⟩ := id (hW.same s13)
      have hzl := h3.1
      have hj3 := (s2.trans s3) _ _ hJ.tab
      have hyl := hJ.rows.1
      refine ⟨_, rfl, w, _, dx, _, _, rfl, h1, T.cl_Web, T.n_Web_places, wf_places _ _, _, rfl, w, _, dx, _, _, rfl, h1, T.cl_Web, T.n_Web_ties, wf_ties _ _, tl, zs, rfl, .inl (SqL.of h2), _, _, rfl, rfl, _, rfl, r, _, rfl, .inl (SqL.of hj3), _, _, rfl, rfl, rfl, ?_⟩
      rw [dec_int, hzl, hyl]
      exact q hV _ R H3 s13 hR ⟨fun h => ⟨hb.mp rfl, of_decide_eq_true h⟩, fun h => decide_eq_true h.2⟩
end
end My
namespace My
open PySem L2 PyProof.Rows
set_option maxHeartbeats 4000000
/-- a cell of the script -/
def sp_law_at (K : PySem.W.Frag) : Sp := fun vs H Q _ => ∃ (a : Addr) (ns : List Int) (k : Int), vs = [.ref a, .int k] ∧ SqL K H a (IL ns) ∧ 0 ≤ k ∧ ∀ r : Int, Q (.int r) H
section
variable {P : Program} {w : World} {K : PySem.W.Frag} {mg : Str → Option Value} {base : Heap} {t : Adr}
theorem sc_law_at : FnScope ["script", "k"] ["script", "k"] (defScope s_law_at) := ⟨rfl, rfl, rfl, by decide +kernel, rfl, by decide +kernel, by decide +kernel⟩
theorem ok_law_at (T : Txt K mg t) : FnOk P w K mg base CX0 1 t.a_law_at t.d_law_at ["script", "k"] (sp_law_at K) := by
  refine T.f_law_at.ok sc_law_at (fun vs H Q E h => ?_) (fun cdv A outer s H vs Q E hr h => ?_)
  · obtain ⟨a, ns, k, rfl, _⟩ := h
    rfl
  · obtain ⟨a, ns, k, rfl, hS, hk, q⟩ := h
    refine ⟨_, (pss_cons (ps_if (pt_cmpR op_lt (pv 1) (pe_callB (call_lenK K) (by rfl) T.n_len Boot.«len» (pa_cons (pv 0) pa_nil)) (nomark _))
      (pss_one (ps_ret (pe_ix (ix_listK K) (pv 0) (pv 1) (fun _ _ => rfl))))
      pss_nil)
      (pss_one (ps_ret pe_int))), ?_⟩
    refine ⟨_, rfl, _, rfl, a, _, rfl, .inl hS, _, _, rfl, rfl, _, rfl, ?_⟩
    refine ite2 (fun hc => ?_) (fun _ => ?_)
    · have hc := of_decide_eq_true hc
      rw [il_length] at hc
      obtain ⟨z, hz⟩ : ∃ z, ns[k.toNat]? = some z := ⟨_, List.getElem?_eq_getElem (by omega)⟩
      exact ⟨_, rfl, _, rfl, a, _, k, .int z, rfl, rfl, hS, atI_of (n := k.toNat) (by omega) (by rw [List.getElem?_map, hz]; rfl), q z⟩
    · exact q 0
end
end My
namespace My
open PySem L2 PyProof.Rows
set_option maxHeartbeats 4000000
/-- a number stirred out of two -/
def sp_law_mixed : Sp := fun vs H Q _ => ∃ (c k : Int), vs = [.int c, .int k] ∧ 0 ≤ k ∧ k < 1000000000 ∧ ∀ r : Int, 0 ≤ r → Q (.int r) H
section
variable {P : Program} {w : World} {K : PySem.W.Frag} {mg : Str → Option Value} {base : Heap} {t : Adr}
theorem sc_law_mixed : FnScope ["cell", "k", "big"] ["cell", "k"] (defScope s_law_mixed) := ⟨rfl, rfl, rfl, by decide +kernel, rfl, by decide +kernel, by decide +kernel⟩
theorem ok_law_mixed (T : Txt K mg t) : FnOk P w K mg base CX0 1 t.a_law_mixed t.d_law_mixed ["cell", "k"] sp_law_mixed := by
  refine T.f_law_mixed.ok sc_law_mixed (fun vs H Q E h => ?_) (fun cdv A outer s H vs Q E hr h => ?_)
  · obtain ⟨c, k, rfl, _⟩ := h
    rfl
  · obtain ⟨c, k, rfl, k0, k1, q⟩ := h
    refine ⟨_, (pss_cons (ps_set (i := 2) sc_law_mixed.nd rfl (Or.inl rfl) (pe_op op_mulC (pe_op op_add (pe_op op_mod (pv 0) (pe_op op_pow pe_int pe_int)) pe_int) (pe_op op_add pe_int (pe_op op_mulC (pe_op op_mulC pe_int (pv 1)) (pv 1)))))
      (pss_cons (ps_set (i := 2) sc_law_mixed.nd rfl (Or.inl rfl) (pe_op op_add (pv 2) (pe_op op_mulC pe_int (pv 1))))
      (pss_one (ps_ret (pe_op op_mod (pe_op op_mulC (pv 2) (pv 2)) (pe_op op_add (pe_op op_pow pe_int pe_int) pe_int)))))), ?_⟩
    have a0 : 0 ≤ c % 10 ^ (60 : Int).toNat := Int.emod_nonneg _ (by decide)
    have a1 : c % 10 ^ (60 : Int).toNat < 10 ^ 60 := Int.emod_lt_of_pos _ (by decide)
    have b := prod_lt (M := 10 ^ 20) (N := 10 ^ 20) (a := 2 * k) (b := k) (by omega) (by omega) k0 (by omega)
    have d := prod_lt (M := 10 ^ 70) (N := 10 ^ 70) (a := c % 10 ^ (60 : Int).toNat + 3) (b := 16180339887498948482045868343656381177203 + 2 * k * k) (by omega) (by omega) (by omega) (by omega)
    refine ⟨_, rfl, _, _, rfl, rfl, ⟨by decide, by decide, by decide⟩, _, _, rfl, rfl, (by show (0 : Int) < 10 ^ 60; decide), _, _, rfl, rfl, _, rfl, _, _, rfl, rfl, ⟨⟨by decide, by decide⟩, by omega, by omega⟩, _, rfl, _, _, rfl, rfl, ⟨⟨by omega, by omega⟩, by omega, by omega⟩, _, _, rfl, rfl, _, _, rfl, rfl, ⟨⟨by omega, by omega⟩, by omega, by omega⟩, ?_⟩
    refine ⟨_, rfl, _, rfl, _, _, rfl, rfl, ⟨⟨by decide, by decide⟩, by omega, by omega⟩, _, _, rfl, rfl, ?_⟩
    refine ⟨_, rfl, _, rfl, _, _, rfl, rfl, ⟨⟨by omega, by omega⟩, by omega, by omega⟩, _, _, rfl, rfl, ⟨by decide, by decide, by decide⟩, _, _, rfl, rfl, _, _, rfl, rfl, (by show (0 : Int) < 10 ^ 60 + 33; decide), ?_⟩
    exact q _ (Int.emod_nonneg _ (by decide))
end
end My
namespace My
open PySem L2 PyProof.Rows
set_option maxHeartbeats 4000000
/-- ties out of the script -/
def sp_law_ties (K : PySem.W.Frag) : Sp := fun vs H Q _ => ∃ (a : Addr) (ns : List Int) (n most : Int), vs = [.ref a, .int n, .int most] ∧ SqL K H a (IL ns) ∧ ns.length ≤ 63 ∧ 1 ≤ n ∧ n ≤ 1000 ∧ 1 ≤ most ∧ most ≤ 30 ∧
  ∀ (l : Addr) (xs : List V) (ps : List (Int × Int)) (H' : Hp), Same H H' → H l = none → H' l = some (.lst xs) → PairsV H' xs ps → (ps.length : Int) ≤ most → (∀ p ∈ ps, 0 ≤ p.1 ∧ p.1 < n ∧ 0 ≤ p.2 ∧ p.2 < n) → Q (.ref l) H'
theorem good_snoc {ps : List (Int × Int)} {n x y : Int} (h : ∀ p ∈ ps, 0 ≤ p.1 ∧ p.1 < n ∧ 0 ≤ p.2 ∧ p.2 < n) (h0 : 0 ≤ x) (h1 : x < n) (h2 : 0 ≤ y) (h3 : y < n) : ∀ p ∈ ps ++ [(x, y)], 0 ≤ p.1 ∧ p.1 < n ∧ 0 ≤ p.2 ∧ p.2 < n := fun p hp => by
  rcases List.mem_append.mp hp with e | e
  · exact h p e
  · rw [List.mem_singleton.mp e]; exact ⟨h0, h1, h2, h3⟩
theorem good_set {ps : List (Int × Int)} {n x y : Int} {i : Nat} (h : ∀ p ∈ ps, 0 ≤ p.1 ∧ p.1 < n ∧ 0 ≤ p.2 ∧ p.2 < n) (h0 : 0 ≤ x) (h1 : x < n) (h2 : 0 ≤ y) (h3 : y < n) : ∀ p ∈ ps.set i (x, y), 0 ≤ p.1 ∧ p.1 < n ∧ 0 ≤ p.2 ∧ p.2 < n := fun p hp => by
  rcases List.mem_or_eq_of_mem_set hp with e | e
  · exact h p e
  · rw [e]; exact ⟨h0, h1, h2, h3⟩
theorem PairsV.mutl {H : Hp} {d : Addr} {ys zs xs : List V} {ps : List (Int × Int)} (hP : PairsV H xs ps) (hl : H d = some (.lst ys)) : PairsV (upd H d (.lst zs)) xs ps := ⟨hP.1, fun i p e => by
  obtain ⟨v, e1, t, e2, e3⟩ := hP.2 i p e
  exact ⟨v, e1, t, e2, by rw [upd_ne (ne_of e3 hl (fun z => nomatch z))]; exact e3⟩⟩
theorem contS4 {s rest : TS} {D : Ends} {σ : L2.St} {H : Hp} (P : L2.St → Hp → Prop) (h1 : ∀ σ' H', P σ' H' → rest D σ' H') (h2 : ∀ K : L2.St → Hp → Prop, (∀ σ' H', P σ' H' → K σ' H') → s { D with nx := K } σ H) : tSeq s rest D σ H := h2 _ h1
section
variable {P : Program} {w : World} {K : PySem.W.Frag} {mg : Str → Option Value} {base : Heap} {t : Adr}
theorem sc_law_ties : FnScope ["script", "count", "most", "told", "rest", "amount", "k", "digit", "cell", "m", "at"] ["script", "count", "most"] (defScope s_law_ties) := ⟨rfl, rfl, rfl, by decide +kernel, rfl, by decide +kernel, by decide +kernel⟩
theorem ok_law_ties (T : Txt K mg t) : FnOk P w K mg base CX0 2 t.a_law_ties t.d_law_ties ["script", "count", "most"] (sp_law_ties K) := by
  refine T.f_law_ties.ok sc_law_ties (fun vs H Q E h => ?_) (fun cdv A outer s H vs Q E hr h => ?_)
  · obtain ⟨a, ns, n, most, rfl, _⟩ := h
    rfl
  · obtain ⟨a, ns, n, most, rfl, hA, hn63, n1, n2, m1, m2, q⟩ := h
    refine ⟨_, (pss_cons (ps_set (i := 3) sc_law_ties.nd rfl (Or.inl rfl) (pe_lst pa_nil))
      (pss_cons (ps_if (pt_cmpR op_eq (pe_op op_mod (pe_call (ok_law_at T) (hr.mono (by decide)) rfl T.m_law_at T.f_law_at.kp T.b_law_at .nil pass0 (pa_cons (pv 0) (pa_cons pe_int pa_nil))) pe_int) pe_int (nomark _))
      (pss_cons (ps_set (i := 4) sc_law_ties.nd rfl (Or.inl rfl) (pe_op op_mod (pe_call (ok_law_at T) (hr.mono (by decide)) rfl T.m_law_at T.f_law_at.kp T.b_law_at .nil pass0 (pa_cons (pv 0) (pa_cons pe_int pa_nil))) (pe_op op_pow pe_int pe_int)))
      (pss_cons (ps_set (i := 5) sc_law_ties.nd rfl (Or.inl rfl) (pe_op op_mod (pv 4) (pe_op op_add (pv 2) pe_int)))
      (pss_cons (ps_set (i := 4) sc_law_ties.nd rfl (Or.inl rfl) (pe_op op_fdiv (pv 4) (pe_op op_add (pv 2) pe_int)))
      (pss_cons (ps_for PassesOwn.never rfl (pi_range1 rfl T.n_range (pa_cons (pv 5) pa_nil)) (pg_name (i := 6) sc_law_ties.nd rfl (Or.inl rfl))
      (pss_cons (ps_if (pt_cmpR op_eq (pv 4) pe_int (nomark _))
      (pss_one (ps_set (i := 4) sc_law_ties.nd rfl (Or.inl rfl) (pe_call (ok_law_mixed T) (hr.mono (by decide)) rfl T.m_law_mixed T.f_law_mixed.kp T.b_law_mixed .nil pass0 (pa_cons (pe_call (ok_law_at T) (hr.mono (by decide)) rfl T.m_law_at T.f_law_at.kp T.b_law_at .nil pass0 (pa_cons (pv 0) (pa_cons pe_int pa_nil))) (pa_cons (pv 6) pa_nil)))))
      pss_nil)
      (pss_cons (ps_set (i := 7) sc_law_ties.nd rfl (Or.inl rfl) (pe_op op_mod (pv 4) (pe_op op_add (pe_op op_mul (pv 1) (pv 1)) pe_int)))
      (pss_cons (ps_expr (pe_bmK K PySem.F.plainAttrs_list PySem.F.slot_list_append PySem.F.type_list_append mt_append (pv 3) (pa_cons (pe_tup (pa_cons (pe_op op_mod (pv 7) (pv 1)) (pa_cons (pe_op op_mod (pe_op op_fdiv (pv 7) (pv 1)) (pv 1)) pa_nil))) pa_nil)))
      (pss_one (ps_set (i := 4) sc_law_ties.nd rfl (Or.inl rfl) (pe_op op_fdiv (pv 4) (pe_op op_add (pe_op op_mul (pv 1) (pv 1)) pe_int))))))))
      (pss_one (ps_ret (pv 3)))))))
      pss_nil)
      (pss_cons (ps_for PassesOwn.never rfl (pi_enumK K rfl T.n_enumerate (pa_cons (pe_slice (sl_listK K) (pv 0) (po_some pe_int) po_none) pa_nil)) (pg_tupK (n := 2) K rfl (pgs_cons (pg_name (i := 6) sc_law_ties.nd rfl (Or.inl rfl)) (pgs_cons (pg_name (i := 8) sc_law_ties.nd rfl (Or.inl rfl)) pgs_nil)))
      (pss_cons (ps_set (i := 9) sc_law_ties.nd rfl (Or.inl rfl) (pe_call (ok_law_mixed T) (hr.mono (by decide)) rfl T.m_law_mixed T.f_law_mixed.kp T.b_law_mixed .nil pass0 (pa_cons (pv 8) (pa_cons (pe_op op_mod (pv 6) pe_int) pa_nil))))
      (pss_one (ps_if (pt_cmpR op_lt (pv 6) (pv 2) (nomark _))
      (pss_one (ps_expr (pe_bmK K PySem.F.plainAttrs_list PySem.F.slot_list_append PySem.F.type_list_append mt_append (pv 3) (pa_cons (pe_tup (pa_cons (pe_op op_mod (pe_op op_fdiv (pv 9) pe_int) (pv 1)) (pa_cons (pe_op op_mod (pe_op op_fdiv (pv 9) pe_int) (pv 1)) pa_nil))) pa_nil))))
      (pss_cons (ps_set (i := 10) sc_law_ties.nd rfl (Or.inl rfl) (pe_op op_mod (pv 6) (pv 2)))
      (pss_cons (ps_set (i := 9) sc_law_ties.nd rfl (Or.inl rfl) (pe_call (ok_law_mixed T) (hr.mono (by decide)) rfl T.m_law_mixed T.f_law_mixed.kp T.b_law_mixed .nil pass0 (pa_cons (pe_op op_add (pe_op op_add (pv 9) (pe_ix (ix_tupK K) (pe_ix (ix_listK K) (pv 3) (pv 10) (fun _ _ => rfl)) pe_int (fun _ _ => rfl))) (pe_op op_mul pe_int (pe_ix (ix_tupK K) (pe_ix (ix_listK K) (pv 3) (pv 10) (fun _ _ => rfl)) pe_int (fun _ _ => rfl)))) (pa_cons pe_int pa_nil))))
      (pss_one (ps_asg (pe_tup (pa_cons (pe_op op_mod (pe_op op_fdiv (pv 9) pe_int) (pv 1)) (pa_cons (pe_op op_mod (pe_op op_fdiv (pv 9) pe_int) (pv 1)) pa_nil))) (pg_sub (pv 3) (pv 10) set_list)))))))))
      (pss_one (ps_ret (pv 3)))))), ?_⟩
    have two : 2 ≤ sizeLine := by decide
    have npos : (0 : Int) < n := by omega
    have md : ∀ z : Int, 0 ≤ z % n ∧ z % n < n := fun z => ⟨Int.emod_nonneg _ (by omega), Int.emod_lt_of_pos _ npos⟩
    refine ⟨Nat.zero_le _, fun td htd => ?_⟩
    have s0 := same_at (o := .lst []) htd
    have htd0 : (upd H td (.lst [])) td = some (.lst []) := upd_same
    have hA0 := s0.seq hA
    generalize upd H td (.lst []) = H0 at *
    refine ⟨_, rfl, a, ns, 1, rfl, hA0, by decide, fun c1 => ⟨_, _, rfl, rfl, (by show (0 : Int) < 2; decide), rfl, _, rfl, ?_⟩⟩
    rw [dec_int]
    refine itd2 (fun _ => ?_) (fun _ => ?_)
    · refine ⟨_, rfl, a, ns, 2, rfl, hA0, by decide, fun c2 => ⟨_, _, rfl, rfl, ⟨by decide, by decide, by decide⟩, _, _, rfl, rfl, (by show (0 : Int) < 10 ^ 60; decide), ?_⟩⟩
      refine ⟨_, rfl, _, rfl, _, _, rfl, rfl, _, _, rfl, rfl, (by show (0 : Int) < most + 1; omega), ?_⟩
      refine ⟨_, rfl, _, rfl, _, _, rfl, rfl, _, _, rfl, rfl, ⟨by show (0 : Int) < most + 1; omega, by show most + 1 < 1073741824; omega⟩, ?_⟩
      have am0 : 0 ≤ c2 % 10 ^ (60 : Int).toNat % (most + 1) := Int.emod_nonneg _ (by omega)
      have am1 : c2 % 10 ^ (60 : Int).toNat % (most + 1) < most + 1 := Int.emod_lt_of_pos _ (by omega)
      have nn := prod_lt (M := 1001) (N := 1001) (a := n) (b := n) (by omega) (by omega) (by omega) (by omega)
      refine ⟨_, rfl, _, rfl, by omega, by omega, for_range (lo := 0) (n := (c2 % 10 ^ (60 : Int).toNat % (most + 1)).toNat) (fun i σ H2 => ∃ (xs : List V) (ps : List (Int × Int)) (rs : Int) (v5 v6 v7 : Option V), σ = [some (.ref a), some (.int n), some (.int most), some (.ref td), some (.int rs), v5, v6, v7, none, none, none] ∧ Same H H2 ∧ H2 td = some (.lst xs) ∧ PairsV H2 xs ps ∧ ps.length = i ∧ ∀ p ∈ ps, 0 ≤ p.1 ∧ p.1 < n ∧ 0 ≤ p.2 ∧ p.2 < n) ⟨[], [], _, _, _, _, rfl, s0, htd0, PairsV.nil, rfl, fun p hp => (by cases hp)⟩ ?_ ?_⟩
      · rintro i σ H2 hi ⟨xs, ps, rs, v5, v6, v7, rfl, s2, h2, hP, hlp, hg⟩
        refine nm ?_
        dsimp only
        refine contS4 (fun σ H3 => ∃ rs' : Int, H3 = H2 ∧ σ = [some (.ref a), some (.int n), some (.int most), some (.ref td), some (.int rs'), v5, some (.int (0 + (i : Int))), v7, none, none, none]) ?_ ?_
        · rintro σ H3 ⟨rs', rfl, rfl⟩
          have dp : (0 : Int) < n * n + 1 := by omega
          refine ⟨_, rfl, _, rfl, _, rfl, _, _, rfl, rfl, .inl ⟨by show -(2 ^ 64) < n; omega, by show n < 2 ^ 64; omega⟩, _, _, rfl, rfl, _, _, rfl, rfl, dp, ?_⟩
          obtain ⟨x0, x1⟩ := md (rs' % (n * n + 1))
          obtain ⟨y0, y1⟩ := md (rs' % (n * n + 1) / n)
          refine ⟨_, rfl, .inl ⟨rfl, _, SqL.of h2⟩, _, rfl, _, rfl, _, _, rfl, rfl, npos, _, rfl, _, rfl, _, _, rfl, rfl, ⟨npos, by show n < 1073741824; omega⟩, _, rfl, _, _, rfl, rfl, npos, two, fun tp htp => ?_⟩
          have u1 := same_at (o := .tup [.int (rs' % (n * n + 1) % n), .int (rs' % (n * n + 1) / n % n)]) htp
          have h3 := u1 _ _ h2
          refine ⟨td, xs, _, rfl, rfl, h3, small60' (by rw [hP.1]; omega), ?_⟩
          refine ⟨_, rfl, _, rfl, _, rfl, _, _, rfl, rfl, .inl ⟨by show -(2 ^ 64) < n; omega, by show n < 2 ^ 64; omega⟩, _, _, rfl, rfl, _, _, rfl, rfl, ⟨dp, by show n * n + 1 < 1073741824; omega⟩, ?_⟩
          refine ⟨_, ps ++ [(rs' % (n * n + 1) % n, rs' % (n * n + 1) / n % n)], _, _, _, _, rfl, same_upd htd (s2.trans u1), upd_same, ?_, by rw [List.length_append, List.length_singleton, hlp], good_snoc hg x0 x1 y0 y1⟩
          exact ((hP.same u1).snoc ⟨tp, rfl, upd_same⟩).mutl h3
        · intro Kn hK
          refine ⟨_, rfl, rfl, _, rfl, ?_⟩
          rw [dec_int]
          refine itd2 (fun _ => ?_) (fun _ => hK _ _ ⟨rs, rfl, rfl⟩)
          exact ⟨_, rfl, a, ns, 2, rfl, s2.seq hA, by decide, fun c3 => ⟨_, rfl, c3, _, rfl, by omega, by omega, fun r3 _ => hK _ _ ⟨r3, rfl, rfl⟩⟩⟩
      · rintro σ H2 ⟨xs, ps, rs, v5, v6, v7, rfl, s2, h2, hP, hlp, hg⟩
        exact ⟨_, rfl, q td xs ps H2 s2 htd h2 hP (by omega) hg⟩
    · refine ⟨_, rfl, _, rfl, a, _, rfl, hA0, fun p1 hp1 => ?_⟩
      rw [cutI_eq]
      have cl : (cutI ns (some 2) none).length ≤ 63 := by
        have := cutV_length (IL ns) (some 2) none
        rw [cutI_eq, il_length, il_length] at this
        omega
      generalize cutI ns (some 2) none = cs at *
      have u1 := same_at (o := .lst (IL cs)) hp1
      have hpt : p1 ≠ td := fun e => by
        rw [e, htd0] at hp1
        cases hp1
      refine ⟨p1, rfl, ⟨_, SqL.of upd_same⟩, for_enum (K := K) (a := p1) (xs := IL cs) (fun i σ H2 => ∃ (xs : List V) (ps : List (Int × Int)) (v6 v8 v9 v10 : Option V), σ = [some (.ref a), some (.int n), some (.int most), some (.ref td), none, none, v6, none, v8, v9, v10] ∧ Same H H2 ∧ H2 p1 = some (.lst (IL cs)) ∧ H2 td = some (.lst xs) ∧ PairsV H2 xs ps ∧ (ps.length : Int) = (if (i : Int) < most then (i : Int) else most) ∧ ∀ p ∈ ps, 0 ≤ p.1 ∧ p.1 < n ∧ 0 ≤ p.2 ∧ p.2 < n) ⟨[], [], none, none, none, none, rfl, s0.trans u1, upd_same, u1 _ _ htd0, PairsV.nil, by rw [if_pos (by omega)]; rfl, fun p hp => (by cases hp)⟩ (fun i σ H2 _ ⟨_, _, _, _, _, _, _, _, e, _⟩ => SqL.of e) ?_ ?_⟩
      · rintro i v σ H2 pt hpt2 hi ⟨xs, ps, v6, v8, v9, v10, rfl, s2, hp2, h2, hP, hlp, hg⟩
        obtain ⟨c, rfl, hc⟩ := il_get hi
        have hi63 := (List.getElem?_eq_some_iff.mp hc).1
        have u2 := same_at (o := .tup [.int i, .int c]) hpt2
        refine ⟨pt, _, rfl, SqT.of upd_same, rfl, _, _, rfl, _, _, rfl, rfl, ?_⟩
        have hp3 := u2 _ _ hp2
        have h3 := u2 _ _ h2
        have hP3 := hP.same u2
        have s3 := s2.trans u2
        generalize upd H2 pt (.tup [.int i, .int c]) = H3 at *
        refine ⟨_, rfl, _, rfl, _, _, rfl, rfl, (by show (0 : Int) < 37; decide), c, _, rfl, Int.emod_nonneg _ (by decide), Int.lt_trans (Int.emod_lt_of_pos _ (by decide)) (by decide), fun m m0 => ?_⟩
        refine ⟨_, rfl, _, rfl, _, _, rfl, rfl, _, rfl, ?_⟩
        refine itd2 (fun hk => ?_) (fun hk => ?_)
        · rw [if_pos hk] at hlp
          obtain ⟨x0, x1⟩ := md (m / 8)
          obtain ⟨y0, y1⟩ := md (m / 800)
          refine ⟨_, rfl, .inl ⟨rfl, _, SqL.of h3⟩, _, rfl, _, _, rfl, rfl, ⟨by decide, by decide⟩, _, rfl, _, _, rfl, rfl, npos, _, rfl, _, _, rfl, rfl, ⟨by decide, by decide⟩, _, rfl, _, _, rfl, rfl, npos, two, fun tp htp => ?_⟩
          have u3 := same_at (o := .tup [.int (m / 8 % n), .int (m / 800 % n)]) htp
          have h4 := u3 _ _ h3
          refine ⟨td, xs, _, rfl, rfl, h4, small60' (by rw [hP.1]; omega), ?_⟩
          refine ⟨_, ps ++ [(m / 8 % n, m / 800 % n)], _, _, _, _, rfl, same_upd htd (s3.trans u3), by rw [upd_ne hpt]; exact u3 _ _ hp3, upd_same, ((hP3.same u3).snoc ⟨tp, rfl, upd_same⟩).mutl h4, ?_, good_snoc hg x0 x1 y0 y1⟩
          rw [List.length_append, List.length_singleton]
          split <;> omega
        · rw [if_neg hk] at hlp
          have at0 : 0 ≤ (i : Int) % most := Int.emod_nonneg _ (by omega)
          have at1 : (i : Int) % most < most := Int.emod_lt_of_pos _ (by omega)
          obtain ⟨p, hp⟩ : ∃ p, ps[((i : Int) % most).toNat]? = some p := ⟨_, List.getElem?_eq_getElem (by omega)⟩
          obtain ⟨v, hv, tt, rfl, htt⟩ := hP3.2 _ p hp
          have hix : atI xs ((i : Int) % most) = some (.ref tt) := atI_of (n := ((i : Int) % most).toNat) (by omega) hv
          refine ⟨_, rfl, _, rfl, _, _, rfl, rfl, (by show (0 : Int) < most; omega), ?_⟩
          refine ⟨_, rfl, _, rfl, _, rfl, td, _, (i : Int) % most, .ref tt, rfl, rfl, SqL.of h3, hix, tt, _, 0, .int p.1, rfl, rfl, SqT.of htt, rfl, _, _, rfl, rfl, _, rfl, _, rfl, td, _, (i : Int) % most, .ref tt, rfl, rfl, SqL.of h3, hix, tt, _, 1, .int p.2, rfl, rfl, SqT.of htt, rfl, _, _, rfl, rfl, .inl ⟨by decide, by decide⟩, _, _, rfl, rfl, _, 5, rfl, by decide, by decide, fun m' m0' => ?_⟩
          obtain ⟨x0, x1⟩ := md (m' / 8)
          obtain ⟨y0, y1⟩ := md (m' / 800)
          refine ⟨_, rfl, _, _, rfl, rfl, ⟨by decide, by decide⟩, _, rfl, _, _, rfl, rfl, npos, _, rfl, _, _, rfl, rfl, ⟨by decide, by decide⟩, _, rfl, _, _, rfl, rfl, npos, two, fun tp htp => ?_⟩
          have u3 := same_at (o := .tup [.int (m' / 8 % n), .int (m' / 800 % n)]) htp
          have h4 := u3 _ _ h3
          refine ⟨_, rfl, _, rfl, td, xs, _, ((i : Int) % most).toNat, rfl, rfl, h4, ?_, ?_⟩
          · have := hP.1
            unfold ixN
            rw [if_pos (by omega), if_pos (by omega)]
          refine ⟨_, ps.set ((i : Int) % most).toNat (m' / 8 % n, m' / 800 % n), _, _, _, _, rfl, same_upd htd (s3.trans u3), by rw [upd_ne hpt]; exact u3 _ _ hp3, upd_same, ((hP3.same u3).set _ ⟨tp, rfl, upd_same⟩).mutl h4, ?_, good_set hg x0 x1 y0 y1⟩
          rw [List.length_set]
          split <;> omega
      · rintro σ H2 ⟨xs, ps, v6, v8, v9, v10, rfl, s2, hp2, h2, hP, hlp, hg⟩
        refine ⟨_, rfl, q td xs ps H2 s2 htd h2 hP ?_ hg⟩
        split at hlp <;> omega
end
end My
namespace My
open PySem L2 PyProof.Rows
set_option maxHeartbeats 4000000
/-- few numbers below 20000 -/
def sp_law_amounts (K : PySem.W.Frag) : Sp := fun vs H Q _ => ∃ (a : Addr) (ns : List Int), vs = [.ref a] ∧ SqL K H a (IL ns) ∧ ns.length ≤ 63 ∧
  ∀ (r : Addr) (L : List Int) (H' : Hp), Same H H' → H r = none → H' r = some (.lst (IL L)) → L.length ≤ 24 → (∀ x ∈ L, 0 ≤ x ∧ x < 20000) → Q (.ref r) H'
section
variable {P : Program} {w : World} {K : PySem.W.Frag} {mg : Str → Option Value} {base : Heap} {t : Adr}
theorem sc_law_amounts : FnScope ["script", "head", "told", "rest", "k", "cell", "at"] ["script"] (defScope s_law_amounts) := ⟨rfl, rfl, rfl, by decide +kernel, rfl, by decide +kernel, by decide +kernel⟩
theorem ok_law_amounts (T : Txt K mg t) : FnOk P w K mg base CX0 2 t.a_law_amounts t.d_law_amounts ["script"] (sp_law_amounts K) := by
  refine T.f_law_amounts.ok sc_law_amounts (fun vs H Q E h => ?_) (fun cdv A outer s H vs Q E hr h => ?_)
  · obtain ⟨a, ns, rfl, _⟩ := h
    rfl
  · obtain ⟨a, ns, rfl, hA, hn63, q⟩ := h
    refine ⟨_, (pss_cons (ps_set (i := 1) sc_law_amounts.nd rfl (Or.inr rfl) (pe_op op_mod (pe_call (ok_law_at T) (hr.mono (by decide)) rfl T.m_law_at T.f_law_at.kp T.b_law_at .nil pass0 (pa_cons (pv 0) (pa_cons pe_int pa_nil))) (pe_op op_pow pe_int pe_int)))
      (pss_cons (ps_set (i := 2) sc_law_amounts.nd rfl (Or.inl rfl) (pe_lst pa_nil))
      (pss_cons (ps_if (pt_cmpR op_eq (pe_op op_mod (pe_call (ok_law_at T) (hr.mono (by decide)) rfl T.m_law_at T.f_law_at.kp T.b_law_at .nil pass0 (pa_cons (pv 0) (pa_cons pe_int pa_nil))) pe_int) pe_int (nomark _))
      (pss_cons (ps_set (i := 3) sc_law_amounts.nd rfl (Or.inl rfl) (pe_op op_mod (pe_call (ok_law_at T) (hr.mono (by decide)) rfl T.m_law_at T.f_law_at.kp T.b_law_at .nil pass0 (pa_cons (pv 0) (pa_cons pe_int pa_nil))) (pe_op op_mulC (pe_op op_pow pe_int pe_int) (pe_op op_pow pe_int pe_int))))
      (pss_cons (ps_for PassesOwn.never rfl (pi_range1 rfl T.n_range (pa_cons (pe_op op_mod (pv 1) pe_int) pa_nil)) (pg_name (i := 4) sc_law_amounts.nd rfl (Or.inl rfl))
      (pss_cons (ps_if (pt_cmpR op_eq (pv 3) pe_int (nomark _))
      (pss_one (ps_set (i := 3) sc_law_amounts.nd rfl (Or.inl rfl) (pe_call (ok_law_mixed T) (hr.mono (by decide)) rfl T.m_law_mixed T.f_law_mixed.kp T.b_law_mixed .nil pass0 (pa_cons (pe_call (ok_law_at T) (hr.mono (by decide)) rfl T.m_law_at T.f_law_at.kp T.b_law_at .nil pass0 (pa_cons (pv 0) (pa_cons pe_int pa_nil))) (pa_cons (pv 4) pa_nil)))))
      pss_nil)
      (pss_cons (ps_expr (pe_bmK K PySem.F.plainAttrs_list PySem.F.slot_list_append PySem.F.type_list_append mt_append (pv 2) (pa_cons (pe_op op_mod (pv 3) pe_int) pa_nil)))
      (pss_one (ps_set (i := 3) sc_law_amounts.nd rfl (Or.inl rfl) (pe_op op_fdiv (pv 3) pe_int))))))
      (pss_one (ps_ret (pv 2)))))
      pss_nil)
      (pss_cons (ps_lc (i := 2) rfl sc_law_amounts.nd rfl rfl (sc0 := defScope s_law_amounts) (N0 := ["script", "head", "told", "rest", "k", "cell", "at"]) (N' := ["k", "head"]) (o := 1) (fr := [1]) ⟨rfl, by decide +kernel, by decide +kernel, by decide +kernel, rfl, by decide +kernel⟩ (pi_range1 rfl T.n_range (pa_cons (pe_op op_mod (pv 1) pe_int) pa_nil)) (own_name (by decide)) (fun _ _ _ _ => (pg_name (i := 0) (show List.Nodup (["k", "head"] : List Str) by decide +kernel) rfl (Or.inl rfl))) (fun _ _ _ _ => pts_nil) (fun _ _ _ _ => (pe_call (ok_law_mixed T) (hr.mono (by decide)) rfl T.m_law_mixed T.f_law_mixed.kp T.b_law_mixed .nil pass0 (pa_cons (pe_op op_add (pv 1) (pv 0)) (pa_cons pe_int pa_nil)))))
      (pss_cons (ps_for PassesOwn.never rfl (pi_enumK K rfl T.n_enumerate (pa_cons (pe_slice (sl_listK K) (pv 0) (po_some pe_int) po_none) pa_nil)) (pg_tupK (n := 2) K rfl (pgs_cons (pg_name (i := 4) sc_law_amounts.nd rfl (Or.inl rfl)) (pgs_cons (pg_name (i := 5) sc_law_amounts.nd rfl (Or.inl rfl)) pgs_nil)))
      (pss_one (ps_if (pt_cmpR op_gt (pe_callB (call_lenK K) (by rfl) T.n_len Boot.«len» (pa_cons (pv 2) pa_nil)) pe_int (nomark _))
      (pss_cons (ps_set (i := 6) sc_law_amounts.nd rfl (Or.inl rfl) (pe_op op_mod (pv 4) (pe_callB (call_lenK K) (by rfl) T.n_len Boot.«len» (pa_cons (pv 2) pa_nil))))
      (pss_one (ps_asg (pe_call (ok_law_mixed T) (hr.mono (by decide)) rfl T.m_law_mixed T.f_law_mixed.kp T.b_law_mixed .nil pass0 (pa_cons (pe_op op_add (pe_ix (ix_listK K) (pv 2) (pv 6) (fun _ _ => rfl)) (pe_op op_mod (pv 5) (pe_op op_pow pe_int pe_int))) (pa_cons (pe_op op_mod (pv 4) pe_int) pa_nil))) (pg_sub (pv 2) (pv 6) set_list))))
      pss_nil)))
      (pss_one (ps_ret (pe_lc rfl (sc0 := defScope s_law_amounts) (N0 := ["script", "head", "told", "rest", "k", "cell", "at"]) (N' := ["m"]) (o := 1) (fr := []) ⟨rfl, by decide +kernel, by decide +kernel, by decide +kernel, rfl, by decide +kernel⟩ (pi_listK K (pv 2)) (own_name (by decide)) (fun _ _ _ _ => (pg_name (i := 0) (show List.Nodup (["m"] : List Str) by decide +kernel) rfl (Or.inl rfl))) (fun _ _ _ _ => pts_nil) (fun _ _ _ _ => (pe_op op_mod (pe_op op_fdiv (pv 0) pe_int) pe_int)))))))))), ?_⟩
    refine ⟨_, rfl, a, ns, 0, rfl, hA, by decide, fun c0 => ⟨_, _, rfl, rfl, ⟨by decide, by decide, by decide⟩, _, _, rfl, rfl, (by show (0 : Int) < 10 ^ 60; decide), ?_⟩⟩
    refine nm ?_
    dsimp only
    generalize c0 % 10 ^ (60 : Int).toNat = hd
    have h0 : 0 ≤ hd % 25 := Int.emod_nonneg _ (by decide)
    have h1 : hd % 25 < 25 := Int.emod_lt_of_pos _ (by decide)
    refine ⟨Nat.zero_le _, fun td htd => ?_⟩
    have s0 := same_at (o := .lst []) htd
    have htd0 : (upd H td (.lst [])) td = some (.lst []) := upd_same
    have hA0 := s0.seq hA
    generalize upd H td (.lst []) = H0 at *
    refine nm ?_
    dsimp only
    have t20 : ∀ z : Int, 0 ≤ z % 20000 ∧ z % 20000 < 20000 := fun z => ⟨Int.emod_nonneg _ (by decide), Int.emod_lt_of_pos _ (by decide)⟩
    refine ⟨_, rfl, a, ns, 1, rfl, hA0, by decide, fun c1 => ⟨_, _, rfl, rfl, (by show (0 : Int) < 2; decide), rfl, _, rfl, ?_⟩⟩
    rw [dec_int]
    refine itd2 (fun _ => ?_) (fun _ => ?_)
    · refine ⟨_, rfl, a, ns, 2, rfl, hA0, by decide, fun c2 => ⟨_, _, rfl, rfl, ⟨by decide, by decide, by decide⟩, _, _, rfl, rfl, ⟨by decide, by decide, by decide⟩, _, _, rfl, rfl, ⟨⟨by decide, by decide⟩, by decide, by decide⟩, _, _, rfl, rfl, (by show (0 : Int) < 10 ^ 60 * 10 ^ 60; decide), ?_⟩⟩
      refine nm ?_
      dsimp only
      generalize c2 % (10 ^ (60 : Int).toNat * 10 ^ (60 : Int).toNat) = rs0
      refine ⟨_, rfl, _, _, rfl, rfl, (by show (0 : Int) < 25; decide), _, rfl, by omega, by omega, for_range (lo := 0) (n := (hd % 25).toNat) (fun i σ H2 => ∃ (L : List Int) (rs : Int) (v4 : Option V), σ = [some (.ref a), some (.int hd), some (.ref td), some (.int rs), v4, none, none] ∧ Same H H2 ∧ H2 td = some (.lst (IL L)) ∧ L.length = i ∧ ∀ x ∈ L, 0 ≤ x ∧ x < 20000) ⟨[], rs0, none, rfl, s0, htd0, rfl, fun x h => (by cases h)⟩ ?_ ?_⟩
      · rintro i σ H2 hi ⟨L, rs, v4, rfl, s2, h2, hL, hb⟩
        refine nm ?_
        dsimp only
        refine contS (fun σ H3 => ∃ rs' : Int, H3 = H2 ∧ σ = [some (.ref a), some (.int hd), some (.ref td), some (.int rs'), some (.int (0 + (i : Int))), none, none]) ?_ ?_
        · rintro σ H3 ⟨rs', rfl, rfl⟩
          refine ⟨_, rfl, .inl ⟨rfl, _, SqL.of h2⟩, _, rfl, _, _, rfl, rfl, (by show (0 : Int) < 20000; decide), td, _, _, rfl, rfl, h2, small60' (by rw [il_length]; omega), ?_⟩
          refine ⟨_, rfl, _, _, rfl, rfl, ⟨by decide, by decide⟩, ?_⟩
          refine ⟨L ++ [rs' % 20000], _, _, rfl, same_upd htd s2, by rw [upd_same, il_snoc], by rw [List.length_append, hL]; rfl, fun x hx => ?_⟩
          rcases List.mem_append.mp hx with e | e
          · exact hb x e
          · rw [List.mem_singleton.mp e]; exact t20 _
        · intro Kn hK
          refine ⟨_, rfl, rfl, _, rfl, ?_⟩
          rw [dec_int]
          refine itd2 (fun _ => ?_) (fun _ => hK _ _ ⟨rs, rfl, rfl⟩)
          exact ⟨_, rfl, a, ns, 2, rfl, s2.seq hA, by decide, fun c3 => ⟨_, rfl, c3, _, rfl, by omega, by omega, fun r3 _ => hK _ _ ⟨r3, rfl, rfl⟩⟩⟩
      · rintro σ H2 ⟨L, rs, v4, rfl, s2, h2, hL, hb⟩
        exact ⟨_, rfl, q td L H2 s2 htd h2 (by omega) hb⟩
    · -- told anew
      refine ⟨_, rfl, _, _, rfl, rfl, (by show (0 : Int) < 25; decide), _, rfl, by omega, by omega, lc_range (lo := 0) (n := (hd % 25).toNat) (fun i ws H2 => H2 = H0 ∧ ∃ L : List Int, ws = IL L ∧ L.length = i) ⟨rfl, [], rfl, rfl⟩ (small60' (by omega)) (fun i ws H2 _ ⟨_, L, e, el⟩ => by rw [e, il_length, el]; exact Nat.le_refl _) ?_ ?_⟩
      · rintro i ws H2 hi ⟨rfl, L, rfl, hL⟩ S hSS
        refine nm ?_
        refine ⟨_, rfl, _, rfl, _, _, rfl, rfl, _, 40, rfl, by decide, by decide, fun r _ => hSS _ _ ⟨rfl, L ++ [r], (il_snoc ..).symm, by rw [List.length_append, hL]; rfl⟩⟩
      rintro ws H2 ⟨rfl, L0, rfl, hL0⟩ tn htn
      have u1 := same_at (o := .lst (IL L0)) htn
      have k1 : (upd H2 tn (.lst (IL L0))) tn = some (.lst (IL L0)) := upd_same
      have tn0 : H tn = none := s0.free htn
      have s1 := s0.trans u1
      have hA1 := s1.seq hA
      generalize upd H2 tn (.lst (IL L0)) = H1 at *
      refine nm ?_
      dsimp only
      refine ⟨_, rfl, _, rfl, a, _, rfl, hA1, fun p1 hp1 => ?_⟩
      rw [cutI_eq]
      have cl : (cutI ns (some 2) none).length ≤ 63 := by
        have := cutV_length (IL ns) (some 2) none
        rw [cutI_eq, il_length, il_length] at this
        omega
      generalize cutI ns (some 2) none = cs at *
      have u2 := same_at (o := .lst (IL cs)) hp1
      have hpt : p1 ≠ tn := Ne.symm (ne_of_none k1 hp1)
      refine ⟨p1, rfl, ⟨_, SqL.of upd_same⟩, for_enum (K := K) (a := p1) (xs := IL cs) (fun i σ H3 => ∃ (L : List Int) (v4 v5 v6 : Option V), σ = [some (.ref a), some (.int hd), some (.ref tn), none, v4, v5, v6] ∧ Same H H3 ∧ H3 p1 = some (.lst (IL cs)) ∧ H3 tn = some (.lst (IL L)) ∧ L.length ≤ 24) ⟨L0, none, none, none, rfl, s1.trans u2, upd_same, u2 _ _ k1, by omega⟩ (fun i σ H3 _ ⟨_, _, _, _, _, _, e, _⟩ => SqL.of e) ?_ ?_⟩
      · rintro i v σ H3 pt hpt2 hi ⟨L, v4, v5, v6, rfl, s3, hp3, h3, hL⟩
        obtain ⟨c, rfl, hc⟩ := il_get hi
        have u4 := same_at (o := .tup [.int i, .int c]) hpt2
        refine ⟨pt, _, rfl, SqT.of upd_same, rfl, _, _, rfl, _, _, rfl, rfl, ?_⟩
        have hp4 := u4 _ _ hp3
        have h4 := u4 _ _ h3
        have s4 := s3.trans u4
        generalize upd H3 pt (.tup [.int i, .int c]) = H4 at *
        refine ⟨_, rfl, tn, _, rfl, .inl (SqL.of h4), _, _, rfl, rfl, _, rfl, ?_⟩
        refine itd2 (fun hpos => ?_) (fun _ => ⟨L, _, _, _, rfl, s4, hp4, h4, hL⟩)
        rw [il_length] at hpos
        have pos : (0 : Int) < ((IL L).length : Int) := by rw [il_length]; omega
        refine ⟨_, rfl, _, rfl, tn, _, rfl, .inl (SqL.of h4), _, _, rfl, rfl, pos, ?_⟩
        refine nm ?_
        dsimp only
        have at0 : 0 ≤ (i : Int) % ((IL L).length : Int) := Int.emod_nonneg _ (by omega)
        have at1 : (i : Int) % ((IL L).length : Int) < ((IL L).length : Int) := Int.emod_lt_of_pos _ pos
        generalize (i : Int) % ((IL L).length : Int) = at' at *
        rw [il_length] at at1
        obtain ⟨y, hy⟩ : ∃ y, L[at'.toNat]? = some y := ⟨_, List.getElem?_eq_getElem (by omega)⟩
        have m37a : 0 ≤ (i : Int) % 37 := Int.emod_nonneg _ (by decide)
        have m37b : (i : Int) % 37 < 37 := Int.emod_lt_of_pos _ (by decide)
        refine ⟨_, rfl, _, rfl, tn, _, _, .int y, rfl, rfl, SqL.of h4, atI_of (n := at'.toNat) (by omega) (il_at hy), _, rfl, _, _, rfl, rfl, ⟨by decide, by decide, by decide⟩, _, _, rfl, rfl, (by show (0 : Int) < 10 ^ 60; decide), _, _, rfl, rfl, _, rfl, _, _, rfl, rfl, (by show (0 : Int) < 37; decide), _, _, rfl, m37a, by omega, fun r _ => ?_⟩
        have ix : ixN (IL L).length at' = some at'.toNat := by unfold ixN; rw [if_pos at0, if_pos (by rw [il_length]; omega)]
        refine ⟨_, rfl, _, rfl, tn, _, _, _, rfl, rfl, h4, ix, ?_⟩
        have es : (IL L).set at'.toNat (.int r) = IL (L.set at'.toNat r) := (List.map_set ..).symm
        rw [es]
        exact ⟨L.set at'.toNat r, _, _, _, rfl, same_upd tn0 s4, by rw [upd_ne hpt]; exact hp4, upd_same, by rw [List.length_set]; exact hL⟩
      rintro σ H3 ⟨L, v4, v5, v6, rfl, s3, hp3, h3, hL⟩
      refine ⟨_, rfl, tn, rfl, ⟨_, SqL.of h3⟩, lc_list (K := K) (a := tn) (xs := IL L) (fun i ws H4 => H4 = H3 ∧ ∃ R : List Int, ws = IL R ∧ R.length = i ∧ ∀ x ∈ R, 0 ≤ x ∧ x < 20000) ⟨rfl, [], rfl, rfl, fun x h => (by cases h)⟩ (small60' (by rw [il_length]; omega)) (fun i ws H4 _ ⟨e, R, ew, er, _⟩ => ⟨e ▸ SqL.of h3, by rw [ew, il_length, er]; exact Nat.le_refl _⟩) ?_ ?_⟩
      · rintro i v ws H4 hi ⟨rfl, R, rfl, hR, hb⟩ S hSS
        obtain ⟨z, rfl, hz⟩ := il_get hi
        refine nm ?_
        refine ⟨_, rfl, _, _, rfl, rfl, ⟨by decide, by decide⟩, _, _, rfl, rfl, (by show (0 : Int) < 20000; decide), hSS _ _ ⟨rfl, R ++ [z / 8 % 20000], (il_snoc ..).symm, by rw [List.length_append, hR]; rfl, fun x hx => ?_⟩⟩
        rcases List.mem_append.mp hx with e | e
        · exact hb x e
        · rw [List.mem_singleton.mp e]; exact t20 _
      rintro ws H4 ⟨rfl, R, rfl, hR, hb⟩ rr hrr
      rw [il_length] at hR
      exact q rr R _ (s3.trans (same_at hrr)) (s3.free hrr) upd_same (by omega) hb
end
end My
namespace My
open PySem L2 PyProof.Rows
set_option maxHeartbeats 4000000
/-- for each dart the one behind it -/
def sp_law_behind (K : PySem.W.Frag) : Sp := fun vs H Q _ => ∃ (a : Addr) (xs : List V) (ts : List (List Int)), vs = [.ref a] ∧ SqL K H a xs ∧ Bears (ListV H) xs ts ∧ ts.flatten.Nodup ∧ ts.flatten.length ≤ 1000 ∧ (∀ l ∈ ts, ∀ z ∈ l, 0 ≤ z) ∧
  ∀ (d : Addr) (H' : Hp), Same H H' → H d = none → H' d = some (.dK (kvI (bhL ts))) → Q (.ref d) H'
theorem kvI_len75 (L : List (Int × Int)) : (kvI L).length = L.length := by unfold kvI; rw [List.length_map]
section
variable {P : Program} {w : World} {K : PySem.W.Frag} {mg : Str → Option Value} {base : Heap} {t : Adr}
theorem sc_law_behind : FnScope ["turns", "told", "row", "k", "dart"] ["turns"] (defScope s_law_behind) := ⟨rfl, rfl, rfl, by decide +kernel, rfl, by decide +kernel, by decide +kernel⟩
theorem ok_law_behind (T : Txt K mg t) : FnOk P w K mg base CX0 1 t.a_law_behind t.d_law_behind ["turns"] (sp_law_behind K) := by
  refine T.f_law_behind.ok sc_law_behind (fun vs H Q E h => ?_) (fun cdv A outer s H vs Q E hr h => ?_)
  · obtain ⟨a, xs, ts, rfl, _⟩ := h
    rfl
  · obtain ⟨a, xs, ts, rfl, hA, hX, hnd, hfl, hnn, q⟩ := h
    refine ⟨_, (pss_cons (ps_set (i := 1) sc_law_behind.nd rfl (Or.inl rfl) pe_dnewK)
      (pss_cons (ps_for PassesOwn.never rfl (pi_listK K (pv 0)) (pg_name (i := 2) sc_law_behind.nd rfl (Or.inl rfl))
      (pss_one (ps_for PassesOwn.never rfl (pi_enumK K rfl T.n_enumerate (pa_cons (pv 2) pa_nil)) (pg_tupK (n := 2) K rfl (pgs_cons (pg_name (i := 3) sc_law_behind.nd rfl (Or.inl rfl)) (pgs_cons (pg_name (i := 4) sc_law_behind.nd rfl (Or.inl rfl)) pgs_nil)))
      (pss_one (ps_dput (hu_of hr) (pv 1) (pe_op op_xor (pv 4) pe_int) (pe_ix (ix_listK K) (pv 2) (pe_op op_mod (pe_op op_add (pv 3) pe_int) (pe_callB (call_lenK K) (by rfl) T.n_len Boot.«len» (pa_cons (pv 2) pa_nil))) (fun _ _ => rfl)) rfl)))))
      (pss_one (ps_ret (pv 1))))), ?_⟩
    intro d hd
    have u1 := same_at (o := .dK []) hd
    have k1 : (upd H d (.dK [])) d = some (.dK []) := upd_same
    generalize upd H d (.dK []) = H1 at *
    refine nm ?_
    dsimp only
    refine ⟨_, rfl, a, rfl, ⟨_, u1.seq hA⟩, for_list (K := K) (a := a) (xs := xs) (fun i σ H2 => ∃ v2 v3 v4 : Option V, σ = [some (.ref a), some (.ref d), v2, v3, v4] ∧ Same H H2 ∧ i ≤ xs.length ∧ H2 d = some (.dK (kvI (bhL (ts.take i))))) ⟨none, none, none, rfl, u1, Nat.zero_le _, k1⟩ (fun i σ H2 _ ⟨_, _, _, _, e, _⟩ => e.seq hA) ?_ ?_⟩
    · rintro i v σ H2 hi ⟨v2, v3, v4, rfl, s2, hil, k2⟩
      obtain ⟨row, hrow, r, rfl, hr⟩ := hX.at hi
      have hil' := (List.getElem?_eq_some_iff.mp hi).1
      have hrs : (ts.take i).flatten.length + row.length ≤ 1000 := by
        have e : ts.flatten = (ts.take (i + 1)).flatten ++ (ts.drop (i + 1)).flatten := by rw [← List.flatten_append, List.take_append_drop]
        rw [e, flat_take hrow, List.length_append, List.length_append] at hfl
        omega
      refine nm ?_
      dsimp only
      refine ⟨_, rfl, r, rfl, ⟨_, SqL.of (s2 _ _ hr)⟩, for_enum (K := K) (a := r) (xs := IL row) (fun j σ H3 => ∃ v3 v4 : Option V, σ = [some (.ref a), some (.ref d), some (.ref r), v3, v4] ∧ Same H H3 ∧ j ≤ row.length ∧ H3 d = some (.dK (kvI (bhL (ts.take i) ++ bhR row j)))) ⟨v3, v4, rfl, s2, Nat.zero_le _, by rw [show bhR row 0 = [] from rfl, List.append_nil]; exact k2⟩ (fun j σ H3 _ ⟨_, _, _, e, _⟩ => SqL.of (e _ _ hr)) ?_ ?_⟩
      · rintro j x σ H3 pt hpt hj ⟨w3, w4, rfl, s3, hjl, k4⟩
        obtain ⟨z, rfl, hz⟩ := il_get hj
        have hjl' := (List.getElem?_eq_some_iff.mp hz).1
        have z0 := hnn row (List.mem_of_getElem? hrow) z (List.mem_of_getElem? hz)
        have u4 := same_at (o := .tup [.int j, .int z]) hpt
        refine ⟨pt, _, rfl, SqT.of upd_same, rfl, _, _, rfl, _, _, rfl, rfl, ?_⟩
        have k5 := u4 _ _ k4
        have s5 := s3.trans u4
        generalize upd H3 pt (.tup [.int j, .int z]) = H5 at *
        have pos : (0 : Int) < ((IL row).length : Int) := by rw [il_length]; omega
        have em : ((j : Int) + 1) % ((IL row).length : Int) = (((j + 1) % row.length : Nat) : Int) := by rw [il_length, Int.natCast_emod, Int.natCast_add]; rfl
        have lt2 : (j + 1) % row.length < row.length := Nat.mod_lt _ (by omega)
        obtain ⟨y, hy⟩ : ∃ y, row[(j + 1) % row.length]? = some y := ⟨_, List.getElem?_eq_getElem lt2⟩
        have e1 : row.getD j 0 = z := getD_of hz
        have e2 : row.getD ((j + 1) % row.length) 0 = y := getD_of hy
        refine ⟨_, rfl, _, rfl, _, _, rfl, rfl, _, rfl, r, _, rfl, .inl (SqL.of (s5 _ _ hr)), _, _, rfl, rfl, pos, r, _, _, .int y, rfl, rfl, SqL.of (s5 _ _ hr), atI_of (n := (j + 1) % row.length) em (il_at hy), _, rfl, _, rfl, _, _, rfl, rfl, ?_⟩
        show ∃ _, _
        refine ⟨d, _, rfl, DPut.k (k := Sum.inl (Builtin.bitXor z 1)) k5 (small60' (by rw [kvI_len75, List.length_append, bhL_len, bhR_len]; omega)), ?_⟩
        rw [xor_one z0]
        have nw := bh_new hnd hrow hjl'
        rw [e1] at nw
        refine ⟨_, _, rfl, same_upd hd s5, hjl', ?_⟩
        rw [upd_same, kvI_put nw, bhR_succ, e1, e2, List.append_assoc]
      rintro σ H3 ⟨w3, w4, rfl, s3, _, k4⟩
      rw [il_length] at k4
      exact ⟨_, _, _, rfl, s3, hil', by rw [bhL_take hrow]; exact k4⟩
    rintro σ H2 ⟨v2, v3, v4, rfl, s2, _, k2⟩
    rw [hX.1, List.take_length] at k2
    exact ⟨_, rfl, q d H2 s2 hd k2⟩
end
end My
namespace My
open PySem L2 PyProof.Rows
set_option maxHeartbeats 4000000
/-- the rounds of the turns -/
def sp_law_rounds (K : PySem.W.Frag) : Sp := fun vs H Q _ => ∃ (a : Addr) (n : Nat) (ps : List (Int × Int)) (xs : List V) (ts : List (List Int)), vs = [.ref a] ∧ SqL K H a xs ∧ Bears (ListV H) xs ts ∧ VT n ps ts ∧ (∀ p ∈ ps, 0 ≤ p.1 ∧ p.1 < (n : Int) ∧ 0 ≤ p.2 ∧ p.2 < (n : Int)) ∧ ps.length ≤ 30 ∧
  ∀ (r : Addr) (ys : List V) (R : List (List Int)) (H' : Hp), Same H H' → H r = none → RdW ps ts R → JagAt H r H' ys R → Q (.ref r) H'
theorem rl_few : ∀ L : List (List Int), (∀ l ∈ L, 0 < l.length) → L.length ≤ L.flatten.length
  | [], _ => Nat.le_refl _
  | l :: L, h => by
    have := h l List.mem_cons_self
    have := rl_few L fun x hx => h x (List.mem_cons_of_mem _ hx)
    rw [List.flatten_cons, List.length_append, List.length_cons]
    omega
section
variable {P : Program} {w : World} {K : PySem.W.Frag} {mg : Str → Option Value} {base : Heap} {t : Adr}
theorem sc_law_rounds : FnScope ["turns", "behind_it", "told", "met", "dart", "row"] ["turns"] (defScope s_law_rounds) := ⟨rfl, rfl, rfl, by decide +kernel, rfl, by decide +kernel, by decide +kernel⟩
theorem ok_law_rounds (T : Txt K mg t) : FnOk P w K mg base CX0 2 t.a_law_rounds t.d_law_rounds ["turns"] (sp_law_rounds K) := by
  refine T.f_law_rounds.ok sc_law_rounds (fun vs H Q E h => ?_) (fun cdv A outer s H vs Q E hr h => ?_)
  · obtain ⟨a, n, ps, xs, ts, rfl, _⟩ := h
    rfl
  · obtain ⟨a, n, ps, xs, ts, rfl, hA, hX, hV, gg, hp30, q⟩ := h
    refine ⟨_, (pss_cons (ps_set (i := 1) sc_law_rounds.nd rfl (Or.inl rfl) (pe_call (ok_law_behind T) (hr.mono (by decide)) rfl T.m_law_behind T.f_law_behind.kp T.b_law_behind .nil pass0 (pa_cons (pv 0) pa_nil)))
      (pss_cons (ps_set (i := 2) sc_law_rounds.nd rfl (Or.inl rfl) (pe_lst pa_nil))
      (pss_cons (ps_set (i := 3) sc_law_rounds.nd rfl (Or.inl rfl) pe_dnewK)
      (pss_cons (ps_for PassesOwn.never rfl (pi_listK K (pe_callB (call_sortedKeys rfl) (by rfl) T.n_sorted Boot.«sorted» (pa_cons (pe_bm0K K PySem.F.plainAttrs_dict PySem.F.slot_dict_keys PySem.F.type_dict_keys mt_keys (pv 1)) pa_nil))) (pg_name (i := 4) sc_law_rounds.nd rfl (Or.inl rfl))
      (pss_cons (ps_set (i := 5) sc_law_rounds.nd rfl (Or.inl rfl) (pe_lst pa_nil))
      (pss_cons (ps_while PassesOwn.never (pt_cmp (pc_dnotin (hu_of hr) (pv 4) (pv 3)))
      (pss_cons (ps_dput (hu_of hr) (pv 3) (pv 4) pe_bl rfl)
      (pss_cons (ps_expr (pe_bmK K PySem.F.plainAttrs_list PySem.F.slot_list_append PySem.F.type_list_append mt_append (pv 5) (pa_cons (pv 4) pa_nil)))
      (pss_one (ps_set (i := 4) sc_law_rounds.nd rfl (Or.inl rfl) (pe_dget (hu_of hr) (pv 1) (pv 4) (fun _ _ => rfl)))))))
      (pss_one (ps_if (pt_cmpR op_gt (pe_callB (call_lenK K) (by rfl) T.n_len Boot.«len» (pa_cons (pv 5) pa_nil)) pe_int (nomark _))
      (pss_one (ps_expr (pe_bmK K PySem.F.plainAttrs_list PySem.F.slot_list_append PySem.F.type_list_append mt_append (pv 2) (pa_cons (pv 5) pa_nil))))
      pss_nil)))))
      (pss_cons (ps_if (pt_cmpR op_eq (pe_callB (call_lenK K) (by rfl) T.n_len Boot.«len» (pa_cons (pv 2) pa_nil)) pe_int (nomark _))
      (pss_one (ps_ret (pe_lst (pa_cons (pe_lst pa_nil) pa_nil))))
      pss_nil)
      (pss_one (ps_ret (pv 2)))))))), ?_⟩
    have one : 1 ≤ sizeLine := by decide
    have fl := hV.flat_len
    refine ⟨_, rfl, a, xs, ts, rfl, hA, hX, hV.flat, by omega, fun l hl z hz => (hV.in hl hz).1, fun d H1 s1 hd0 hd1 => ?_⟩
    refine nm ?_
    dsimp only
    refine ⟨Nat.zero_le _, fun rA hrA => ?_⟩
    have u3 := same_at (o := .lst []) hrA
    refine nm ?_
    dsimp only
    intro gA hgA
    have u4 := same_at (o := .dK []) hgA
    have s04 := s1.trans (u3.trans u4)
    have d4 := u4 _ _ (u3 _ _ hd1)
    have r4 := u4 _ _ (upd_same (H := H1) (a := rA) (o := .lst []))
    have k4 : (upd (upd H1 rA (.lst [])) gA (.dK [])) gA = some (.dK []) := upd_same
    have rn0 : H rA = none := s1.free hrA
    have gn0 : H gA = none := s1.free (u3.free hgA)
    have grA : gA ≠ rA := fun z => by rw [z, upd_same] at hgA; cases hgA
    have gdA : gA ≠ d := Ne.symm (ne_of_none (u3 _ _ hd1) hgA)
    have rdA : rA ≠ d := Ne.symm (ne_of_none hd1 hrA)
    generalize upd (upd H1 rA (.lst [])) gA (.dK []) = H4 at *
    refine nm ?_
    dsimp only
    have hinj : ∀ x y z, (x, z) ∈ bhL ts → (y, z) ∈ bhL ts → x = y := fun x y z => bh_inj hV
    have hrg : ∀ x y, (x, y) ∈ bhL ts → (0 ≤ x ∧ x < ((2 * ps.length : Nat) : Int)) ∧ 0 ≤ y ∧ y < ((2 * ps.length : Nat) : Int) := fun x y hxy => by have := bh_range hV hxy; omega
    have hex : ∀ x, 0 ≤ x ∧ x < ((2 * ps.length : Nat) : Int) → ∃ y, (x, y) ∈ bhL ts := fun x hx => bh_ex hV gg (by omega)
    have hnd := bh_nd hV.flat
    -- sorted(keys)
    refine ⟨_, rfl, .inr (.inr (.inl ⟨rfl, .inl ⟨_, d4⟩⟩)), d, _, rfl, rfl, d4, fun vk hvk => ?_⟩
    have u5 := same_at (o := viewK vk d) hvk
    refine ⟨vk, d, _, (bhL ts).map (·.1), rfl, upd_same, u5 _ _ d4, kvI_keys _, by rw [List.length_map, bhL_len]; omega, fun ms hms1 hms2 la hla => ?_⟩
    have ems := bh_sorted hV gg hms1 hms2
    have u6 := same_at (o := .lst (IL ms)) hla
    have s06 := s04.trans (u5.trans u6)
    have l6 : (upd (upd H4 vk (viewK vk d)) la (.lst (IL ms))) la = some (.lst (IL ms)) := upd_same
    have d6 := u6 _ _ (u5 _ _ d4)
    have r6 := u6 _ _ (u5 _ _ r4)
    have k6 := u6 _ _ (u5 _ _ k4)
    have lrA : la ≠ rA := Ne.symm (ne_of_none (u5 _ _ r4) hla)
    have lgA : la ≠ gA := Ne.symm (ne_of_none (u5 _ _ k4) hla)
    generalize upd (upd H4 vk (viewK vk d)) la (.lst (IL ms)) = H6 at *
    have msl : ms.length = 2 * ps.length := by rw [ems, List.length_map, List.length_range]
    have ms_at : ∀ (i : Nat) (x : Int), ms[i]? = some x → x = (i : Int) := fun i x e => by
      rw [ems, List.getElem?_map] at e
      by_cases c : i < 2 * ps.length
      · rw [List.getElem?_range c] at e
        exact (Option.some.inj e).symm
      · rw [List.getElem?_eq_none (by rw [List.length_range]; omega)] at e
        cases e
    refine ⟨la, rfl, ⟨_, SqL.of l6⟩, for_list (K := K) (a := la) (xs := IL ms) (fun k σ H7 => ∃ (v4 v5 : Option V) (ys : List V) (R : List (List Int)) (kvs : List (Key × V)), σ = [some (.ref a), some (.ref d), some (.ref rA), some (.ref gA), v4, v5] ∧ Same H H7 ∧ H7 la = some (.lst (IL ms)) ∧ H7 d = some (.dK (kvI (bhL ts))) ∧ JagAt H rA H7 ys R ∧ Rds (bhL ts) k R ∧ H7 gA = some (.dK kvs) ∧ Kys kvs R.flatten ∧ kvs.length ≤ R.flatten.length) ⟨none, none, [], [], [], rfl, s06, l6, d6, JagAt.nil r6, rfl, k6, Kys.nil, Nat.le_refl _⟩ (fun k σ H7 _ ⟨_, _, _, _, _, _, _, e, _⟩ => SqL.of e) ?_ ?_⟩
    · rintro k x σ H7 hk ⟨v4, v5, ys, R, kvs, rfl, s7, l7, d7, hJ, hR, k7, hKy, hkl⟩
      obtain ⟨z, rfl, hz⟩ := il_get hk
      have hkz := ms_at k z hz
      subst hkz
      have hkl2 := (List.getElem?_eq_some_iff.mp hz).1
      have ndR := hR.nodup hinj
      have fewR := nd_few ndR (hR.range hrg)
      refine nm ?_
      dsimp only
      refine ⟨Nat.zero_le _, fun wA hwA => ?_⟩
      have u8 := same_at (o := .lst []) hwA
      have w8 : (upd H7 wA (.lst [])) wA = some (.lst (IL [])) := upd_same
      have wn0 : H wA = none := s7.free hwA
      have wrA : wA ≠ rA := Ne.symm (ne_of_none hJ.tab hwA)
      have wgA : wA ≠ gA := Ne.symm (ne_of_none k7 hwA)
      have wdA : wA ≠ d := Ne.symm (ne_of_none d7 hwA)
      have wla : wA ≠ la := Ne.symm (ne_of_none l7 hwA)
      have wfr := hJ.fresh hwA
      have s8 := s7.trans u8
      have l8 := u8 _ _ l7
      have d8 := u8 _ _ d7
      have hJ8 := hJ.same u8
      have k8 := u8 _ _ k7
      generalize upd H7 wA (.lst []) = H8 at *
      refine nm ?_
      dsimp only
      have hJw : ∀ {H' : Hp} {l : List V}, JagAt H rA H' ys R → JagAt H rA (upd H' wA (.lst l)) ys R := fun {H' l} h => by
        refine ⟨by rw [upd_ne (Ne.symm wrA)]; exact h.tab, ⟨h.rows.1, fun j l' e => ?_⟩, h.nd, h.new⟩
        obtain ⟨v, e1, A, rfl, e2, e3⟩ := h.rows.2 j l' e
        refine ⟨_, e1, A, rfl, ?_, e3⟩
        rw [upd_ne]
        · exact e2
        · intro z
          rw [z] at e1
          exact wfr (List.mem_of_getElem? e1)
      refine contS (fun σ H9 => ∃ (c : Int) (row : List Int) (kvs : List (Key × V)), σ = [some (.ref a), some (.ref d), some (.ref rA), some (.ref gA), some (.int c), some (.ref wA)] ∧ Same H H9 ∧ H9 la = some (.lst (IL ms)) ∧ H9 d = some (.dK (kvI (bhL ts))) ∧ JagAt H rA H9 ys R ∧ H9 gA = some (.dK kvs) ∧ Kys kvs (R.flatten ++ row) ∧ kvs.length ≤ R.flatten.length + row.length ∧ H9 wA = some (.lst (IL row)) ∧ ((row = [] ∧ (k : Int) ∈ R.flatten) ∨ ((k : Int) ∉ R.flatten ∧ Orb (bhL ts) k row))) ?_ ?_
      rotate_left
      · intro Kn hK
        refine ⟨fun m σ H9 => ∃ (row : List Int) (c : Int) (kvs : List (Key × V)), σ = [some (.ref a), some (.ref d), some (.ref rA), some (.ref gA), some (.int c), some (.ref wA)] ∧ Same H H9 ∧ H9 la = some (.lst (IL ms)) ∧ H9 d = some (.dK (kvI (bhL ts))) ∧ JagAt H rA H9 ys R ∧ H9 gA = some (.dK kvs) ∧ Kys kvs (R.flatten ++ row) ∧ kvs.length ≤ R.flatten.length + row.length ∧ H9 wA = some (.lst (IL row)) ∧ Way (bhL ts) k c row ∧ (∀ z ∈ row, z ∉ R.flatten) ∧ (∀ z ∈ row, 0 ≤ z ∧ z < ((2 * ps.length : Nat) : Int)) ∧ (0 ≤ c ∧ c < ((2 * ps.length : Nat) : Int)) ∧ m = 2 * ps.length - row.length, ⟨2 * ps.length, [], (k : Int), kvs, rfl, s8, l8, d8, hJ8, k8, by rw [List.append_nil]; exact hKy, hkl, w8, ⟨.nil, fun i a b e => by simp at e, .inl ⟨rfl, rfl⟩⟩, fun z h => (by cases h), fun z h => (by cases h), by omega, rfl⟩, ?_⟩
        rintro m σ H9 ⟨row, c, kvs, rfl, s9, l9, d9, hJ9, k9, hK9, hl9, w9, hW, hnR, hz9, hc, rfl⟩
        have few := nd_few hW.1 hz9
        refine ⟨_, rfl, _, rfl, gA, _, rfl, DGet.k (k := Sum.inl c) k9, _, rfl, ?_⟩
        cases hin : (valV kvs (Sum.inl c)).isSome with
        | true =>
          refine iteF ?_
          have hmem := (hK9 c).mp hin
          refine hK _ _ ⟨c, row, kvs, rfl, s9, l9, d9, hJ9, k9, hK9, hl9, w9, ?_⟩
          by_cases hr0 : row = []
          · subst hr0
            have hck : c = (k : Int) := by
              rcases hW.2.2 with ⟨_, e⟩ | ⟨e, _⟩
              · exact e
              · simp at e
            rw [List.append_nil, hck] at hmem
            exact .inl ⟨rfl, hmem⟩
          · have hkn : (k : Int) ∉ R.flatten := by
              rcases hW.2.2 with ⟨e, _⟩ | ⟨e, _⟩
              · exact absurd e hr0
              · exact hnR _ (List.mem_of_getElem? e)
            have hcr : c ∈ row := by
              rcases List.mem_append.mp hmem with e | e
              · exfalso
                obtain ⟨x, hx⟩ : ∃ x, row[row.length - 1]? = some x := ⟨_, List.getElem?_eq_getElem (by have := List.length_pos_iff.mpr hr0; omega)⟩
                rcases hW.2.2 with ⟨e', _⟩ | ⟨_, e'⟩
                · exact hr0 e'
                · exact hnR x (List.mem_of_getElem? hx) (hR.ahead hinj e (e' x hx))
              · exact e
            have hck := hW.meets hinj hcr
            rw [hck] at hW
            exact .inr ⟨hkn, hW.orb hr0⟩
        | false =>
          refine iteT ?_
          have hcn : c ∉ R.flatten ++ row := fun h => by rw [(hK9 c).mpr h] at hin; cases hin
          have hcR : c ∉ R.flatten := fun h => hcn (List.mem_append_left _ h)
          have hcr : c ∉ row := fun h => hcn (List.mem_append_right _ h)
          obtain ⟨e, he⟩ := hex c hc
          refine ⟨_, fun σ' H' h => h, ?_⟩
          -- met
          refine ⟨_, rfl, _, rfl, gA, _, rfl, DPut.k (k := Sum.inl c) k9 (small60' (by omega)), ?_⟩
          have hK10 := hK9.put c (.bl true)
          have lp := length_putK kvs (Sum.inl c) (.bl true)
          have s10 : Same H (upd H9 gA (.dK (putK kvs (Sum.inl c) (.bl true)))) := same_upd gn0 s9
          have l10 : (upd H9 gA (.dK (putK kvs (Sum.inl c) (.bl true)))) la = some (.lst (IL ms)) := by rw [upd_ne lgA]; exact l9
          have d10 : (upd H9 gA (.dK (putK kvs (Sum.inl c) (.bl true)))) d = some (.dK (kvI (bhL ts))) := by rw [upd_ne (Ne.symm gdA)]; exact d9
          have hJ10 := hJ9.oth (o := .dK (putK kvs (Sum.inl c) (.bl true))) grA (fun xs e => by rw [k9] at e; cases e)
          have k10 : (upd H9 gA (.dK (putK kvs (Sum.inl c) (.bl true)))) gA = some (.dK (putK kvs (Sum.inl c) (.bl true))) := upd_same
          have w10 : (upd H9 gA (.dK (putK kvs (Sum.inl c) (.bl true)))) wA = some (.lst (IL row)) := by rw [upd_ne wgA]; exact w9
          generalize upd H9 gA (.dK (putK kvs (Sum.inl c) (.bl true))) = H10 at *
          -- row
          refine ⟨_, rfl, .inl ⟨rfl, _, SqL.of w10⟩, _, rfl, wA, _, _, rfl, rfl, w10, small60' (by rw [il_length]; omega), ?_⟩
          have c1 : IL row ++ [.int c] = IL (row ++ [c]) := (il_snoc ..).symm
          rw [c1]
          have d11 : (upd H10 wA (.lst (IL (row ++ [c])))) d = some (.dK (kvI (bhL ts))) := by rw [upd_ne (Ne.symm wdA)]; exact d10
          refine ⟨_, rfl, _, rfl, d, .int e, rfl, ?_, ?_⟩
          · have := DGet.k (k := Sum.inl c) d11
            rw [kvI_val hnd he] at this
            exact this
          refine nm ?_
          dsimp only
          have in2 : ∀ z ∈ row ++ [c], 0 ≤ z ∧ z < ((2 * ps.length : Nat) : Int) := fun z hz' => by
            rcases List.mem_append.mp hz' with e | e
            · exact hz9 z e
            · rw [List.mem_singleton.mp e]; exact hc
          have W1 := hW.snoc hcr he
          have few2 := nd_few W1.1 in2
          rw [List.length_append, List.length_singleton] at few2
          refine ⟨2 * ps.length - (row ++ [c]).length, by rw [List.length_append, List.length_singleton]; omega, row ++ [c], e, _, rfl, same_upd wn0 s10, by rw [upd_ne (Ne.symm wla)]; exact l10, d11, hJw hJ10, by rw [upd_ne (Ne.symm wgA)]; exact k10, by rw [← List.append_assoc]; exact hK10, by rw [List.length_append, List.length_singleton]; omega, upd_same, W1, fun z hz' => ?_, in2, (hrg c e he).2, rfl⟩
          rcases List.mem_append.mp hz' with e' | e'
          · exact hnR z e'
          · rw [List.mem_singleton.mp e']; exact hcR
      rintro σ H9 ⟨c, row, kvs, rfl, s9, l9, d9, hJ9, k9, hK9, hl9, w9, hcase⟩
      refine ⟨_, rfl, wA, _, rfl, .inl (SqL.of w9), _, _, rfl, rfl, _, rfl, ?_⟩
      have Rl := rl_few R fun l hl => by obtain ⟨_, o⟩ := hR.orbs l hl; exact o.pos
      have hyl := hJ9.rows.1
      rcases hcase with ⟨rfl, hin⟩ | ⟨hnin, ho⟩
      · refine itd2 (fun h => absurd h (by decide)) (fun _ => ?_)
        rw [List.append_nil] at hK9
        exact ⟨_, _, ys, R, kvs, rfl, s9, l9, d9, hJ9, ⟨R, hR, .inl ⟨hin, rfl⟩⟩, k9, hK9, hl9⟩
      · have rp := ho.pos
        refine itd2 (fun _ => ?_) (fun h => absurd (show (0 : Int) < ((IL row).length : Int) by rw [il_length]; omega) h)
        refine ⟨_, rfl, .inl ⟨rfl, _, SqL.of hJ9.tab⟩, _, rfl, rA, _, _, rfl, rfl, hJ9.tab, small60' (by omega), ?_⟩
        have hJ10 := hJ9.snoc w9 wn0 wrA wfr
        have ef : (R ++ [row]).flatten = R.flatten ++ row := by rw [List.flatten_append]; simp
        exact ⟨_, _, _, R ++ [row], kvs, rfl, same_upd rn0 s9, by rw [upd_ne lrA]; exact l9, by rw [upd_ne (Ne.symm rdA)]; exact d9, hJ10, ⟨R, hR, .inr ⟨hnin, row, ho, rfl⟩⟩, by rw [upd_ne grA]; exact k9, by rw [ef]; exact hK9, by rw [ef, List.length_append]; exact hl9⟩
    rintro σ H7 ⟨v4, v5, ys, R, kvs, rfl, s7, l7, d7, hJ, hR, k7, hKy, hkl⟩
    rw [il_length, msl] at hR
    have hyl := hJ.rows.1
    refine ⟨_, rfl, rA, _, rfl, .inl (SqL.of hJ.tab), rfl, _, rfl, ?_⟩
    rw [dec_int]
    by_cases p0 : ps.length = 0
    · rw [p0] at hR
      have hR0 : R = [] := hR
      have y0 : ys.length = 0 := by rw [hyl, hR0]; rfl
      refine itd2 (fun _ => ?_) (fun h => absurd (by omega) h)
      refine ⟨Nat.zero_le _, fun i1 hi1 => ⟨one, fun r hr => ?_⟩⟩
      have u1 := same_at (o := .lst []) hi1
      have u2 := same_at (o := .lst [.ref i1]) hr
      have hne : i1 ≠ r := ne_of_none (H := upd H7 i1 (.lst [])) upd_same hr
      refine q r [.ref i1] [[]] _ (s7.trans (u1.trans u2)) (s7.free (u1.free hr)) (.inl ⟨p0, rfl⟩) ⟨upd_same, ⟨rfl, fun i l e => ?_⟩, by simp, fun A hA => ?_⟩
      · have li := (List.getElem?_eq_some_iff.mp e).1
        have li : i < 1 := li
        obtain rfl : i = 0 := by omega
        obtain rfl : [] = l := Option.some.inj e
        exact ⟨_, rfl, i1, rfl, u2 _ _ upd_same, hne⟩
      · have : A = i1 := by simpa using hA
        rw [this]; exact s7.free hi1
    · have y0 : ys.length ≠ 0 := fun z => by
        have R0 : R = [] := List.length_eq_zero_iff.mp (by omega)
        have := hR.below 0 (by omega) (by omega)
        rw [R0] at this
        cases this
      refine itd2 (fun h => absurd h (by omega)) (fun _ => ?_)
      exact ⟨_, rfl, q rA ys R H7 s7 rn0 (.inr ⟨by omega, hR⟩) hJ⟩
end
end My
namespace My
open PySem L2 PyProof.Rows
set_option maxHeartbeats 4000000
def optV : Option Int → V
  | none => .non
  | some z => .int z
theorem putR_snoc {one d0 d1 z : Int} {other : Option Int} {row : List Int} {j : Nat} (h : row[j]? = some z) : putR one other d0 d1 (row.take (j + 1)) = putR one other d0 d1 (row.take j) ++ ((if z = one then [d0] else []) ++ (if some z = other then [d1] else []) ++ [z]) := by
  unfold putR
  rw [List.take_succ, h, List.flatMap_append]
  simp
theorem putR_len (one d0 d1 : Int) (other : Option Int) : ∀ row : List Int, (putR one other d0 d1 row).length ≤ 3 * row.length
  | [] => Nat.le_refl _
  | z :: row => by
    have := putR_len one d0 d1 other row
    show ((if z = one then [d0] else []) ++ (if some z = other then [d1] else []) ++ [z] ++ putR one other d0 d1 row).length ≤ _
    rw [List.length_append, List.length_append, List.length_append, List.length_singleton, List.length_cons]
    split <;> split <;> simp <;> omega
/-- the new darts put into the turns -/
def sp_law_put (K : PySem.W.Frag) : Sp := fun vs H Q _ => ∃ (a b : Addr) (xs : List V) (ts : List (List Int)) (one d0 d1 : Int) (other : Option Int), vs = [.ref a, .int one, optV other, .ref b] ∧ SqL K H a xs ∧ Bears (ListV H) xs ts ∧ SqL K H b (IL [d0, d1]) ∧ ts.length ≤ 1000 ∧ (∀ l ∈ ts, l.length ≤ 1000) ∧
  ∀ (r : Addr) (ys : List V) (H' : Hp), Same H H' → H r = none → JagAt H r H' ys (ts.map (putR one other d0 d1)) → Q (.ref r) H'
section
variable {P : Program} {w : World} {K : PySem.W.Frag} {mg : Str → Option Value} {base : Heap} {t : Adr}
theorem sc_law_put : FnScope ["turns", "one", "other", "darts", "told", "row", "made", "dart"] ["turns", "one", "other", "darts"] (defScope s_law_put) := ⟨rfl, rfl, rfl, by decide +kernel, rfl, by decide +kernel, by decide +kernel⟩
theorem ok_law_put (T : Txt K mg t) : FnOk P w K mg base CX0 1 t.a_law_put t.d_law_put ["turns", "one", "other", "darts"] (sp_law_put K) := by
  refine T.f_law_put.ok sc_law_put (fun vs H Q E h => ?_) (fun cdv A outer s H vs Q E hr h => ?_)
  · obtain ⟨a, b, xs, ts, one, d0, d1, other, rfl, _⟩ := h
    rfl
  · obtain ⟨a, b, xs, ts, one, d0, d1, other, rfl, hA, hX, hB, hl1, hl2, q⟩ := h
    refine ⟨_, (pss_cons (ps_set (i := 4) sc_law_put.nd rfl (Or.inl rfl) (pe_lst pa_nil))
      (pss_cons (ps_for PassesOwn.never rfl (pi_listK K (pv 0)) (pg_name (i := 5) sc_law_put.nd rfl (Or.inl rfl))
      (pss_cons (ps_set (i := 6) sc_law_put.nd rfl (Or.inl rfl) (pe_lst pa_nil))
      (pss_cons (ps_for PassesOwn.never rfl (pi_listK K (pv 5)) (pg_name (i := 7) sc_law_put.nd rfl (Or.inl rfl))
      (pss_cons (ps_if (pt_cmpR op_eq (pv 7) (pv 1) (nomark _))
      (pss_one (ps_expr (pe_bmK K PySem.F.plainAttrs_list PySem.F.slot_list_append PySem.F.type_list_append mt_append (pv 6) (pa_cons (pe_ix (ix_listK K) (pv 3) pe_int (fun _ _ => rfl)) pa_nil))))
      pss_nil)
      (pss_cons (ps_if (pt_cmpR op_eq (pv 7) (pv 2) (nomark _))
      (pss_one (ps_expr (pe_bmK K PySem.F.plainAttrs_list PySem.F.slot_list_append PySem.F.type_list_append mt_append (pv 6) (pa_cons (pe_ix (ix_listK K) (pv 3) pe_int (fun _ _ => rfl)) pa_nil))))
      pss_nil)
      (pss_one (ps_expr (pe_bmK K PySem.F.plainAttrs_list PySem.F.slot_list_append PySem.F.type_list_append mt_append (pv 6) (pa_cons (pv 7) pa_nil)))))))
      (pss_one (ps_expr (pe_bmK K PySem.F.plainAttrs_list PySem.F.slot_list_append PySem.F.type_list_append mt_append (pv 4) (pa_cons (pv 6) pa_nil)))))))
      (pss_one (ps_ret (pv 4))))), ?_⟩
    have hxl := hX.1
    refine ⟨Nat.zero_le _, fun rA hrA => ?_⟩
    have u1 := same_at (o := .lst []) hrA
    have k1 : (upd H rA (.lst [])) rA = some (.lst []) := upd_same
    generalize upd H rA (.lst []) = H1 at *
    refine nm ?_
    dsimp only
    refine ⟨_, rfl, a, rfl, ⟨_, u1.seq hA⟩, for_list (K := K) (a := a) (xs := xs) (fun i σ H2 => ∃ (v5 v6 v7 : Option V) (ys : List V), σ = [some (.ref a), some (.int one), some (optV other), some (.ref b), some (.ref rA), v5, v6, v7] ∧ Same H H2 ∧ i ≤ xs.length ∧ JagAt H rA H2 ys ((ts.take i).map (putR one other d0 d1))) ⟨none, none, none, [], rfl, u1, Nat.zero_le _, JagAt.nil k1⟩ (fun i σ H2 _ ⟨_, _, _, _, _, e, _⟩ => e.seq hA) ?_ ?_⟩
    · rintro i v σ H2 hi ⟨v5, v6, v7, ys, rfl, s2, hil, hJ⟩
      obtain ⟨row, hrow, r, rfl, hr⟩ := hX.at hi
      have hil' := (List.getElem?_eq_some_iff.mp hi).1
      have hrl := hl2 row (List.mem_of_getElem? hrow)
      have hyl := hJ.rows.1
      rw [List.length_map, List.length_take] at hyl
      refine nm ?_
      dsimp only
      refine ⟨Nat.zero_le _, fun mA hmA => ?_⟩
      have u3 := same_at (o := .lst []) hmA
      have k3 : (upd H2 mA (.lst [])) mA = some (.lst []) := upd_same
      have mn0 : H mA = none := s2.free hmA
      have mr : mA ≠ rA := Ne.symm (ne_of_none hJ.tab hmA)
      have mfr := hJ.fresh hmA
      have hJ3 := hJ.same u3
      have s3 := s2.trans u3
      generalize upd H2 mA (.lst []) = H3 at *
      refine nm ?_
      dsimp only
      have hJo : ∀ {H' : Hp} {l : List V}, JagAt H rA H' ys ((ts.take i).map (putR one other d0 d1)) → JagAt H rA (upd H' mA (.lst l)) ys ((ts.take i).map (putR one other d0 d1)) := fun {H' l} h => by
        refine ⟨by rw [upd_ne (Ne.symm mr)]; exact h.tab, ⟨h.rows.1, fun j l' e => ?_⟩, h.nd, h.new⟩
        obtain ⟨v, e1, A, rfl, e2, e3⟩ := h.rows.2 j l' e
        refine ⟨_, e1, A, rfl, ?_, e3⟩
        rw [upd_ne]
        · exact e2
        · intro z
          rw [z] at e1
          exact mfr (List.mem_of_getElem? e1)
      refine ⟨_, rfl, r, rfl, ⟨_, SqL.of (s3 _ _ hr)⟩, for_list (K := K) (a := r) (xs := IL row) (fun j σ H4 => ∃ (v7 : Option V), σ = [some (.ref a), some (.int one), some (optV other), some (.ref b), some (.ref rA), some (.ref r), some (.ref mA), v7] ∧ Same H H4 ∧ j ≤ row.length ∧ JagAt H rA H4 ys ((ts.take i).map (putR one other d0 d1)) ∧ H4 mA = some (.lst (IL (putR one other d0 d1 (row.take j))))) ⟨v7, rfl, s3, Nat.zero_le _, hJ3, k3⟩ (fun j σ H4 _ ⟨_, _, e, _⟩ => SqL.of (e _ _ hr)) ?_ ?_⟩
      · rintro j x σ H4 hj ⟨w7, rfl, s4, hjl, hJ4, k4⟩
        obtain ⟨z, rfl, hz⟩ := il_get hj
        have hjl' := (List.getElem?_eq_some_iff.mp hz).1
        have pl := putR_len one d0 d1 other (row.take j)
        rw [List.length_take] at pl
        refine nm ?_
        dsimp only
        refine contS (fun σ H5 => σ = [some (.ref a), some (.int one), some (optV other), some (.ref b), some (.ref rA), some (.ref r), some (.ref mA), some (.int z)] ∧ Same H H5 ∧ JagAt H rA H5 ys ((ts.take i).map (putR one other d0 d1)) ∧ H5 mA = some (.lst (IL (putR one other d0 d1 (row.take j) ++ (if z = one then [d0] else []))))) ?_ ?_
        rotate_left
        · intro Kn hK
          refine ⟨_, rfl, _, rfl, rfl, _, rfl, ?_⟩
          rw [dec_int]
          refine itd2 (fun h => ?_) (fun h => ?_)
          · refine ⟨_, rfl, .inl ⟨rfl, _, SqL.of k4⟩, _, rfl, b, _, 0, .int d0, rfl, rfl, s4.seq hB, rfl, mA, _, _, rfl, rfl, k4, small60' (by rw [il_length]; omega), hK _ _ ⟨rfl, same_upd mn0 s4, hJo hJ4, ?_⟩⟩
            rw [upd_same, if_pos h, il_snoc]
          · refine hK _ _ ⟨rfl, s4, hJ4, ?_⟩
            rw [if_neg h, List.append_nil]
            exact k4
        rintro σ H5 ⟨rfl, s5, hJ5, k5⟩
        refine contS (fun σ H6 => σ = [some (.ref a), some (.int one), some (optV other), some (.ref b), some (.ref rA), some (.ref r), some (.ref mA), some (.int z)] ∧ Same H H6 ∧ JagAt H rA H6 ys ((ts.take i).map (putR one other d0 d1)) ∧ H6 mA = some (.lst (IL (putR one other d0 d1 (row.take j) ++ (if z = one then [d0] else []) ++ (if some z = other then [d1] else []))))) ?_ ?_
        rotate_left
        · intro Kn hK
          have no : some z ≠ other → Kn [some (.ref a), some (.int one), some (optV other), some (.ref b), some (.ref rA), some (.ref r), some (.ref mA), some (.int z)] H5 := fun h => hK _ _ ⟨rfl, s5, hJ5, by rw [if_neg h, List.append_nil]; exact k5⟩
          cases other with
          | none =>
            refine ⟨_, rfl, _, rfl, rfl, _, rfl, ?_⟩
            refine itd2 (fun h => by cases h) (fun _ => no (fun h => by cases h))
          | some y =>
            refine ⟨_, rfl, _, rfl, rfl, _, rfl, ?_⟩
            show if decide (V.int z = V.int y) = true then _ else _
            rw [dec_int]
            refine itd2 (fun h => ?_) (fun h => no (fun e => h (Option.some.inj e)))
            refine ⟨_, rfl, .inl ⟨rfl, _, SqL.of k5⟩, _, rfl, b, _, 1, .int d1, rfl, rfl, s5.seq hB, rfl, mA, _, _, rfl, rfl, k5, small60' (by rw [il_length, List.length_append]; split <;> simp <;> omega), hK _ _ ⟨rfl, same_upd mn0 s5, hJo hJ5, ?_⟩⟩
            rw [upd_same, if_pos (c := some z = some y) (by rw [h]), il_snoc]
        rintro σ H6 ⟨rfl, s6, hJ6, k6⟩
        refine ⟨_, rfl, .inl ⟨rfl, _, SqL.of k6⟩, _, rfl, mA, _, _, rfl, rfl, k6, small60' (by rw [il_length, List.length_append, List.length_append]; split <;> split <;> simp <;> omega), ?_⟩
        refine ⟨_, rfl, same_upd mn0 s6, hjl', hJo hJ6, ?_⟩
        rw [upd_same, putR_snoc hz, ← List.append_assoc, ← List.append_assoc, il_snoc]
      rintro σ H4 ⟨w7, rfl, s4, _, hJ4, k4⟩
      rw [il_length, List.take_length] at k4
      refine ⟨_, rfl, .inl ⟨rfl, _, SqL.of hJ4.tab⟩, _, rfl, rA, _, _, rfl, rfl, hJ4.tab, small60' (by omega), ?_⟩
      have hJ5 := hJ4.snoc k4 mn0 mr mfr
      refine ⟨_, _, _, ys ++ [.ref mA], rfl, same_upd hrA s4, hil', ?_⟩
      rw [List.take_succ, hrow, List.map_append]
      exact hJ5
    rintro σ H2 ⟨v5, v6, v7, ys, rfl, s2, _, hJ⟩
    rw [hxl, List.take_length] at hJ
    exact ⟨_, rfl, q rA ys H2 s2 hrA hJ⟩
end
end My
namespace My
open PySem L2 PyProof.Rows
set_option maxHeartbeats 4000000
/-- some dart of the turns -/
def sp_law_corner (K : PySem.W.Frag) : Sp := fun vs H Q _ => ∃ (a : Addr) (m : Int) (xs : List V) (ts : List (List Int)), vs = [.ref a, .int m] ∧ SqL K H a xs ∧ Bears (ListV H) xs ts ∧ ts.length ≤ 1000 ∧ (∃ l ∈ ts, l ≠ []) ∧
  ∀ (x : Int) (p : Nat) (row : List Int) (H' : Hp), Same H H' → ts[p]? = some row → x ∈ row → Q (.int x) H'
section
variable {P : Program} {w : World} {K : PySem.W.Frag} {mg : Str → Option Value} {base : Heap} {t : Adr}
theorem sc_law_corner : FnScope ["turns", "m", "rows", "row"] ["turns", "m"] (defScope s_law_corner) := ⟨rfl, rfl, rfl, by decide +kernel, rfl, by decide +kernel, by decide +kernel⟩
theorem ok_law_corner (T : Txt K mg t) : FnOk P w K mg base CX0 1 t.a_law_corner t.d_law_corner ["turns", "m"] (sp_law_corner K) := by
  refine T.f_law_corner.ok sc_law_corner (fun vs H Q E h => ?_) (fun cdv A outer s H vs Q E hr h => ?_)
  · obtain ⟨a, m, xs, ts, rfl, _⟩ := h
    rfl
  · obtain ⟨a, m, xs, ts, rfl, hA, hX, hl1, hne, q⟩ := h
    refine ⟨_, (pss_cons (ps_lc (i := 2) rfl sc_law_corner.nd rfl rfl (sc0 := defScope s_law_corner) (N0 := ["turns", "m", "rows", "row"]) (N' := ["row"]) (o := 1) (fr := []) ⟨rfl, by decide +kernel, by decide +kernel, by decide +kernel, rfl, by decide +kernel⟩ (pi_listK K (pv 0)) (own_name (by decide)) (fun _ _ _ _ => (pg_name (i := 0) (show List.Nodup (["row"] : List Str) by decide +kernel) rfl (Or.inl rfl))) (fun _ _ _ _ => (pts_one (pt_cmpR op_gt (pe_callB (call_lenK K) (by rfl) T.n_len Boot.«len» (pa_cons (pv 0) pa_nil)) pe_int (nomark _)))) (fun _ _ _ _ => (pv 0)))
      (pss_cons (ps_set (i := 3) sc_law_corner.nd rfl (Or.inl rfl) (pe_ix (ix_listK K) (pv 2) (pe_op op_mod (pv 1) (pe_callB (call_lenK K) (by rfl) T.n_len Boot.«len» (pa_cons (pv 2) pa_nil))) (fun _ _ => rfl)))
      (pss_one (ps_ret (pe_ix (ix_listK K) (pv 3) (pe_op op_mod (pe_op op_fdiv (pv 1) pe_int) (pe_callB (call_lenK K) (by rfl) T.n_len Boot.«len» (pa_cons (pv 3) pa_nil))) (fun _ _ => rfl)))))), ?_⟩
    have hxl := hX.1
    refine ⟨_, rfl, a, rfl, ⟨_, hA⟩, lc_list (K := K) (a := a) (xs := xs) (fun i zs H2 => H2 = H ∧ zs.length ≤ i ∧ (∀ v ∈ zs, ∃ (p : Nat) (l : List Int) (r : Addr), ts[p]? = some l ∧ l ≠ [] ∧ v = .ref r ∧ H r = some (.lst (IL l))) ∧ ∀ (j : Nat) (l : List Int), j < i → ts[j]? = some l → l ≠ [] → zs ≠ []) ⟨rfl, Nat.le_refl _, fun v h => (by cases h), fun j l h => by omega⟩ (small60' (by omega)) (fun i zs H2 _ ⟨e, el, _⟩ => ⟨e ▸ hA, el⟩) ?_ ?_⟩
    · rintro i v zs H2 hi ⟨rfl, hzl, hz, hzne⟩ S hSS
      obtain ⟨l, hl, r, rfl, hr⟩ := hX.at hi
      refine nm ?_
      refine ⟨_, rfl, r, _, rfl, .inl (SqL.of hr), _, _, rfl, rfl, _, rfl, ?_⟩
      refine itd2 (fun h => ?_) (fun h => ?_)
      · have l0 : l ≠ [] := fun e => by rw [e] at h; exact absurd h (by decide)
        refine ⟨_, rfl, hSS _ _ ⟨rfl, by rw [List.length_append]; show zs.length + 1 ≤ _; omega, fun v hv => ?_, fun j l' _ _ _ => by simp⟩⟩
        rcases List.mem_append.mp hv with e | e
        · exact hz v e
        · rw [List.mem_singleton.mp e]
          exact ⟨i, l, r, hl, l0, rfl, hr⟩
      · have l0 : l = [] := by
          cases l with
          | nil => rfl
          | cons x l => exact absurd (show (0 : Int) < ((IL (x :: l)).length : Int) by rw [il_length, List.length_cons]; omega) h
        refine hSS _ _ ⟨rfl, by omega, hz, fun j l' hj e1 e2 => ?_⟩
        by_cases c : j = i
        · rw [c, hl] at e1
          obtain rfl := Option.some.inj e1
          exact absurd l0 e2
        · exact hzne j l' (by omega) e1 e2
    rintro zs H2 ⟨rfl, hzl, hz, hzne⟩ rA hrA
    have z0 : zs ≠ [] := by
      obtain ⟨l, hl, hl0⟩ := hne
      obtain ⟨j, hj⟩ := List.getElem?_of_mem hl
      exact hzne j l (by have := (List.getElem?_eq_some_iff.mp hj).1; omega) hj hl0
    have zp : 0 < zs.length := List.length_pos_iff.mpr z0
    have u1 := same_at (o := .lst zs) hrA
    have k1 : (upd H2 rA (.lst zs)) rA = some (.lst zs) := upd_same
    generalize upd H2 rA (.lst zs) = H1 at *
    refine nm ?_
    dsimp only
    have pos : (0 : Int) < (zs.length : Int) := by omega
    have m0 : 0 ≤ m % (zs.length : Int) := Int.emod_nonneg _ (by omega)
    have m1 : m % (zs.length : Int) < (zs.length : Int) := Int.emod_lt_of_pos _ pos
    obtain ⟨v, hv⟩ : ∃ v, zs[(m % (zs.length : Int)).toNat]? = some v := ⟨_, List.getElem?_eq_getElem (by omega)⟩
    obtain ⟨p, l, r, hp, hl0, rfl, hr⟩ := hz v (List.mem_of_getElem? hv)
    refine ⟨_, rfl, _, rfl, _, rfl, rA, _, rfl, .inl (SqL.of k1), _, _, rfl, rfl, pos, rA, _, _, .ref r, rfl, rfl, SqL.of k1, atI_of (n := (m % (zs.length : Int)).toNat) (by omega) hv, ?_⟩
    refine nm ?_
    dsimp only
    have hr1 := u1 _ _ hr
    have lp : 0 < l.length := List.length_pos_iff.mpr hl0
    have pos2 : (0 : Int) < ((IL l).length : Int) := by rw [il_length]; omega
    have n0 : 0 ≤ m / 13 % ((IL l).length : Int) := Int.emod_nonneg _ (by omega)
    have n1 : m / 13 % ((IL l).length : Int) < ((IL l).length : Int) := Int.emod_lt_of_pos _ pos2
    have ill : (IL l).length = l.length := il_length l
    obtain ⟨x, hx⟩ : ∃ x, l[(m / 13 % ((IL l).length : Int)).toNat]? = some x := ⟨_, List.getElem?_eq_getElem (by omega)⟩
    refine ⟨_, rfl, _, rfl, _, _, rfl, rfl, ⟨by decide, by decide⟩, _, rfl, r, _, rfl, .inl (SqL.of hr1), _, _, rfl, rfl, pos2, r, _, _, .int x, rfl, rfl, SqL.of hr1, atI_of (n := (m / 13 % ((IL l).length : Int)).toNat) (by omega) (il_at hx), ?_⟩
    exact q x p l H1 u1 hp (List.mem_of_getElem? hx)
end
end My
namespace My
open PySem L2 PyProof.Rows
set_option maxHeartbeats 4000000
/-- a web on a sphere, grown -/
def MapOk (n : Nat) (ps : List (Int × Int)) (ts : List (List Int)) : Prop := VT n ps ts ∧ 1 ≤ n ∧ n ≤ 13 ∧ (∀ p ∈ ps, 0 ≤ p.1 ∧ p.1 < (n : Int) ∧ 0 ≤ p.2 ∧ p.2 < (n : Int)) ∧ (ps = [] → n = 1) ∧ FlatM n ps ts
def sp_law_grown (K : PySem.W.Frag) : Sp := fun vs H Q _ => ∃ (l a : Addr) (n : Nat) (m : Int) (xs ys : List V) (ps : List (Int × Int)) (ts : List (List Int)), vs = [.int n, .ref l, .ref a, .int m] ∧ H l = some (.lst xs) ∧ PairsV H xs ps ∧ H a = some (.lst ys) ∧ Bears (ListV H) ys ts ∧ MapOk n ps ts ∧ ps.length ≤ 24 ∧ 0 ≤ m ∧ m < 20000 ∧
  ∀ (t l' a' : Addr) (n' : Nat) (xs' ys' : List V) (ps' : List (Int × Int)) (ts' : List (List Int)) (H' : Hp), Same H H' → H' t = some (.tup [.int n', .ref l', .ref a']) → H' l' = some (.lst xs') → PairsV H' xs' ps' → H' a' = some (.lst ys') → Bears (ListV H') ys' ts' → MapOk n' ps' ts' → ps'.length ≤ ps.length + 1 → Q (.ref t) H'
section
variable {P : Program} {w : World} {K : PySem.W.Frag} {mg : Str → Option Value} {base : Heap} {t : Adr}
theorem sc_law_grown : FnScope ["count", "ties", "turns", "m", "number", "darts", "fresh", "place", "k", "row", "dart", "one", "ends", "other", "behind_it", "step"] ["count", "ties", "turns", "m"] (defScope s_law_grown) := ⟨rfl, rfl, rfl, by decide +kernel, rfl, by decide +kernel, by decide +kernel⟩
theorem ok_law_grown (T : Txt K mg t) : FnOk P w K mg base CX0 2 t.a_law_grown t.d_law_grown ["count", "ties", "turns", "m"] (sp_law_grown K) := by
  refine T.f_law_grown.ok sc_law_grown (fun vs H Q E h => ?_) (fun cdv A outer s H vs Q E hr h => ?_)
  · obtain ⟨l, a, n, m, xs, ys, ps, ts, rfl, _⟩ := h
    rfl
  · obtain ⟨l, a, n, m, xs, ys, ps, ts, rfl, hl, hP, ha, hY, hM, hp24, m0, m1, q⟩ := h
    refine ⟨_, (@pss_cons _ _ _ _ _ (ps_set (i := 4) sc_law_grown.nd rfl (Or.inl rfl) (@pe_op _ _ _ _ _ _ _ _ op_mul pe_int (pe_callB (call_lenK K) (by rfl) T.n_len Boot.«len» (pa_cons (pv 1) pa_nil))))
      (@pss_cons _ _ _ _ _ (ps_set (i := 5) sc_law_grown.nd rfl (Or.inl rfl) (@pe_ix _ _ _ _ _ _ _ (ix_listK K) (@pe_lst2 _ _ _ _ _ _ (@pe_lst2 _ _ _ _ _ _ (pv 4) (@pe_op _ _ _ _ _ _ _ _ op_add (pv 4) pe_int) rfl rfl) (@pe_lst2 _ _ _ _ _ _ (@pe_op _ _ _ _ _ _ _ _ op_add (pv 4) pe_int) (pv 4) rfl rfl) rfl rfl) (@pe_op _ _ _ _ _ _ _ _ op_mod (pv 3) pe_int) (fun _ _ => rfl)))
      (@pss_cons _ _ _ _ _ (ps_set (i := 6) sc_law_grown.nd rfl (Or.inl rfl) (pe_and (pe_cmpR op_eq (@pe_op _ _ _ _ _ _ _ _ op_mod (@pe_op _ _ _ _ _ _ _ _ op_fdiv (pv 3) pe_int) pe_int) pe_int (nomark _)) (pe_one (pe_cmpR op_lt (pv 0) pe_int (nomark _)))))
      (@pss_cons _ _ _ _ _ (@ps_if _ _ _ _ _ _ _ _ (PW.pt (pw_and (pt_not (pt_val (pv 6))) (pw_and1 (pt_cmpR op_gt (@pe_op _ _ _ _ _ _ _ _ op_sub (pe_callB (call_lenK K) (by rfl) T.n_len Boot.«len» (pa_cons (pv 1) pa_nil)) (pv 0)) pe_int (nomark _)))))
      (@pss_one _ _ _ (@ps_ret _ _ _ _ (@pe_tup3 _ _ _ _ _ _ _ _ _ (pv 0) (pv 1) (pv 2) rfl rfl rfl)))
      pss_nil)
      (@pss_cons _ _ _ _ _ (@ps_if _ _ _ _ _ _ _ _ (pt_cmpR op_eq (pe_callB (call_lenK K) (by rfl) T.n_len Boot.«len» (pa_cons (pv 1) pa_nil)) pe_int (nomark _))
      (@pss_cons _ _ _ _ _ (@ps_if _ _ _ _ _ _ _ _ (pt_val (pv 6))
      (@pss_one _ _ _ (@ps_ret _ _ _ _ (@pe_tup3 _ _ _ _ _ _ _ _ _ pe_int (@pe_lst1 _ _ _ _ (@pe_ix _ _ _ _ _ _ _ (ix_listK K) (@pe_lst2 _ _ _ _ _ _ (@pe_tup2 _ _ _ _ _ _ _ pe_int pe_int rfl rfl) (@pe_tup2 _ _ _ _ _ _ _ pe_int pe_int rfl rfl) rfl rfl) (@pe_op _ _ _ _ _ _ _ _ op_mod (pv 3) pe_int) (fun _ _ => rfl)) rfl) (@pe_lst2 _ _ _ _ _ _ (@pe_lst1 _ _ _ _ (@pe_ix _ _ _ _ _ _ _ (ix_listK K) (pv 5) pe_int (fun _ _ => rfl)) rfl) (@pe_lst1 _ _ _ _ (@pe_ix _ _ _ _ _ _ _ (ix_listK K) (pv 5) pe_int (fun _ _ => rfl)) rfl) rfl rfl) rfl rfl rfl)))
      pss_nil)
      (@pss_one _ _ _ (@ps_ret _ _ _ _ (@pe_tup3 _ _ _ _ _ _ _ _ _ pe_int (@pe_lst1 _ _ _ _ (@pe_tup2 _ _ _ _ _ _ _ pe_int pe_int rfl rfl) rfl) (@pe_lst1 _ _ _ _ (pv 5) rfl) rfl rfl rfl))))
      pss_nil)
      (@pss_cons _ _ _ _ _ (ps_set (i := 7) sc_law_grown.nd rfl (Or.inl rfl) pe_dnewK)
      (@pss_cons _ _ _ _ _ (ps_for PassesOwn.never rfl (pi_enumK K rfl T.n_enumerate (pa_cons (pv 2) pa_nil)) (pg_tupK (n := 2) K rfl (pgs_cons (pg_name (i := 8) sc_law_grown.nd rfl (Or.inl rfl)) (pgs_cons (pg_name (i := 9) sc_law_grown.nd rfl (Or.inl rfl)) pgs_nil)))
      (@pss_one _ _ _ (ps_for PassesOwn.never rfl (pi_listK K (pv 9)) (pg_name (i := 10) sc_law_grown.nd rfl (Or.inl rfl))
      (@pss_one _ _ _ (ps_dput (hu_of hr) (pv 7) (pv 10) (pv 8) rfl)))))
      (@pss_cons _ _ _ _ _ (ps_set (i := 11) sc_law_grown.nd rfl (Or.inl rfl) (pe_call (ok_law_corner T) (hr.mono (by decide)) rfl T.m_law_corner T.f_law_corner.kp T.b_law_corner .nil pass0 (pa_cons (pv 2) (pa_cons (@pe_op _ _ _ _ _ _ _ _ op_fdiv (pv 3) pe_int) pa_nil))))
      (@pss_cons _ _ _ _ _ (@ps_if _ _ _ _ _ _ _ _ (pt_val (pv 6))
      (@pss_cons _ _ _ _ _ (ps_set (i := 12) sc_law_grown.nd rfl (Or.inl rfl) (@pe_ix _ _ _ _ _ _ _ (ix_listK K) (@pe_lst2 _ _ _ _ _ _ (@pe_tup2 _ _ _ _ _ _ _ (pe_dget (hu_of hr) (pv 7) (pv 11) (fun _ _ => rfl)) (pv 0) rfl rfl) (@pe_tup2 _ _ _ _ _ _ _ (pv 0) (pe_dget (hu_of hr) (pv 7) (pv 11) (fun _ _ => rfl)) rfl rfl) rfl rfl) (@pe_op _ _ _ _ _ _ _ _ op_mod (pv 3) pe_int) (fun _ _ => rfl)))
      (@pss_one _ _ _ (@ps_ret _ _ _ _ (@pe_tup3 _ _ _ _ _ _ _ _ _ (@pe_op _ _ _ _ _ _ _ _ op_add (pv 0) pe_int) (@pe_op _ _ _ _ _ _ _ _ op_cat (pv 1) (@pe_lst1 _ _ _ _ (pv 12) rfl)) (@pe_op _ _ _ _ _ _ _ _ op_cat (pe_call (ok_law_put T) (hr.mono (by decide)) rfl T.m_law_put T.f_law_put.kp T.b_law_put .nil pass0 (pa_cons (pv 2) (pa_cons (pv 11) (pa_cons pe_non (pa_cons (pv 5) pa_nil))))) (@pe_lst1 _ _ _ _ (@pe_lst1 _ _ _ _ (@pe_ix _ _ _ _ _ _ _ (ix_listK K) (pv 5) pe_int (fun _ _ => rfl)) rfl) rfl)) rfl rfl rfl))))
      pss_nil)
      (@pss_cons _ _ _ _ _ (ps_set (i := 13) sc_law_grown.nd rfl (Or.inl rfl) (pv 11))
      (@pss_cons _ _ _ _ _ (ps_set (i := 14) sc_law_grown.nd rfl (Or.inl rfl) (pe_call (ok_law_behind T) (hr.mono (by decide)) rfl T.m_law_behind T.f_law_behind.kp T.b_law_behind .nil pass0 (pa_cons (pv 2) pa_nil)))
      (@pss_cons _ _ _ _ _ (ps_for PassesOwn.never rfl (pi_range1 rfl T.n_range (pa_cons (@pe_op _ _ _ _ _ _ _ _ op_mod (@pe_op _ _ _ _ _ _ _ _ op_fdiv (pv 3) pe_int) pe_int) pa_nil)) (pg_name (i := 15) sc_law_grown.nd rfl (Or.inl rfl))
      (@pss_one _ _ _ (ps_set (i := 13) sc_law_grown.nd rfl (Or.inl rfl) (pe_dget (hu_of hr) (pv 14) (pv 13) (fun _ _ => rfl)))))
      (@pss_cons _ _ _ _ _ (ps_set (i := 12) sc_law_grown.nd rfl (Or.inl rfl) (@pe_ix _ _ _ _ _ _ _ (ix_listK K) (@pe_lst2 _ _ _ _ _ _ (@pe_tup2 _ _ _ _ _ _ _ (pe_dget (hu_of hr) (pv 7) (pv 11) (fun _ _ => rfl)) (pe_dget (hu_of hr) (pv 7) (pv 13) (fun _ _ => rfl)) rfl rfl) (@pe_tup2 _ _ _ _ _ _ _ (pe_dget (hu_of hr) (pv 7) (pv 13) (fun _ _ => rfl)) (pe_dget (hu_of hr) (pv 7) (pv 11) (fun _ _ => rfl)) rfl rfl) rfl rfl) (@pe_op _ _ _ _ _ _ _ _ op_mod (pv 3) pe_int) (fun _ _ => rfl)))
      (@pss_one _ _ _ (@ps_ret _ _ _ _ (@pe_tup3 _ _ _ _ _ _ _ _ _ (pv 0) (@pe_op _ _ _ _ _ _ _ _ op_cat (pv 1) (@pe_lst1 _ _ _ _ (pv 12) rfl)) (pe_call (ok_law_put T) (hr.mono (by decide)) rfl T.m_law_put T.f_law_put.kp T.b_law_put .nil pass0 (pa_cons (pv 2) (pa_cons (pv 11) (pa_cons (pv 13) (pa_cons (pv 5) pa_nil))))) rfl rfl rfl)))))))))))))))), ?_⟩
    obtain ⟨hV, n1, n13, hg, hn0, hfm⟩ := id hM
    have one : 1 ≤ sizeLine := by decide
    have two : 2 ≤ sizeLine := by decide
    have hxl := hP.1
    have hyl := hY.1
    have htl := hV.1
    -- number
    refine ⟨_, rfl, l, xs, rfl, .inl (SqL.of hl), _, _, rfl, rfl, .inl ⟨by decide, by decide⟩, ?_⟩
    refine nm ?_
    dsimp only
    rw [hxl]
    -- darts
    have e20 : 0 ≤ m % 2 := Int.emod_nonneg _ (by decide)
    have e21 : m % 2 < 2 := Int.emod_lt_of_pos _ (by decide)
    obtain ⟨dd0, dd1, hdd⟩ : ∃ d0 d1 : Int, (m % 2 = 0 ∧ d0 = 2 * (ps.length : Int) ∧ d1 = 2 * (ps.length : Int) + 1) ∨ (m % 2 = 1 ∧ d0 = 2 * (ps.length : Int) + 1 ∧ d1 = 2 * (ps.length : Int)) := by
      rcases (by omega : m % 2 = 0 ∨ m % 2 = 1) with e | e
      · exact ⟨_, _, .inl ⟨e, rfl, rfl⟩⟩
      · exact ⟨_, _, .inr ⟨e, rfl, rfl⟩⟩
    have new : ∀ a b : Int, NewD ps.length dd0 dd1 a b (if m % 2 = 0 then (a, b) else (b, a)) := fun a b => by
      rcases hdd with ⟨e, h0, h1⟩ | ⟨e, h0, h1⟩
      · rw [if_pos e]; exact .inl ⟨h0, h1, rfl⟩
      · rw [if_neg (by omega)]; exact .inr ⟨h0, h1, rfl⟩
    -- one of two, by m % 2
    have pick : ∀ {α : Type} (x y : α), ([x, y] : List α)[(m % 2).toNat]? = some (if m % 2 = 0 then x else y) := fun {α} x y => by
      rcases (by omega : m % 2 = 0 ∨ m % 2 = 1) with e | e
      · rw [e, if_pos rfl]; rfl
      · rw [e, if_neg (by decide)]; rfl
    have pickI : ∀ x y : V, atI [x, y] (m % 2) = some (if m % 2 = 0 then x else y) := fun x y => atI_of (n := (m % 2).toNat) (by omega) (pick x y)
    refine contS (fun σ H1 => ∃ dA : Addr, σ = [some (.int n), some (.ref l), some (.ref a), some (.int m), some (.int (2 * (ps.length : Int))), some (.ref dA), none, none, none, none, none, none, none, none, none, none] ∧ Same H H1 ∧ H1 dA = some (.lst (IL [dd0, dd1]))) ?_ ?_
    rotate_left
    · intro Kn hK
      refine ⟨_, rfl, _, rfl, _, _, rfl, rfl, two, fun q1 hq1 => ⟨_, rfl, _, _, rfl, rfl, _, rfl, two, fun q2 hq2 => ⟨two, fun q3 hq3 => ?_⟩⟩⟩
      have u1 := same_at (o := .lst (IL [2 * (ps.length : Int), 2 * (ps.length : Int) + 1])) hq1
      have u2 := same_at (o := .lst (IL [2 * (ps.length : Int) + 1, 2 * (ps.length : Int)])) hq2
      have u3 := same_at (o := .lst [.ref q1, .ref q2]) hq3
      have k1 := u3 _ _ (u2 _ _ (upd_same (H := H) (a := q1) (o := .lst (IL [2 * (ps.length : Int), 2 * (ps.length : Int) + 1]))))
      have k2 := u3 _ _ (upd_same (H := upd H q1 (.lst (IL [2 * (ps.length : Int), 2 * (ps.length : Int) + 1]))) (a := q2) (o := .lst (IL [2 * (ps.length : Int) + 1, 2 * (ps.length : Int)])))
      refine ⟨_, rfl, _, _, rfl, rfl, (by show (0 : Int) < 2; decide), q3, _, _, _, rfl, rfl, SqL.of upd_same, pickI _ _, ?_⟩
      rcases hdd with ⟨e, rfl, rfl⟩ | ⟨e, rfl, rfl⟩
      · rw [if_pos e]
        exact hK _ _ ⟨q1, rfl, u1.trans (u2.trans u3), k1⟩
      · rw [if_neg (by omega)]
        exact hK _ _ ⟨q2, rfl, u1.trans (u2.trans u3), k2⟩
    rintro σ H1 ⟨dA, rfl, s1, hd1⟩
    -- fresh
    refine contS (fun σ H2 => H2 = H1 ∧ ∃ fr : Bool, (fr = true → n < 13) ∧ σ = [some (.int n), some (.ref l), some (.ref a), some (.int m), some (.int (2 * (ps.length : Int))), some (.ref dA), some (.bl fr), none, none, none, none, none, none, none, none, none]) ?_ ?_
    rotate_left
    · intro Kn hK
      refine ⟨_, rfl, _, _, rfl, rfl, ⟨by decide, by decide⟩, _, _, rfl, rfl, (by show (0 : Int) < 2; decide), rfl, _, rfl, ?_⟩
      rw [dec_int]
      refine itd2 (fun _ => ?_) (fun _ => hK _ _ ⟨rfl, false, fun h => (by cases h), rfl⟩)
      refine ⟨_, rfl, _, _, rfl, rfl, hK _ _ ⟨rfl, _, fun h => ?_, rfl⟩⟩
      have := of_decide_eq_true h
      omega
    rintro σ H2 ⟨rfl, fr, hfr, rfl⟩
    have hl1 := s1 _ _ hl
    have ha1 := s1 _ _ ha
    have hP1 := hP.same s1
    have hY1 : Bears (ListV H2) ys ts := hY.imp fun _ _ ⟨r, e, h⟩ => ⟨r, e, s1 _ _ h⟩
    -- too many
    refine contS (fun σ H3 => H3 = H2 ∧ σ = [some (.int n), some (.ref l), some (.ref a), some (.int m), some (.int (2 * (ps.length : Int))), some (.ref dA), some (.bl fr), none, none, none, none, none, none, none, none, none]) ?_ ?_
    rotate_left
    · intro Kn hK
      have same0 : Kn [some (.int n), some (.ref l), some (.ref a), some (.int m), some (.int (2 * (ps.length : Int))), some (.ref dA), some (.bl fr), none, none, none, none, none, none, none, none, none] H2 := hK _ _ ⟨rfl, rfl⟩
      refine ⟨_, rfl, _, rfl, ?_⟩
      cases fr with
      | true =>
        refine iteF ?_
        exact same0
      | false =>
        refine iteT ?_
        refine ⟨_, rfl, l, xs, rfl, .inl (SqL.of hl1), _, rfl, _, _, rfl, rfl, _, _, rfl, rfl, _, rfl, ?_⟩
        refine itd2 (fun _ => ?_) (fun _ => same0)
        refine ⟨_, rfl, _, rfl, _, rfl, (by show 3 ≤ sizeLine; decide), fun t ht => ?_⟩
        have u := same_at (o := .tup [.int n, .ref l, .ref a]) ht
        exact q t l a n xs ys ps ts _ (s1.trans u) upd_same (u _ _ hl1) (hP1.same u) (u _ _ ha1) (hY1.imp fun _ _ ⟨r, e, h⟩ => ⟨r, e, u _ _ h⟩) hM (by omega)
    rintro σ H3 ⟨rfl, rfl⟩
    -- the first tie
    refine contS (fun σ H4 => H4 = H3 ∧ ps.length ≠ 0 ∧ σ = [some (.int n), some (.ref l), some (.ref a), some (.int m), some (.int (2 * (ps.length : Int))), some (.ref dA), some (.bl fr), none, none, none, none, none, none, none, none, none]) ?_ ?_
    rotate_left
    · intro Kn hK
      refine ⟨_, rfl, l, xs, rfl, .inl (SqL.of hl1), rfl, _, rfl, ?_⟩
      rw [dec_int]
      refine itd2 (fun h0 => ?_) (fun h0 => hK _ _ ⟨rfl, by omega, rfl⟩)
      have p0 : ps = [] := List.length_eq_zero_iff.mp (by omega)
      subst p0
      have n1' := hn0 rfl
      subst n1'
      refine ⟨_, rfl, _, rfl, ?_⟩
      cases fr with
      | true =>
        refine iteT ?_
        refine ⟨two, fun t1 h1 => ⟨two, fun t2 h2 => ⟨two, fun q3 h3 => ⟨_, rfl, _, _, rfl, rfl, (by show (0 : Int) < 2; decide), q3, _, _, _, rfl, rfl, SqL.of upd_same, pickI _ _, one, fun lA hlA => ?_⟩⟩⟩⟩
        have u1 := same_at (o := .tup [.int 0, .int 1]) h1
        have u2 := same_at (o := .tup [.int 1, .int 0]) h2
        have u3 := same_at (o := .lst [.ref t1, .ref t2]) h3
        have u4 := same_at (o := .lst [if m % 2 = 0 then V.ref t1 else V.ref t2]) hlA
        have k1 := u4 _ _ (u3 _ _ (u2 _ _ (upd_same (H := H3) (a := t1) (o := .tup [.int 0, .int 1]))))
        have k2 := u4 _ _ (u3 _ _ (upd_same (H := upd H3 t1 (.tup [.int 0, .int 1])) (a := t2) (o := .tup [.int 1, .int 0])))
        have s4 := u1.trans (u2.trans (u3.trans u4))
        have l4 : (upd (upd (upd (upd H3 t1 (.tup [.int 0, .int 1])) t2 (.tup [.int 1, .int 0])) q3 (.lst [.ref t1, .ref t2])) lA (.lst [if m % 2 = 0 then V.ref t1 else V.ref t2])) lA = some (.lst [if m % 2 = 0 then V.ref t1 else V.ref t2]) := upd_same
        generalize upd (upd (upd (upd H3 t1 (.tup [.int 0, .int 1])) t2 (.tup [.int 1, .int 0])) q3 (.lst [.ref t1, .ref t2])) lA (.lst [if m % 2 = 0 then V.ref t1 else V.ref t2]) = H5 at *
        have hE : PairV H5 (if m % 2 = 0 then V.ref t1 else V.ref t2) (if m % 2 = 0 then ((0 : Int), (1 : Int)) else (1, 0)) := by
          by_cases e : m % 2 = 0
          · rw [if_pos e, if_pos e]; exact ⟨t1, rfl, k1⟩
          · rw [if_neg e, if_neg e]; exact ⟨t2, rfl, k2⟩
        have d5 := s4 _ _ hd1
        refine ⟨_, rfl, dA, _, 0, .int dd0, rfl, rfl, SqL.of d5, rfl, one, fun r1 hr1 => ?_⟩
        have u5 := same_at (o := .lst [.int dd0]) hr1
        refine ⟨_, rfl, dA, _, 1, .int dd1, rfl, rfl, SqL.of (u5 _ _ d5), rfl, one, fun r2 hr2 => ⟨two, fun aA haA => ⟨(by show 3 ≤ sizeLine; decide), fun t ht => ?_⟩⟩⟩
        have u6 := same_at (o := .lst [.int dd1]) hr2
        have u7 := same_at (o := .lst [.ref r1, .ref r2]) haA
        have u8 := same_at (o := .tup [.int 2, .ref lA, .ref aA]) ht
        have e1 := u8 _ _ (u7 _ _ (u6 _ _ (upd_same (H := H5) (a := r1) (o := .lst [.int dd0]))))
        have e2 := u8 _ _ (u7 _ _ (upd_same (H := upd H5 r1 (.lst [.int dd0])) (a := r2) (o := .lst [.int dd1])))
        have s58 := u5.trans (u6.trans (u7.trans u8))
        have hN := new 0 1
        have vt : VT 2 [if m % 2 = 0 then ((0 : Int), (1 : Int)) else (1, 0)] [[dd0], [dd1]] := by
          have d0 : ∀ p : Int, ([] : List Int).Perm (dts [] p) := fun p => .refl _
          refine ⟨rfl, fun p row hp => ?_⟩
          match p, hp with
          | 0, hp =>
            obtain rfl : [dd0] = row := Option.some.inj hp
            have := new_row (ps := []) hN (p := 0) (d0 0)
            rw [if_pos rfl, if_neg (by decide)] at this
            exact this
          | 1, hp =>
            obtain rfl : [dd1] = row := Option.some.inj hp
            have := new_row (ps := []) hN (p := 1) (d0 1)
            rw [if_neg (by decide), if_pos rfl] at this
            exact this
          | p + 2, hp => simp at hp
        refine q t lA aA 2 _ _ [if m % 2 = 0 then ((0 : Int), (1 : Int)) else (1, 0)] [[dd0], [dd1]] _ (s1.trans (s4.trans s58)) upd_same (s58 _ _ l4) ⟨rfl, fun i p e => ?_⟩ (u8 _ _ upd_same) ⟨rfl, fun i r e => ?_⟩ ⟨vt, by decide, by decide, fun p hp => ?_, fun h => (by cases h), fm_first2 hN⟩ (by show 1 ≤ 0 + 1; omega)
        · match i, e with
          | 0, e =>
            obtain rfl := Option.some.inj e
            obtain ⟨tt, x1, x2⟩ := hE
            exact ⟨_, rfl, tt, x1, s58 _ _ x2⟩
          | i + 1, e => simp at e
        · match i, e with
          | 0, e =>
            obtain rfl : [dd0] = r := Option.some.inj e
            exact ⟨_, rfl, r1, rfl, e1⟩
          | 1, e =>
            obtain rfl : [dd1] = r := Option.some.inj e
            exact ⟨_, rfl, r2, rfl, e2⟩
          | i + 2, e => simp at e
        · rw [List.mem_singleton.mp hp]
          split <;> decide
      | false =>
        refine iteF ?_
        refine ⟨two, fun t1 h1 => ⟨one, fun lA hlA => ⟨_, rfl, one, fun aA haA => ⟨(by show 3 ≤ sizeLine; decide), fun t ht => ?_⟩⟩⟩⟩
        have u1 := same_at (o := .tup [.int 0, .int 0]) h1
        have u2 := same_at (o := .lst [.ref t1]) hlA
        have u3 := same_at (o := .lst [.ref dA]) haA
        have u4 := same_at (o := .tup [.int 1, .ref lA, .ref aA]) ht
        have k1 := u4 _ _ (u3 _ _ (u2 _ _ (upd_same (H := H3) (a := t1) (o := .tup [.int 0, .int 0]))))
        have k2 := u4 _ _ (u3 _ _ (upd_same (H := upd H3 t1 (.tup [.int 0, .int 0])) (a := lA) (o := .lst [.ref t1])))
        have s4 := u1.trans (u2.trans (u3.trans u4))
        have hN := new 0 0
        rw [ite_self] at hN
        have vt : VT 1 [((0 : Int), (0 : Int))] [[dd0, dd1]] := by
          have d0 : ∀ p : Int, ([] : List Int).Perm (dts [] p) := fun p => .refl _
          refine ⟨rfl, fun p row hp => ?_⟩
          match p, hp with
          | 0, hp =>
            obtain rfl : [dd0, dd1] = row := Option.some.inj hp
            have := new_row (ps := []) hN (p := 0) (d0 0)
            rw [if_pos rfl, if_pos rfl] at this
            exact this
          | p + 1, hp => simp at hp
        refine q t lA aA 1 _ _ [((0 : Int), (0 : Int))] [[dd0, dd1]] _ (s1.trans s4) upd_same k2 ⟨rfl, fun i p e => ?_⟩ (u4 _ _ upd_same) ⟨rfl, fun i r e => ?_⟩ ⟨vt, by decide, by decide, fun p hp => ?_, fun h => (by cases h), fm_first1 hN⟩ (by show 1 ≤ 0 + 1; omega)
        · match i, e with
          | 0, e =>
            obtain rfl := Option.some.inj e
            exact ⟨_, rfl, t1, rfl, k1⟩
          | i + 1, e => simp at e
        · match i, e with
          | 0, e =>
            obtain rfl : [dd0, dd1] = r := Option.some.inj e
            exact ⟨_, rfl, dA, rfl, s4 _ _ hd1⟩
          | i + 1, e => simp at e
        · rw [List.mem_singleton.mp hp]
          decide
    rintro σ H4 ⟨rfl, hps0, rfl⟩
    -- place
    intro pA hpA
    have u5 := same_at (o := .dK []) hpA
    have k5 : (upd H4 pA (.dK [])) pA = some (.dK (kvI [])) := upd_same
    have pn0 : H pA = none := s1.free hpA
    have s5 := s1.trans u5
    have d5 := u5 _ _ hd1
    have dpA : dA ≠ pA := ne_of_none hd1 hpA
    generalize upd H4 pA (.dK []) = H5 at *
    refine nm ?_
    dsimp only
    have fl := hV.flat_len
    have flN := hV.flat
    refine ⟨_, rfl, a, rfl, ⟨_, SqL.of (s5 _ _ ha)⟩, for_enum (K := K) (a := a) (xs := ys) (fun i σ H6 => ∃ v8 v9 v10 : Option V, σ = [some (.int n), some (.ref l), some (.ref a), some (.int m), some (.int (2 * (ps.length : Int))), some (.ref dA), some (.bl fr), some (.ref pA), v8, v9, v10, none, none, none, none, none] ∧ Same H H6 ∧ i ≤ ys.length ∧ H6 dA = some (.lst (IL [dd0, dd1])) ∧ H6 pA = some (.dK (kvI (plL ts i)))) ⟨none, none, none, rfl, s5, Nat.zero_le _, d5, k5⟩ (fun i σ H6 _ ⟨_, _, _, _, e, _⟩ => SqL.of (e _ _ ha)) ?_ ?_⟩
    · rintro i v σ H6 pt hpt hi ⟨v8, v9, v10, rfl, s6, hil, d6, k6⟩
      obtain ⟨row, hrow, r, rfl, hr⟩ := hY.at hi
      have hil' := (List.getElem?_eq_some_iff.mp hi).1
      have u7 := same_at (o := .tup [.int i, .ref r]) hpt
      refine ⟨pt, _, rfl, SqT.of upd_same, rfl, _, _, rfl, _, _, rfl, rfl, ?_⟩
      have s7 := s6.trans u7
      have d7 := u7 _ _ d6
      have k7 := u7 _ _ k6
      generalize upd H6 pt (.tup [.int i, .ref r]) = H7 at *
      have grow : ts.getD i [] = row := by rw [List.getD_eq_getElem?_getD, hrow]; rfl
      have nd := flat_nd flN hrow
      have hrs : (ts.take i).flatten.length + row.length ≤ 1000 := by
        have e : ts.flatten = (ts.take (i + 1)).flatten ++ (ts.drop (i + 1)).flatten := by rw [← List.flatten_append, List.take_append_drop]
        rw [e, flat_take hrow, List.length_append, List.length_append] at fl
        omega
      have pk := plL_keys ts i (by omega)
      have pll : (plL ts i).length = (ts.take i).flatten.length := by rw [← pk, List.length_map]
      refine ⟨_, rfl, r, rfl, ⟨_, SqL.of (s7 _ _ hr)⟩, for_list (K := K) (a := r) (xs := IL row) (fun j σ H8 => ∃ v10 : Option V, σ = [some (.int n), some (.ref l), some (.ref a), some (.int m), some (.int (2 * (ps.length : Int))), some (.ref dA), some (.bl fr), some (.ref pA), some (.int i), some (.ref r), v10, none, none, none, none, none] ∧ Same H H8 ∧ j ≤ row.length ∧ H8 dA = some (.lst (IL [dd0, dd1])) ∧ H8 pA = some (.dK (kvI (plL ts i ++ plR (row.take j) i)))) ⟨v10, rfl, s7, Nat.zero_le _, d7, by rw [show plR (row.take 0) i = [] from rfl, List.append_nil]; exact k7⟩ (fun j σ H8 _ ⟨_, _, e, _⟩ => SqL.of (e _ _ hr)) ?_ ?_⟩
      · rintro j x σ H8 hj ⟨w10, rfl, s8, hjl, d8, k8⟩
        obtain ⟨z, rfl, hz⟩ := il_get hj
        have hjl' := (List.getElem?_eq_some_iff.mp hz).1
        refine nm ?_
        dsimp only
        have nw : ∀ p ∈ plL ts i ++ plR (row.take j) i, p.1 ≠ z := fun p hp e => by
          have m1 : p.1 ∈ (plL ts i ++ plR (row.take j) i).map (·.1) := List.mem_map_of_mem hp
          have e1 : (plR (row.take j) (i : Int)).map (·.1) = row.take j := by
            unfold plR
            rw [List.map_map]
            exact List.map_id'' (fun _ => rfl) _
          rw [List.map_append, pk, e1, e] at m1
          have e4 : (ts.take i).flatten ++ row = ((ts.take i).flatten ++ row.take j) ++ row.drop j := by rw [List.append_assoc, List.take_append_drop]
          rw [e4] at nd
          exact (List.nodup_append.mp nd).2.2 _ m1 _ (List.mem_of_getElem? (i := 0) (by rw [List.getElem?_drop]; exact hz)) rfl
        have kl : (kvI (plL ts i ++ plR (row.take j) (i : Int))).length ≤ 1000 := by
          unfold kvI plR
          rw [List.length_map, List.length_append, List.length_map, List.length_take]
          omega
        refine ⟨_, rfl, _, rfl, _, rfl, pA, _, rfl, DPut.k (k := Sum.inl z) k8 (small60' (by omega)), ?_⟩
        refine ⟨_, rfl, same_upd pn0 s8, hjl', by rw [upd_ne dpA]; exact d8, ?_⟩
        rw [upd_same, kvI_put nw, List.append_assoc]
        have : plR (row.take (j + 1)) (i : Int) = plR (row.take j) i ++ [(z, (i : Int))] := by
          unfold plR
          rw [List.take_succ, hz, List.map_append]
          rfl
        rw [this]
      rintro σ H8 ⟨w10, rfl, s8, _, d8, k8⟩
      rw [il_length, List.take_length] at k8
      refine ⟨_, _, _, rfl, s8, hil', d8, ?_⟩
      rw [k8]
      show some (HO.dK (kvI (plL ts i ++ plR row i))) = some (HO.dK (kvI (plL ts i ++ plR (ts.getD i []) i)))
      rw [grow]
    rintro σ H6 ⟨v8, v9, v10, rfl, s6, _, d6, k6⟩
    rw [hyl] at k6
    have pnd : ((plL ts ts.length).map (·.1)).Nodup := by rw [plL_keys ts _ (Nat.le_refl _), List.take_length]; exact flN
    have plc : ∀ {p : Nat} {row : List Int} {x : Int} {H' : Hp}, Same H6 H' → ts[p]? = some row → x ∈ row → DGet H' pA (.int x) (some (.int (p : Int))) := fun {p row x H'} s hp hx => by
      have := DGet.k (k := Sum.inl x) (s _ _ k6)
      rw [kvI_val pnd (plL_mem hp hx (List.getElem?_eq_some_iff.mp hp).1)] at this
      exact this
    have hY6 : Bears (ListV H6) ys ts := hY.imp fun _ _ ⟨r, e, h⟩ => ⟨r, e, s6 _ _ h⟩
    have some1 : ∃ r ∈ ts, r ≠ [] := by
      obtain ⟨p, row, hp, hm⟩ := hV.has hg (x := 0) (by omega)
      exact ⟨row, List.mem_of_getElem? hp, fun e => by rw [e] at hm; cases hm⟩
    have rl : ∀ r ∈ ts, r.length ≤ 1000 := fun r hr => by
      have := nd_few (nd_row hV hr) (M := 2 * ps.length) fun x hx => by have := hV.in hr hx; omega
      omega
    -- one
    refine ⟨_, rfl, _, rfl, _, _, rfl, rfl, ⟨by decide, by decide⟩, a, _, ys, ts, rfl, SqL.of (s6 _ _ ha), hY6, by omega, some1, fun x p row H7 s7 hp hx => ?_⟩
    refine nm ?_
    dsimp only
    have s07 := s6.trans s7
    have hl7 := s07 _ _ hl
    have ha7 := s07 _ _ ha
    have d7 := s7 _ _ d6
    have hP7 := hP.same s07
    have hY7 : Bears (ListV H7) ys ts := hY.imp fun _ _ ⟨r, e, h⟩ => ⟨r, e, s07 _ _ h⟩
    have hpn := (List.getElem?_eq_some_iff.mp hp).1
    refine contS (fun σ H8 => H8 = H7 ∧ fr = false ∧ σ = [some (.int n), some (.ref l), some (.ref a), some (.int m), some (.int (2 * (ps.length : Int))), some (.ref dA), some (.bl fr), some (.ref pA), v8, v9, v10, some (.int x), none, none, none, none]) ?_ ?_
    rotate_left
    · intro Kn hK
      refine ⟨_, rfl, _, rfl, ?_⟩
      cases fr with
      | false =>
        refine iteF ?_
        exact hK _ _ ⟨rfl, rfl, rfl⟩
      | true =>
        refine iteT ?_
        refine ⟨_, rfl, _, rfl, pA, .int (p : Int), rfl, plc s7 hp hx, _, rfl, two, fun t1 h1 => ?_⟩
        have u1 := same_at (o := .tup [.int (p : Int), .int (n : Int)]) h1
        refine ⟨_, rfl, _, rfl, _, rfl, pA, .int (p : Int), rfl, plc (s7.trans u1) hp hx, two, fun t2 h2 => ⟨two, fun q3 h3 => ⟨_, rfl, _, _, rfl, rfl, (by show (0 : Int) < 2; decide), q3, _, _, _, rfl, rfl, SqL.of upd_same, pickI _ _, ?_⟩⟩⟩
        have u2 := same_at (o := .tup [.int (n : Int), .int (p : Int)]) h2
        have u3 := same_at (o := .lst [.ref t1, .ref t2]) h3
        have k1 := u3 _ _ (u2 _ _ (upd_same (H := H7) (a := t1) (o := .tup [.int (p : Int), .int (n : Int)])))
        have k2 := u3 _ _ (upd_same (H := upd H7 t1 (.tup [.int (p : Int), .int (n : Int)])) (a := t2) (o := .tup [.int (n : Int), .int (p : Int)]))
        have s9 := u1.trans (u2.trans u3)
        generalize upd (upd (upd H7 t1 (.tup [.int (p : Int), .int (n : Int)])) t2 (.tup [.int (n : Int), .int (p : Int)])) q3 (.lst [.ref t1, .ref t2]) = H9 at *
        have hE : PairV H9 (if m % 2 = 0 then V.ref t1 else V.ref t2) (if m % 2 = 0 then ((p : Int), (n : Int)) else ((n : Int), (p : Int))) := by
          by_cases e : m % 2 = 0
          · rw [if_pos e, if_pos e]; exact ⟨t1, rfl, k1⟩
          · rw [if_neg e, if_neg e]; exact ⟨t2, rfl, k2⟩
        generalize (if m % 2 = 0 then V.ref t1 else V.ref t2) = wv at *
        have hN := new (p : Int) (n : Int)
        have eR : ∀ q ∈ ps ++ [if m % 2 = 0 then ((p : Int), (n : Int)) else ((n : Int), (p : Int))], 0 ≤ q.1 ∧ q.1 < ((n + 1 : Nat) : Int) ∧ 0 ≤ q.2 ∧ q.2 < ((n + 1 : Nat) : Int) := fun q hq => by
          rcases List.mem_append.mp hq with e | e
          · have := hg q e
            omega
          · rw [List.mem_singleton.mp e]
            split
            · exact ⟨by show 0 ≤ (p : Int); omega, by show (p : Int) < _; omega, by show 0 ≤ (n : Int); omega, by show (n : Int) < _; omega⟩
            · exact ⟨by show 0 ≤ (n : Int); omega, by show (n : Int) < _; omega, by show 0 ≤ (p : Int); omega, by show (p : Int) < _; omega⟩
        generalize (if m % 2 = 0 then ((p : Int), (n : Int)) else ((n : Int), (p : Int))) = en at *
        have s09 := s07.trans s9
        refine nm ?_
        dsimp only
        have n13' := hfr rfl
        refine ⟨_, rfl, _, _, rfl, rfl, _, rfl, _, rfl, one, fun e1 he1 => ?_⟩
        have v1 := same_at (o := .lst [wv]) he1
        refine ⟨l, e1, xs, [wv], rfl, rfl, v1 _ _ (s09 _ _ hl), upd_same, small60 (by show xs.length + 1 ≤ _; omega), fun lA hlA => ?_⟩
        have v2 := same_at (o := .lst (xs ++ [wv])) hlA
        have l10 : (upd (upd H9 e1 (.lst [wv])) lA (.lst (xs ++ [wv]))) lA = some (.lst (xs ++ [wv])) := upd_same
        have s10 := v1.trans v2
        generalize upd (upd H9 e1 (.lst [wv])) lA (.lst (xs ++ [wv])) = H10 at *
        have s010 := s09.trans s10
        have d10 := (s9.trans s10) _ _ d7
        have hY10 : Bears (ListV H10) ys ts := hY.imp fun _ _ ⟨r, e, h⟩ => ⟨r, e, s010 _ _ h⟩
        refine ⟨_, rfl, _, rfl, _, rfl, a, dA, ys, ts, x, dd0, dd1, none, rfl, SqL.of (s010 _ _ ha), hY10, SqL.of d10, by omega, rl, fun r zs H11 s11 hr0 hJ => ?_⟩
        have zl := hJ.rows.1
        rw [List.length_map] at zl
        refine ⟨_, rfl, dA, _, 1, .int dd1, rfl, rfl, SqL.of (s11 _ _ d10), rfl, one, fun i1 hi1 => ⟨one, fun i2 hi2 => ?_⟩⟩
        have v3 := same_at (o := .lst [.int dd1]) hi1
        have v4 := same_at (o := .lst [.ref i1]) hi2
        have g1 := v4 _ _ (upd_same (H := H11) (a := i1) (o := .lst (IL [dd1])))
        refine ⟨r, i2, zs, [.ref i1], rfl, rfl, v4 _ _ (v3 _ _ hJ.tab), upd_same, small60 (by show zs.length + 1 ≤ _; omega), fun aA haA => ⟨(by show 3 ≤ sizeLine; decide), fun tt htt => ?_⟩⟩
        have v5 := same_at (o := .lst (zs ++ [.ref i1])) haA
        have v6 := same_at (o := .tup [.int ((n : Int) + 1), .ref lA, .ref aA]) htt
        have s1116 := v3.trans (v4.trans (v5.trans v6))
        have s1016 := s11.trans s1116
        refine q tt lA aA (n + 1) (xs ++ [wv]) (zs ++ [.ref i1]) (ps ++ [en]) (ts.map (putR x none dd0 dd1) ++ [[dd1]]) _ (s010.trans s1016) (by rw [Int.natCast_add]; exact upd_same) (s1016 _ _ l10) ?_ (v6 _ _ upd_same) ?_ ⟨vt_grow hV hg hp hx hN, by omega, by omega, eR, fun h => (by simp at h), fm_grow hfm hps0 hV hp hx hN⟩ (by rw [List.length_append]; exact Nat.le_refl _)
        · refine (hP.same (s010.trans s1016)).snoc ?_
          obtain ⟨ta, y1, y2⟩ := hE
          exact ⟨ta, y1, (s10.trans s1016) _ _ y2⟩
        · exact (hJ.lists.imp fun _ _ ⟨r', e, h⟩ => ⟨r', e, s1116 _ _ h⟩).snoc ⟨i1, rfl, v6 _ _ (v5 _ _ g1)⟩
    rintro σ H8 ⟨rfl, rfl, rfl⟩
    -- other
    refine ⟨_, rfl, ?_⟩
    refine nm ?_
    dsimp only
    refine ⟨_, rfl, a, ys, ts, rfl, SqL.of ha7, hY7, flN, by omega, fun r hr z hz => (hV.in hr hz).1, fun bA H9 s9 hb0 hb9 => ?_⟩
    refine nm ?_
    dsimp only
    have st0 : 0 ≤ m / 1000 % 7 := Int.emod_nonneg _ (by decide)
    have st1 : m / 1000 % 7 < 7 := Int.emod_lt_of_pos _ (by decide)
    refine ⟨_, rfl, _, _, rfl, rfl, ⟨by decide, by decide⟩, _, _, rfl, rfl, (by show (0 : Int) < 7; decide), _, rfl, by omega, by omega, for_range (lo := 0) (n := (m / 1000 % 7).toNat) (fun i σ H10 => H10 = H9 ∧ ∃ (y : Int) (q : Nat) (row2 : List Int) (v15 : Option V), ts[q]? = some row2 ∧ y ∈ row2 ∧ (∀ L, OP (bhL ts) (2 * ps.length) L → ∃ r ∈ L, x ∈ r ∧ y ∈ r) ∧ σ = [some (.int n), some (.ref l), some (.ref a), some (.int m), some (.int (2 * (ps.length : Int))), some (.ref dA), some (.bl false), some (.ref pA), v8, v9, v10, some (.int x), none, some (.int y), some (.ref bA), v15]) ⟨rfl, x, p, row, none, hp, hx, rd_self hV ((hV.mem hp).mp hx).1, rfl⟩ ?_ ?_⟩
    · rintro i σ H10 hi ⟨rfl, y, q, row2, v15, hq, hy, hsr, rfl⟩
      refine nm ?_
      dsimp only
      have yr := ((hV.mem hq).mp hy).1
      obtain ⟨z, hz⟩ := bh_ex hV hg yr
      have zr := (bh_range hV hz).2
      obtain ⟨q2, row3, hq2, hz2⟩ := hV.has hg zr
      refine ⟨_, rfl, _, rfl, bA, .int z, rfl, ?_, ?_⟩
      · have := DGet.k (k := Sum.inl y) hb9
        rw [kvI_val (bh_nd flN) hz] at this
        exact this
      refine nm ?_
      dsimp only
      exact ⟨rfl, z, q2, row3, _, hq2, hz2, rd_next hV hsr hz, rfl⟩
    rintro σ H10 ⟨rfl, y, q', row2, v15, hq, hy, hsr, rfl⟩
    have s710 := s7.trans s9
    have hqn := (List.getElem?_eq_some_iff.mp hq).1
    -- ends
    refine ⟨_, rfl, _, rfl, pA, .int (p : Int), rfl, plc s710 hp hx, _, rfl, _, rfl, pA, .int (q' : Int), rfl, plc s710 hq hy, two, fun t1 h1 => ?_⟩
    have u1 := same_at (o := .tup [.int (p : Int), .int (q' : Int)]) h1
    refine ⟨_, rfl, _, rfl, pA, .int (q' : Int), rfl, plc (s710.trans u1) hq hy, _, rfl, _, rfl, pA, .int (p : Int), rfl, plc (s710.trans u1) hp hx, two, fun t2 h2 => ⟨two, fun q3 h3 => ⟨_, rfl, _, _, rfl, rfl, (by show (0 : Int) < 2; decide), q3, _, _, _, rfl, rfl, SqL.of upd_same, pickI _ _, ?_⟩⟩⟩
    have u2 := same_at (o := .tup [.int (q' : Int), .int (p : Int)]) h2
    have u3 := same_at (o := .lst [.ref t1, .ref t2]) h3
    have k1 := u3 _ _ (u2 _ _ (upd_same (H := H10) (a := t1) (o := .tup [.int (p : Int), .int (q' : Int)])))
    have k2 := u3 _ _ (upd_same (H := upd H10 t1 (.tup [.int (p : Int), .int (q' : Int)])) (a := t2) (o := .tup [.int (q' : Int), .int (p : Int)]))
    have s11 := u1.trans (u2.trans u3)
    generalize upd (upd (upd H10 t1 (.tup [.int (p : Int), .int (q' : Int)])) t2 (.tup [.int (q' : Int), .int (p : Int)])) q3 (.lst [.ref t1, .ref t2]) = H11 at *
    have hE : PairV H11 (if m % 2 = 0 then V.ref t1 else V.ref t2) (if m % 2 = 0 then ((p : Int), (q' : Int)) else ((q' : Int), (p : Int))) := by
      by_cases e : m % 2 = 0
      · rw [if_pos e, if_pos e]; exact ⟨t1, rfl, k1⟩
      · rw [if_neg e, if_neg e]; exact ⟨t2, rfl, k2⟩
    generalize (if m % 2 = 0 then V.ref t1 else V.ref t2) = wv at *
    have hN := new (p : Int) (q' : Int)
    have eR : ∀ z ∈ ps ++ [if m % 2 = 0 then ((p : Int), (q' : Int)) else ((q' : Int), (p : Int))], 0 ≤ z.1 ∧ z.1 < (n : Int) ∧ 0 ≤ z.2 ∧ z.2 < (n : Int) := fun z hz => by
      rcases List.mem_append.mp hz with e | e
      · exact hg z e
      · rw [List.mem_singleton.mp e]
        split
        · exact ⟨by show 0 ≤ (p : Int); omega, by show (p : Int) < _; omega, by show 0 ≤ (q' : Int); omega, by show (q' : Int) < _; omega⟩
        · exact ⟨by show 0 ≤ (q' : Int); omega, by show (q' : Int) < _; omega, by show 0 ≤ (p : Int); omega, by show (p : Int) < _; omega⟩
    generalize (if m % 2 = 0 then ((p : Int), (q' : Int)) else ((q' : Int), (p : Int))) = en at *
    have s011 := s07.trans (s9.trans s11)
    refine nm ?_
    dsimp only
    refine ⟨_, rfl, _, rfl, _, rfl, one, fun e1 he1 => ?_⟩
    have v1 := same_at (o := .lst [wv]) he1
    refine ⟨l, e1, xs, [wv], rfl, rfl, v1 _ _ (s011 _ _ hl), upd_same, small60 (by show xs.length + 1 ≤ _; omega), fun lA hlA => ?_⟩
    have v2 := same_at (o := .lst (xs ++ [wv])) hlA
    have l12 : (upd (upd H11 e1 (.lst [wv])) lA (.lst (xs ++ [wv]))) lA = some (.lst (xs ++ [wv])) := upd_same
    have s12 := v1.trans v2
    generalize upd (upd H11 e1 (.lst [wv])) lA (.lst (xs ++ [wv])) = H12 at *
    have s012 := s011.trans s12
    have d12 := (s9.trans (s11.trans s12)) _ _ d7
    have hY12 : Bears (ListV H12) ys ts := hY.imp fun _ _ ⟨r, e, h⟩ => ⟨r, e, s012 _ _ h⟩
    refine ⟨_, rfl, _, rfl, _, rfl, _, rfl, a, dA, ys, ts, x, dd0, dd1, some y, rfl, SqL.of (s012 _ _ ha), hY12, SqL.of d12, by omega, rl, fun r zs H13 s13 hr0 hJ => ⟨(by show 3 ≤ sizeLine; decide), fun tt htt => ?_⟩⟩
    have v6 := same_at (o := .tup [.int (n : Int), .ref lA, .ref r]) htt
    have s1214 := s13.trans v6
    refine q tt lA r n (xs ++ [wv]) zs (ps ++ [en]) (ts.map (putR x (some y) dd0 dd1)) _ (s012.trans s1214) upd_same (s1214 _ _ l12) ?_ (v6 _ _ hJ.tab) (hJ.lists.imp fun _ _ ⟨r', e, h⟩ => ⟨r', e, v6 _ _ h⟩) ⟨vt_join hV hp hx hq hy hN, n1, n13, eR, fun h => (by simp at h), fm_join hfm hps0 hV hp hx hq hy hsr hN⟩ (by rw [List.length_append]; exact Nat.le_refl _)
    refine (hP.same (s012.trans s1214)).snoc ?_
    obtain ⟨ta, y1, y2⟩ := hE
    exact ⟨ta, y1, (s12.trans s1214) _ _ y2⟩
end
end My
namespace My
open PySem L2 PyProof.Rows
set_option maxHeartbeats 4000000
/-- a web with turns that is grown tie by tie -/
def sp_law_map (K : PySem.W.Frag) : Sp := fun vs H Q _ => ∃ (s : Addr) (ns : List Int), vs = [.ref s] ∧ SqL K H s (IL ns) ∧ ns.length ≤ 63 ∧
  ∀ (t l a : Addr) (n : Nat) (xs ys : List V) (ps : List (Int × Int)) (ts : List (List Int)) (H' : Hp), Same H H' → H' t = some (.tup [.int n, .ref l, .ref a]) → H' l = some (.lst xs) → PairsV H' xs ps → H' a = some (.lst ys) → Bears (ListV H') ys ts → MapOk n ps ts → ps.length ≤ 24 → Q (.ref t) H'
section
variable {P : Program} {w : World} {K : PySem.W.Frag} {mg : Str → Option Value} {base : Heap} {t : Adr}
theorem sc_law_map : FnScope ["script", "count", "ties", "turns", "m"] ["script"] (defScope s_law_map) := ⟨rfl, rfl, rfl, by decide +kernel, rfl, by decide +kernel, by decide +kernel⟩
theorem ok_law_map (T : Txt K mg t) : FnOk P w K mg base CX0 3 t.a_law_map t.d_law_map ["script"] (sp_law_map K) := by
  refine T.f_law_map.ok sc_law_map (fun vs H Q E h => ?_) (fun cdv A outer s H vs Q E hr h => ?_)
  · obtain ⟨s, ns, rfl, _⟩ := h
    rfl
  · obtain ⟨sA, ns, rfl, hA, hn63, q⟩ := h
    refine ⟨_, (pss_cons (ps_set (i := 1) sc_law_map.nd rfl (Or.inl rfl) pe_int)
      (pss_cons (ps_set (i := 2) sc_law_map.nd rfl (Or.inl rfl) (pe_lst pa_nil))
      (pss_cons (ps_set (i := 3) sc_law_map.nd rfl (Or.inl rfl) (pe_lst (pa_cons (pe_lst pa_nil) pa_nil)))
      (pss_cons (ps_for PassesOwn.never rfl (pi_listK K (pe_call (ok_law_amounts T) (hr.mono (by decide)) rfl T.m_law_amounts T.f_law_amounts.kp T.b_law_amounts .nil pass0 (pa_cons (pv 0) pa_nil))) (pg_name (i := 4) sc_law_map.nd rfl (Or.inl rfl))
      (pss_one (ps_asg (pe_call (ok_law_grown T) (hr.mono (by decide)) rfl T.m_law_grown T.f_law_grown.kp T.b_law_grown .nil pass0 (pa_cons (pv 1) (pa_cons (pv 2) (pa_cons (pv 3) (pa_cons (pv 4) pa_nil))))) (pg_tupK (n := 3) K rfl (pgs_cons (pg_name (i := 1) sc_law_map.nd rfl (Or.inl rfl)) (pgs_cons (pg_name (i := 2) sc_law_map.nd rfl (Or.inl rfl)) (pgs_cons (pg_name (i := 3) sc_law_map.nd rfl (Or.inl rfl)) pgs_nil)))))))
      (pss_one (ps_ret (pe_tup (pa_cons (pv 1) (pa_cons (pv 2) (pa_cons (pv 3) pa_nil)))))))))), ?_⟩
    have one : 1 ≤ sizeLine := by decide
    refine asgC ?_
    refine ⟨Nat.zero_le _, fun l0 hl0 => ?_⟩
    have u1 := same_at (o := .lst []) hl0
    refine nm ?_
    dsimp only
    refine ⟨Nat.zero_le _, fun i0 hi0 => ⟨one, fun a0 ha0 => ?_⟩⟩
    have u2 := same_at (o := .lst []) hi0
    have u3 := same_at (o := .lst [.ref i0]) ha0
    have l3 := u3 _ _ (u2 _ _ (upd_same (H := H) (a := l0) (o := .lst [])))
    have i3 := u3 _ _ (upd_same (H := upd H l0 (.lst [])) (a := i0) (o := .lst []))
    have a3 : (upd (upd (upd H l0 (.lst [])) i0 (.lst [])) a0 (.lst [.ref i0])) a0 = some (.lst [.ref i0]) := upd_same
    have s3 := u1.trans (u2.trans u3)
    generalize upd (upd (upd H l0 (.lst [])) i0 (.lst [])) a0 (.lst [.ref i0]) = H3 at *
    refine nm ?_
    dsimp only
    have M0 : MapOk 1 [] [[]] := ⟨⟨rfl, fun p row hp => by
      match p, hp with
      | 0, hp => obtain rfl : [] = row := Option.some.inj hp; exact .refl _
      | p + 1, hp => simp at hp⟩, by decide, by decide, fun p h => (by cases h), fun _ => rfl, fm_one⟩
    refine ⟨_, rfl, sA, ns, rfl, s3.seq hA, hn63, fun rA L H4 s4 hr0 hr4 hL24 hLb => ⟨rA, rfl, ⟨_, SqL.of hr4⟩, for_list (K := K) (a := rA) (xs := IL L) (fun i σ H5 => ∃ (l a : Addr) (n : Nat) (xs ys : List V) (ps : List (Int × Int)) (ts : List (List Int)) (v4 : Option V), σ = [some (.ref sA), some (.int n), some (.ref l), some (.ref a), v4] ∧ Same H H5 ∧ H5 rA = some (.lst (IL L)) ∧ H5 l = some (.lst xs) ∧ PairsV H5 xs ps ∧ H5 a = some (.lst ys) ∧ Bears (ListV H5) ys ts ∧ MapOk n ps ts ∧ ps.length ≤ i) ⟨l0, a0, 1, [], [.ref i0], [], [[]], none, rfl, s3.trans s4, hr4, s4 _ _ l3, PairsV.nil, s4 _ _ a3, ⟨rfl, fun i r e => ?_⟩, M0, Nat.le_refl _⟩ (fun i σ H5 _ ⟨_, _, _, _, _, _, _, _, _, _, e, _⟩ => SqL.of e) ?_ ?_⟩⟩
    · match i, e with
      | 0, e => obtain rfl : [] = r := Option.some.inj e; exact ⟨_, rfl, i0, rfl, s4 _ _ i3⟩
      | i + 1, e => simp at e
    · rintro i v σ H5 hi ⟨l, a, n, xs, ys, ps, ts, v4, rfl, s5, r5, l5, hP, a5, hY, hM, hpl⟩
      obtain ⟨z, rfl, hz⟩ := il_get hi
      have hzi := (List.getElem?_eq_some_iff.mp hz).1
      obtain ⟨z0, z1⟩ := hLb z (List.mem_of_getElem? hz)
      refine nm ?_
      dsimp only
      refine ⟨_, rfl, _, rfl, _, rfl, _, rfl, l, a, n, z, xs, ys, ps, ts, rfl, l5, hP, a5, hY, hM, by omega, z0, z1, fun t l' a' n' xs' ys' ps' ts' H6 s6 ht hl' hP' ha' hY' hM' hp' => ?_⟩
      refine ⟨t, _, rfl, SqT.of ht, rfl, _, _, rfl, _, _, rfl, _, _, rfl, rfl, ?_⟩
      exact ⟨l', a', n', xs', ys', ps', ts', _, rfl, s5.trans s6, s6 _ _ r5, hl', hP', ha', hY', hM', by omega⟩
    rintro σ H5 ⟨l, a, n, xs, ys, ps, ts, v4, rfl, s5, r5, l5, hP, a5, hY, hM, hpl⟩
    rw [il_length] at hpl
    refine ⟨_, rfl, _, rfl, _, rfl, (by show 3 ≤ sizeLine; decide), fun t ht => ?_⟩
    have u := same_at (o := .tup [.int n, .ref l, .ref a]) ht
    exact q t l a n xs ys ps ts _ (s5.trans u) upd_same (u _ _ l5) (hP.same u) (u _ _ a5) (hY.imp fun _ _ ⟨r, e, h⟩ => ⟨r, e, u _ _ h⟩) hM (by omega)
end
end My
namespace My
open PySem L2 PyProof.Rows
set_option maxHeartbeats 4000000
/-- turns of any order -/
def sp_law_any_turns (K : PySem.W.Frag) : Sp := fun vs H Q _ => ∃ (l : Addr) (n m : Int) (xs : List V) (ps : List (Int × Int)), vs = [.int n, .ref l, .int m] ∧ SqL K H l xs ∧ PairsV H xs ps ∧ 0 ≤ n ∧ n ≤ 1000 ∧ ps.length ≤ 30 ∧
  ∀ (r : Addr) (ys : List V) (ts : List (List Int)) (H' : Hp), Same H H' → H r = none → VT n.toNat ps ts → JagAt H r H' ys ts → Q (.ref r) H'
theorem erase_perm75 : ∀ {l : List Int} {c : Nat} {y : Int}, l[c]? = some y → (y :: l.eraseIdx c).Perm l
  | [], c, y, h => by simp at h
  | x :: l, 0, y, h => by
    obtain rfl : x = y := Option.some.inj h
    exact List.Perm.refl _
  | x :: l, c + 1, y, h => by
    show (y :: x :: l.eraseIdx c).Perm (x :: l)
    exact (List.Perm.swap x y _).trans ((erase_perm75 (l := l) (c := c) h).cons x)
theorem erase_il75 : ∀ (l : List Int) (c : Nat), (IL l).eraseIdx c = IL (l.eraseIdx c)
  | [], c => rfl
  | x :: l, 0 => rfl
  | x :: l, c + 1 => by
    show V.int x :: (IL l).eraseIdx c = V.int x :: IL (l.eraseIdx c)
    rw [erase_il75]
section
variable {P : Program} {w : World} {K : PySem.W.Frag} {mg : Str → Option Value} {base : Heap} {t : Adr}
theorem sc_law_any_turns : FnScope ["count", "ties", "m", "told", "place", "darts", "tie", "pair", "row"] ["count", "ties", "m"] (defScope s_law_any_turns) := ⟨rfl, rfl, rfl, by decide +kernel, rfl, by decide +kernel, by decide +kernel⟩
theorem ok_law_any_turns (T : Txt K mg t) : FnOk P w K mg base CX0 2 t.a_law_any_turns t.d_law_any_turns ["count", "ties", "m"] (sp_law_any_turns K) := by
  refine T.f_law_any_turns.ok sc_law_any_turns (fun vs H Q E h => ?_) (fun cdv A outer s H vs Q E hr h => ?_)
  · obtain ⟨l, n, m, xs, ps, rfl, _⟩ := h
    rfl
  · obtain ⟨l, n, m, xs, ps, rfl, hA, hP, n0, n1, hp30, q⟩ := h
    refine ⟨_, (pss_cons (ps_set (i := 3) sc_law_any_turns.nd rfl (Or.inl rfl) (pe_lst pa_nil))
      (pss_cons (ps_for PassesOwn.never rfl (pi_range1 rfl T.n_range (pa_cons (pv 0) pa_nil)) (pg_name (i := 4) sc_law_any_turns.nd rfl (Or.inl rfl))
      (pss_cons (ps_set (i := 5) sc_law_any_turns.nd rfl (Or.inl rfl) (pe_lst pa_nil))
      (pss_cons (ps_for PassesOwn.never rfl (pi_enumK K rfl T.n_enumerate (pa_cons (pv 1) pa_nil)) (pg_tupK (n := 2) K rfl (pgs_cons (pg_name (i := 6) sc_law_any_turns.nd rfl (Or.inl rfl)) (pgs_cons (pg_name (i := 7) sc_law_any_turns.nd rfl (Or.inl rfl)) pgs_nil)))
      (pss_cons (ps_if (pt_cmpR op_eq (pe_ix (ix_tupK K) (pv 7) pe_int (fun _ _ => rfl)) (pv 4) (nomark _))
      (pss_one (ps_expr (pe_bmK K PySem.F.plainAttrs_list PySem.F.slot_list_append PySem.F.type_list_append mt_append (pv 5) (pa_cons (pe_op op_mul pe_int (pv 6)) pa_nil))))
      pss_nil)
      (pss_one (ps_if (pt_cmpR op_eq (pe_ix (ix_tupK K) (pv 7) pe_int (fun _ _ => rfl)) (pv 4) (nomark _))
      (pss_one (ps_expr (pe_bmK K PySem.F.plainAttrs_list PySem.F.slot_list_append PySem.F.type_list_append mt_append (pv 5) (pa_cons (pe_op op_add (pe_op op_mul pe_int (pv 6)) pe_int) pa_nil))))
      pss_nil))))
      (pss_cons (ps_set (i := 8) sc_law_any_turns.nd rfl (Or.inl rfl) (pe_lst pa_nil))
      (pss_cons (ps_while PassesOwn.never (pt_cmpR op_gt (pe_callB (call_lenK K) (by rfl) T.n_len Boot.«len» (pa_cons (pv 5) pa_nil)) pe_int (nomark _))
      (pss_cons (ps_set (i := 2) sc_law_any_turns.nd rfl (Or.inl rfl) (pe_call (ok_law_mixed T) (hr.mono (by decide)) rfl T.m_law_mixed T.f_law_mixed.kp T.b_law_mixed .nil pass0 (pa_cons (pv 2) (pa_cons pe_int pa_nil))))
      (pss_one (ps_expr (pe_bmK K PySem.F.plainAttrs_list PySem.F.slot_list_append PySem.F.type_list_append mt_append (pv 8) (pa_cons (pe_bmK K PySem.F.plainAttrs_list PySem.F.slot_list_pop PySem.F.type_list_pop mt_popAt (pv 5) (pa_cons (pe_op op_mod (pe_op op_fdiv (pv 2) pe_int) (pe_callB (call_lenK K) (by rfl) T.n_len Boot.«len» (pa_cons (pv 5) pa_nil))) pa_nil)) pa_nil))))))
      (pss_one (ps_expr (pe_bmK K PySem.F.plainAttrs_list PySem.F.slot_list_append PySem.F.type_list_append mt_append (pv 3) (pa_cons (pv 8) pa_nil)))))))))
      (pss_one (ps_ret (pv 3))))), ?_⟩
    have hxl := hP.1
    refine ⟨Nat.zero_le _, fun rA hrA => ?_⟩
    have u1 := same_at (o := .lst []) hrA
    have k1 : (upd H rA (.lst [])) rA = some (.lst []) := upd_same
    generalize upd H rA (.lst []) = H1 at *
    refine nm ?_
    dsimp only
    refine ⟨_, rfl, _, rfl, by omega, by omega, for_range (lo := 0) (n := n.toNat) (fun i σ H2 => ∃ (m : Int) (v4 v5 v6 v7 v8 : Option V) (ys : List V) (ts : List (List Int)), σ = [some (.int n), some (.ref l), some (.int m), some (.ref rA), v4, v5, v6, v7, v8] ∧ Same H H2 ∧ JagAt H rA H2 ys ts ∧ VT i ps ts) ⟨m, none, none, none, none, none, [], [], rfl, u1, JagAt.nil k1, rfl, fun p row e => by simp at e⟩ ?_ ?_⟩
    · rintro i σ H2 hi ⟨m, v4, v5, v6, v7, v8, ys, ts, rfl, s2, hJ, hV⟩
      rw [Int.zero_add]
      have hyl := hJ.rows.1
      have htl := hV.1
      refine nm ?_
      dsimp only
      refine ⟨Nat.zero_le _, fun dA hdA => ?_⟩
      have u3 := same_at (o := .lst []) hdA
      have k3 : (upd H2 dA (.lst [])) dA = some (.lst (IL [])) := upd_same
      have dn0 : H dA = none := s2.free hdA
      have dr : dA ≠ rA := Ne.symm (ne_of_none hJ.tab hdA)
      have dfr := hJ.fresh hdA
      have hJ3 := hJ.same u3
      have s3 := s2.trans u3
      generalize upd H2 dA (.lst []) = H3 at *
      have hJo : ∀ {A : Addr} {H' : Hp} {z : List V}, A ≠ rA → V.ref A ∉ ys → JagAt H rA H' ys ts → JagAt H rA (upd H' A (.lst z)) ys ts := fun {A H' z} mr mfr h => by
        refine ⟨by rw [upd_ne (Ne.symm mr)]; exact h.tab, ⟨h.rows.1, fun j l' e => ?_⟩, h.nd, h.new⟩
        obtain ⟨v, e1, A', rfl, e2, e3⟩ := h.rows.2 j l' e
        refine ⟨_, e1, A', rfl, ?_, e3⟩
        rw [upd_ne]
        · exact e2
        · intro z
          rw [z] at e1
          exact mfr (List.mem_of_getElem? e1)
      refine nm ?_
      dsimp only
      -- the darts of the place
      refine ⟨_, rfl, l, rfl, ⟨_, s3.seq hA⟩, for_enum (K := K) (a := l) (xs := xs) (fun j σ H4 => ∃ (v6 v7 : Option V), σ = [some (.int n), some (.ref l), some (.int m), some (.ref rA), some (.int i), some (.ref dA), v6, v7, v8] ∧ Same H H4 ∧ j ≤ ps.length ∧ JagAt H rA H4 ys ts ∧ H4 dA = some (.lst (IL (dtU ps (i : Int) j)))) ⟨v6, v7, rfl, s3, Nat.zero_le _, hJ3, k3⟩ (fun j σ H4 _ ⟨_, _, _, e, _⟩ => e.seq hA) ?_ ?_⟩
      · rintro j v σ H4 pt hpt hj ⟨w6, w7, rfl, s4, hjl, hJ4, k4⟩
        obtain ⟨p, hp, tt, rfl, htt⟩ := hP.at hj
        have hjl' := (List.getElem?_eq_some_iff.mp hp).1
        have u5 := same_at (o := .tup [.int j, .ref tt]) hpt
        refine ⟨pt, _, rfl, SqT.of upd_same, rfl, _, _, rfl, _, _, rfl, rfl, ?_⟩
        have s5 := s4.trans u5
        have hJ5 := hJ4.same u5
        have k5 := u5 _ _ k4
        generalize upd H4 pt (.tup [.int j, .ref tt]) = H5 at *
        have dl := dtU_len (ps := ps) (p := (i : Int)) j
        have gp : ps.getD j (0, 0) = p := getD_of hp
        refine contS (fun σ H6 => σ = [some (.int n), some (.ref l), some (.int m), some (.ref rA), some (.int i), some (.ref dA), some (.int j), some (.ref tt), v8] ∧ Same H H6 ∧ JagAt H rA H6 ys ts ∧ H6 dA = some (.lst (IL (dtU ps (i : Int) j ++ (if p.1 = (i : Int) then [2 * (j : Int)] else []))))) ?_ ?_
        rotate_left
        · intro Kn hK
          refine ⟨_, rfl, tt, _, 0, .int p.1, rfl, rfl, SqT.of (s5 _ _ htt), rfl, _, rfl, rfl, _, rfl, ?_⟩
          rw [dec_int]
          refine itd2 (fun h => ?_) (fun h => hK _ _ ⟨rfl, s5, hJ5, by rw [if_neg h, List.append_nil]; exact k5⟩)
          refine ⟨_, rfl, .inl ⟨rfl, _, SqL.of k5⟩, _, rfl, _, _, rfl, rfl, .inl ⟨by decide, by decide⟩, dA, _, _, rfl, rfl, k5, small60' (by rw [il_length]; omega), hK _ _ ⟨rfl, same_upd dn0 s5, hJo dr dfr hJ5, ?_⟩⟩
          rw [upd_same, if_pos h, il_snoc]
        rintro σ H6 ⟨rfl, s6, hJ6, k6⟩
        have fin : ∀ H7 : Hp, Same H H7 → JagAt H rA H7 ys ts → H7 dA = some (.lst (IL (dtU ps (i : Int) j ++ (if p.1 = (i : Int) then [2 * (j : Int)] else []) ++ (if p.2 = (i : Int) then [2 * (j : Int) + 1] else [])))) → H7 dA = some (.lst (IL (dtU ps (i : Int) (j + 1)))) := fun H7 _ _ h => by
          rw [h]
          show _ = some (HO.lst (IL (dtU ps (i : Int) j ++ (if (ps.getD j (0, 0)).1 = (i : Int) then [2 * (j : Int)] else []) ++ (if (ps.getD j (0, 0)).2 = (i : Int) then [2 * (j : Int) + 1] else []))))
          rw [gp]
        refine ⟨_, rfl, tt, _, 1, .int p.2, rfl, rfl, SqT.of (s6 _ _ htt), rfl, _, rfl, rfl, _, rfl, ?_⟩
        rw [dec_int]
        refine itd2 (fun h => ?_) (fun h => ?_)
        · refine ⟨_, rfl, .inl ⟨rfl, _, SqL.of k6⟩, _, rfl, _, _, rfl, rfl, .inl ⟨by decide, by decide⟩, _, _, rfl, rfl, dA, _, _, rfl, rfl, k6, small60' (by rw [il_length, List.length_append]; split <;> simp <;> omega), ?_⟩
          refine ⟨_, _, rfl, same_upd dn0 s6, hjl', hJo dr dfr hJ6, fin _ (same_upd dn0 s6) (hJo dr dfr hJ6) ?_⟩
          rw [upd_same, if_pos h, il_snoc]
        · exact ⟨_, _, rfl, s6, hjl', hJ6, fin _ s6 hJ6 (by rw [if_neg h, List.append_nil]; exact k6)⟩
      rintro σ H4 ⟨w6, w7, rfl, s4, _, hJ4, k4⟩
      rw [hxl] at k4
      -- row
      refine ⟨Nat.zero_le _, fun wA hwA => ?_⟩
      have u5 := same_at (o := .lst []) hwA
      have k5 : (upd H4 wA (.lst [])) wA = some (.lst (IL [])) := upd_same
      have wn0 : H wA = none := s4.free hwA
      have wr : wA ≠ rA := Ne.symm (ne_of_none hJ4.tab hwA)
      have wd : wA ≠ dA := Ne.symm (ne_of_none k4 hwA)
      have wfr := hJ4.fresh hwA
      have hJ5 := hJ4.same u5
      have s5 := s4.trans u5
      have d5 := u5 _ _ k4
      generalize upd H4 wA (.lst []) = H5 at *
      refine nm ?_
      dsimp only
      have dl := dtU_len (ps := ps) (p := (i : Int)) ps.length
      refine contS (fun σ H6 => ∃ (m : Int) (row : List Int), σ = [some (.int n), some (.ref l), some (.int m), some (.ref rA), some (.int i), some (.ref dA), w6, w7, some (.ref wA)] ∧ Same H H6 ∧ JagAt H rA H6 ys ts ∧ H6 wA = some (.lst (IL row)) ∧ row.Perm (dts ps (i : Int))) ?_ ?_
      rotate_left
      · intro Kn hK
        refine ⟨fun mm σ H6 => ∃ (m : Int) (row ds : List Int), σ = [some (.int n), some (.ref l), some (.int m), some (.ref rA), some (.int i), some (.ref dA), w6, w7, some (.ref wA)] ∧ Same H H6 ∧ JagAt H rA H6 ys ts ∧ H6 wA = some (.lst (IL row)) ∧ H6 dA = some (.lst (IL ds)) ∧ (row ++ ds).Perm (dts ps (i : Int)) ∧ mm = ds.length, ⟨_, m, [], dtU ps (i : Int) ps.length, rfl, s5, hJ5, k5, d5, List.Perm.refl _, rfl⟩, ?_⟩
        rintro mm σ H6 ⟨m, row, ds, rfl, s6, hJ6, k6, d6, hpm, rfl⟩
        have pl := hpm.length_eq
        rw [List.length_append] at pl
        have pl2 : (dts ps (i : Int)).length ≤ 2 * ps.length := dl
        refine ⟨_, rfl, dA, _, rfl, .inl (SqL.of d6), _, _, rfl, rfl, _, rfl, ?_⟩
        refine itd2 (fun h => ?_) (fun h => ?_)
        · refine ⟨_, fun σ' H' h => h, ?_⟩
          rw [il_length] at h
          have pos : (0 : Int) < ((IL ds).length : Int) := by rw [il_length]; omega
          refine ⟨_, rfl, m, 50, rfl, by decide, by decide, fun m' _ => ?_⟩
          refine nm ?_
          dsimp only
          have c0 : 0 ≤ m' / 8 % ((IL ds).length : Int) := Int.emod_nonneg _ (by omega)
          have c1 : m' / 8 % ((IL ds).length : Int) < ((IL ds).length : Int) := Int.emod_lt_of_pos _ pos
          obtain ⟨c, hc⟩ : ∃ c : Nat, m' / 8 % ((IL ds).length : Int) = (c : Int) := ⟨(m' / 8 % ((IL ds).length : Int)).toNat, by omega⟩
          rw [hc, il_length] at c1
          obtain ⟨y, hy⟩ : ∃ y, ds[c]? = some y := ⟨_, List.getElem?_eq_getElem (by omega)⟩
          have sq : seqIndex? (m' / 8 % ((IL ds).length : Int)) (IL ds).length = some c := by
            rw [hc]
            unfold seqIndex?
            dsimp only
            rw [if_neg (show ¬ (c : Int) < 0 by omega), if_pos (by rw [il_length]; simp; omega)]
            rfl
          refine ⟨_, rfl, .inl ⟨rfl, _, SqL.of k6⟩, _, rfl, .inl ⟨rfl, _, SqL.of d6⟩, _, rfl, _, _, rfl, rfl, ⟨by decide, by decide⟩, _, rfl, dA, _, rfl, .inl (SqL.of d6), _, _, rfl, rfl, pos, dA, _, _, c, .int y, rfl, rfl, d6, by omega, by omega, sq, il_at hy, ?_⟩
          have ee : (IL ds).eraseIdx c = IL (ds.eraseIdx c) := erase_il75 ..
          rw [ee]
          have k7 : (upd H6 dA (.lst (IL (ds.eraseIdx c)))) wA = some (.lst (IL row)) := by rw [upd_ne wd]; exact k6
          refine ⟨wA, _, _, rfl, rfl, k7, small60' (by rw [il_length]; omega), ?_⟩
          have cl := (List.getElem?_eq_some_iff.mp hy).1
          refine ⟨(ds.eraseIdx c).length, by rw [List.length_eraseIdx_of_lt cl]; omega, m', row ++ [y], ds.eraseIdx c, rfl, same_upd wn0 (same_upd dn0 s6), hJo wr wfr (hJo dr dfr hJ6), by rw [upd_same, il_snoc], by rw [upd_ne (Ne.symm wd)]; exact upd_same, ?_, rfl⟩
          refine List.Perm.trans ?_ hpm
          rw [List.append_assoc]
          refine (List.Perm.refl row).append ?_
          exact erase_perm75 hy
        · have d0 : ds = [] := by
            cases ds with
            | nil => rfl
            | cons x ds => exact absurd (show (0 : Int) < ((IL (x :: ds)).length : Int) by rw [il_length, List.length_cons]; omega) h
          subst d0
          rw [List.append_nil] at hpm
          exact hK _ _ ⟨m, row, rfl, s6, hJ6, k6, hpm⟩
      rintro σ H6 ⟨m', row, rfl, s6, hJ6, k6, hpm⟩
      refine ⟨_, rfl, .inl ⟨rfl, _, SqL.of hJ6.tab⟩, _, rfl, rA, _, _, rfl, rfl, hJ6.tab, small60' (by omega), ?_⟩
      have hJ7 := hJ6.snoc k6 wn0 wr wfr
      refine ⟨m', _, _, _, _, _, ys ++ [.ref wA], ts ++ [row], rfl, same_upd hrA s6, hJ7, by rw [List.length_append, htl]; rfl, fun p rw' e => ?_⟩
      by_cases c : p < ts.length
      · rw [List.getElem?_append_left c] at e
        exact hV.2 p rw' e
      · have lt := (List.getElem?_eq_some_iff.mp e).1
        rw [List.length_append, List.length_singleton] at lt
        have ep : p = i := by omega
        rw [List.getElem?_append_right (by omega), show p - ts.length = 0 by omega] at e
        obtain rfl : row = rw' := Option.some.inj e
        rw [ep]; exact hpm
    rintro σ H2 ⟨m, v4, v5, v6, v7, v8, ys, ts, rfl, s2, hJ, hV⟩
    exact ⟨_, rfl, q rA ys ts H2 s2 hrA hV hJ⟩
end
end My
namespace My
open PySem L2 PyProof.Rows
set_option maxHeartbeats 4000000
theorem ends_at77 {ps : List (Int × Int)} {z : Nat} {p : Int × Int} (h : ps[z]? = some p) : endOf ps (z : Int) = (p.1.toNat, p.2.toNat) := by unfold endOf; rw [Int.toNat_natCast, getD_of h]
theorem lm_map77 (M : List Int) (a b : Nat) : (M.map fun k => if k = mk M b then mk M a else k) = lm M a b := by
  unfold lm
  by_cases c : mk M a ≠ mk M b
  · rw [if_pos c]
  · rw [if_neg c]
    have e : mk M a = mk M b := Classical.not_not.mp c
    refine (List.map_congr_left fun k _ => ?_).trans (List.map_id M)
    show (if k = mk M b then mk M a else k) = k
    split
    · rename_i h; rw [e, h]
    · rfl
/-- whether it lies flat -/
def sp_law_flat (K : PySem.W.Frag) : Sp := fun vs H Q _ => ∃ (l a : Addr) (n : Int) (xs ys : List V) (ps : List (Int × Int)) (ts : List (List Int)), vs = [.int n, .ref l, .ref a] ∧ SqL K H l xs ∧ PairsV H xs ps ∧ GoodW n ps ∧ SqL K H a ys ∧ Bears (ListV H) ys ts ∧ VT n.toNat ps ts ∧
  ∀ (b : Bool) (H' : Hp), Same H H' → (∀ R, RdW ps ts R → (b = true ↔ Flat n ps R)) → Q (.bl b) H'
section
variable {P : Program} {w : World} {K : PySem.W.Frag} {mg : Str → Option Value} {base : Heap} {t : Adr}
theorem sc_law_flat : FnScope ["count", "ties", "turns", "marks", "pair", "low", "high"] ["count", "ties", "turns"] (defScope s_law_flat) := ⟨rfl, rfl, rfl, by decide +kernel, rfl, by decide +kernel, by decide +kernel⟩
theorem ok_law_flat (T : Txt K mg t) : FnOk P w K mg base CX0 3 t.a_law_flat t.d_law_flat ["count", "ties", "turns"] (sp_law_flat K) := by
  refine T.f_law_flat.ok sc_law_flat (fun vs H Q E h => ?_) (fun cdv A outer s H vs Q E hr h => ?_)
  · obtain ⟨l, a, n, xs, ys, ps, ts, rfl, _⟩ := h
    rfl
  · obtain ⟨l, a, n, xs, ys, ps, ts, rfl, hl, hP, hG, ha, hY, hV, q⟩ := h
    refine ⟨_, (pss_cons (ps_set (i := 3) sc_law_flat.nd rfl (Or.inl rfl) (pe_callTy (call_list_rng rfl) (by rfl) T.n_list Boot.«list» (pa_cons (pe_callTy call_rng1 (by rfl) T.n_range Boot.«range» (pa_cons (pv 0) pa_nil)) pa_nil)))
      (pss_cons (ps_for PassesOwn.never rfl (pi_listK K (pv 1)) (pg_name (i := 4) sc_law_flat.nd rfl (Or.inl rfl))
      (pss_cons (ps_set (i := 5) sc_law_flat.nd rfl (Or.inr rfl) (pe_ix (ix_listK K) (pv 3) (pe_ix (ix_tupK K) (pv 4) pe_int (fun _ _ => rfl)) (fun _ _ => rfl)))
      (pss_cons (ps_set (i := 6) sc_law_flat.nd rfl (Or.inr rfl) (pe_ix (ix_listK K) (pv 3) (pe_ix (ix_tupK K) (pv 4) pe_int (fun _ _ => rfl)) (fun _ _ => rfl)))
      (pss_one (ps_lc (i := 3) rfl sc_law_flat.nd rfl rfl (sc0 := defScope s_law_flat) (N0 := ["count", "ties", "turns", "marks", "pair", "low", "high"]) (N' := ["mark", "low", "high"]) (o := 1) (fr := [5, 6]) ⟨rfl, by decide +kernel, by decide +kernel, by decide +kernel, rfl, by decide +kernel⟩ (pi_listK K (pv 3)) (own_name (by decide)) (fun _ _ _ _ => (pg_name (i := 0) (show List.Nodup (["mark", "low", "high"] : List Str) by decide +kernel) rfl (Or.inl rfl))) (fun _ _ _ _ => pts_nil) (fun _ _ _ _ => (pe_ix (ix_listK K) (pe_lst (pa_cons (pv 0) (pa_cons (pv 1) pa_nil))) (pe_callTy call_int1 (by rfl) T.n_int Boot.«int» (pa_cons (pe_cmpR op_eq (pv 0) (pv 2) (nomark _)) pa_nil)) (fun _ _ => rfl))))))))
      (pss_one (ps_ret (pe_and (pe_cmpR op_eq (pe_callB call_len_setI (by rfl) T.n_len Boot.«len» (pa_cons (pe_callTy (call_setK K rfl) (by rfl) T.n_set Boot.«set» (pa_cons (pv 3) pa_nil)) pa_nil)) pe_int (nomark _)) (pe_one (pe_cmpR op_eq (pe_op op_add (pe_op op_sub (pv 0) (pe_callB (call_lenK K) (by rfl) T.n_len Boot.«len» (pa_cons (pv 1) pa_nil))) (pe_callB (call_lenK K) (by rfl) T.n_len Boot.«len» (pa_cons (pe_call (ok_law_rounds T) (hr.mono (by decide)) rfl T.m_law_rounds T.f_law_rounds.kp T.b_law_rounds .nil pass0 (pa_cons (pv 2) pa_nil)) pa_nil))) pe_int (nomark _)))))))), ?_⟩
    have two : 2 ≤ sizeLine := by decide
    obtain ⟨g1, g2, g3, g4⟩ := id hG
    have gg : ∀ p ∈ ps, 0 ≤ p.1 ∧ p.1 < ((n.toNat : Nat) : Int) ∧ 0 ≤ p.2 ∧ p.2 < ((n.toNat : Nat) : Int) := fun p hp => by have := g4 p hp; omega
    have hxl := hP.1
    -- marks
    refine ⟨_, rfl, n, rfl, fun rg hrg => ⟨rg, 0, n, rfl, upd_same, ⟨by decide, by decide, by omega, by omega⟩, by omega, fun h0 hh0 => ?_⟩⟩
    have s1 := same_new (o := .lst ((rngI 0 n).map V.int)) (same_at (o := .rng 0 n) hrg) hh0
    have e0 : (rngI 0 n).map V.int = IL (lms n.toNat (endsOf ps (rgL 0))) := by rw [rngI_zero]; rfl
    have k1 : (upd (upd H rg (.rng 0 n)) h0 (.lst ((rngI 0 n).map V.int))) h0 = some (.lst (IL (lms n.toNat (endsOf ps (rgL 0))))) := by rw [← e0]; exact upd_same
    generalize upd (upd H rg (.rng 0 n)) h0 (.lst ((rngI 0 n).map V.int)) = H1 at *
    refine nm ?_
    dsimp only
    refine ⟨_, rfl, l, rfl, ⟨_, s1.seq hl⟩, for_list (K := K) (a := l) (xs := xs) (fun i σ H2 => ∃ (mA : Addr) (v4 v5 v6 : Option V), σ = [some (.int n), some (.ref l), some (.ref a), some (.ref mA), v4, v5, v6] ∧ Same H H2 ∧ H2 mA = some (.lst (IL (lms n.toNat (endsOf ps (rgL i)))))) ⟨h0, none, none, none, rfl, s1, k1⟩ (fun i σ H2 _ ⟨_, _, _, _, _, e, _⟩ => e.seq hl) ?_ ?_⟩
    · rintro i v σ H2 hi ⟨mA, v4, v5, v6, rfl, s2, k2⟩
      obtain ⟨p, hp, tt, rfl, htt⟩ := hP.at hi
      obtain ⟨e1, e2, e3, e4⟩ := g4 p (List.mem_of_getElem? hp)
      have htt2 := s2 _ _ htt
      have lL : (lms n.toNat (endsOf ps (rgL i))).length = n.toNat := lms_length _ _
      have lsn : lms n.toNat (endsOf ps (rgL (i + 1))) = lm (lms n.toNat (endsOf ps (rgL i))) p.1.toNat p.2.toNat := by rw [rgL_succ, ends_snoc, ends_at77 hp, lms_snoc]
      generalize lms n.toNat (endsOf ps (rgL i)) = M at *
      have m1 : M[p.1.toNat]? = some (mk M p.1.toNat) := by
        have : p.1.toNat < M.length := by omega
        unfold mk
        rw [List.getD_eq_getElem?_getD, List.getElem?_eq_getElem this]
        rfl
      have m2 : M[p.2.toNat]? = some (mk M p.2.toNat) := by
        have : p.2.toNat < M.length := by omega
        unfold mk
        rw [List.getD_eq_getElem?_getD, List.getElem?_eq_getElem this]
        rfl
      refine nm ?_
      dsimp only
      refine ⟨_, rfl, _, rfl, tt, _, 0, .int p.1, rfl, rfl, SqT.of htt2, rfl, mA, _, _, .int (mk M p.1.toNat), rfl, rfl, SqL.of k2, atI_of (n := p.1.toNat) (by omega) (il_at m1), ?_⟩
      refine nm ?_
      dsimp only
      refine ⟨_, rfl, _, rfl, tt, _, 1, .int p.2, rfl, rfl, SqT.of htt2, rfl, mA, _, _, .int (mk M p.2.toNat), rfl, rfl, SqL.of k2, atI_of (n := p.2.toNat) (by omega) (il_at m2), ?_⟩
      refine nm ?_
      dsimp only
      refine ⟨_, rfl, mA, rfl, ⟨_, SqL.of k2⟩, lc_list (K := K) (a := mA) (xs := IL M) (fun w us H6 => Same H2 H6 ∧ w ≤ M.length ∧ us = IL ((M.take w).map fun k => if k = mk M p.2.toNat then mk M p.1.toNat else k)) ⟨Same.refl _, Nat.zero_le _, rfl⟩ (small60' (by rw [il_length]; omega)) (fun w us H6 hw ⟨e, hw2, ey⟩ => ⟨SqL.of (e _ _ k2), by rw [ey, il_length, List.length_map, List.length_take]; omega⟩) ?_ ?_⟩
      · rintro w v us H6 hw ⟨x3, hwl, rfl⟩ S hSS
        obtain ⟨y, rfl, hy⟩ := il_get hw
        have hwl' := (List.getElem?_eq_some_iff.mp hy).1
        refine nm ?_
        refine ⟨_, rfl, _, rfl, two, fun lp hlp => ?_⟩
        have x4 := same_at (o := .lst [.int y, .int (mk M p.1.toNat)]) hlp
        refine ⟨_, rfl, _, rfl, rfl, .inr ⟨_, rfl, ?_⟩⟩
        rw [dec_int]
        have app : ∀ v : Int, v = (if y = mk M p.2.toNat then mk M p.1.toNat else y) → IL ((M.take w).map fun k => if k = mk M p.2.toNat then mk M p.1.toNat else k) ++ [.int v] = IL ((M.take (w + 1)).map fun k => if k = mk M p.2.toNat then mk M p.1.toNat else k) := fun v hv => by
          rw [List.take_succ, hy, List.map_append, hv]
          exact (il_snoc _ _).symm
        by_cases hc : y = mk M p.2.toNat
        · rw [decide_eq_true hc]
          exact ⟨lp, _, 1, .int (mk M p.1.toNat), rfl, rfl, SqL.of upd_same, rfl, hSS _ _ ⟨x3.trans x4, hwl', app _ (by rw [if_pos hc])⟩⟩
        · rw [decide_eq_false hc]
          exact ⟨lp, _, 0, .int y, rfl, rfl, SqL.of upd_same, rfl, hSS _ _ ⟨x3.trans x4, hwl', app _ (by rw [if_neg hc])⟩⟩
      rintro us H6 ⟨x3, _, rfl⟩ la hla
      rw [il_length, List.take_length, lm_map77, ← lsn]
      exact ⟨la, _, _, _, rfl, s2.trans (x3.trans (same_at hla)), upd_same⟩
    rintro σ H2 ⟨mA, v4, v5, v6, rfl, s2, k2⟩
    rw [hxl] at k2
    have hY2 : Bears (ListV H2) ys ts := hY.imp fun _ _ ⟨r, e, h⟩ => ⟨r, e, s2 _ _ h⟩
    have hin := ends_in hG (rgL_set ps.length).all
    have hsn := seen_conn (n := n.toNat) (by omega) hin
    have lL : (lms n.toNat (endsOf ps (rgL ps.length))).length = n.toNat := lms_length _ _
    have sp1 := seen_pos (L := lms n.toNat (endsOf ps (rgL ps.length))) (by omega)
    have sl1 : (L2.seen (lms n.toNat (endsOf ps (rgL ps.length)))).length ≤ (lms n.toNat (endsOf ps (rgL ps.length))).length := PyProof.Rows.firstMet_length_le _ _
    refine ⟨_, rfl, mA, _, rfl, SqL.of k2, by rw [lL]; show n.toNat + 1 < 4096; omega, fun st hst => ?_⟩
    have u4 := same_at (o := .set (fun k => (L2.seen (lms n.toNat (endsOf ps (rgL ps.length)))).any (· == k)) (L2.seen (lms n.toNat (endsOf ps (rgL ps.length)))).length) hst
    refine ⟨st, _, _, rfl, upd_same, by omega, rfl, _, rfl, ?_⟩
    rw [dec_int]
    have s04 := s2.trans u4
    have hY4 : Bears (ListV (upd H2 st (.set (fun k => (L2.seen (lms n.toNat (endsOf ps (rgL ps.length)))).any (· == k)) (L2.seen (lms n.toNat (endsOf ps (rgL ps.length)))).length))) ys ts := hY2.imp fun _ _ ⟨r, e, h⟩ => ⟨r, e, u4 _ _ h⟩
    generalize upd H2 st (.set (fun k => (L2.seen (lms n.toNat (endsOf ps (rgL ps.length)))).any (· == k)) (L2.seen (lms n.toNat (endsOf ps (rgL ps.length)))).length) = H4 at *
    refine itd2 (fun hgt => ?_) (fun hle => ?_)
    rotate_left
    · refine q false H4 s04 fun R0 _ => ⟨fun h => (by cases h), fun hF => ?_⟩
      have := hsn.mpr hF.1
      omega
    have hjn : Joined n ps := hsn.mp (by omega)
    refine ⟨_, rfl, _, rfl, l, xs, rfl, .inl (s04.seq hl), _, _, rfl, rfl, _, rfl, a, n.toNat, ps, ys, ts, rfl, s04.seq ha, hY4, hV, gg, g3, fun rA zs R2 H5 s5 hr0 hR hJ => ?_⟩
    have hzl := hJ.rows.1
    refine ⟨rA, _, rfl, .inl (SqL.of hJ.tab), _, _, rfl, rfl, rfl, ?_⟩
    rw [dec_int, hxl, hzl]
    refine q _ H5 (s04.trans s5) fun R hR' => ?_
    obtain rfl : R = R2 := hR'.uniq hV hR
    exact ⟨fun h => ⟨hjn, of_decide_eq_true h⟩, fun h => decide_eq_true h.2⟩
end
end My
namespace My
open PySem L2 PyProof.Rows
set_option maxHeartbeats 4000000
/-- two darts of one row exchanged -/
def sp_law_exchanged (K : PySem.W.Frag) : Sp := fun vs H Q _ => ∃ (a : Addr) (m : Int) (n : Nat) (xs : List V) (ps : List (Int × Int)) (ts : List (List Int)), vs = [.ref a, .int m] ∧ SqL K H a xs ∧ Bears (ListV H) xs ts ∧ VT n ps ts ∧ 1 ≤ n ∧ n ≤ 100 ∧ (∀ r ∈ ts, r.length ≤ 1000) ∧ 0 ≤ m ∧
  ∀ (r : Addr) (ys : List V) (ts' : List (List Int)) (H' : Hp), Same H H' → H' r = some (.lst ys) → Bears (ListV H') ys ts' → VT n ps ts' → Q (.ref r) H'
section
variable {P : Program} {w : World} {K : PySem.W.Frag} {mg : Str → Option Value} {base : Heap} {t : Adr}
theorem sc_law_exchanged : FnScope ["turns", "m", "told", "row", "one", "other", "kept"] ["turns", "m"] (defScope s_law_exchanged) := ⟨rfl, rfl, rfl, by decide +kernel, rfl, by decide +kernel, by decide +kernel⟩
theorem ok_law_exchanged (T : Txt K mg t) : FnOk P w K mg base CX0 3 t.a_law_exchanged t.d_law_exchanged ["turns", "m"] (sp_law_exchanged K) := by
  refine T.f_law_exchanged.ok sc_law_exchanged (fun vs H Q E h => ?_) (fun cdv A outer s H vs Q E hr h => ?_)
  · obtain ⟨a, m, n, xs, ps, ts, rfl, _⟩ := h
    rfl
  · obtain ⟨a, m, n, xs, ps, ts, rfl, ha, hX, hV, n1, n100, rl, m0, q⟩ := h
    refine ⟨_, (pss_cons (ps_lc (i := 2) rfl sc_law_exchanged.nd rfl rfl (sc0 := defScope s_law_exchanged) (N0 := ["turns", "m", "told", "row", "one", "other", "kept"]) (N' := ["row"]) (o := 1) (fr := []) ⟨rfl, by decide +kernel, by decide +kernel, by decide +kernel, rfl, by decide +kernel⟩ (pi_listK K (pv 0)) (own_name (by decide)) (fun _ _ _ _ => (pg_name (i := 0) (show List.Nodup (["row"] : List Str) by decide +kernel) rfl (Or.inl rfl))) (fun _ _ _ _ => pts_nil) (fun _ _ _ _ => (pe_callTy (call_listK K) (by rfl) T.n_list Boot.«list» (pa_cons (pv 0) pa_nil))))
      (pss_cons (ps_set (i := 3) sc_law_exchanged.nd rfl (Or.inl rfl) (pe_ix (ix_listK K) (pv 2) (pe_op op_mod (pe_op op_fdiv (pv 1) pe_int) (pe_callB (call_lenK K) (by rfl) T.n_len Boot.«len» (pa_cons (pv 2) pa_nil))) (fun _ _ => rfl)))
      (pss_cons (ps_if (pt_cmpR op_gt (pe_callB (call_lenK K) (by rfl) T.n_len Boot.«len» (pa_cons (pv 3) pa_nil)) pe_int (nomark _))
      (pss_cons (ps_set (i := 4) sc_law_exchanged.nd rfl (Or.inl rfl) (pe_op op_mod (pe_op op_fdiv (pv 1) pe_int) (pe_callB (call_lenK K) (by rfl) T.n_len Boot.«len» (pa_cons (pv 3) pa_nil))))
      (pss_cons (ps_set (i := 5) sc_law_exchanged.nd rfl (Or.inl rfl) (pe_op op_mod (pe_op op_fdiv (pv 1) (pe_op op_pow pe_int pe_int)) (pe_callB (call_lenK K) (by rfl) T.n_len Boot.«len» (pa_cons (pv 3) pa_nil))))
      (pss_cons (ps_set (i := 6) sc_law_exchanged.nd rfl (Or.inl rfl) (pe_ix (ix_listK K) (pv 3) (pv 4) (fun _ _ => rfl)))
      (pss_cons (ps_asg (pe_ix (ix_listK K) (pv 3) (pv 5) (fun _ _ => rfl)) (pg_sub (pv 3) (pv 4) set_list))
      (pss_one (ps_asg (pv 6) (pg_sub (pv 3) (pv 5) set_list)))))))
      pss_nil)
      (pss_one (ps_ret (pv 2)))))), ?_⟩
    have hxl := hX.1
    have htl := hV.1
    -- told
    refine ⟨_, rfl, a, rfl, ⟨_, ha⟩, lc_list (K := K) (a := a) (xs := xs) (fun i us H2 => Same H H2 ∧ i ≤ xs.length ∧ Bears (ListV H2) us (ts.take i) ∧ us.Nodup ∧ ∀ A, V.ref A ∈ us → H A = none ∧ ∃ o, H2 A = some o) ⟨Same.refl _, Nat.zero_le _, ⟨rfl, fun i l e => by simp at e⟩, .nil, fun A h => (by cases h)⟩ (small60' (by omega)) (fun i us H2 _ ⟨e, hi, h, _⟩ => ⟨e.seq ha, by rw [h.1, List.length_take]; omega⟩) ?_ ?_⟩
    · rintro i v us H2 hi ⟨s2, hil, hU, hnd, hnew⟩ S hSS
      obtain ⟨r0, hr0, r, rfl, hr'⟩ := hX.at hi
      have hil' := (List.getElem?_eq_some_iff.mp hi).1
      refine nm ?_
      refine ⟨_, rfl, r, _, rfl, .inl (SqL.of (s2 _ _ hr')), fun c hc => hSS _ _ ⟨s2.trans (same_at hc), hil', ?_, ?_, fun A hA' => ?_⟩⟩
      · rw [List.take_succ, hr0]
        exact (hU.imp fun _ _ ⟨r', e, h⟩ => ⟨r', e, same_at hc _ _ h⟩).snoc ⟨c, rfl, upd_same⟩
      · refine nd_snoc hnd fun hm => ?_
        obtain ⟨_, o, ho⟩ := hnew c hm
        rw [hc] at ho
        cases ho
      · rcases List.mem_append.mp hA' with e | e
        · obtain ⟨a1, o, a2⟩ := hnew A e
          exact ⟨a1, o, same_at hc _ _ a2⟩
        · have : A = c := by simpa using e
          rw [this]
          exact ⟨s2.free hc, _, upd_same⟩
    rintro us H2 ⟨s2, _, hU, hnd, hnew⟩ rA hrA
    rw [hxl, List.take_length] at hU
    have u3 := same_at (o := .lst us) hrA
    have rn0 : H rA = none := s2.free hrA
    have hJ : JagAt H rA (upd H2 rA (.lst us)) us ts := ⟨upd_same, hU.imp fun _ _ ⟨r', e, h⟩ => ⟨r', e, u3 _ _ h, ne_of_none h hrA⟩, hnd, fun A hA' => (hnew A hA').1⟩
    have s3 := s2.trans u3
    generalize upd H2 rA (.lst us) = H3 at *
    refine nm ?_
    dsimp only
    have hul := hJ.rows.1
    have upos : (0 : Int) < (us.length : Int) := by omega
    -- row
    have a0 : 0 ≤ m / 8 % (us.length : Int) := Int.emod_nonneg _ (by omega)
    have a1 : m / 8 % (us.length : Int) < (us.length : Int) := Int.emod_lt_of_pos _ upos
    obtain ⟨p, hp⟩ : ∃ p : Nat, m / 8 % (us.length : Int) = (p : Int) := ⟨(m / 8 % (us.length : Int)).toNat, by omega⟩
    obtain ⟨B, row, y1, z1, hB, hB0, hBr⟩ := hJ.at (i := p) (by omega)
    have rowl := rl row (List.mem_of_getElem? z1)
    refine ⟨_, rfl, _, rfl, _, _, rfl, rfl, ⟨by decide, by decide⟩, _, rfl, rA, _, rfl, .inl (SqL.of hJ.tab), _, _, rfl, rfl, upos, rA, _, _, .ref B, rfl, rfl, SqL.of hJ.tab, atI_of (n := p) hp y1, ?_⟩
    refine nm ?_
    dsimp only
    have ilr : (IL row).length = row.length := il_length row
    refine contS (fun σ H5 => ∃ (ts' : List (List Int)) (v4 v5 v6 : Option V), σ = [some (.ref a), some (.int m), some (.ref rA), some (.ref B), v4, v5, v6] ∧ Same H H5 ∧ JagAt H rA H5 us ts' ∧ VT n ps ts') ?_ ?_
    · rintro σ H5 ⟨ts', v4, v5, v6, rfl, s5, hJ5, hV5⟩
      exact ⟨_, rfl, q rA us ts' H5 s5 hJ5.tab hJ5.lists hV5⟩
    intro Kn hK
    refine ⟨_, rfl, B, _, rfl, .inl (SqL.of hB), _, _, rfl, rfl, _, rfl, ?_⟩
    refine itd2 (fun hgt => ?_) (fun _ => hK _ _ ⟨ts, _, _, _, rfl, s3, hJ, hV⟩)
    have posR : (0 : Int) < ((IL row).length : Int) := by omega
    have d0 : 0 ≤ m / 1000 % ((IL row).length : Int) := Int.emod_nonneg _ (by omega)
    have d1 : m / 1000 % ((IL row).length : Int) < ((IL row).length : Int) := Int.emod_lt_of_pos _ posR
    obtain ⟨c, hc⟩ : ∃ c : Nat, m / 1000 % ((IL row).length : Int) = (c : Int) := ⟨(m / 1000 % ((IL row).length : Int)).toNat, by omega⟩
    have cl : c < row.length := by omega
    obtain ⟨y, hy⟩ : ∃ y, row[c]? = some y := ⟨_, List.getElem?_eq_getElem cl⟩
    have e0 : 0 ≤ m / 10 ^ (6 : Int).toNat % ((IL row).length : Int) := Int.emod_nonneg _ (by omega)
    have e1 : m / 10 ^ (6 : Int).toNat % ((IL row).length : Int) < ((IL row).length : Int) := Int.emod_lt_of_pos _ posR
    obtain ⟨d, hd⟩ : ∃ d : Nat, m / 10 ^ (6 : Int).toNat % ((IL row).length : Int) = (d : Int) := ⟨(m / 10 ^ (6 : Int).toNat % ((IL row).length : Int)).toNat, by omega⟩
    have dl : d < row.length := by omega
    obtain ⟨z, hz⟩ : ∃ z, row[d]? = some z := ⟨_, List.getElem?_eq_getElem dl⟩
    refine ⟨_, rfl, _, _, rfl, rfl, ⟨by decide, by decide⟩, _, rfl, B, _, rfl, .inl (SqL.of hB), _, _, rfl, rfl, posR, ?_⟩
    refine nm ?_
    dsimp only
    refine ⟨_, rfl, _, _, rfl, rfl, ⟨by decide, by decide, by decide⟩, _, _, rfl, rfl, ⟨by decide, by decide⟩, _, rfl, B, _, rfl, .inl (SqL.of hB), _, _, rfl, rfl, posR, ?_⟩
    refine nm ?_
    dsimp only
    have ix : ∀ (i : Int) (c : Nat), i = (c : Int) → c < row.length → ixN (IL row).length i = some c := fun i c hc cl => by
      rw [hc]
      unfold ixN
      rw [if_pos (by omega), if_pos (by omega)]
      rfl
    refine ⟨_, rfl, _, rfl, B, _, _, .int y, rfl, rfl, SqL.of hB, atI_of (n := c) hc (il_at hy), ?_⟩
    refine nm ?_
    dsimp only
    refine ⟨_, rfl, _, rfl, B, _, _, .int z, rfl, rfl, SqL.of hB, atI_of (n := d) hd (il_at hz), _, rfl, _, rfl, B, _, _, c, rfl, rfl, hB, ix _ c hc cl, ?_⟩
    have es : (IL row).set c (.int z) = IL (row.set c z) := (List.map_set ..).symm
    rw [es]
    have hJ4 := hJ.put (l' := row.set c z) y1 z1 hBr
    have hB4 : (upd H3 B (.lst (IL (row.set c z)))) B = some (.lst (IL (row.set c z))) := upd_same
    have s4 : Same H (upd H3 B (.lst (IL (row.set c z)))) := same_upd hB0 s3
    generalize upd H3 B (.lst (IL (row.set c z))) = H4 at *
    have ix2 : ixN (IL (row.set c z)).length (m / 10 ^ (6 : Int).toNat % ((IL row).length : Int)) = some d := by
      rw [il_length, List.length_set, ← ilr]
      exact ix _ d hd dl
    refine ⟨_, rfl, _, rfl, _, rfl, B, _, _, d, rfl, rfl, hB4, ix2, ?_⟩
    have es2 : (IL (row.set c z)).set d (.int y) = IL ((row.set c z).set d y) := (List.map_set ..).symm
    rw [es2]
    have pl : p < ts.length := (List.getElem?_eq_some_iff.mp z1).1
    have z2 : (ts.set p (row.set c z))[p]? = some (row.set c z) := by rw [List.getElem?_set, if_pos rfl, if_pos pl]
    have hJ5 := hJ4.put (l' := (row.set c z).set d y) y1 z2 hBr
    rw [List.set_set] at hJ5
    exact hK _ _ ⟨_, _, _, _, rfl, same_upd hB0 s4, hJ5, vt_swap hV z1 (swap_perm row hy hz)⟩
end
end My
namespace My
open PySem L2 PyProof.Rows
set_option maxHeartbeats 4000000
def sp_law_good (K : PySem.W.Frag) : Sp := fun vs H Q _ => ∃ (l a : Addr) (n : Int) (b : Bool) (xs ys : List V) (ps : List (Int × Int)) (ts : List (List Int)), vs = [.int n, .ref l, .ref a, .bl b] ∧ SqL K H l xs ∧ PairsV H xs ps ∧ GoodW n ps ∧ SqL K H a ys ∧ Bears (ListV H) ys ts ∧ VT n.toNat ps ts ∧ (∀ R, RdW ps ts R → (b = true ↔ Flat n ps R)) ∧ ∀ H' : Hp, Same H H' → Q (.bl true) H'
section
variable {P : Program} {w : World} {K : PySem.W.Frag} {mg : Str → Option Value} {base : Heap} {t : Adr}
theorem sc_law_good : FnScope ["count", "ties", "turns", "due", "handed", "found"] ["count", "ties", "turns", "due"] (defScope s_law_good) := ⟨rfl, rfl, rfl, by decide +kernel, rfl, by decide +kernel, by decide +kernel⟩
theorem ok_law_good (T : Txt K mg t) : FnOk P w K mg base CX0 9 t.a_law_good t.d_law_good ["count", "ties", "turns", "due"] (sp_law_good K) := by
  refine T.f_law_good.ok sc_law_good (fun vs H Q E h => ?_) (fun cdv A outer s H vs Q E hr h => ?_)
  · obtain ⟨l, a, n, b, xs, ys, ps, ts, rfl, _⟩ := h
    rfl
  · obtain ⟨l, a, n, b, xs, ys, ps, ts, rfl, hl, hP, hG, ha, hY, hV, hb, q⟩ := h
    refine ⟨_, (pss_cons (ps_lc (i := 4) rfl sc_law_good.nd rfl rfl (sc0 := defScope s_law_good) (N0 := ["count", "ties", "turns", "due", "handed", "found"]) (N' := ["row"]) (o := 1) (fr := []) ⟨rfl, by decide +kernel, by decide +kernel, by decide +kernel, rfl, by decide +kernel⟩ (pi_listK K (pv 2)) (own_name (by decide)) (fun _ _ _ _ => (pg_name (i := 0) (show List.Nodup (["row"] : List Str) by decide +kernel) rfl (Or.inl rfl))) (fun _ _ _ _ => pts_nil) (fun _ _ _ _ => (pe_callTy (call_listK K) (by rfl) T.n_list Boot.«list» (pa_cons (pv 0) pa_nil))))
      (pss_cons (ps_set (i := 5) sc_law_good.nd rfl (Or.inl rfl) (pe_call (ok_lies_flat T) (hr.mono (by decide)) rfl T.m_lies_flat T.f_lies_flat.kp T.b_lies_flat .nil passN (pa_cons (pe_make T.k_Web (ok_Web___init T) (hr.mono (by decide)) rfl T.c_Web T.b_Web___init .nil passN (pa_cons (pv 0) (pa_cons (pv 1) pa_nil))) (pa_cons (pv 4) pa_nil))))
      (pss_one (ps_ret (pe_and (pe_callB (call_isiK K (T := "bool")) (by rfl) T.n_isinstance Boot.«isinstance» (pa_cons (pv 5) (pa_cons (pe_bltn (v := V.ty "bool") rfl T.n_bool Boot.«bool» rfl) pa_nil))) (pe_and (pe_cmpR op_eq (pv 5) (pv 3) (nomark _)) (pe_one (pe_cmpR (op_eqDK K (hu8 hr)) (pv 4) (pv 2) (nomark _))))))))), ?_⟩
    obtain ⟨g1, g2, g3, g4⟩ := id hG
    have htl := hV.1
    have hyl := hY.1
    have rl : ∀ r ∈ ts, r.length < 64 := fun r hr => by
      have := nd_few (nd_row hV hr) (M := 2 * ps.length) fun x hx => by have := hV.in hr hx; omega
      omega
    -- handed
    refine ⟨_, rfl, a, rfl, ⟨_, ha⟩, lc_list (K := K) (a := a) (xs := ys) (fun i us H2 => Same H H2 ∧ i ≤ ys.length ∧ Bears (ListV H2) us (ts.take i)) ⟨Same.refl _, Nat.zero_le _, ⟨rfl, fun i l e => by simp at e⟩⟩ (small60' (by omega)) (fun i us H2 _ ⟨e, hi, h⟩ => ⟨e.seq ha, by rw [h.1, List.length_take]; omega⟩) ?_ ?_⟩
    · rintro i v us H2 hi ⟨s2, hil, hU⟩ S hSS
      obtain ⟨r0, hr0, r, rfl, hr'⟩ := hY.at hi
      have hil' := (List.getElem?_eq_some_iff.mp hi).1
      refine nm ?_
      refine ⟨_, rfl, r, _, rfl, .inl (SqL.of (s2 _ _ hr')), fun c hc => hSS _ _ ⟨s2.trans (same_at hc), hil', ?_⟩⟩
      rw [List.take_succ, hr0]
      exact (hU.imp fun _ _ ⟨r', e, h⟩ => ⟨r', e, same_at hc _ _ h⟩).snoc ⟨c, rfl, upd_same⟩
    rintro us H2 ⟨s2, _, hU⟩ hA hhA
    rw [hyl, List.take_length] at hU
    have u3 := same_at (o := .lst us) hhA
    have k3 : (upd H2 hA (.lst us)) hA = some (.lst us) := upd_same
    have hU3 : Bears (ListV (upd H2 hA (.lst us))) us ts := hU.imp fun _ _ ⟨r', e, h⟩ => ⟨r', e, u3 _ _ h⟩
    have s03 := s2.trans u3
    generalize upd H2 hA (.lst us) = H3 at *
    clear hU
    refine nm ?_
    dsimp only
    -- web
    refine ⟨_, rfl, _, rfl, ?_⟩
    intro x dx nx ndx nex
    have t1 : Same H3 (upd (upd H3 dx (.own x)) x (.ins t.A_Web dx [])) := same_new (same_at ndx) (by rw [upd_ne (Ne.symm nex)]; exact nx)
    refine ⟨x, dx, n, l, false, xs, ps, rfl, upd_same, fun o => ?_, (hP.same s03).same t1, fun p hp => by have := g4 p hp; omega, fun _ H4 hW' k4 => ⟨rfl, ?_⟩, fun h => absurd hG h⟩
    · exact (same_upd nx t1).seq (s03.seq hl)
    have hW := hW'.web
    have s34 : Same H3 H4 := fun b o e => k4 b o (t1 b o e) (ne_of_none e nx)
    have s04 := s03.trans s34
    refine ⟨_, rfl, x, hA, false, n, ps, us, ts, rfl, hW, hG, SqL.of (s34 _ _ k3), hU3.imp (fun _ _ ⟨r', e, h⟩ => ⟨r', false, e, SqL.of (s34 _ _ h)⟩), by omega, rl, fun _ bb R H5 s5 hR hbb => ?_, fun h => absurd hV h⟩
    refine nm ?_
    dsimp only
    have s05 := s04.trans s5
    have hbe : bb = b := by
      have h1 := hb R hR
      cases b <;> cases bb <;> simp_all
    subst hbe
    refine ⟨_, rfl, _, _, _, rfl, TyOf.bl _, kit_same, _, rfl, ?_⟩
    refine iteT ?_
    refine ⟨_, rfl, _, rfl, rfl, _, rfl, ?_⟩
    rw [dec_bl, decide_eq_true rfl]
    refine iteT ?_
    have s35 := s34.trans s5
    refine ⟨_, rfl, _, rfl, 2, _, hA, a, rfl, rfl, by decide, eqd_llints (SqL.of (s35 _ _ k3)) (s05.seq ha) (hU3.imp fun _ _ ⟨r', e, h⟩ => ⟨r', e, s35 _ _ h⟩) (hY.imp fun _ _ ⟨r', e, h⟩ => ⟨r', e, s05 _ _ h⟩), ?_⟩
    rw [decide_eq_true rfl]
    exact q _ s05
end
end My
namespace My
open PySem L2 PyProof.Rows
set_option maxHeartbeats 4000000
def sp_law (K : PySem.W.Frag) : Sp := fun vs H Q _ => ∃ (a : Addr) (ns : List Int), vs = [.ref a] ∧ SqL K H a (IL ns) ∧ ns.length ≤ 63 ∧ ∀ H', Q (.bl true) H'
theorem not_far {n m : Int} {ps : List (Int × Int)} (hG : GoodW n ps) (hn : n < m) : ¬ Joined m ps := fun h => by
  have hin := ends_in hG (rgL_set ps.length).all
  have g1 := hG.1
  have := (conn_lt hin (h 0 n.toNat (by omega) (by omega))).mp (by omega)
  omega
section
variable {P : Program} {w : World} {K : PySem.W.Frag} {mg : Str → Option Value} {base : Heap} {t : Adr}
theorem sc_law : FnScope ["script", "m", "count", "ties", "turns", "turn", "other"] ["script"] (defScope s_law) := ⟨rfl, rfl, rfl, by decide +kernel, rfl, by decide +kernel, by decide +kernel⟩
theorem ok_law (T : Txt K mg t) : FnOk P w K mg base CX0 10 t.a_law t.d_law ["script"] (sp_law K) := by
  refine T.f_law.ok sc_law (fun vs H Q E h => ?_) (fun cdv A outer s H vs Q E hr h => ?_)
  · obtain ⟨a, ns, rfl, _⟩ := h
    rfl
  · obtain ⟨a, ns, rfl, hS, hn63, k⟩ := h
    refine ⟨_, (@pss_cons _ _ _ _ _ (ps_set (i := 1) sc_law.nd rfl (Or.inl rfl) (pe_call (ok_law_mixed T) (hr.mono (by decide)) rfl T.m_law_mixed T.f_law_mixed.kp T.b_law_mixed .nil pass0 (pa_cons (@pe_op _ _ _ _ _ _ _ _ op_add (@pe_op _ _ _ _ _ _ _ _ op_mod (pe_call (ok_law_at T) (hr.mono (by decide)) rfl T.m_law_at T.f_law_at.kp T.b_law_at .nil pass0 (pa_cons (pv 0) (pa_cons pe_int pa_nil))) (@pe_op _ _ _ _ _ _ _ _ op_pow pe_int pe_int)) (pe_callB (call_lenK K) (by rfl) T.n_len Boot.«len» (pa_cons (pv 0) pa_nil))) (pa_cons pe_int pa_nil))))
      (@pss_cons _ _ _ _ _ (ps_set (i := 2) sc_law.nd rfl (Or.inl rfl) (@pe_op _ _ _ _ _ _ _ _ op_add pe_int (@pe_op _ _ _ _ _ _ _ _ op_mod (pe_call (ok_law_at T) (hr.mono (by decide)) rfl T.m_law_at T.f_law_at.kp T.b_law_at .nil pass0 (pa_cons (pv 0) (pa_cons pe_int pa_nil))) pe_int)))
      (@pss_cons _ _ _ _ _ (ps_set (i := 3) sc_law.nd rfl (Or.inl rfl) (pe_call (ok_law_ties T) (hr.mono (by decide)) rfl T.m_law_ties T.f_law_ties.kp T.b_law_ties .nil pass0 (pa_cons (pv 0) (pa_cons (pv 2) (pa_cons pe_int pa_nil)))))
      (@pss_cons _ _ _ _ _ (ps_set (i := 4) sc_law.nd rfl (Or.inl rfl) (pe_call (ok_law_any_turns T) (hr.mono (by decide)) rfl T.m_law_any_turns T.f_law_any_turns.kp T.b_law_any_turns .nil pass0 (pa_cons (pv 2) (pa_cons (pv 3) (pa_cons (pv 1) pa_nil)))))
      (@pss_cons _ _ _ _ _ (@ps_if _ _ _ _ _ _ _ _ (pt_not (pt_val (pe_call (ok_law_good T) (hr.mono (by decide)) rfl T.m_law_good T.f_law_good.kp T.b_law_good .nil pass0 (pa_cons (pv 2) (pa_cons (pv 3) (pa_cons (pv 4) (pa_cons (pe_call (ok_law_flat T) (hr.mono (by decide)) rfl T.m_law_flat T.f_law_flat.kp T.b_law_flat .nil pass0 (pa_cons (pv 2) (pa_cons (pv 3) (pa_cons (pv 4) pa_nil)))) pa_nil)))))))
      (@pss_one _ _ _ (@ps_ret _ _ _ _ pe_bl))
      pss_nil)
      (@pss_cons _ _ _ _ _ (ps_asg (pe_call (ok_law_map T) (hr.mono (by decide)) rfl T.m_law_map T.f_law_map.kp T.b_law_map .nil pass0 (pa_cons (pv 0) pa_nil)) (pg_tupK (n := 3) K rfl (pgs_cons (pg_name (i := 2) sc_law.nd rfl (Or.inl rfl)) (pgs_cons (pg_name (i := 3) sc_law.nd rfl (Or.inl rfl)) (pgs_cons (pg_name (i := 4) sc_law.nd rfl (Or.inl rfl)) pgs_nil)))))
      (@pss_cons _ _ _ _ _ (@ps_if _ _ _ _ _ _ _ _ (PW.pt (pw_or (pt_not (pt_val (pe_call (ok_law_good T) (hr.mono (by decide)) rfl T.m_law_good T.f_law_good.kp T.b_law_good .nil pass0 (pa_cons (pv 2) (pa_cons (pv 3) (pa_cons (pv 4) (pa_cons pe_bl pa_nil))))))) (pw_or1 (pt_not (pt_val (pe_call (ok_law_good T) (hr.mono (by decide)) rfl T.m_law_good T.f_law_good.kp T.b_law_good .nil pass0 (pa_cons (@pe_op _ _ _ _ _ _ _ _ op_add (pv 2) pe_int) (pa_cons (pv 3) (pa_cons (@pe_op _ _ _ _ _ _ _ _ op_cat (pv 4) (@pe_lst1 _ _ _ _ (pe_lst pa_nil) rfl)) (pa_cons pe_bl pa_nil))))))))))
      (@pss_one _ _ _ (@ps_ret _ _ _ _ pe_bl))
      pss_nil)
      (@pss_cons _ _ _ _ _ (@ps_if _ _ _ _ _ _ _ _ (pt_not (pt_val (pe_call (ok_law_good T) (hr.mono (by decide)) rfl T.m_law_good T.f_law_good.kp T.b_law_good .nil pass0 (pa_cons pe_int (pa_cons (@pe_lst2 _ _ _ _ _ _ (@pe_tup2 _ _ _ _ _ _ _ pe_int pe_int rfl rfl) (@pe_tup2 _ _ _ _ _ _ _ pe_int pe_int rfl rfl) rfl rfl) (pa_cons (pe_lst (pa_cons (pe_lst (pa_cons pe_int (pa_cons pe_int (pa_cons pe_int (pa_cons pe_int pa_nil))))) (pa_cons (pe_lst pa_nil) (pa_cons (pe_lst pa_nil) pa_nil)))) (pa_cons pe_bl pa_nil)))))))
      (@pss_one _ _ _ (@ps_ret _ _ _ _ pe_bl))
      pss_nil)
      (@pss_cons _ _ _ _ _ (ps_for PassesOwn.never rfl (pi_range1 rfl T.n_range (pa_cons pe_int pa_nil)) (pg_name (i := 5) sc_law.nd rfl (Or.inl rfl))
      (@pss_cons _ _ _ _ _ (ps_set (i := 1) sc_law.nd rfl (Or.inl rfl) (pe_call (ok_law_mixed T) (hr.mono (by decide)) rfl T.m_law_mixed T.f_law_mixed.kp T.b_law_mixed .nil pass0 (pa_cons (pv 1) (pa_cons pe_int pa_nil))))
      (@pss_cons _ _ _ _ _ (ps_set (i := 6) sc_law.nd rfl (Or.inl rfl) (pe_call (ok_law_exchanged T) (hr.mono (by decide)) rfl T.m_law_exchanged T.f_law_exchanged.kp T.b_law_exchanged .nil pass0 (pa_cons (pv 4) (pa_cons (pv 1) pa_nil))))
      (@pss_one _ _ _ (@ps_if _ _ _ _ _ _ _ _ (pt_not (pt_val (pe_call (ok_law_good T) (hr.mono (by decide)) rfl T.m_law_good T.f_law_good.kp T.b_law_good .nil pass0 (pa_cons (pv 2) (pa_cons (pv 3) (pa_cons (pv 6) (pa_cons (pe_call (ok_law_flat T) (hr.mono (by decide)) rfl T.m_law_flat T.f_law_flat.kp T.b_law_flat .nil pass0 (pa_cons (pv 2) (pa_cons (pv 3) (pa_cons (pv 6) pa_nil)))) pa_nil)))))))
      (@pss_one _ _ _ (@ps_ret _ _ _ _ pe_bl))
      pss_nil)))))
      (@pss_one _ _ _ (@ps_ret _ _ _ _ pe_bl))))))))))), ?_⟩
    have one : 1 ≤ sizeLine := by decide
    have two : 2 ≤ sizeLine := by decide
    refine ⟨_, rfl, a, ns, 3, rfl, hS, by decide, fun c3 => ⟨_, _, rfl, rfl, ⟨by decide, by decide, by decide⟩, _, _, rfl, rfl, (by show (0 : Int) < 10 ^ 60; decide), _, rfl, a, _, rfl, .inl hS, _, _, rfl, rfl, _, 51, rfl, by decide, by decide, fun m m0 => ?_⟩⟩
    refine nm ?_
    dsimp only
    refine ⟨_, rfl, a, ns, 0, rfl, hS, by decide, fun c0 => ⟨_, _, rfl, rfl, (by show (0 : Int) < 6; decide), _, _, rfl, rfl, ?_⟩⟩
    refine nm ?_
    dsimp only
    have z0 : 0 ≤ c0 % 6 := Int.emod_nonneg _ (by decide)
    have z1 : c0 % 6 < 6 := Int.emod_lt_of_pos _ (by decide)
    obtain ⟨n, hn⟩ : ∃ n : Int, 1 + c0 % 6 = n := ⟨_, rfl⟩
    rw [hn]
    refine ⟨_, rfl, _, rfl, a, ns, n, 10, rfl, hS, hn63, by omega, by omega, by decide, by decide, fun l xs ps H1 s1 hl0 hl1 hP hpl hr => ?_⟩
    refine nm ?_
    dsimp only
    have hG : GoodW n ps := ⟨by omega, by omega, by omega, hr⟩
    have hS1 := s1.seq hS
    refine ⟨_, rfl, _, rfl, _, rfl, l, n, m, xs, ps, rfl, SqL.of hl1, hP, by omega, by omega, by omega, fun r ys ts H2 s2 hr0 hV hJ => ?_⟩
    refine nm ?_
    dsimp only
    have hl2 := s2 _ _ hl1
    have hP2 := hP.same s2
    refine ⟨_, rfl, _, rfl, _, rfl, _, rfl, _, rfl, _, rfl, l, r, n, xs, ys, ps, ts, rfl, SqL.of hl2, hP2, hG, SqL.of hJ.tab, hJ.lists, hV, fun b H3 s3 hb => ?_⟩
    refine ⟨l, r, n, b, xs, ys, ps, ts, rfl, SqL.of (s3 _ _ hl2), hP2.same s3, hG, SqL.of (s3 _ _ hJ.tab), (hJ.same s3).lists, hV, hb, fun H4 s4 => ?_⟩
    refine ⟨_, rfl, ?_⟩
    refine iteF ?_
    show (_ : Prop)
    refine nx_mk ?_
    have s14 := s2.trans (s3.trans s4)
    refine ⟨_, rfl, a, ns, rfl, s14.seq hS1, hn63, fun t l' a' n' xs' ys' ps' ts' H5 s5 ht hl' hP' ha' hY' hM hp24 => ?_⟩
    refine ⟨t, _, rfl, SqT.of ht, rfl, _, _, rfl, _, _, rfl, _, _, rfl, rfl, ?_⟩
    obtain ⟨hV', m1, m13, hg', hn0, hfm⟩ := hM
    have hG' : GoodW (n' : Int) ps' := ⟨by omega, by omega, by omega, hg'⟩
    refine ⟨_, rfl, _, rfl, _, rfl, l', a', (n' : Int), true, xs', ys', ps', ts', rfl, SqL.of hl', hP', hG', SqL.of ha', hY', hV', fun R hR => ⟨fun _ => hfm.flat hV' hn0 hR, fun _ => rfl⟩, fun H6 s6 => ?_⟩
    refine ⟨_, rfl, ?_⟩
    refine iteF ?_
    have htl := hV'.1
    have hyl := hY'.1
    refine ⟨_, rfl, _, _, rfl, rfl, _, rfl, _, rfl, Nat.zero_le _, fun i1 hi1 => ⟨one, fun i2 hi2 => ?_⟩⟩
    have u6 := same_at (o := .lst []) hi1
    have u7 := same_at (o := .lst [.ref i1]) hi2
    refine ⟨a', i2, ys', [.ref i1], rfl, rfl, u7 _ _ (u6 _ _ (s6 _ _ ha')), upd_same, small60 (by show ys'.length + 1 ≤ _; omega), fun aA haA => ?_⟩
    have u8 := same_at (o := .lst (ys' ++ [.ref i1])) haA
    have s58 := s6.trans (u6.trans (u7.trans u8))
    have g1 := u8 _ _ (u7 _ _ (upd_same (H := H6) (a := i1) (o := .lst [])))
    have hV2 : VT (n' + 1) ps' (ts' ++ [[]]) := by
      refine ⟨by rw [List.length_append, htl]; rfl, fun p row hp => ?_⟩
      by_cases c : p < ts'.length
      · rw [List.getElem?_append_left c] at hp
        exact hV'.2 p row hp
      · have lt := (List.getElem?_eq_some_iff.mp hp).1
        rw [List.length_append, List.length_singleton] at lt
        have ep : p = n' := by omega
        rw [List.getElem?_append_right (by omega), show p - ts'.length = 0 by omega] at hp
        obtain rfl : [] = row := Option.some.inj hp
        have d0e : dts ps' (p : Int) = [] := by
          refine List.eq_nil_iff_forall_not_mem.mpr fun x hx => ?_
          have := dts_mem.mp hx
          have := own_range hg' this.1
          omega
        rw [d0e]
    refine ⟨l', aA, (n' : Int) + 1, false, xs', ys' ++ [.ref i1], ps', ts' ++ [[]], rfl, SqL.of (s58 _ _ hl'), hP'.same s58, ⟨by omega, by omega, by omega, fun p hp => by have := hg' p hp; omega⟩, SqL.of upd_same, (hY'.imp fun _ _ ⟨r', e, h⟩ => ⟨r', e, s58 _ _ h⟩).snoc ⟨i1, rfl, g1⟩, by rw [show ((n' : Int) + 1).toNat = n' + 1 by omega]; exact hV2, fun R _ => ⟨fun h => (by cases h), fun h => absurd h.1 (not_far hG' (by omega))⟩, fun H9 s9 => ?_⟩
    refine ⟨_, rfl, ?_⟩
    refine iteF ?_
    show (_ : Prop)
    refine nx_mk ?_
    have s59 := s58.trans s9
    refine ⟨two, fun t1 h1 => ⟨two, fun t2 h2 => ⟨two, fun lA hlA => ⟨(by show 4 ≤ sizeLine; decide), fun r1 hr1 => ⟨Nat.zero_le _, fun r2 hr2 => ⟨Nat.zero_le _, fun r3 hr3 => ⟨(by show 3 ≤ sizeLine; decide), fun aB haB => ?_⟩⟩⟩⟩⟩⟩⟩
    have w1 := same_at (o := .tup [.int 0, .int 0]) h1
    have w2 := same_at (o := .tup [.int 0, .int 0]) h2
    have w3 := same_at (o := .lst [.ref t1, .ref t2]) hlA
    have w4 := same_at (o := .lst (IL [0, 2, 1, 3])) hr1
    have w5 := same_at (o := .lst (IL [])) hr2
    have w6 := same_at (o := .lst (IL [])) hr3
    have w7 := same_at (o := .lst [.ref r1, .ref r2, .ref r3]) haB
    have w37 := w4.trans (w5.trans (w6.trans w7))
    have w17 := w1.trans (w2.trans (w3.trans w37))
    have q1 := w37 _ _ (w3 _ _ (w2 _ _ (upd_same (H := H9) (a := t1) (o := .tup [.int 0, .int 0]))))
    have q2 := w37 _ _ (w3 _ _ (upd_same (H := upd H9 t1 (.tup [.int 0, .int 0])) (a := t2) (o := .tup [.int 0, .int 0])))
    have q3 := w37 _ _ (upd_same (H := upd (upd H9 t1 (.tup [.int 0, .int 0])) t2 (.tup [.int 0, .int 0])) (a := lA) (o := .lst [.ref t1, .ref t2]))
    have q4 := w7 _ _ (w6 _ _ (w5 _ _ (upd_same (H := upd (upd (upd H9 t1 (.tup [.int 0, .int 0])) t2 (.tup [.int 0, .int 0])) lA (.lst [.ref t1, .ref t2])) (a := r1) (o := .lst (IL [0, 2, 1, 3])))))
    have q5 := w7 _ _ (w6 _ _ (upd_same (H := upd (upd (upd (upd H9 t1 (.tup [.int 0, .int 0])) t2 (.tup [.int 0, .int 0])) lA (.lst [.ref t1, .ref t2])) r1 (.lst (IL [0, 2, 1, 3]))) (a := r2) (o := .lst (IL []))))
    have q6 := w7 _ _ (upd_same (H := upd (upd (upd (upd (upd H9 t1 (.tup [.int 0, .int 0])) t2 (.tup [.int 0, .int 0])) lA (.lst [.ref t1, .ref t2])) r1 (.lst (IL [0, 2, 1, 3]))) r2 (.lst (IL []))) (a := r3) (o := .lst (IL [])))
    have g3 : GoodW 1 [((0 : Int), (0 : Int)), (0, 0)] := ⟨by decide, by decide, by decide, by decide⟩
    have vt3 : VT 3 [((0 : Int), (0 : Int)), (0, 0)] [[0, 2, 1, 3], [], []] := by
      refine ⟨rfl, fun p row hp => ?_⟩
      match p, hp with
      | 0, hp => obtain rfl : [0, 2, 1, 3] = row := Option.some.inj hp; decide
      | 1, hp => obtain rfl : [] = row := Option.some.inj hp; decide
      | 2, hp => obtain rfl : [] = row := Option.some.inj hp; decide
      | p + 3, hp => simp at hp
    refine ⟨lA, aB, 3, false, [.ref t1, .ref t2], [.ref r1, .ref r2, .ref r3], [((0 : Int), (0 : Int)), (0, 0)], [[0, 2, 1, 3], [], []], rfl, SqL.of q3, (PairsV.nil.snoc ⟨t1, rfl, q1⟩).snoc ⟨t2, rfl, q2⟩, ⟨by decide, by decide, by decide, by decide⟩, SqL.of upd_same, ⟨rfl, fun i r e => ?_⟩, vt3, fun R _ => ⟨fun h => (by cases h), fun h => absurd h.1 (not_far g3 (by decide))⟩, fun HA sA => ?_⟩
    · match i, e with
      | 0, e => obtain rfl : [0, 2, 1, 3] = r := Option.some.inj e; exact ⟨_, rfl, r1, rfl, q4⟩
      | 1, e => obtain rfl : [] = r := Option.some.inj e; exact ⟨_, rfl, r2, rfl, q5⟩
      | 2, e => obtain rfl : [] = r := Option.some.inj e; exact ⟨_, rfl, r3, rfl, q6⟩
      | i + 3, e => simp at e
    refine ⟨_, rfl, ?_⟩
    refine iteF ?_
    show (_ : Prop)
    refine nx_mk ?_
    have s5A : Same H5 HA := s59.trans (w17.trans sA)
    clear q1 q2 q3 q4 q5 q6 w1 w2 w3 w4 w5 w6 w7 w37 w17 sA
    -- exchanged
    refine ⟨4, rfl, by decide, by decide, for_range (lo := 0) (n := 4) (fun i σ HB => ∃ (m' : Int) (v5 v6 : Option V), σ = [some (.ref a), some (.int m'), some (.int (n' : Int)), some (.ref l'), some (.ref a'), v5, v6] ∧ Same H5 HB) ⟨m, none, none, rfl, s5A⟩ ?_ ?_⟩
    · rintro i σ HB hi ⟨m', v5, v6, rfl, sB⟩
      refine nm ?_
      dsimp only
      refine ⟨_, rfl, m', 53, rfl, by decide, by decide, fun m2 m20 => ?_⟩
      refine nm ?_
      dsimp only
      refine ⟨_, rfl, _, rfl, a', m2, n', ys', ps', ts', rfl, SqL.of (sB _ _ ha'), hY'.imp (fun _ _ ⟨r', e, h⟩ => ⟨r', e, sB _ _ h⟩), hV', by omega, by omega, fun r hr => ?_, m20, fun r zs ts2 HC sC hr hZ hV3 => ?_⟩
      · have := nd_few (nd_row hV' hr) (M := 2 * ps'.length) fun x hx => by have := hV'.in hr hx; omega
        omega
      refine nm ?_
      dsimp only
      have sBC := sB.trans sC
      refine ⟨_, rfl, _, rfl, _, rfl, _, rfl, _, rfl, _, rfl, l', r, (n' : Int), xs', zs, ps', ts2, rfl, SqL.of (sBC _ _ hl'), hP'.same sBC, hG', SqL.of hr, hZ, hV3, fun b2 HD sD hb2 => ?_⟩
      have sBD := sBC.trans sD
      refine ⟨l', r, (n' : Int), b2, xs', zs, ps', ts2, rfl, SqL.of (sBD _ _ hl'), hP'.same sBD, hG', SqL.of (sD _ _ hr), hZ.imp (fun _ _ ⟨r', e, h⟩ => ⟨r', e, sD _ _ h⟩), hV3, hb2, fun HE sE => ?_⟩
      refine ⟨_, rfl, ?_⟩
      refine iteF ?_
      show (_ : Prop)
      refine nx_mk ?_
      exact ⟨m2, _, _, rfl, sBD.trans sE⟩
    rintro σ HB ⟨m', v5, v6, rfl, _⟩
    exact k _
end
end My
namespace My
open PySem L2
theorem law_binds {K : PySem.W.Frag} {f : Addr} {fd : FuncData} (F : Fun K "law" "law" s_law f fd) (s : Shared) (u : Value) : BindsTo s fd ⟨[u], []⟩ [("script", u)] := by
  obtain ⟨oc, od, kV, doc, pm, an, cdv, ct, osl, rfl, lk, hcd⟩ := F.ex
  exact .of_eq rfl
end My
open PySem PySem.W PyProof.Rows
set_option maxRecDepth 100000 in
set_option maxHeartbeats 0 in
theorem PySem.Challenge.cw_spanrow_k77_flat_or_not_holds : PySem.Challenge.rw_spanrow_k77_flat_or_not.Holds := by
  w_on; o_law; k_head; (case hw => w_witness2)
  k_fill
  refine L2.walk_ofK (l := PySem.Challenge.rw_spanrow_k77_flat_or_not) (n := 63) (k := 10) (x := "script") (CX := L2.CX0) (sp := My.sp_law) rfl (by decide) rfl ⟨rfl, by decide, by decide⟩ (fun w h Y => PySem.W.kIn_of Y) ?F (fun _ H a ns hl _ hS => ⟨a, ns, rfl, hS, hl, fun _ => rfl⟩) (fun _ _ _ _ z => z)
  case F =>
    intro w mg fa h KX G hmg
    have h_refuse_bad_web : My.FX (L2.KOf KX) mg "refuse_bad_web" "refuse_bad_web" My.s_refuse_bad_web := by
      dsimp only [L2.KOf]
      refine' My.fx_mk KX G ?a ?l ?c ?k
      (case a => k_is); (case l => k_is); (case c => k_is); (case k => k_is)
    have h_is_tie : My.FX (L2.KOf KX) mg "is_tie" "is_tie" My.s_is_tie := by
      dsimp only [L2.KOf]
      refine' My.fx_mk KX G ?a ?l ?c ?k
      (case a => k_is); (case l => k_is); (case c => k_is); (case k => k_is)
    have h_all_ties : My.FX (L2.KOf KX) mg "all_ties" "all_ties" My.s_all_ties := by
      dsimp only [L2.KOf]
      refine' My.fx_mk KX G ?a ?l ?c ?k
      (case a => k_is); (case l => k_is); (case c => k_is); (case k => k_is)
    have h_is_set : My.FX (L2.KOf KX) mg "is_set" "is_set" My.s_is_set := by
      dsimp only [L2.KOf]
      refine' My.fx_mk KX G ?a ?l ?c ?k
      (case a => k_is); (case l => k_is); (case c => k_is); (case k => k_is)
    have h_made_set : My.FX (L2.KOf KX) mg "made_set" "made_set" My.s_made_set := by
      dsimp only [L2.KOf]
      refine' My.fx_mk KX G ?a ?l ?c ?k
      (case a => k_is); (case l => k_is); (case c => k_is); (case k => k_is)
    have h_merged_marks : My.FX (L2.KOf KX) mg "merged_marks" "merged_marks" My.s_merged_marks := by
      dsimp only [L2.KOf]
      refine' My.fx_mk KX G ?a ?l ?c ?k
      (case a => k_is); (case l => k_is); (case c => k_is); (case k => k_is)
    have h_piece_marks : My.FX (L2.KOf KX) mg "piece_marks" "piece_marks" My.s_piece_marks := by
      dsimp only [L2.KOf]
      refine' My.fx_mk KX G ?a ?l ?c ?k
      (case a => k_is); (case l => k_is); (case c => k_is); (case k => k_is)
    have h_pieces_of : My.FX (L2.KOf KX) mg "pieces_of" "pieces_of" My.s_pieces_of := by
      dsimp only [L2.KOf]
      refine' My.fx_mk KX G ?a ?l ?c ?k
      (case a => k_is); (case l => k_is); (case c => k_is); (case k => k_is)
    have h_is_joined : My.FX (L2.KOf KX) mg "is_joined" "is_joined" My.s_is_joined := by
      dsimp only [L2.KOf]
      refine' My.fx_mk KX G ?a ?l ?c ?k
      (case a => k_is); (case l => k_is); (case c => k_is); (case k => k_is)
    have h_darts_away : My.FX (L2.KOf KX) mg "darts_away" "darts_away" My.s_darts_away := by
      dsimp only [L2.KOf]
      refine' My.fx_mk KX G ?a ?l ?c ?k
      (case a => k_is); (case l => k_is); (case c => k_is); (case k => k_is)
    have h_refuse_bad_turns : My.FX (L2.KOf KX) mg "refuse_bad_turns" "refuse_bad_turns" My.s_refuse_bad_turns := by
      dsimp only [L2.KOf]
      refine' My.fx_mk KX G ?a ?l ?c ?k
      (case a => k_is); (case l => k_is); (case c => k_is); (case k => k_is)
    have h_back_dart : My.FX (L2.KOf KX) mg "back_dart" "back_dart" My.s_back_dart := by
      dsimp only [L2.KOf]
      refine' My.fx_mk KX G ?a ?l ?c ?k
      (case a => k_is); (case l => k_is); (case c => k_is); (case k => k_is)
    have h_darts_behind : My.FX (L2.KOf KX) mg "darts_behind" "darts_behind" My.s_darts_behind := by
      dsimp only [L2.KOf]
      refine' My.fx_mk KX G ?a ?l ?c ?k
      (case a => k_is); (case l => k_is); (case c => k_is); (case k => k_is)
    have h_round_from : My.FX (L2.KOf KX) mg "round_from" "round_from" My.s_round_from := by
      dsimp only [L2.KOf]
      refine' My.fx_mk KX G ?a ?l ?c ?k
      (case a => k_is); (case l => k_is); (case c => k_is); (case k => k_is)
    have h_rounds_of : My.FX (L2.KOf KX) mg "rounds_of" "rounds_of" My.s_rounds_of := by
      dsimp only [L2.KOf]
      refine' My.fx_mk KX G ?a ?l ?c ?k
      (case a => k_is); (case l => k_is); (case c => k_is); (case k => k_is)
    have h_lies_flat : My.FX (L2.KOf KX) mg "lies_flat" "lies_flat" My.s_lies_flat := by
      dsimp only [L2.KOf]
      refine' My.fx_mk KX G ?a ?l ?c ?k
      (case a => k_is); (case l => k_is); (case c => k_is); (case k => k_is)
    have h_law_at : My.FX (L2.KOf KX) mg "_law_at" "_law_at" My.s_law_at := by
      dsimp only [L2.KOf]
      refine' My.fx_mk KX G ?a ?l ?c ?k
      (case a => k_is); (case l => k_is); (case c => k_is); (case k => k_is)
    have h_law_mixed : My.FX (L2.KOf KX) mg "_law_mixed" "_law_mixed" My.s_law_mixed := by
      dsimp only [L2.KOf]
      refine' My.fx_mk KX G ?a ?l ?c ?k
      (case a => k_is); (case l => k_is); (case c => k_is); (case k => k_is)
    have h_law_ties : My.FX (L2.KOf KX) mg "_law_ties" "_law_ties" My.s_law_ties := by
      dsimp only [L2.KOf]
      refine' My.fx_mk KX G ?a ?l ?c ?k
      (case a => k_is); (case l => k_is); (case c => k_is); (case k => k_is)
    have h_law_amounts : My.FX (L2.KOf KX) mg "_law_amounts" "_law_amounts" My.s_law_amounts := by
      dsimp only [L2.KOf]
      refine' My.fx_mk KX G ?a ?l ?c ?k
      (case a => k_is); (case l => k_is); (case c => k_is); (case k => k_is)
    have h_law_behind : My.FX (L2.KOf KX) mg "_law_behind" "_law_behind" My.s_law_behind := by
      dsimp only [L2.KOf]
      refine' My.fx_mk KX G ?a ?l ?c ?k
      (case a => k_is); (case l => k_is); (case c => k_is); (case k => k_is)
    have h_law_rounds : My.FX (L2.KOf KX) mg "_law_rounds" "_law_rounds" My.s_law_rounds := by
      dsimp only [L2.KOf]
      refine' My.fx_mk KX G ?a ?l ?c ?k
      (case a => k_is); (case l => k_is); (case c => k_is); (case k => k_is)
    have h_law_put : My.FX (L2.KOf KX) mg "_law_put" "_law_put" My.s_law_put := by
      dsimp only [L2.KOf]
      refine' My.fx_mk KX G ?a ?l ?c ?k
      (case a => k_is); (case l => k_is); (case c => k_is); (case k => k_is)
    have h_law_corner : My.FX (L2.KOf KX) mg "_law_corner" "_law_corner" My.s_law_corner := by
      dsimp only [L2.KOf]
      refine' My.fx_mk KX G ?a ?l ?c ?k
      (case a => k_is); (case l => k_is); (case c => k_is); (case k => k_is)
    have h_law_grown : My.FX (L2.KOf KX) mg "_law_grown" "_law_grown" My.s_law_grown := by
      dsimp only [L2.KOf]
      refine' My.fx_mk KX G ?a ?l ?c ?k
      (case a => k_is); (case l => k_is); (case c => k_is); (case k => k_is)
    have h_law_map : My.FX (L2.KOf KX) mg "_law_map" "_law_map" My.s_law_map := by
      dsimp only [L2.KOf]
      refine' My.fx_mk KX G ?a ?l ?c ?k
      (case a => k_is); (case l => k_is); (case c => k_is); (case k => k_is)
    have h_law_any_turns : My.FX (L2.KOf KX) mg "_law_any_turns" "_law_any_turns" My.s_law_any_turns := by
      dsimp only [L2.KOf]
      refine' My.fx_mk KX G ?a ?l ?c ?k
      (case a => k_is); (case l => k_is); (case c => k_is); (case k => k_is)
    have h_law_flat : My.FX (L2.KOf KX) mg "_law_flat" "_law_flat" My.s_law_flat := by
      dsimp only [L2.KOf]
      refine' My.fx_mk KX G ?a ?l ?c ?k
      (case a => k_is); (case l => k_is); (case c => k_is); (case k => k_is)
    have h_law_exchanged : My.FX (L2.KOf KX) mg "_law_exchanged" "_law_exchanged" My.s_law_exchanged := by
      dsimp only [L2.KOf]
      refine' My.fx_mk KX G ?a ?l ?c ?k
      (case a => k_is); (case l => k_is); (case c => k_is); (case k => k_is)
    have h_law_good : My.FX (L2.KOf KX) mg "_law_good" "_law_good" My.s_law_good := by
      dsimp only [L2.KOf]
      refine' My.fx_mk KX G ?a ?l ?c ?k
      (case a => k_is); (case l => k_is); (case c => k_is); (case k => k_is)
    have h_law : My.FX (L2.KOf KX) mg "law" "law" My.s_law := by
      dsimp only [L2.KOf]
      refine' My.fx_mk KX G ?a ?l ?c ?k
      (case a => k_is); (case l => k_is); (case c => k_is); (case k => k_is)
    have h_Web : My.CXF (L2.KOf KX) mg "Web" "Web.__init__" My.s_Web___init ["places", "ties"] := by
      dsimp only [L2.KOf]
      refine' My.cx_mk KX G ?aC ?a ?i ?l ?c ?k ?pg ?hd ?po ?sa ?mk ?kc ?na
      (case aC => k_is); (case a => k_is); (case i => k_is); (case l => k_is); (case c => k_is); (case k => k_is)
      (case pg => k_is); (case hd => k_is); (case po => k_is); (case sa => k_is); (case mk => k_is); (case kc => k_is)
      (case na => (intro f hf; simp only [List.mem_cons, List.not_mem_nil, or_false] at hf; rcases hf with rfl | rfl <;> k_is))
    have hX : ∃ A_WebError A_BadWeb A_BadSet A_BadTurns : Addr, mg "WebError" = some (.ref A_WebError) ∧ mg "BadWeb" = some (.ref A_BadWeb) ∧ mg "BadSet" = some (.ref A_BadSet) ∧ mg "BadTurns" = some (.ref A_BadTurns) ∧ L2.XCls (L2.KOf KX) (A_BadTurns) ∧ L2.XCls (L2.KOf KX) (A_BadWeb) ∧ PySem.W.exmOne (L2.KOf KX) (.ref (A_BadTurns)) (.ref (A_WebError)) = some true ∧ PySem.W.exmOne (L2.KOf KX) (.ref (A_BadWeb)) (.ref (A_WebError)) = some true := by
      dsimp only [L2.KOf]
      refine' My.xI (My.xI (My.xI (My.xI (⟨PySem.W.mg_of KX G ?m_WebError, PySem.W.mg_of KX G ?m_BadWeb, PySem.W.mg_of KX G ?m_BadSet, PySem.W.mg_of KX G ?m_BadTurns, ⟨?x_BadTurns_ex, ?x_BadTurns_ga, ?x_BadTurns_gh, ?x_BadTurns_cl, ?x_BadTurns_ob, ?x_BadTurns_bx⟩, ⟨?x_BadWeb_ex, ?x_BadWeb_ga, ?x_BadWeb_gh, ?x_BadWeb_cl, ?x_BadWeb_ob, ?x_BadWeb_bx⟩, ?em_BadTurns, ?em_BadWeb⟩))))
      (case m_WebError => k_is)
      (case m_BadWeb => k_is)
      (case m_BadSet => k_is)
      (case m_BadTurns => k_is)
      (case x_BadTurns_ex => k_exc); (case x_BadTurns_ga => k_is); (case x_BadTurns_gh => k_is); (case x_BadTurns_cl => k_is); (case x_BadTurns_ob => k_is); (case x_BadTurns_bx => k_is)
      (case x_BadWeb_ex => k_exc); (case x_BadWeb_ga => k_is); (case x_BadWeb_gh => k_is); (case x_BadWeb_cl => k_is); (case x_BadWeb_ob => k_is); (case x_BadWeb_bx => k_is)
      (case em_BadTurns => kts_exm)
      (case em_BadWeb => kts_exm)
    have h_MOST_PLACES : ∃ tk, mg "MOST_PLACES" = some (.int 14 tk) := by
      refine' My.const_mk KX G ?a ?b
      (case a => k_is); (case b => exact ⟨_, rfl⟩)
    have h_MOST_TIES : ∃ tk, mg "MOST_TIES" = some (.int 30 tk) := by
      refine' My.const_mk KX G ?a ?b
      (case a => k_is); (case b => exact ⟨_, rfl⟩)
    have h_bool : mg "bool" = none := by
      refine' PySem.W.mg_none_of KX G ?a
      (case a => k_is)
    have h_enumerate : mg "enumerate" = none := by
      refine' PySem.W.mg_none_of KX G ?a
      (case a => k_is)
    have h_int : mg "int" = none := by
      refine' PySem.W.mg_none_of KX G ?a
      (case a => k_is)
    have h_isinstance : mg "isinstance" = none := by
      refine' PySem.W.mg_none_of KX G ?a
      (case a => k_is)
    have h_len : mg "len" = none := by
      refine' PySem.W.mg_none_of KX G ?a
      (case a => k_is)
    have h_list : mg "list" = none := by
      refine' PySem.W.mg_none_of KX G ?a
      (case a => k_is)
    have h_max : mg "max" = none := by
      refine' PySem.W.mg_none_of KX G ?a
      (case a => k_is)
    have h_min : mg "min" = none := by
      refine' PySem.W.mg_none_of KX G ?a
      (case a => k_is)
    have h_range : mg "range" = none := by
      refine' PySem.W.mg_none_of KX G ?a
      (case a => k_is)
    have h_set : mg "set" = none := by
      refine' PySem.W.mg_none_of KX G ?a
      (case a => k_is)
    have h_sorted : mg "sorted" = none := by
      refine' PySem.W.mg_none_of KX G ?a
      (case a => k_is)
    have h_tuple : mg "tuple" = none := by
      refine' PySem.W.mg_none_of KX G ?a
      (case a => k_is)
    obtain ⟨a_refuse_bad_web, d_refuse_bad_web, m_refuse_bad_web, f_refuse_bad_web⟩ := h_refuse_bad_web
    obtain ⟨a_is_tie, d_is_tie, m_is_tie, f_is_tie⟩ := h_is_tie
    obtain ⟨a_all_ties, d_all_ties, m_all_ties, f_all_ties⟩ := h_all_ties
    obtain ⟨a_is_set, d_is_set, m_is_set, f_is_set⟩ := h_is_set
    obtain ⟨a_made_set, d_made_set, m_made_set, f_made_set⟩ := h_made_set
    obtain ⟨a_merged_marks, d_merged_marks, m_merged_marks, f_merged_marks⟩ := h_merged_marks
    obtain ⟨a_piece_marks, d_piece_marks, m_piece_marks, f_piece_marks⟩ := h_piece_marks
    obtain ⟨a_pieces_of, d_pieces_of, m_pieces_of, f_pieces_of⟩ := h_pieces_of
    obtain ⟨a_is_joined, d_is_joined, m_is_joined, f_is_joined⟩ := h_is_joined
    obtain ⟨a_darts_away, d_darts_away, m_darts_away, f_darts_away⟩ := h_darts_away
    obtain ⟨a_refuse_bad_turns, d_refuse_bad_turns, m_refuse_bad_turns, f_refuse_bad_turns⟩ := h_refuse_bad_turns
    obtain ⟨a_back_dart, d_back_dart, m_back_dart, f_back_dart⟩ := h_back_dart
    obtain ⟨a_darts_behind, d_darts_behind, m_darts_behind, f_darts_behind⟩ := h_darts_behind
    obtain ⟨a_round_from, d_round_from, m_round_from, f_round_from⟩ := h_round_from
    obtain ⟨a_rounds_of, d_rounds_of, m_rounds_of, f_rounds_of⟩ := h_rounds_of
    obtain ⟨a_lies_flat, d_lies_flat, m_lies_flat, f_lies_flat⟩ := h_lies_flat
    obtain ⟨a_law_at, d_law_at, m_law_at, f_law_at⟩ := h_law_at
    obtain ⟨a_law_mixed, d_law_mixed, m_law_mixed, f_law_mixed⟩ := h_law_mixed
    obtain ⟨a_law_ties, d_law_ties, m_law_ties, f_law_ties⟩ := h_law_ties
    obtain ⟨a_law_amounts, d_law_amounts, m_law_amounts, f_law_amounts⟩ := h_law_amounts
    obtain ⟨a_law_behind, d_law_behind, m_law_behind, f_law_behind⟩ := h_law_behind
    obtain ⟨a_law_rounds, d_law_rounds, m_law_rounds, f_law_rounds⟩ := h_law_rounds
    obtain ⟨a_law_put, d_law_put, m_law_put, f_law_put⟩ := h_law_put
    obtain ⟨a_law_corner, d_law_corner, m_law_corner, f_law_corner⟩ := h_law_corner
    obtain ⟨a_law_grown, d_law_grown, m_law_grown, f_law_grown⟩ := h_law_grown
    obtain ⟨a_law_map, d_law_map, m_law_map, f_law_map⟩ := h_law_map
    obtain ⟨a_law_any_turns, d_law_any_turns, m_law_any_turns, f_law_any_turns⟩ := h_law_any_turns
    obtain ⟨a_law_flat, d_law_flat, m_law_flat, f_law_flat⟩ := h_law_flat
    obtain ⟨a_law_exchanged, d_law_exchanged, m_law_exchanged, f_law_exchanged⟩ := h_law_exchanged
    obtain ⟨a_law_good, d_law_good, m_law_good, f_law_good⟩ := h_law_good
    obtain ⟨a_law, d_law, m_law, f_law⟩ := h_law
    obtain ⟨A_Web, a_Web___init, d_Web___init, c_Web, f_Web___init, cl_Web, k_Web, na_Web⟩ := h_Web
    obtain ⟨A_WebError, A_BadWeb, A_BadSet, A_BadTurns, c_WebError, c_BadWeb, c_BadSet, c_BadTurns, x_BadTurns, x_BadWeb, em_BadTurns, em_BadWeb⟩ := hX
    have T : My.Txt (L2.KOf KX) mg ⟨a_refuse_bad_web, d_refuse_bad_web, a_Web___init, d_Web___init, a_is_tie, d_is_tie, a_all_ties, d_all_ties, a_is_set, d_is_set, a_made_set, d_made_set, a_merged_marks, d_merged_marks, a_piece_marks, d_piece_marks, a_pieces_of, d_pieces_of, a_is_joined, d_is_joined, a_darts_away, d_darts_away, a_refuse_bad_turns, d_refuse_bad_turns, a_back_dart, d_back_dart, a_darts_behind, d_darts_behind, a_round_from, d_round_from, a_rounds_of, d_rounds_of, a_lies_flat, d_lies_flat, a_law_at, d_law_at, a_law_mixed, d_law_mixed, a_law_ties, d_law_ties, a_law_amounts, d_law_amounts, a_law_behind, d_law_behind, a_law_rounds, d_law_rounds, a_law_put, d_law_put, a_law_corner, d_law_corner, a_law_grown, d_law_grown, a_law_map, d_law_map, a_law_any_turns, d_law_any_turns, a_law_flat, d_law_flat, a_law_exchanged, d_law_exchanged, a_law_good, d_law_good, a_law, d_law, A_Web, A_WebError, A_BadWeb, A_BadSet, A_BadTurns⟩ := ⟨f_refuse_bad_web, f_refuse_bad_web.binds (fun _ _ _ _ _ _ us hl => by obtain ⟨_, _, rfl⟩ := My.len2 hl; rfl), m_refuse_bad_web, f_Web___init, f_Web___init.binds (fun _ _ _ _ _ _ us hl => by obtain ⟨_, _, _, rfl⟩ := My.len3 hl; rfl), f_is_tie, f_is_tie.binds (fun _ _ _ _ _ _ us hl => by obtain ⟨_, _, rfl⟩ := My.len2 hl; rfl), m_is_tie, f_all_ties, f_all_ties.binds (fun _ _ _ _ _ _ us hl => by obtain ⟨_, rfl⟩ := My.len1 hl; rfl), m_all_ties, f_is_set, f_is_set.binds (fun _ _ _ _ _ _ us hl => by obtain ⟨_, _, rfl⟩ := My.len2 hl; rfl), m_is_set, f_made_set, f_made_set.binds (fun _ _ _ _ _ _ us hl => by obtain ⟨_, _, rfl⟩ := My.len2 hl; rfl), m_made_set, f_merged_marks, f_merged_marks.binds (fun _ _ _ _ _ _ us hl => by obtain ⟨_, _, _, rfl⟩ := My.len3 hl; rfl), m_merged_marks, f_piece_marks, f_piece_marks.binds (fun _ _ _ _ _ _ us hl => by obtain ⟨_, _, rfl⟩ := My.len2 hl; rfl), m_piece_marks, f_pieces_of, f_pieces_of.binds (fun _ _ _ _ _ _ us hl => by obtain ⟨_, _, rfl⟩ := My.len2 hl; rfl), m_pieces_of, f_is_joined, f_is_joined.binds (fun _ _ _ _ _ _ us hl => by obtain ⟨_, _, rfl⟩ := My.len2 hl; rfl), m_is_joined, f_darts_away, f_darts_away.binds (fun _ _ _ _ _ _ us hl => by obtain ⟨_, rfl⟩ := My.len1 hl; rfl), m_darts_away, f_refuse_bad_turns, f_refuse_bad_turns.binds (fun _ _ _ _ _ _ us hl => by obtain ⟨_, _, rfl⟩ := My.len2 hl; rfl), m_refuse_bad_turns, f_back_dart, f_back_dart.binds (fun _ _ _ _ _ _ us hl => by obtain ⟨_, rfl⟩ := My.len1 hl; rfl), m_back_dart, f_darts_behind, f_darts_behind.binds (fun _ _ _ _ _ _ us hl => by obtain ⟨_, rfl⟩ := My.len1 hl; rfl), m_darts_behind, f_round_from, f_round_from.binds (fun _ _ _ _ _ _ us hl => by obtain ⟨_, _, rfl⟩ := My.len2 hl; rfl), m_round_from, f_rounds_of, f_rounds_of.binds (fun _ _ _ _ _ _ us hl => by obtain ⟨_, _, rfl⟩ := My.len2 hl; rfl), m_rounds_of, f_lies_flat, f_lies_flat.binds (fun _ _ _ _ _ _ us hl => by obtain ⟨_, _, rfl⟩ := My.len2 hl; rfl), m_lies_flat, f_law_at, f_law_at.binds (fun _ _ _ _ _ _ us hl => by obtain ⟨_, _, rfl⟩ := My.len2 hl; rfl), m_law_at, f_law_mixed, f_law_mixed.binds (fun _ _ _ _ _ _ us hl => by obtain ⟨_, _, rfl⟩ := My.len2 hl; rfl), m_law_mixed, f_law_ties, f_law_ties.binds (fun _ _ _ _ _ _ us hl => by obtain ⟨_, _, _, rfl⟩ := My.len3 hl; rfl), m_law_ties, f_law_amounts, f_law_amounts.binds (fun _ _ _ _ _ _ us hl => by obtain ⟨_, rfl⟩ := My.len1 hl; rfl), m_law_amounts, f_law_behind, f_law_behind.binds (fun _ _ _ _ _ _ us hl => by obtain ⟨_, rfl⟩ := My.len1 hl; rfl), m_law_behind, f_law_rounds, f_law_rounds.binds (fun _ _ _ _ _ _ us hl => by obtain ⟨_, rfl⟩ := My.len1 hl; rfl), m_law_rounds, f_law_put, f_law_put.binds (fun _ _ _ _ _ _ us hl => by obtain ⟨_, _, _, _, rfl⟩ := My.len4 hl; rfl), m_law_put, f_law_corner, f_law_corner.binds (fun _ _ _ _ _ _ us hl => by obtain ⟨_, _, rfl⟩ := My.len2 hl; rfl), m_law_corner, f_law_grown, f_law_grown.binds (fun _ _ _ _ _ _ us hl => by obtain ⟨_, _, _, _, rfl⟩ := My.len4 hl; rfl), m_law_grown, f_law_map, f_law_map.binds (fun _ _ _ _ _ _ us hl => by obtain ⟨_, rfl⟩ := My.len1 hl; rfl), m_law_map, f_law_any_turns, f_law_any_turns.binds (fun _ _ _ _ _ _ us hl => by obtain ⟨_, _, _, rfl⟩ := My.len3 hl; rfl), m_law_any_turns, f_law_flat, f_law_flat.binds (fun _ _ _ _ _ _ us hl => by obtain ⟨_, _, _, rfl⟩ := My.len3 hl; rfl), m_law_flat, f_law_exchanged, f_law_exchanged.binds (fun _ _ _ _ _ _ us hl => by obtain ⟨_, _, rfl⟩ := My.len2 hl; rfl), m_law_exchanged, f_law_good, f_law_good.binds (fun _ _ _ _ _ _ us hl => by obtain ⟨_, _, _, _, rfl⟩ := My.len4 hl; rfl), m_law_good, f_law, f_law.binds (fun _ _ _ _ _ _ us hl => by obtain ⟨_, rfl⟩ := My.len1 hl; rfl), m_law, c_Web, cl_Web, k_Web, na_Web _ (by simp), na_Web _ (by simp), c_WebError, c_BadWeb, c_BadSet, c_BadTurns, x_BadTurns, x_BadWeb, em_BadTurns, em_BadWeb, h_MOST_PLACES, h_MOST_TIES, h_bool, h_enumerate, h_int, h_isinstance, h_len, h_list, h_max, h_min, h_range, h_set, h_sorted, h_tuple⟩
    have e0 := hmg.symm.trans m_law
    cases e0
    exact ⟨d_law, fun s u => My.law_binds f_law s u, fun base _ _ => My.ok_law T⟩
#print axioms PySem.Challenge.cw_spanrow_k77_flat_or_not_holds
